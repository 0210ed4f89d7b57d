import PyProof.Rows.All
import Wide.All
import OpenK.AllK
import Wide.FinOn
import PyProof.EqAt
import PyProof.EqKinds
import PyProof.TupleCall
import PyProof.NeKinds
import PyProof.AttrMissHeap
import PyProof.ExcClass3
import PyProof.RulesAs
import PyProof.Rows.FStr
import OpenK.KOwn
import PyProof.NsDelKeeps
import PyProof.Rows.Catch
import PyProof.Rows.SetFrom
import PyProof.SetRoads
import PyProof.FactsAll.NoneType
import KE.KRevIter
import PyProof.ZipIter
import KE.KItemsList
import PyProof.MinMaxWalk
import PyProof.WalksMore
import PyProof.FString5
import PyProof.Rows.SortShellK
import PySem.Challenge.RW_gluework_k32_whole_rows_back
abbrev Kd:=PySem.W.Frag
abbrev Fv:=@List.length_map
abbrev Fw:=@List.getElem?_eq_getElem
abbrev Fx:=@List.mem_map
abbrev Fy:=@List.mem_append_left
abbrev Fz:=@Nat.le_refl
abbrev FA:=@List.mem_append_right
abbrev FC:=@List.mem_append
abbrev FD:=@List.getElem?_map
abbrev FE:=@List.length_append
abbrev FF:=@List.map_append
abbrev FG:=@PySem.Heap.get?_push_of_some
abbrev FH:=@List.mem_singleton
abbrev FI:=@List.mem_of_getElem?
abbrev FJ:=@List.mem_filter
abbrev FK:=@List.length_filter_le
abbrev FL:=@List.take_of_length_le
abbrev FN:=@PySem.Heap.lt_size
abbrev FO:=@List.length_take
abbrev FP:=@Nat.lt_of_lt_of_le
abbrev FQ:=@PySem.wpAny_bind
abbrev FR:=@List.nodup_append
abbrev FT:=@List.length_singleton
abbrev FU:=@List.mem_cons_self
abbrev FV:=@List.size_toArray
abbrev FW:=@PySem.Heap.get?_push_size
abbrev FX:=@Nat.ne_of_lt
abbrev FY:=@decide_eq_false_iff_not
abbrev FZ:=@decide_eq_true
abbrev Ga:=@Option.some.inj
abbrev Gb:=@List.mem_cons_of_mem
abbrev Gd:=@List.getElem_mem
abbrev Ge:=@decide_eq_false
abbrev Gf:=@List.getD_eq_getElem?_getD
abbrev Gg:=@List.map_map
abbrev Gh:=@Bool.and_eq_true
abbrev Gi:=@Bool.false_ne_true
abbrev Gj:=@Option.map_eq_some_iff
abbrev Gk:=@List.all_eq_true
abbrev Gm:=@PySem.wpAny_pure
abbrev Gn:=@List.mem_cons
abbrev Gp:=@PySem.PassesOwn.never
abbrev Gq:=@List.take_succ
abbrev Gr:=@Bool.not_eq_true'
abbrev Gs:=@Int.emod_lt_of_pos
abbrev Gu:=@List.filter_cons_of_pos
abbrev Gv:=@List.filter_append
abbrev Gw:=@List.append_nil
abbrev Gx:=@List.append_assoc
abbrev Gy:=@List.getElem?_eq_some_iff
abbrev Gz:=@List.map_congr_left
abbrev GA:=@List.filter_cons_of_neg
abbrev GB:=@Nat.le_trans
abbrev GC:=@Bool.eq_iff_iff
abbrev GD:=@PySem.W.mg_none_of
abbrev GF:=@List.map_cons
abbrev GG:=@PySem.F.plainAttrs_dict
abbrev GH:=@Int.emod_nonneg
abbrev GI:=@decide_eq_true_eq
abbrev GJ:=@List.filter_sublist
abbrev GK:=@List.nodup_cons
abbrev GL:=@List.filter_nil
abbrev GN:=@PySem.F.plainAttrs_list
abbrev GO:=@Nat.lt_succ_self
abbrev GP:=@PySem.F.slot_list_append
abbrev GQ:=@PySem.F.type_list_append
abbrev GR:=@List.length_cons
abbrev GS:=@List.getElem?_append_left
abbrev GU:=@Classical.byContradiction
abbrev GV:=@PySem.Paired.length
abbrev GW:=@List.getElem?_of_mem
abbrev GX:=@List.nodup_nil
abbrev GY:=@congrArg
abbrev GZ:=@List.take_sublist
abbrev Hc:=@List.drop_eq_getElem_cons
abbrev Hd:=@List.getElem?_append_right
abbrev He:=@PySem.Around.under_plainId
abbrev Hf:=@Nat.lt_irrefl
abbrev Hg:=@List.any_eq_true
abbrev Hh:=@List.lookup_cons
abbrev Hi:=@List.length_replicate
abbrev Hj:=@List.length_range
abbrev Hk:=@Nat.zero_le
abbrev Hl:=@PySem.wpAny_richCompare_same_room
abbrev Hm:=@PySem.wpAny_truthy_bool
abbrev Hn:=@List.mem_range
abbrev Ho:=@PySem.call_meetsIn
abbrev Hq:=@PySem.codeAny_builtin
abbrev Hr:=@PySem.F.slot_dict_update
abbrev Hs:=@PySem.wpAny_holding
abbrev Ht:=@PySem.F.slot_dict_clear
abbrev Hu:=@of_decide_eq_true
abbrev Hv:=@PyProof.Rows.callWith_type1
abbrev Hw:=@PySem.W.kia_one
abbrev Hx:=@List.range_succ
abbrev Hy:=@PySem.Calls.callWith_builtin
abbrev Hz:=@PySem.F.slot_NoneType_hash
abbrev HC:=@List.all_map
abbrev HD:=@PySem.W.mg_of
abbrev HE:=@Sum.inr.inj
abbrev HF:=@PyProof.Rows.slot_tuple_getitem
abbrev HG:=@PySem.wpAny_newObj_type
abbrev HH:=@List.filter_congr
abbrev HI:=@PySem.F.type_dict_update
abbrev HJ:=@List.filterMap_cons
abbrev HK:=@PySem.mem_of_lookup
abbrev HL:=@List.all_cons
abbrev HP:=@PySem.wpAny_getItem_str_slice
abbrev HQ:=@Nat.le_succ
abbrev HR:=@PySem.F.type_dict_clear
abbrev HS:=@List.cons_append
abbrev HU:=@List.Perm.refl
abbrev HV:=@List.drop_of_length_le
abbrev HW:=@PySem.tupleKind_room_in1
abbrev HX:=@Ne.symm
abbrev HY:=@List.find?_cons
abbrev Ia:=@PySem.Txt.slice_le
abbrev Ib:=@List.foldl_cons
abbrev Ic:=@PySem.F.called_set
abbrev Ie:=@Nat.not_lt_zero
abbrev Ig:=@PySem.wpAny_pyIter_list
abbrev Ih:=@PySem.plainId_quiet
abbrev Ii:=@List.Pairwise.map
abbrev Ij:=@Bool.true_and
abbrev Ik:=@List.perm_ext_iff_of_nodup
abbrev Il:=@PySem.F.slot_list_ne
abbrev Im:=@Option.getD_some
abbrev Io:=@beq_eq_false_iff_ne
abbrev Ip:=@PySem.W.hideAll_get
abbrev Iq:=@Array.length_toList
abbrev Ir:=@List.filter_eq_self
abbrev Iu:=@List.map_nil
abbrev Iv:=@PySem.F.slot_list_getattribute
abbrev Iw:=@PySem.F.slot_dict_values
abbrev Iy:=@List.mem_filterMap
abbrev Iz:=@PySem.wpAny_Call_method0_late
abbrev IA:=@Option.map_some
abbrev IB:=@Nat.lt_of_le_of_lt
abbrev IC:=@PySem.wpAny_passesOwn
abbrev ID:=@PyProof.Rows.F.plain_set_update_loop
abbrev IE:=@List.pairwise_cons
abbrev IF:=@PySem.wpAny_pyNext_list_item
abbrev IG:=@List.range_succ_eq_map
abbrev IH:=@PySem.AutoSeq1.sub_list_list
abbrev II:=@Prod.mk.inj
abbrev IK:=@PySem.wpAny_pyNext_list_end
abbrev IL:=@PySem.F.slot_dict_get
abbrev IM:=@Bool.beq_eq_decide_eq
abbrev IP:=@Array.getElem?_toList
abbrev IQ:=@List.length_drop
abbrev IS:=@List.eq_nil_of_length_eq_zero
abbrev IT:=@PySem.Calls.evalArgs_plain
abbrev IU:=@List.any_cons
abbrev IV:=@Bool.and_true
abbrev IW:=@PySem.SeqAt.EqAt.same
abbrev IX:=@PySem.evalArgs_none
abbrev IY:=@PySem.post_val_or_str
abbrev IZ:=@PySem.Calls.Name_function_global
abbrev Ja:=@Int.fdiv_eq_ediv_of_nonneg
abbrev Jb:=@PySem.SeqAt.EqAt.int_str
abbrev Jc:=@PySem.SeqAt.EqAt.str_int
abbrev Jd:=@PySem.W.of_hideAll
abbrev Je:=@PySem.codeAny_mono
abbrev Jf:=@PySem.wpAny_Call_Name_kw
abbrev Jg:=@List.map_id'
abbrev Jh:=@List.mem_replicate
abbrev Ji:=@Int.zero_add
abbrev Jj:=@Option.isSome_iff_exists
abbrev Jk:=@PySem.F.args_tuple_add_2
abbrev Jl:=@Option.isSome_map
abbrev Jm:=@PySem.wpAny_comprehension_free
abbrev Jn:=@PySem.AutoSeq1.sub_tuple_tuple
abbrev Jo:=@PySem.F.type_dict_values
abbrev Jp:=@PySem.F.entry_tuple_add
abbrev Jq:=@PySem.F.args_dict_get_2
abbrev Js:=@PySem.MeetsSeq3.entry_eq_loop
abbrev Jt:=@Nat.min_le_right
abbrev Ju:=@PySem.wpAny_call_entry
abbrev Jv:=@beq_self_eq_true
abbrev Jw:=@List.mem_reverse
abbrev Jx:=@Nat.le_add_right
abbrev Jy:=@decide_eq_decide
abbrev Jz:=@List.getElem?_set_self
abbrev JA:=@PySem.W.cellsFrom_some
abbrev JB:=@PySem.F.slot_tuple_add
abbrev JE:=@PySem.F.entry_dict_get
abbrev JG:=@PySem.F.args_list_ne_2
abbrev JI:=@PySem.wpAny_execs_nil
abbrev JJ:=@List.of_mem_zip
abbrev JK:=@if_true
abbrev JL:=@List.length_nil
abbrev JM:=@Nat.lt_or_ge
abbrev JN:=@PySem.F.slot_tuple_eq
abbrev JO:=@PySem.F.slot_tuple_ne
abbrev JP:=@PySem.F.entry_list_ne
abbrev JQ:=@List.perm_append_comm
abbrev JR:=@List.getElem?_eq_none
abbrev JS:=@List.eq_nil_or_concat
abbrev JT:=@List.concat_eq_append
abbrev JU:=@PySem.wpAny_mono
abbrev JV:=@List.getElem?_set_ne
abbrev JX:=@List.drop_eq_nil_iff
abbrev JY:=@PySem.F.slot_list_eq
abbrev Ka:=@List.replicate_succ'
abbrev Kb:=@PySem.Heap.size_push
abbrev Kc:=@PySem.sizeLine_eq
abbrev Ki:=@List.getElem_of_mem
abbrev Kj:=@Array.toList_append
abbrev Kk:=@List.map_id
abbrev Kl:=@Array.append_assoc
abbrev Km:=@PySem.wpAny_standAt
abbrev Ko:=@List.getElem?_drop
abbrev Kp:=@PySem.strLen_append
abbrev Kr:=@Int.ofNat_inj
abbrev Ks:=@List.map_replicate
abbrev Kw:=@PySem.W.kitx_dict
abbrev KA:=@List.any_eq_false
abbrev KG:=@Nat.lt_trichotomy
abbrev KJ:=@Nat.le_of_lt
abbrev KL:=@Nat.ne_of_gt
abbrev KP:=@Nat.lt_trans
abbrev Mz:=@beq_iff_eq
abbrev ML:=@if_false
abbrev OV:=@Iff.rfl
set_option Elab.async false
set_option linter.all false
set_option maxRecDepth 100000
namespace L2
open PySem PySem.Spec PyProof.Rows
abbrev j4:=Sum Int Str
def cI:j4->Value->Bool
 | .inl k,v=>Value.isInt k v
 | .inr x,v=>Value.isStrOf x v
def BB (w:World):j4->Int
 | .inl k=>hashInt k
 | .inr x=>hashStr w x
theorem B6:∀{k:j4} {v:Value},cI k v=true->(∃i t,k=Sum.inl i/\v=Value.int i t)\/(∃x t,k=Sum.inr x/\v=Value.str x t)
 | .inl i,v,h=>by
  obtain⟨t,e⟩:=Value.isInt_shape (k:=i) (v:=v) h;exact .inl ⟨i,t,rfl,e⟩
 | .inr x,v,h=>by
  obtain⟨t,e⟩:=Value.isStrOf_shape (x:=x) (v:=v) h;exact .inr ⟨x,t,rfl,e⟩
theorem sJ (i:Int)(t:Tok):cI (.inl i) (.int i t)=true:=by simp [cI,Value.isInt]
theorem rM (x:Str)(t:Tok):cI (.inr x) (.str x t)=true:=by simp [cI,Value.isStrOf]
theorem wW (a b:Int):decide ((Sum.inl a:j4)=Sum.inl b)=(a==b):=by
 by_cases e:a=b
 .subst e;simp
 .have h:¬(Sum.inl a:j4)=Sum.inl b:=λq=>e (Sum.inl.inj q);rw[Ge h];exact(Io.mpr e).symm
theorem wU (a b:Str):decide ((Sum.inr a:j4)=Sum.inr b)=decide (a=b):=by
 by_cases e:a=b
 .subst e;simp
 .have h:¬(Sum.inr a:j4)=Sum.inr b:=λq=>e (HE q);rw[Ge h,Ge e]
theorem vY (a:Int)(b:Str):decide ((Sum.inl a:j4)=Sum.inr b)=false:=Ge (λq=>nomatch q)
theorem vI (a:Str)(b:Int):decide ((Sum.inr a:j4)=Sum.inl b)=false:=Ge (λq=>nomatch q)
def l0 (prog:Program)(w:World):PySem.KeyKind prog w j4 where
 is:=cI
 hash:=BB w
 inj:=λv a b ha hb=>by
  rcases B6 ha with⟨i,t,rfl,rfl⟩|⟨x,t,rfl,rfl⟩
  .rcases B6 hb with⟨j,u,rfl,e⟩|⟨y,u,rfl,e⟩
   .injection e with e1 _;rw[e1]
   .exact nomatch e
  .rcases B6 hb with⟨j,u,rfl,e⟩|⟨y,u,rfl,e⟩
   .exact nomatch e
   .injection e with e1 _;rw[e1]
 byValue:=λk v h=>by
  rcases B6 h with⟨i,t,rfl,rfl⟩|⟨x,t,rfl,rfl⟩<;>rfl
 pyHash:=λhv h=>by
  rcases B6 hv with⟨i,t,rfl,rfl⟩|⟨x,t,rfl,rfl⟩
  .exact wpAny_pyHash_int h
  .exact wpAny_pyHash_str h
 eqBool:=λhu hv h=>by
  rcases B6 hu with⟨i,t,rfl,rfl⟩|⟨x,t,rfl,rfl⟩
  .rcases B6 hv with⟨j,u,rfl,rfl⟩|⟨y,u,rfl,rfl⟩
   .rw[wW] at h;exact wpAny_eqBool_int h
   .rw[vY] at h;exact Jb i t y u _ _ _ _ h
  .rcases B6 hv with⟨j,u,rfl,rfl⟩|⟨y,u,rfl,rfl⟩
   .rw[vI] at h;exact Jc x t j u _ _ _ _ h
   .rw[wU] at h;exact wpAny_eqBool_str h
 «strs»:=λk x t v h=>by
  rcases B6 h with⟨i,u,rfl,e⟩|⟨y,u,rfl,e⟩
  .exact nomatch e
  .injection e with e1 _
   subst e1;cases v<;>rfl
theorem nS (prog:Program)(w:World)(i:Int)(t:Tok):(l0 prog w).is (.inl i) (.int i t)=true:=sJ i t
theorem oN (prog:Program)(w:World)(x:Str)(t:Tok):(l0 prog w).is (.inr x) (.str x t)=true:=rM x t
inductive V where
 |non|bl (b:Bool)|int (i:Int)|str (x:Str)|byt (b:Array UInt8)|flt (b:UInt64)|ref (a:Addr)|ty (n:String)
 deriving DecidableEq
def RelV:V->Value->Prop
 | .non,u=>u=Value.none
 | .bl b,u=>u=Value.bool b
 | .int i,u=>∃t,u=Value.int i t
 | .str x,u=>∃t,u=Value.str x t
 | .byt b,u=>∃t,u=Value.bytes b t
 | .flt b,u=>∃t,u=Value.float b t
 | .ref a,u=>u=Value.ref a
 | .ty n,u=>u=Value.type n
abbrev Vals:List V->List Value->Prop:=Paired RelV
theorem Vals.length {xs:List V}{us:List Value}(r:Vals xs us):xs.length=us.length:=GV r
theorem Vals.get:∀{xs:List V} {us:List Value} {i:Nat} {x:V},Vals xs us->xs[i]?=some x->∃u,us[i]?=some u/\RelV x u
 |_,_,_,_,.nil,e=>by simp at e
 |_,_,0,_,.cons r _,e=>by simp at e;subst e;exact⟨_,rfl,r⟩
 |_,_,i+1,x,.cons _ t,e=>by
  obtain⟨u,h1,h2⟩:=Vals.get (i:=i) (x:=x) t (by simpa using e);exact⟨u,by simpa using h1,h2⟩
theorem Vals.set {x:V}{u:Value}(r:RelV x u):∀{xs:List V} {us:List Value} (i:Nat),Vals xs us->Vals (xs.set i x) (us.set i u)
 |_,_,_,.nil=> .nil
 |_,_,0,.cons _ t=> .cons r t
 |_,_,i+1,.cons q t=> .cons q (Vals.set r i t)
theorem Vals.append:∀{xs ys:List V} {us ws:List Value},Vals xs us->Vals ys ws->Vals (xs++ys) (us++ws)
 |_,_,_,_,.nil,s=>s
 |_,_,_,_,.cons r t,s=> .cons r (Vals.append t s)
theorem Vals.take:∀{xs:List V} {us:List Value} (n:Nat),Vals xs us->Vals (xs.take n) (us.take n)
 |_,_,0,_=> .nil
 |_,_,_+1,.nil=> .nil
 |_,_,n+1,.cons r t=> .cons r (Vals.take n t)
theorem Vals.drop:∀{xs:List V} {us:List Value} (n:Nat),Vals xs us->Vals (xs.drop n) (us.drop n)
 |_,_,0,r=>r
 |_,_,_+1,.nil=> .nil
 |_,_,n+1,.cons _ t=>Vals.drop n t
def RelO:Option V->Option Value->Prop
 |some v,some u=>RelV v u
 |none,none=>True
 |_,_=>False
def KV {κ:Type}:List (κ×V)->List (κ×Value)->Prop:=Paired fun(p:κ×V) (q:κ×Value)=>p.1=q.1/\RelV p.2 q.2
def kV:j4->V
 | .inl i=> .int i
 | .inr x=> .str x
inductive HO where
 |lst (xs:List V)
 |tup (xs:List V)
 |dK (kvs:List (j4×V))|dT (kvs:List (List j4×V))
 |set (S:Int->Bool) (n:Nat)
 |ins (C dx:Addr) (fs:List (Str×V))
 |own (x:Addr)
 |xd (fs:List (Str×V))
 |met (f x:Addr)
 |rng (lo hi:Int)
 |frz (o:Obj) (u:HO)
 |tbl (ps:Array Value)
 |ext (φ:Heap->Prop)
abbrev Hp:=Addr->Option HO
def upd (H:Hp)(a:Addr)(o:HO):Hp:=λb=>if b=a then some o else H b
theorem d8 {H:Hp}{a:Addr}{o:HO}:upd H a o a=some o:=by unfold upd;rw[if_pos rfl]
theorem d0 {H:Hp}{a b:Addr}{o:HO}(h:b≠a):upd H a o b=H b:=by unfold upd;rw[if_neg h]
theorem CO {H:Hp}{a b:Addr}{o u:HO}(h:H a=some o)(h':H b=some u)(d:o≠u):a≠b:=by
 intro e;subst e;rw[h] at h';exact d (Ga h')
theorem b7 {H:Hp}{a b:Addr}{o:HO}(h:H a=some o)(h':H b=none):a≠b:=by
 intro e;subst e;rw[h] at h';cases h'
section
variable (P:Program) (w:World)
def ObjOk (H:Hp)(h:Heap)(a:Addr):HO->Prop
 | .lst xs=>xs.length<=sizeLine/\∃(a_:List Value) (n:Nat),Vals xs a_/\h.get? a=some {cls:= .type "list",data:= .seq a_.toArray n}
 | .tup xs=>xs.length<=sizeLine/\∃a_:List Value,Vals xs a_/\IsTup h a a_.toArray
 | .dK kvs=>kvs.length<=sizeLine/\(a==sysModules)=false/\∃vs,KV kvs vs/\h.DictOf (l0 P w) a vs
 | .dT kvs=>kvs.length<=sizeLine/\(a==sysModules)=false/\∃xs:List (List j4×Addr×Value),
   Paired (fun(p:List j4×V) (q:List j4×Addr×Value)=>p.1=q.1/\H q.2.1=some (.tup (p.1.map kV))/\RelV p.2 q.2.2) kvs xs/\
   ∃o es ep,h.get? a=some o/\o.ExactDict/\o.data= .dict es ep/\es.toList=xs.map (entryOfKey (tupleKind (l0 P w)))/\(xs.map (·.1)).Nodup
 | .set S n=>h.SetOf (intKind P w) a S n
 | .ins C dx fs=>H dx=some (.own a)/\fs.length<=1000/\dx≠a/\h.get? a=some (PySem.W.instObj C dx)/\
   ∃mA,h.Ns1 dx mA/\(∀f,RelO (fs.lookup f) (mA f))/\PySem.Within mA (fs.map (·.1))
 | .own _=>∃o,h.get? a=some o
 | .xd fs=>∃mA,h.Ns1 a mA/\∀f,RelO (fs.lookup f) (mA f)
 | .rng lo hi=>∃t u v,h.get? a=some {cls:= .type "range",data:= .fields #[.int lo t,.int hi u,.int 1 v]}
 | .frz o u=>h.get? a=some o/\ObjOk H h a u
 | .tbl ps=>h.get? a=some {cls:= .none,data:= .fields ps}
 | .met f x=>h.get? a=some (PySem.W.methodObj (.ref f) (.ref x))
 | .ext φ=>φ h/\(∃o,h.get? a=some o)/\∀h1 h2:Heap,φ h1->(∀o,h1.get? a=some o->h2.get? a=some o)->φ h2
def HOk (H:Hp)(h:Heap):Prop:=∀a o,H a=some o->ObjOk P w H h a o
end
section
variable {P:Program} {w:World} {H H':Hp} {h h':Heap} {a:Addr} {o:HO}
theorem ObjOk.lt (x:ObjOk P w H h a o):a<h.objs.size:=by
 cases o with
 |lst xs=>obtain⟨_,_,_,_,e⟩:=x;exact FN e
 |tup xs=>obtain⟨_,_,_,p⟩:=x;exact p.lt
 |dK kvs=>obtain⟨_,_,_,_,o,_,_,e,_⟩:=x;exact FN e
 |dT kvs=>obtain⟨_,_,_,_,o,_,_,e,_⟩:=x;exact FN e
 |set S n=>obtain⟨o,_,_,_,e,_⟩:=x;exact FN e
 |ins C dx fs=>obtain⟨_,_,_,e,_⟩:=x;exact FN e
 |own y=>obtain⟨_,e⟩:=x;exact FN e
 |xd fs=>obtain⟨_,⟨_,_,_,e,_⟩,_⟩:=x;exact FN e
 |rng lo hi=>obtain⟨_,_,_,e⟩:=x;exact FN e
 |frz ob u=>obtain⟨e,_⟩:=x;exact FN e
 |tbl ps=>exact FN (show h.get? a=some _ from x)
 |met f y=>exact FN (show h.get? a=some _ from x)
 |ext φ=>obtain⟨_,⟨_,e⟩,_⟩:=x;exact FN e
theorem Paired.mapP {α β:Type}{F G:α->β->Prop}:∀{l₁:List α} {l₂:List β},Paired F l₁ l₂->(∀a b,F a b->G a b)->Paired G l₁ l₂
 |_,_,.nil,_=> .nil
 |_,_,.cons r t,f=> .cons (f _ _ r) (Paired.mapP t f)
theorem Paired.imp' {α β:Type}{F G:α->β->Prop}(f:∀a b,F a b->G a b){l₁:List α}{l₂:List β}(r:Paired F l₁ l₂):Paired G l₁ l₂:=Paired.mapP r f
theorem ObjOk.stay (x:ObjOk P w H h a o)(k:∀b u,(b=a\/H b=some (.own a))->h.get? b=some u->h'.get? b=some u)
  (ho:∀b,H b=some (.own a)->H' b=some (.own a)) (ht:∀b xs,H b=some (.tup xs)->H' b=some (.tup xs)):ObjOk P w H' h' a o:=by
 induction o with
 |lst xs=>obtain⟨z,a_,n,r,e⟩:=x;exact⟨z,a_,n,r,k _ _ (.inl rfl) e⟩
 |tup xs=>obtain⟨z,a_,r,ob,e,c⟩:=x;exact⟨z,a_,r,ob,k _ _ (.inl rfl) e,c⟩
 |dK kvs=>obtain⟨z,y,vs,r,ob,es,ep,e,c⟩:=x;exact⟨z,y,vs,r,ob,es,ep,k _ _ (.inl rfl) e,c⟩
 |dT kvs=>
  obtain⟨z,y,xs,r,ob,es,ep,e,c⟩:=x
  exact⟨z,y,xs,Paired.mapP r λp q z=>⟨z.1,ht _ _ z.2.1,z.2.2⟩,ob,es,ep,k _ _ (.inl rfl) e,c⟩
 |set S n=>obtain⟨ob,es,ep,t,e,c⟩:=x;exact⟨ob,es,ep,t,k _ _ (.inl rfl) e,c⟩
 |ins C dx fs=>
  obtain⟨d,z,ne,e,mA,⟨od,es,ep,e2,c⟩,r⟩:=x
  exact⟨ho _ d,z,ne,k _ _ (.inl rfl) e,mA,⟨od,es,ep,k _ _ (.inr d) e2,c⟩,r⟩
 |own y=>obtain⟨ob,e⟩:=x;exact⟨ob,k _ _ (.inl rfl) e⟩
 |xd fs=>obtain⟨mA,⟨od,es,ep,e,c⟩,r⟩:=x;exact⟨mA,⟨od,es,ep,k _ _ (.inl rfl) e,c⟩,r⟩
 |rng lo hi=>obtain⟨t,u,v,e⟩:=x;exact⟨t,u,v,k _ _ (.inl rfl) e⟩
 |frz ob u ih=>obtain⟨e,q⟩:=x;exact⟨k _ _ (.inl rfl) e,ih q⟩
 |tbl ps=>
  have e:h.get? a=some {cls:= .none,data:= .fields ps}:=x
  show h'.get? a=some {cls:= .none,data:= .fields ps}
  exact k a _ (.inl rfl) e
 |met f y=>
  have e:h.get? a=some (PySem.W.methodObj (.ref f) (.ref y)):=x
  show h'.get? a=some (PySem.W.methodObj (.ref f) (.ref y))
  exact k a _ (.inl rfl) e
 |ext φ=>obtain⟨p,⟨o,e⟩,st⟩:=x;exact⟨st _ _ p λo q=>k _ _ (.inl rfl) q,⟨o,k _ _ (.inl rfl) e⟩,st⟩
theorem HOk.lt (x:HOk P w H h)(e:H a=some o):a<h.objs.size:=(x a o e).lt
theorem HOk.fresh (x:HOk P w H h)(e:h.objs.size<=a):H a=none:=by
 cases q:H a with
 |none=>rfl
 |some u=>exact absurd (FP (x.lt q) e) (Hf _)
theorem HOk.kept (x:HOk P w H h)(k:∀b u,h.get? b=some u->h'.get? b=some u):HOk P w H h':=λa o e=>
 (x a o e).stay (λb u _ q=>k b u q) (λ_ q=>q) λ_ _ q=>q
theorem HOk.laid (x:HOk P w H h)(k:∀b u,h.get? b=some u->h'.get? b=some u)(hp:h.objs.size<=a)(new:ObjOk P w (upd H a o) h' a o):HOk P w (upd H a o) h':=λb u e=>by
 have hn:=x.fresh hp;by_cases hb:b=a
 .subst hb;rw[d8] at e;cases e;exact new
 .rw[d0 hb] at e;exact(x b u e).stay (λc v _ q=>k c v q) (λc q=>by rw[d0 (b7 q hn)];exact q) λc xs q=>by rw[d0 (b7 q hn)];exact q
end
def Rd (H:Hp)(a:Addr)(u:HO):Prop:=H a=some u\/∃o,H a=some (.frz o u)
theorem Rd.ok {P:Program}{w:World}{H:Hp}{h:Heap}{a:Addr}{u:HO}(r:Rd H a u)(x:HOk P w H h):ObjOk P w H h a u:=by
 rcases r with r|⟨o,r⟩
 .exact x a u r
 .obtain⟨_,q⟩:=x a _ r;exact q
def CM:Option HO->Prop
 |some (.lst _)=>True
 |some (.dK _)=>True
 |some (.dT _)=>True
 |some (.set _ _)=>True
 |some (.ins _ _ _)=>True
 |some (.ext _)=>True
 |_=>False
section
variable {P:Program} {w:World} {H:Hp} {h h':Heap} {x e:Addr} {o':HO}
theorem HOk.write (ok:HOk P w H h)(mu:CM (H x))(he:e=x\/H e=some (.own x))(k:∀b u,b≠e->h.get? b=some u->h'.get? b=some u)(MZ:∃u,h'.get? e=some u)
  (new:ObjOk P w (upd H x o') h' x o'):HOk P w (upd H x o') h':=λb u q=>by
 have OB:∀c y,H c=some (.own y)->c≠x:=λc y r z=>by subst z;rw[r] at mu;exact mu
 have RA:∀c xs,H c=some (.tup xs)->c≠x:=λc xs r z=>by subst z;rw[r] at mu;exact mu
 by_cases hb:b=x
 .subst hb;rw[d8] at q;cases q;exact new
 .rw[d0 hb] at q
  by_cases hbe:b=e
  .have q':H b=some (.own x):=by
    rcases he with z|z
    .exact absurd (hbe.trans z) hb
    .rw[hbe];exact z
   rw[q] at q';cases q'
   obtain⟨v,hv⟩:=MZ
   exact⟨v,by rw[hbe];exact hv⟩
  .refine(ok b u q).stay (λc v hc r=>k c v ?_ r) (λc r=>by rw[d0 (OB c b r)];exact r) λc xs r=>by rw[d0 (RA c xs r)];exact r
   rcases hc with rfl|hc
   .exact hbe
   .rintro rfl
    rcases he with z|z
    .exact OB c b hc z
    .rw[hc] at z;cases z;exact hb rfl
end
structure Un (fs ex:List Addr) (H H':Hp) (h h':Heap):Prop where
 keep:∀b o,h.get? b=some o->H b=none->b∉fs->b∉ex->h'.get? b=some o
 slot:∀b o,h.get? b=some o->H b=none->b∈fs->b∉ex->∃sl,h'.get? b=some {o with slots:=sl}
 free:∀b o,h.get? b=some o->H b=none->b∉ex->H' b=none
 there:∀b o,h.get? b=some o->b∉ex->∃o',h'.get? b=some o'
 tups:∀b xs,H b=some (.tup xs)->H' b=some (.tup xs)
 frzs:∀b o u,H b=some (.frz o u)->H' b=some (.frz o u)
 tbls:∀b ps,H b=some (.tbl ps)->∃more,H' b=some (.tbl (ps++more))
section
variable {fs Wk ex Lx:List Addr} {H H1 H2:Hp} {h h1 h2 h':Heap} {a x e:Addr} {o:HO}
theorem Un.any (u:Un fs ex H H1 h h1){b:Addr}{ob:Obj}(q:h.get? b=some ob)(n:H b=none)(hx:b∉ex):∃sl,h1.get? b=some {ob with slots:=sl}:=by
 by_cases hb:b∈fs
 .exact u.slot b ob q n hb hx
 .exact⟨ob.slots,u.keep b ob q n hb hx⟩
theorem Un.kept (k:∀b u,h.get? b=some u->h'.get? b=some u):Un fs ex H H h h':=
 ⟨λb ob q _ _ _=>k b ob q,λb ob q _ _ _=>⟨ob.slots,k b ob q⟩,λ_ _ _ n _=>n,λb ob q _=>⟨ob,k b ob q⟩,λ_ _ q=>q,λ_ _ _ q=>q,λ_ ps q=>⟨#[],by rw[q];simp⟩⟩
theorem Un.refl:Un fs ex H H h h:=Un.kept λ_ _ q=>q
theorem Un.laid (k:∀b u,h.get? b=some u->h'.get? b=some u)(hp:h.objs.size<=a)(hn:H a=none):Un fs ex H (upd H a o) h h' where
 keep:=λb u q _ _ _=>k b u q
 slot:=λb u q _ _ _=>⟨u.slots,k b u q⟩
 free:=λb u q n _=>by rw[d0 (FX (FP (FN q) hp))];exact n
 there:=λb u q _=>⟨u,k b u q⟩
 tups:=λb xs q=>by rw[d0 (b7 q hn)];exact q
 frzs:=λb u xs q=>by rw[d0 (b7 q hn)];exact q
 tbls:=λb ps q=>⟨#[],by rw[d0 (b7 q hn),q];simp⟩
theorem Un.write (mu:CM (H x))(he:e=x\/H e=some (.own x))(k:∀b u,b≠e->h.get? b=some u->h'.get? b=some u)(MZ:∃u,h'.get? e=some u):Un fs ex H (upd H x o) h h':=by
 have hx:∀b,H b=none->b≠x:=λb n z=>by subst z;rw[n] at mu;exact mu
 have hb:∀b,H b=none->b≠e:=λb n z=>by
  subst z;rcases he with r|r
  .exact hx b n r
  .rw[n] at r;cases r
 have hm:∀b u,H b=some u->¬CM (some u)->b≠x:=λb u q nm z=>by subst z;rw[q] at mu;exact nm mu
 refine⟨λb u q n _ _=>k b u (hb b n) q,λb u q n _ _=>⟨u.slots,k b u (hb b n) q⟩,λb u q n _=>by rw[d0 (hx b n)];exact n,λb u q _=>?_,
  λb xs q=>by rw[d0 (hm b _ q λz=>z)];exact q,λb u xs q=>by rw[d0 (hm b _ q λz=>z)];exact q,λb ps q=>⟨#[],by rw[d0 (hm b _ q λz=>z),q];simp⟩⟩
 by_cases hbe:b=e
 .subst hbe;exact MZ
 .exact⟨u,k b u hbe q⟩
end
def Dr (h:Heap)(H:Hp):List Addr:=(List.range h.objs.size).filter λa=>(H a).isSome
def kW (h:Heap)(H:Hp):Heap:=PySem.W.hideAll h (Dr h H)
theorem sU (h:Heap)(H:Hp):(kW h H).objs.size=h.objs.size:=PySem.W.hideAll_size _ _
theorem vt {h:Heap}{H:Hp}{b:Addr}{o:Obj}(e:h.get? b=some o)(n:H b=none):(kW h H).get? b=some o:=
 Ip _ e λhm=>by
  have q:(H b).isSome=true:=(FJ.mp hm).2;rw[n] at q;simp at q
theorem xm {h:Heap}{H:Hp}{b:Addr}{o:Obj}(e:(kW h H).get? b=some o):h.get? b=some o/\H b=none:=by
 have e':h.get? b=some o:=Jd (Dr h H) e;refine⟨e',?_⟩;cases q:H b with
 |none=>rfl
 |some x=>
  have hm:b∈Dr h H:=FJ.mpr ⟨Hn.mpr (FN e'),by simp [q]⟩
  have z:(kW h H).get? b=none:=PySem.W.hideAll_none (Dr h H) hm
  rw[z] at e;cases e
def xY (g h:Heap)(L:Addr):List (Addr×Obj):=(List.range h.objs.size).filterMap λa=>if a=L\/(g.get? a).isSome=true then none else(h.get? a).map λo=>(a,o)
def V7 (g h:Heap)(L d:Addr):List (Addr×Obj):=(xY g h L).filter λp=>decide (p.1≠d)
structure Mod (K:Kd) (mg:Str->Option Value) (base:Heap):Prop where
 kin:K.In base
 glob:base.Ns mainGlobals mg
 blt:∃mb,base.Ns builtinsNs mb/\∀x:Str,x≠"__name__"->mb x=bootBuiltins x
 nolimit:base.NoLimit
structure Cx where
 prog:Program
 w:World
 K:Kd
 mg:Str->Option Value
 base:Heap
 A:Around
 N:List Str
 s₀:Shared
 H₀:Hp
 env:Env
 outer:List Env
 stack:List Env
 ex:List Addr
 fn:Str->Bool
 calm:Bool
 pn:List (Addr×Obj)
 xe:Value->Shared->Prop
def aS (l:List Env):List Addr:=l.filterMap (·.frame)
abbrev Cx.fs (X:Cx):List Addr:=aS X.outer
def DU (sc:Scope)(x:Str):Prop:=sc.names.lookup x=some .local\/sc.names.lookup x=some .cell\/sc.names.lookup x=some .free
def yT (sc:Scope)(x:Str):Prop:=sc.names.lookup x=some .local\/sc.names.lookup x=some .cell
def DH (env:Env)(h:Heap)(m:Str->Option Value)(x:Str)(u:Value):Prop:=
 (env.kindOf x=some .local/\m x=some u)\/((env.kindOf x=some .cell\/env.kindOf x=some .free)/\∃c,env.cells.lookup x=some c/\h.IsCell c (some u))
structure Cx.Ok (X:Cx):Prop where
 mod:Mod X.K X.mg X.base
 kind:X.env.scope.kind= .function
 glob:X.env.globals=mainGlobals
 blt:X.env.builtins=builtinsNs
 above:X.s₀.heap.objs.size<=X.env.locals
 inj:∀x y c,X.env.cells.lookup x=some c->X.env.cells.lookup y=some c->x=y
 has:∀x,(X.env.kindOf x=some .cell\/X.env.kindOf x=some .free)->∃c,X.env.cells.lookup x=some c
 cab:∀x c,X.fn x=true->X.env.cells.lookup x=some c->X.s₀.heap.objs.size<=c
 hd:X.calm=true->X.A.handled=none
 frames:X.A.frames=some X.stack
 stk:X.stack=X.outer\/(X.stack=X.env::X.outer/\X.env.frame=some X.env.locals)
 exf:∀b∈X.ex,b≠X.env.locals/\∀x c,X.env.cells.lookup x=some c->c≠b
 bs:∀b o,X.base.get? b=some o->X.s₀.heap.get? b=some o/\X.H₀ b=none
 bsz:X.base.objs.size<=X.s₀.heap.objs.size
 noex:∀b o,X.base.get? b=some o->b∉X.ex
 exfs:∀b∈X.ex,b∉X.fs
 funs:X.s₀.heap.FunFrames X.base X.outer
 frf:∀b∈X.fs,X.H₀ b=none
structure Inv (X:Cx) (pins:List (Addr×Obj)) (σ:List (Option V)) (H:Hp) (s:Shared):Prop where
 ok:X.Ok
 os:s.os=X.s₀.os
 bare:AllBare s.gens
 base:Un X.fs X.ex X.H₀ H X.s₀.heap s.heap
 loc:∃m,s.heap.Ns X.env.locals m/\∀(i:Nat) (x:Str) (v:V),X.N[i]?=some x->σ[i]?=some (some v)->DU X.env.scope x->∃u,RelV v u/\DH X.env s.heap m x u
 cell:∀x c,X.env.cells.lookup x=some c->∃v,s.heap.IsCell c v
 free:H X.env.locals=none
 freeC:∀x c,X.env.cells.lookup x=some c->H c=none
 pin:∀p∈X.pn++pins,s.heap.get? p.1=some p.2/\H p.1=none/\p.1≠X.env.locals/\p.1∉X.fs/\∀v,p.2.data≠ .cell v
 hok:HOk X.prog X.w H s.heap
 len:σ.length=X.N.length
section
variable {X:Cx} {pins:List (Addr×Obj)} {σ:List (Option V)} {H H':Hp} {s:Shared} {h':Heap}
theorem Cx.Ok.nofr (ok:X.Ok){b:Addr}{o:Obj}(e:X.base.get? b=some o):b∉X.fs:=λhb=>by
 have:=(ok.funs.mem hb).1;rw[e] at this;cases this
theorem Inv.bs (I:Inv X pins σ H s):∀b o,X.base.get? b=some o->s.heap.get? b=some o/\H b=none:=λb o e=>
 ⟨I.base.keep b o (I.ok.bs b o e).1 (I.ok.bs b o e).2 (I.ok.nofr e) (I.ok.noex b o e),I.base.free b o (I.ok.bs b o e).1 (I.ok.bs b o e).2 (I.ok.noex b o e)⟩
theorem Inv.bk (I:Inv X pins σ H s):∀b o,X.base.get? b=some o->s.heap.get? b=some o:=λb o e=>(I.bs b o e).1
theorem Inv.mod (I:Inv X pins σ H s):Mod X.K X.mg X.base:=I.ok.mod
theorem Inv.kIn (I:Inv X pins σ H s):X.K.In s.heap:=I.ok.mod.kin.keeps I.bk
theorem Inv.lt (I:Inv X pins σ H s):X.env.locals<s.heap.objs.size:=let ⟨_,hn,_⟩:=I.loc;hn.lt
theorem Inv.sz (I:Inv X pins σ H s):X.s₀.heap.objs.size<=s.heap.objs.size:=GB I.ok.above (KJ I.lt)
theorem Inv.nofs (I:Inv X pins σ H s){a:Addr}(h:s.heap.objs.size<=a):a∉X.fs:=λhb=>by
 obtain⟨_,o,ho,_⟩:=I.ok.funs.mem hb;exact absurd (FP (FN ho) (GB I.sz h)) (Hf _)
theorem Inv.cne (I:Inv X pins σ H s):∀x c,X.env.cells.lookup x=some c->c≠X.env.locals:=λx c e z=>by
 obtain⟨v,o,ho,hd⟩:=I.cell x c e;obtain⟨m,⟨o',es,ep,Mt,RB,_⟩,_⟩:=I.loc;rw[z,Mt] at ho;cases ho;rw[RB] at hd;cases hd
theorem Inv.funs (I:Inv X pins σ H s):s.heap.FunFrames X.base X.outer:=by
 have all:∀(l:List Env),(∀b∈aS l,b∈X.fs)->X.s₀.heap.FunFrames X.base l->s.heap.FunFrames X.base l:=by
  intro l;induction l with
  |nil=>intro _ _;trivial
  |cons env r ih=>
   intro hs hl
   obtain⟨hk,⟨L,o,hf,hn,ho,hd⟩,hr⟩:=hl
   have hL:L∈X.fs:=hs L (by unfold aS;rw[HJ,hf];exact FU)
   obtain⟨sl,e⟩:=I.base.slot L o ho (I.ok.frf L hL) hL λz=>I.ok.exfs L z hL
   exact⟨hk,⟨L,_,hf,hn,e,hd⟩,ih (λb hb=>hs b (by unfold aS;rw[HJ,hf];exact Gb _ hb)) hr⟩
 exact all X.outer (λ_ hb=>hb) I.ok.funs
theorem Inv.stack (I:Inv X pins σ H s):s.heap.FunFrames X.base X.stack:=by
 rcases I.ok.stk with e|⟨e,hf⟩
 .rw[e];exact I.funs
 .rw[e];obtain⟨m,hn,_⟩:=I.loc;refine .cons (by rw[I.ok.kind];decide) hf hn ?_ I.funs;exact Heap.get?_none_of_le (GB I.ok.bsz I.ok.above)
theorem Inv.stkSub (I:Inv X pins σ H s):∀b∈aS X.stack,b∈X.env.locals::X.fs:=λb hb=>by
 rcases I.ok.stk with e|⟨e,hf⟩
 .rw[e] at hb;exact Gb _ hb
 .rw[e] at hb;unfold aS at hb;rw[HJ,hf] at hb;exact hb
theorem Inv.stkFree (I:Inv X pins σ H s):∀b∈aS X.stack,H b=none:=λb hb=>by
 rcases Gn.mp (I.stkSub b hb) with e|hb
 .rw[e];exact I.free
 .obtain⟨_,o,ho,_⟩:=I.ok.funs.mem hb;exact I.base.free b o ho (I.ok.frf b hb) λz=>I.ok.exfs b z hb
theorem Inv.step {g':Array GenState}{t':Nat}{d':Drawn}{ch:List Addr}(I:Inv X pins σ H s)
  (Mh:∀b∈ch,(b∈X.ex\/X.s₀.heap.objs.size<=b)/\b≠X.env.locals/\(∀x c,X.env.cells.lookup x=some c->c≠b)/\∀p∈X.pn++pins,p.1≠b)
  (keep:∀b o,b≠X.env.locals->b∉X.fs->b∉ch->s.heap.get? b=some o->H b=none->h'.get? b=some o)
  (slot:∀b o,b≠X.env.locals->b∈X.fs->b∉ch->s.heap.get? b=some o->H b=none->∃sl,h'.get? b=some {o with slots:=sl}) (free:∀b o,b∉ch->s.heap.get? b=some o->H b=none->H' b=none)
  (there:∀b o,b∉ch->s.heap.get? b=some o->∃o',h'.get? b=some o')
  (tups:∀b xs,H b=some (.tup xs)->H' b=some (.tup xs)) (frzs:∀b o u,H b=some (.frz o u)->H' b=some (.frz o u)) (tbls:∀b ps,H b=some (.tbl ps)->∃more,H' b=some (.tbl (ps++more)))
  (ns:∀m,s.heap.Ns X.env.locals m->h'.Ns X.env.locals m) (hok:HOk X.prog X.w H' h') (hg:AllBare g'):
  Inv X pins σ H' {s with heap:=h',gens:=g',drawn:=d',toks:=t'}:=by
 have Ut:∀b o,X.s₀.heap.get? b=some o->b≠X.env.locals:=λb o e=>FX (FP (FN e) I.ok.above)
 have Qp:∀b o,X.s₀.heap.get? b=some o->b∉X.ex->b∉ch:=λb o e hx hb=>by
  rcases(Mh b hb).1 with z|z
  .exact hx z
  .exact absurd (FP (FN e) z) (Hf _)
 have cellK:∀x c,X.env.cells.lookup x=some c->∀v,s.heap.IsCell c v->h'.IsCell c v:=λx c e v ⟨o,ho,hd⟩=>by
  have OC:c∉ch:=λz=>(Mh c z).2.2.1 x c e rfl;by_cases hc:c∈X.fs
  .obtain⟨sl,q⟩:=slot c o (I.cne x c e) hc OC ho (I.freeC x c e);exact⟨_,q,hd⟩
  .exact⟨o,keep c o (I.cne x c e) hc OC ho (I.freeC x c e),hd⟩
 refine⟨I.ok,I.os,hg,⟨λb o e n hb hx=>?_,λb o e n hb hx=>?_,λb o e n hx=>?_,λb o e hx=>?_,λb xs e=>tups b xs (I.base.tups b xs e),λb o xs e=>frzs b o xs (I.base.frzs b o xs e),λb ps e=>?_⟩,?_,λx c e=>?_,?_,λx c e=>?_,λp hp=>?_,hok,I.len⟩
 .exact keep b o (Ut b o e) hb (Qp b o e hx) (I.base.keep b o e n hb hx) (I.base.free b o e n hx)
 .obtain⟨sl,e1⟩:=I.base.slot b o e n hb hx
  obtain⟨Wl,e2⟩:=slot b _ (Ut b o e) hb (Qp b o e hx) e1 (I.base.free b o e n hx)
  exact⟨Wl,e2⟩
 .obtain⟨o',e1⟩:=I.base.there b o e hx
  exact free b o' (Qp b o e hx) e1 (I.base.free b o e n hx)
 .obtain⟨o',e1⟩:=I.base.there b o e hx
  exact there b o' (Qp b o e hx) e1
 .obtain⟨m1,e1⟩:=I.base.tbls b ps e
  obtain⟨m2,e2⟩:=tbls b _ e1
  exact⟨m1++m2,by rw[e2,Kl]⟩
 .obtain⟨m,hn,hl⟩:=I.loc
  refine⟨m,ns m hn,λi x v e1 e2 e3=>?_⟩
  obtain⟨u,r,l⟩:=hl i x v e1 e2 e3
  refine⟨u,r,?_⟩
  rcases l with l|⟨k,c,e,z⟩
  .exact .inl l
  .exact .inr ⟨k,c,e,cellK x c e _ z⟩
 .obtain⟨v,z⟩:=I.cell x c e
  exact⟨v,cellK x c e v z⟩
 .obtain⟨m,⟨o,_,_,ho,_⟩,_⟩:=I.loc
  exact free _ o (λz=>(Mh _ z).2.1 rfl) ho I.free
 .obtain⟨v,o,ho,hd⟩:=I.cell x c e
  exact free c o (λz=>(Mh c z).2.2.1 x c e rfl) ho (I.freeC x c e)
 .obtain⟨e,n,ne,nf,d⟩:=I.pin p hp
  have OC:p.1∉ch:=λz=>(Mh p.1 z).2.2.2 p hp rfl
  exact⟨keep p.1 p.2 ne nf OC e n,free p.1 p.2 OC e n,ne,nf,d⟩
theorem Inv.un {t':Nat}(I:Inv X pins σ H s)(u:Un X.fs [] H H' s.heap h')(hok:HOk X.prog X.w H' h'):Inv X pins σ H' {s with heap:=h',toks:=t'}:=by
 obtain⟨m,⟨o,es,ep,ho,r⟩,_⟩:=id I.loc;obtain⟨sl,hL⟩:=u.any ho I.free (by simp);exact I.step (g':=s.gens) (d':=s.drawn) (ch:=[]) (λ_ z=>nomatch z) (λb o _ hb _ e n=>u.keep b o e n hb (by simp)) (λb o _ hb _ e n=>u.slot b o e n hb (by simp)) (λb o _ e n=>u.free b o e n (by simp)) (λb o _ e=>u.there b o e (by simp)) u.tups u.frzs u.tbls (λm' hm=>by
  obtain⟨o',Mu,Np,Mt,r'⟩:=hm;rw[ho] at Mt;cases Mt;exact⟨_,Mu,Np,hL,r'⟩) hok I.bare
theorem Inv.call {g':Array GenState}{t':Nat}{d':Drawn}{ch:List Addr}(I:Inv X pins σ H s)(u:Un (aS X.stack) ch H H' s.heap h')(hok:HOk X.prog X.w H' h')(hg:AllBare g')
  (Mh:∀b∈ch,(b∈X.ex\/X.s₀.heap.objs.size<=b)/\b≠X.env.locals/\(∀x c,X.env.cells.lookup x=some c->c≠b)/\∀p∈X.pn++pins,p.1≠b):
  Inv X pins σ H' {s with heap:=h',gens:=g',drawn:=d',toks:=t'}:=by
 obtain⟨m,⟨o,es,ep,ho,r⟩,_⟩:=id I.loc
 obtain⟨sl,hL⟩:=u.any ho I.free λz=>(Mh _ z).2.1 rfl
 exact I.step (ch:=ch) Mh (λb o hL hb hc e n=>u.keep b o e n (λz=>(Gn.mp (I.stkSub b z)).elim hL hb) hc) (λb o _ _ hc e n=>u.any e n hc) (λb o hc e n=>u.free b o e n hc) (λb o hc e=>u.there b o e hc) u.tups u.frzs u.tbls (λm' hm=>by
  obtain⟨o',Mu,Np,Mt,r'⟩:=hm;rw[ho] at Mt;cases Mt;exact⟨_,Mu,Np,hL,r'⟩) hok hg
theorem Inv.turned {t':Nat}{it:Addr}(I:Inv X pins σ H s)(k:∀b o,b≠it->s.heap.get? b=some o->h'.get? b=some o)(hn:H it=none)(hL:it≠X.env.locals)
  (h1:it∈X.ex\/X.s₀.heap.objs.size<=it) (h2:∀x c,X.env.cells.lookup x=some c->c≠it) (h3:∀p∈X.pn++pins,p.1≠it):Inv X pins σ H {s with heap:=h',toks:=t'}:=by
 have Uu:∀b u,H b=some u->b≠it:=λb u e z=>by rw[z,hn] at e;cases e
 refine I.step (g':=s.gens) (d':=s.drawn) (ch:=[it]) (λb hb=>?_) (λb o _ _ hc e _=>k b o (λz=>hc (by simp [z])) e) (λb o _ _ hc e _=>⟨o.slots,k b o (λz=>hc (by simp [z])) e⟩) (λ_ _ _ _ n=>n)
  (λb o hc e=>⟨o,k b o (λz=>hc (by simp [z])) e⟩) (λ_ _ e=>e) (λ_ _ _ e=>e) (λb ps e=>⟨#[],by rw[e];simp⟩) (λm hm=>?_) (λb u e=>?_) I.bare
 .have e:b=it:=by simpa using hb
  subst e
  exact⟨h1,hL,h2,h3⟩
 .obtain⟨o,es,ep,ho,r⟩:=hm
  exact⟨o,es,ep,k _ o (HX hL) ho,r⟩
 .refine(I.hok b u e).stay (λc v hc q=>k c v ?_ q) (λ_ q=>q) λ_ _ q=>q
  rcases hc with z|z
  .rw[z];exact Uu b u e
  .exact Uu c _ z
theorem Inv.tok (I:Inv X pins σ H s)(t:Nat):Inv X pins σ H {s with toks:=t}:=I.un (h':=s.heap) (t':=t) Un.refl I.hok
theorem Inv.kept {t':Nat}(I:Inv X pins σ H s)(k:∀b u,s.heap.get? b=some u->h'.get? b=some u):Inv X pins σ H {s with heap:=h',toks:=t'}:=I.un (Un.kept k) (I.hok.kept k)
theorem Inv.laid {a:Addr}{o:HO}{t':Nat}(I:Inv X pins σ H s)(k:∀b u,s.heap.get? b=some u->h'.get? b=some u)(hp:s.heap.objs.size<=a)(new:ObjOk X.prog X.w (upd H a o) h' a o):
  Inv X pins σ (upd H a o) {s with heap:=h',toks:=t'}:=I.un (Un.laid k hp (I.hok.fresh hp)) (I.hok.laid k hp new)
theorem Inv.write {x e:Addr}{o:HO}{t':Nat}(I:Inv X pins σ H s)(mu:CM (H x))(he:e=x\/H e=some (.own x))(k:∀b u,b≠e->s.heap.get? b=some u->h'.get? b=some u)(MZ:∃u,h'.get? e=some u)
  (new:ObjOk X.prog X.w (upd H x o) h' x o):Inv X pins σ (upd H x o) {s with heap:=h',toks:=t'}:=I.un (Un.write mu he k MZ) (I.hok.write mu he k MZ new)
theorem Inv.weak {σ':List (Option V)}(I:Inv X pins σ H s)(hl:σ'.length=σ.length)(w:∀(i:Nat) v,σ'[i]?=some (some v)->σ[i]?=some (some v)):Inv X pins σ' H s:=
 ⟨I.ok,I.os,I.bare,I.base,let ⟨m,hn,Mv⟩:=I.loc;⟨m,hn,λi x v e1 e2 e3=>Mv i x v e1 (w i v e2) e3⟩,I.cell,I.free,I.freeC,I.pin,I.hok,hl.trans I.len⟩
theorem Inv.pins_of {LC:List (Addr×Obj)}(I:Inv X pins σ H s)(h:∀p∈LC,s.heap.get? p.1=some p.2/\H p.1=none/\p.1≠X.env.locals/\p.1∉X.fs/\∀v,p.2.data≠ .cell v):Inv X LC σ H s:=
 ⟨I.ok,I.os,I.bare,I.base,I.loc,I.cell,I.free,I.freeC,λp hp=>(FC.mp hp).elim (λz=>I.pin p (Fy _ z)) (h p),I.hok,I.len⟩
theorem nY {N:List Str}(hN:N.Nodup){i j:Nat}{x:Str}(a:N[i]?=some x)(b:N[j]?=some x):i=j:=by
 obtain⟨h1,e1⟩:=Gy.mp a;obtain⟨h2,e2⟩:=Gy.mp b;exact(List.getElem_inj hN).mp (e1.trans e2.symm)
theorem kD {M:Model}{A:Around}{E:Value->Shared->Prop}{i:Nat}{x:Str}{v:V}{u:Value}{Q:Unit->Shared->Prop}(I:Inv X pins σ H s)(hN:X.N.Nodup)(hi:X.N[i]?=some x)(hx:yT X.env.scope x)(r:RelV v u)
  (h:∀s',Inv X pins (σ.set i (some v)) H s'->(∃a,Heap.SameBut a s.heap s'.heap/\(a=X.env.locals\/X.env.cells.lookup x=some a))->Q () s') (hf:X.fn x=true\/X.env.scope.names.lookup x=some .local:=by first|exact .inl rfl|exact .inr rfl|assumption):wpAny M A (storeName X.env x u) Q E s:=by
 obtain⟨m,hn,hl⟩:=id I.loc
 have RC:(X.env.scope.kind== .class||(X.env.scope.kind== .module&&X.env.locals !=X.env.globals))=false:=by rw[I.ok.kind];rfl
 have Uv:i<σ.length:=by rw[I.len];exact(Gy.mp hi).1
 have cne:=I.cne
 have tracked:∀{a:Addr} {h':Heap},(∃o,s.heap.get? a=some o/\H a=none)->Heap.SameBut a s.heap h'->HOk X.prog X.w H h':=fun{a h'} ha hs b ob e=>by
  obtain⟨_,_,M'⟩:=ha;refine(I.hok b ob e).stay (λc w' hc q=>(hs.2 c ?_).trans q) (λ_ q=>q) λ_ _ q=>q;rintro rfl;rcases hc with rfl|hc
  .rw[M'] at e;cases e
  .rw[M'] at hc;cases hc
 rcases hx with hk|hk
 .refine wpAny_storeName_local hk hn (λh' Mw hs=>?_) RC
  obtain⟨oL,_,_,Wm,_⟩:=id hn
  refine h _ ⟨I.ok,I.os,I.bare,⟨λb o e n hb hx=>?_,λb o e n hb hx=>?_,I.base.free,λb o e hx=>?_,I.base.tups,I.base.frzs,I.base.tbls⟩,⟨_,Mw,λj y v' e1 e2 e3=>?_⟩,λy c e=>?_,I.free,I.freeC,λp hp=>?_,tracked ⟨oL,Wm,I.free⟩ hs,by simpa using I.len⟩ ⟨_,hs,.inl rfl⟩
  .exact(hs.2 b (FX (FP (FN e) I.ok.above))).trans (I.base.keep b o e n hb hx)
  .obtain⟨sl,e1⟩:=I.base.slot b o e n hb hx
   exact⟨sl,(hs.2 b (FX (FP (FN e) I.ok.above))).trans e1⟩
  .obtain⟨o',e1⟩:=I.base.there b o e hx
   exact⟨o',(hs.2 b (FX (FP (FN e) I.ok.above))).trans e1⟩
  .by_cases hj:j=i
   .subst hj
    rw[hi] at e1;cases e1
    rw[Jz Uv] at e2
    cases e2
    exact⟨u,r,.inl ⟨hk,by simp⟩⟩
   .rw[JV (HX hj)] at e2
    obtain⟨u',r',q⟩:=hl j y v' e1 e2 e3
    refine⟨u',r',?_⟩
    rcases q with⟨k,e⟩|⟨k,c,e,z⟩
    .refine .inl ⟨k,?_⟩
     have:y≠x:=λe=>hj (nY hN e1 (e▸hi))
     simp [this,e]
    .exact .inr ⟨k,c,e,z.sameBut hs (cne y c e)⟩
  .obtain⟨w',z⟩:=I.cell y c e
   exact⟨w',z.sameBut hs (cne y c e)⟩
  .obtain⟨e,n,ne,nf,d⟩:=I.pin p hp
   exact⟨(hs.2 p.1 ne).trans e,n,ne,nf,d⟩
 .have RD:X.fn x=true:=by
   rcases hf with z|z
   .exact z
   .rw[z] at hk;cases hk
  obtain⟨c,hc⟩:=I.ok.has x (.inl hk)
  obtain⟨w',z⟩:=I.cell x c hc
  refine wpAny_storeName_cell I.ok.kind hk hc z (λh' Mx hs=>?_)
  obtain⟨oc,Qq,Nq⟩:=id z
  refine h {s with heap:=h'} ⟨I.ok,I.os,I.bare,⟨λb o e n hb hx=>?_,λb o e n hb hx=>?_,I.base.free,λb o e hx=>?_,I.base.tups,I.base.frzs,I.base.tbls⟩,⟨m,hn.sameBut hs (HX (cne x c hc)),λj y v' e1 e2 e3=>?_⟩,λy c' e=>?_,I.free,I.freeC,λp hp=>?_,tracked ⟨oc,Qq,I.freeC x c hc⟩ hs,by simpa using I.len⟩ ⟨c,hs,.inr hc⟩
  .exact(hs.2 b (FX (FP (FN e) (I.ok.cab x c RD hc)))).trans (I.base.keep b o e n hb hx)
  .obtain⟨sl,e1⟩:=I.base.slot b o e n hb hx
   exact⟨sl,(hs.2 b (FX (FP (FN e) (I.ok.cab x c RD hc)))).trans e1⟩
  .obtain⟨o',e1⟩:=I.base.there b o e hx
   exact⟨o',(hs.2 b (FX (FP (FN e) (I.ok.cab x c RD hc)))).trans e1⟩
  .by_cases hj:j=i
   .subst hj
    rw[hi] at e1;cases e1
    rw[Jz Uv] at e2
    cases e2
    exact⟨u,r,.inr ⟨.inl hk,c,hc,Mx⟩⟩
   .rw[JV (HX hj)] at e2
    obtain⟨u',r',q⟩:=hl j y v' e1 e2 e3
    refine⟨u',r',?_⟩
    rcases q with q|⟨k,c',e,z'⟩
    .exact .inl q
    .refine .inr ⟨k,c',e,z'.sameBut hs ?_⟩
     rintro rfl
     exact hj (nY hN e1 (I.ok.inj _ _ _ e hc▸hi))
  .by_cases hcc:c'=c
   .subst hcc;exact⟨_,Mx⟩
   .obtain⟨w2,z2⟩:=I.cell y c' e
    exact⟨w2,z2.sameBut hs hcc⟩
  .obtain⟨e,n,ne,nf,d⟩:=I.pin p hp
   refine⟨(hs.2 p.1 ?_).trans e,n,ne,nf,d⟩
   intro q
   rw[q,Qq] at e
   have q':oc=p.2:=Ga e
   exact d w' (by rw[←q'];exact Nq)
theorem oh {M:Model}{A:Around}{E:Value->Shared->Prop}{i:Nat}{x:Str}{v:V}{u:Value}{Q:Unit->Shared->Prop}(I:Inv X pins σ H s)(hN:X.N.Nodup)(hi:X.N[i]?=some x)(hx:yT X.env.scope x)(r:RelV v u)
  (h:∀s',Inv X pins (σ.set i (some v)) H s'->Q () s') (hf:X.fn x=true\/X.env.scope.names.lookup x=some .local:=by first|exact .inl rfl|exact .inr rfl|assumption):wpAny M A (storeName X.env x u) Q E s:=
 kD I hN hi hx r (λs' I' _=>h s' I') hf
theorem Inv.call' {s':Shared}{ch:List Addr}(I:Inv X pins σ H s)(ho:s'.os=s.os)(u:Un (aS X.stack) ch H H' s.heap s'.heap)(hok:HOk X.prog X.w H' s'.heap)(hg:AllBare s'.gens)
  (Mh:∀b∈ch,(b∈X.ex\/X.s₀.heap.objs.size<=b)/\b≠X.env.locals/\(∀x c,X.env.cells.lookup x=some c->c≠b)/\∀p∈X.pn++pins,p.1≠b):Inv X pins σ H' s':=by
 obtain⟨h',g',d',t',o'⟩:=s'
 have e:o'=s.os:=ho
 subst e
 exact I.call (g':=g') (t':=t') (d':=d') u hok hg Mh
end
abbrev XK:=Value->Option Addr->Hp->Prop
abbrev St:=List (Option V)
abbrev VK:=V->Hp->Prop
abbrev TE:=St->Hp->VK->Prop
abbrev TT:=St->Hp->(Bool->Hp->Prop)->Prop
abbrev TA:=St->Hp->(List V->Hp->Prop)->Prop
structure qg where
 nx:St->Hp->Prop
 rt:VK
 bk:St->Hp->Prop:=λ_ _=>False
 ct:St->Hp->Prop:=λ_ _=>False
abbrev TS:=qg->St->Hp->Prop
def EP (X:Cx)(pins:List (Addr×Obj))(σ:St)(Q:VK)(u:Value)(s':Shared):Prop:=∃v H',Inv X pins σ H' s'/\RelV v u/\Q v H'
def TP (X:Cx)(pins:List (Addr×Obj))(σ:St)(Q:Bool->Hp->Prop)(b:Bool)(s':Shared):Prop:=∃H',Inv X pins σ H' s'/\Q b H'
def AP (X:Cx)(pins:List (Addr×Obj))(σ:St)(Q:List V->Hp->Prop)(us:List Value)(s':Shared):Prop:=∃vs H',Inv X pins σ H' s'/\Vals vs us/\Q vs H'
def SP (X:Cx)(pins:List (Addr×Obj))(D:qg)(f:Flow)(s':Shared):Prop:=
 match f with
 | .next=>∃σ' H',Inv X pins σ' H' s'/\D.nx σ' H'
 | .brk=>∃σ' H',Inv X pins σ' H' s'/\D.bk σ' H'
 | .cont=>∃σ' H',Inv X pins σ' H' s'/\D.ct σ' H'
 | .ret u=>∃v σ' H',Inv X pins σ' H' s'/\RelV v u/\D.rt v H'
def PE (X:Cx)(e:Expr)(t:TE):Prop:=
 ∀(pins:List (Addr×Obj)) (s:Shared) (σ:St) (H:Hp) (Q:VK),Inv X pins σ H s->t σ H Q->wpAny (model X.prog X.w) X.A (eval e X.env) (EP X pins σ Q) X.xe s
def PT (X:Cx)(e:Expr)(t:TT):Prop:=
 ∀(pins:List (Addr×Obj)) (s:Shared) (σ:St) (H:Hp) (Q:Bool->Hp->Prop),Inv X pins σ H s->t σ H Q->wpAny (model X.prog X.w) X.A (isTrue e X.env (eval e X.env)) (TP X pins σ Q) X.xe s
def PW (X:Cx)(e:Expr)(t:TT):Prop:=
 ∀(whole:Sem Value) (pins:List (Addr×Obj)) (s:Shared) (σ:St) (H:Hp) (Q:Bool->Hp->Prop),Inv X pins σ H s->t σ H Q->wpAny (model X.prog X.w) X.A (isTrue e X.env whole) (TP X pins σ Q) X.xe s
theorem PW.pt {X:Cx}{e:Expr}{t:TT}(h:PW X e t):PT X e t:=h _
def PA (X:Cx)(es:List Expr)(t:TA):Prop:=
 ∀(pos:Pos) (pins:List (Addr×Obj)) (s:Shared) (σ:St) (H:Hp) (Q:List V->Hp->Prop),Inv X pins σ H s->t σ H Q->wpAny (model X.prog X.w) X.A (spliced (backTo pos (starEach es X.env))) (AP X pins σ Q) X.xe s
def PS (X:Cx)(st:Stmt)(t:TS):Prop:=
 ∀(pins:List (Addr×Obj)) (s:Shared) (σ:St) (H:Hp) (D:qg),Inv X pins σ H s->t D σ H->wpAny (model X.prog X.w) X.A (exec st X.env) (SP X pins D) X.xe s
def PSs (X:Cx)(st:List Stmt)(t:TS):Prop:=
 ∀(pins:List (Addr×Obj)) (s:Shared) (σ:St) (H:Hp) (D:qg),Inv X pins σ H s->t D σ H->wpAny (model X.prog X.w) X.A (execs st X.env) (SP X pins D) X.xe s
theorem M8 {α:Type}{t:Sem α}{Q Q':α->Shared->Prop}{M:Model}{A:Around}{E:Value->Shared->Prop}{s:Shared}(h:wpAny M A t Q E s)(hQ:∀a s,Q a s->Q' a s):wpAny M A t Q' E s:=JU h hQ λ_ _ x=>x
section
variable {X:Cx}
def Az (i:Nat):TE:=λσ H Q=>∃v,σ[i]?=some (some v)/\Q v H
def tC (v:V):TE:=λ_ H Q=>Q v H
theorem zh {i:Nat}{x:Str}{pos:Pos}(hN:X.N[i]?=some x)(hv:DU X.env.scope x)(hd:(x==("__debug__":Str))=false:=by decide)(KU:(x==("__classdict__":Str))=false:=by decide):PE X (.Name x pos) (Az i):=by
 intro pins s σ H Q I h;obtain⟨v,e,h⟩:=h;obtain⟨m,hn,hl⟩:=I.loc;obtain⟨u,r,l⟩:=hl i x v hN e hv;have fin:EP X pins σ Q u s:=⟨v,H,I,r,h⟩
 rcases l with⟨hk,hm⟩|⟨hk,c,hc,KW⟩
 .exact wpAny_Name (wpAny_loadName_local I.ok.kind hk hn hm fin) hd
 .rcases hk with hk|hk
  .exact wpAny_Name (wpAny_loadName_cell I.ok.kind hk hc KW fin) hd
  .exact wpAny_Name (wpAny_loadName_free I.ok.kind hk hc KW fin KU) hd
theorem AB {i j pos}:PE X (.Constant (.int i) j pos) (tC (.int i)):=λ_ _ _ H _ I h=>wpAny_Constant_int ⟨.int i,H,I.tok _,⟨_,rfl⟩,h⟩
theorem BA {b j pos}:PE X (.Constant (.bool b) j pos) (tC (.bl b)):=λ_ _ _ H _ I h=>Constant_bool ⟨.bl b,H,I,rfl,h⟩
theorem zM {j pos}:PE X (.Constant .none j pos) (tC .non):=λ_ _ _ H _ I h=>Constant_none ⟨.non,H,I,rfl,h⟩
theorem zW {x j pos}:PE X (.Constant (.str x) j pos) (tC (.str x)):=λ_ _ _ H _ I h=>Calls.Constant_str ⟨.str x,H,I.tok _,⟨_,rfl⟩,h⟩
def Gl (X:Cx)(x:Str):Prop:=X.env.kindOf x=some .globalImplicit
theorem lC {E:Value->Shared->Prop}{pins:List (Addr×Obj)}{s:Shared}{σ:St}{H:Hp}{x:Str}{u:Value}{pos:Pos}{Q:Value->Shared->Prop}(I:Inv X pins σ H s)(hg:Gl X x)(hm:X.mg x=some u)(h:Q u s)
  (hd:(x==("__debug__":Str))=false:=by decide):wpAny (model X.prog X.w) X.A (eval (.Name x pos) X.env) Q E s:=
 IZ I.ok.kind hg (Calls.loadGlobal_global (by rw[I.ok.glob];exact I.mod.glob.keeps I.bk) hm h) hd
theorem eV {E:Value->Shared->Prop}{pins:List (Addr×Obj)}{s:Shared}{σ:St}{H:Hp}{x:Str}{u:Value}{pos:Pos}{Q:Value->Shared->Prop}(I:Inv X pins σ H s)(hg:Gl X x)(hm:X.mg x=none)(hv:bootBuiltins x=some u)(h:Q u s)
  (hn:x≠"__name__":=by decide) (hd:(x==("__debug__":Str))=false:=by decide):wpAny (model X.prog X.w) X.A (eval (.Name x pos) X.env) Q E s:=by
 obtain⟨mb,h1,h2⟩:=I.mod.blt
 exact IZ I.ok.kind hg (Calls.loadGlobal_builtin (by rw[I.ok.glob];exact I.mod.glob.keeps I.bk) hm (by rw[I.ok.blt];exact h1.keeps I.bk) ((h2 x hn).trans hv) h) hd
theorem xw {x:Str}{v:V}{u:Value}{pos:Pos}(hg:Gl X x)(hm:X.mg x=some u)(r:RelV v u)(hd:(x==("__debug__":Str))=false:=by decide):PE X (.Name x pos) (tC v):=
 λ_ _ _ H _ I h=>lC I hg hm ⟨v,H,I,r,h⟩ hd
theorem xn {x:Str}{v:V}{u:Value}{pos:Pos}(hg:Gl X x)(hm:X.mg x=none)(hv:bootBuiltins x=some u)(r:RelV v u)(hn:x≠"__name__":=by decide)(hd:(x==("__debug__":Str))=false:=by decide):PE X (.Name x pos) (tC v):=
 λ_ _ _ H _ I h=>eV I hg hm hv ⟨v,H,I,r,h⟩ hn hd
variable {a b:Expr} {ta tb:TE} {pos:Pos}
theorem RelV.none_iff {x:V}{v:Value}(r:RelV x v):(v==Value.none)=decide (x= .non):=by
 cases x with
 |non=>cases r;rfl
 |bl _=>cases r;rfl
 |int _=>obtain⟨t,rfl⟩:=r;rfl
 |str _=>obtain⟨t,rfl⟩:=r;rfl
 |byt _=>obtain⟨t,rfl⟩:=r;rfl
 |flt _=>obtain⟨t,rfl⟩:=r;rfl
 |ref _=>cases r;rfl
 |ty _=>cases r;rfl
variable {tA My:TT} {V7:List Expr}
def zz (t u:TT):TT:=λσ H Q=>t σ H λc H1=>if c=true then u σ H1 Q else Q false H1
def Em (t u:TT):TT:=λσ H Q=>t σ H λc H1=>if c=true then Q true H1 else u σ H1 Q
def Aq (t:TT):TT:=λσ H Q=>t σ H λc H1=>Q (!c) H1
theorem xB (ha:PT X a tA):PW X (.BoolOp .And [a] pos) tA:=by
 intro wh pins s σ H Q I h;refine isTrue_and (M8 (ha pins s σ H Q I h) λc s1 e=>?_);cases c with
 |true=>exact isTrue_and_nil e
 |false=>exact e
theorem Bg (ha:PT X a tA):PW X (.BoolOp .Or [a] pos) tA:=by
 intro wh pins s σ H Q I h;refine isTrue_or (M8 (ha pins s σ H Q I h) λc s1 e=>?_);cases c with
 |false=>exact isTrue_or_nil e
 |true=>exact e
theorem An (ha:PT X a tA)(hb:PW X (.BoolOp .And (b::V7) pos) My):PW X (.BoolOp .And (a::b::V7) pos) (zz tA My):=by
 intro wh pins s σ H Q I h;refine isTrue_and (M8 (ha pins s σ H _ I h) λc s1 ⟨H1,I1,q1⟩=>?_);cases c with
 |true=>exact hb wh pins s1 σ H1 Q I1 q1
 |false=>exact⟨H1,I1,q1⟩
theorem Bu (ha:PT X a tA)(hb:PW X (.BoolOp .Or (b::V7) pos) My):PW X (.BoolOp .Or (a::b::V7) pos) (Em tA My):=by
 intro wh pins s σ H Q I h;refine isTrue_or (M8 (ha pins s σ H _ I h) λc s1 ⟨H1,I1,q1⟩=>?_);cases c with
 |true=>exact⟨H1,I1,q1⟩
 |false=>exact hb wh pins s1 σ H1 Q I1 q1
theorem zP (ha:PT X a tA):PT X (.UnaryOp .Not a pos) (Aq tA):=by
 intro pins s σ H Q I h;exact isTrue_not (ha pins s σ H (λc H1=>Q (!c) H1) I h)
def ur (ta tb:TE):TE:=λσ H Q=>ta σ H λx H1=>∃c,x= .bl c/\if c=true then tb σ H1 Q else Q (.bl false) H1
def AZ (ta tb:TE):TE:=λσ H Q=>ta σ H λx H1=>∃c,x= .bl c/\if c=true then Q (.bl true) H1 else tb σ H1 Q
def wG (ta:TE):TE:=λσ H Q=>ta σ H λx H1=>∃c,x= .bl c/\Q (.bl (!c)) H1
theorem Ae {op}{t:TE}(h:PE X a t):PE X (.BoolOp op [a] pos) t:=λpins s σ H Q I hw=>BoolOp_one (h pins s σ H Q I hw)
theorem zQ (ha:PE X a ta)(hb:PE X (.BoolOp .And (b::V7) pos) tb):PE X (.BoolOp .And (a::b::V7) pos) (ur ta tb):=by
 intro pins s σ H Q I h;refine BoolOp_and (M8 (ha pins s σ H _ I h) λv s1 ⟨x,H1,I1,r1,q1⟩=>?_);obtain⟨c,rfl,q1⟩:=q1;cases r1;refine Hm ?_;cases c with
 |true=>exact hb pins s1 σ H1 Q I1 q1
 |false=>exact⟨.bl false,H1,I1,rfl,q1⟩
theorem De (ha:PE X a ta)(hb:PE X (.BoolOp .Or (b::V7) pos) tb):PE X (.BoolOp .Or (a::b::V7) pos) (AZ ta tb):=by
 intro pins s σ H Q I h;refine BoolOp_or (M8 (ha pins s σ H _ I h) λv s1 ⟨x,H1,I1,r1,q1⟩=>?_);obtain⟨c,rfl,q1⟩:=q1;cases r1;refine Hm ?_;cases c with
 |false=>exact hb pins s1 σ H1 Q I1 q1
 |true=>exact⟨.bl true,H1,I1,rfl,q1⟩
theorem zF (ha:PE X a ta):PE X (.UnaryOp .Not a pos) (wG ta):=by
 intro pins s σ H Q I h;refine UnaryOp_ (M8 (ha pins s σ H _ I h) λv s1 ⟨x,H1,I1,r1,q1⟩=>?_);obtain⟨c,rfl,q1⟩:=q1;cases r1;exact not_of (Hm ⟨.bl (!c),H1,I1,rfl,q1⟩)
end
def SqL (K:Kd)(H:Hp)(a:Addr)(xs:List V):Prop:=
 Rd H a (.lst xs)\/
  ∃(o:Obj) (a_:Array Value) (n:Nat),K.lookup a=some o/\o.cls= .type "list"/\o.dict=none/\o.data= .seq a_ n/\a_.size<=sizeLine/\Vals xs a_.toList
def SqT (K:Kd)(H:Hp)(a:Addr)(xs:List V):Prop:=
 Rd H a (.tup xs)\/
  ∃(o:Obj) (a_:Array Value) (n:Nat),K.lookup a=some o/\o.cls= .type "tuple"/\o.data= .seq a_ n/\a_.size<=sizeLine/\Vals xs a_.toList
def Ep:Value->Option V
 | .none=>some .non
 | .bool b=>some (.bl b)
 | .int i _=>some (.int i)
 | .str x _=>some (.str x)
 | .bytes b _=>some (.byt b)
 | .float b _=>some (.flt b)
 | .ref a=>some (.ref a)
 | .type n=>some (.ty n)
 |_=>none
theorem RelV.abs {x:V}{u:Value}(r:RelV x u):Ep u=some x:=by
 cases x with
 |non=>cases r;rfl
 |bl _=>cases r;rfl
 |int _=>obtain⟨t,rfl⟩:=r;rfl
 |str _=>obtain⟨t,rfl⟩:=r;rfl
 |byt _=>obtain⟨t,rfl⟩:=r;rfl
 |flt _=>obtain⟨t,rfl⟩:=r;rfl
 |ref _=>cases r;rfl
 |ty _=>cases r;rfl
theorem RelV.inj {x y:V}{u:Value}(r:RelV x u)(q:RelV y u):x=y:=Ga (r.abs.symm.trans q.abs)
theorem Vals.inj:∀{xs ys:List V} {us:List Value},Vals xs us->Vals ys us->xs=ys
 |_,_,_,.nil,.nil=>rfl
 |_,_,_,.cons r t,.cons r' t'=>by rw[r.inj r',Vals.inj t t']
section
variable {X:Cx} {pins:List (Addr×Obj)} {σ:St} {H:Hp} {s:Shared} {a:Addr} {xs ys:List V}
theorem SqL.of {K:Kd}(h:H a=some (.lst xs)):SqL K H a xs:= .inl (.inl h)
theorem SqT.of {K:Kd}(h:H a=some (.tup xs)):SqT K H a xs:= .inl (.inl h)
theorem Inv.list (I:Inv X pins σ H s)(h:SqL X.K H a xs):∃a_:List Value,Vals xs a_/\PlainL s.heap a a_.toArray/\xs.length<=sizeLine:=by
 rcases h with h|⟨o,a_,n,hk,hc,hd,hs,hz,r⟩
 .obtain⟨z,a_,n,r,e⟩:=h.ok I.hok;exact⟨a_,r,⟨_,n,e,rfl,rfl,rfl⟩,z⟩
 .refine⟨a_.toList,r,⟨o,n,I.kIn a o hk,hc,hd,by simpa using hs⟩,?_⟩;have e:=r.length;simp only[Iq] at e;lia
theorem Inv.tuple (I:Inv X pins σ H s)(h:SqT X.K H a xs):∃a_:List Value,Vals xs a_/\IsTup s.heap a a_.toArray/\xs.length<=sizeLine:=by
 rcases h with h|⟨o,a_,n,hk,hc,hs,hz,r⟩
 .obtain⟨z,a_,r,p⟩:=h.ok I.hok;exact⟨a_,r,p,z⟩
 .refine⟨a_.toList,r,⟨o,I.kIn a o hk,hc,n,by simpa using hs⟩,?_⟩;have e:=r.length;simp only[Iq] at e;lia
theorem Inv.list_inj (I:Inv X pins σ H s)(h:SqL X.K H a xs)(h':SqL X.K H a ys):xs=ys:=by
 obtain⟨a_,r,⟨o,n,e,_,_,d⟩,_⟩:=I.list h;obtain⟨its',r',⟨o',n',e',_,_,d'⟩,_⟩:=I.list h';rw[e] at e';cases e';rw[d] at d';injection d' with d1 _
 have:a_=its':=by simpa using GY Array.toList d1
 subst this;exact r.inj r'
theorem Inv.tuple_inj (I:Inv X pins σ H s)(h:SqT X.K H a xs)(h':SqT X.K H a ys):xs=ys:=by
 obtain⟨a_,r,⟨o,e,_,n,d⟩,_⟩:=I.tuple h;obtain⟨its',r',⟨o',e',_,n',d'⟩,_⟩:=I.tuple h';rw[e] at e';cases e';rw[d] at d';injection d' with d1 _
 have:a_=its':=by simpa using GY Array.toList d1
 subst this;exact r.inj r'
end
abbrev Cx.wish (X:Cx)(E:Value->Shared->Prop):Cx:={X with xe:=E}
abbrev Cx.nox (X:Cx):Cx:=X.wish λ_ _=>False
theorem Cx.Ok.wish {X:Cx}(ok:X.Ok)(E:Value->Shared->Prop):(X.wish E).Ok:=
 ⟨ok.mod,ok.kind,ok.glob,ok.blt,ok.above,ok.inj,ok.has,ok.cab,ok.hd,ok.frames,ok.stk,ok.exf,ok.bs,ok.bsz,ok.noex,ok.exfs,ok.funs,ok.frf⟩
theorem Cx.Ok.unwish {X:Cx}{E:Value->Shared->Prop}(ok:(X.wish E).Ok):X.Ok:=
 ⟨ok.mod,ok.kind,ok.glob,ok.blt,ok.above,ok.inj,ok.has,ok.cab,ok.hd,ok.frames,ok.stk,ok.exf,ok.bs,ok.bsz,ok.noex,ok.exfs,ok.funs,ok.frf⟩
section
variable {X:Cx} {pins:List (Addr×Obj)} {σ:St} {H:Hp} {s:Shared} {E:Value->Shared->Prop}
theorem Inv.wish (I:Inv X pins σ H s)(E:Value->Shared->Prop):Inv (X.wish E) pins σ H s:=⟨I.ok.wish E,I.os,I.bare,I.base,I.loc,I.cell,I.free,I.freeC,I.pin,I.hok,I.len⟩
theorem Inv.unwish (I:Inv (X.wish E) pins σ H s):Inv X pins σ H s:=⟨I.ok.unwish,I.os,I.bare,I.base,I.loc,I.cell,I.free,I.freeC,I.pin,I.hok,I.len⟩
theorem SP.unwish {D:qg}{f:Flow}{s':Shared}(h:SP (X.wish E) pins D f s'):SP X pins D f s':=by
 cases f with
 |next=>obtain⟨σ',H',I,q⟩:=h;exact⟨σ',H',I.unwish,q⟩
 |brk=>obtain⟨σ',H',I,q⟩:=h;exact⟨σ',H',I.unwish,q⟩
 |cont=>obtain⟨σ',H',I,q⟩:=h;exact⟨σ',H',I.unwish,q⟩
 |ret u=>obtain⟨v,σ',H',I,r,q⟩:=h;exact⟨v,σ',H',I.unwish,r,q⟩
theorem PSs.nox {st:List Stmt}{t:TS}(h:PSs X.nox st t):PSs X st t:=λpins s σ H D I hw=>
 JU (h pins s σ H D (I.wish _) hw) (λ_ _ q=>q.unwish) λ_ _ z=>False.elim z
end
section
variable {X:Cx} {st:Stmt} {V7:List Stmt} {t u:TS} {e:Expr} {te:TE} {pos:Pos}
def wY:TS:=λD σ H=>D.nx σ H
def ip (t u:TS):TS:=λD σ H=>t {D with nx:=u D} σ H
theorem xo:PSs X [] wY:=λ_ _ σ H _ I h=>JI ⟨σ,H,I,h⟩
theorem vm (h1:PS X st t)(h2:PSs X V7 u):PSs X (st::V7) (ip t u):=by
 intro pins s σ H D I h;refine wpAny_execs_cons (M8 (h1 pins s σ H {D with nx:=u D} I h) λf s1 q=>?_);cases f with
 |next=>
  obtain⟨σ',H',I',q⟩:=q
  exact h2 pins s1 σ' H' D I' q
 |ret v=>exact q
 |brk=>exact q
 |cont=>exact q
theorem ye (h1:PS X st t):PSs X [st] t:=by
 intro pins s σ H D I h;refine wpAny_execs_cons (M8 (h1 pins s σ H D I h) λf s1 q=>?_);cases f with
 |next=>exact JI q
 |ret v=>exact q
 |brk=>exact q
 |cont=>exact q
theorem Inv.quiet {pins:List (Addr×Obj)}{σ:St}{H:Hp}{s:Shared}(I:Inv X pins σ H s):interactive X.env=false:=by simp [interactive,I.ok.kind]
def uK (te:TE):TS:=λD σ H=>te σ H λ_ H1=>D.nx σ H1
theorem yw (he:PE X e te)(hs:swapsWith e none pos.line X.env=pure false:=by rfl):PS X (.Expr e pos) (uK te):=by
 intro pins s σ H D I h;exact wpAny_Expr_any (M8 (he pins s σ H _ I h) λv s1 ⟨x,H1,I1,r1,q1⟩=>⟨σ,H1,I1,q1⟩) I.quiet hs
def uq (te:TE):TS:=λD σ H=>te σ H D.rt
theorem zj (he:PE X e te):PS X (.Return (some e) pos) (uq te):=by
 intro pins s σ H D I h;exact wpAny_Return_some (M8 (he pins s σ H _ I h) λv s1 ⟨x,H1,I1,r1,q1⟩=>⟨x,σ,H1,I1,r1,q1⟩)
def zd (c:TT)(t u:TS):TS:=λD σ H=>c σ H λb H1=>if b=true then t D σ H1 else u D σ H1
theorem Br {c:Expr}{a b:List Stmt}{tc:TT}(hc:PT X c tc)(ha:PSs X a t)(hb:PSs X b u):PS X (.If c a b pos) (zd tc t u):=by
 intro pins s σ H D I h;refine wpAny_If (M8 (hc pins s σ H _ I h) λd s1 ⟨H1,I1,q1⟩=>?_);cases d with
 |true=>exact ha pins s1 σ H1 D I1 q1
 |false=>exact hb pins s1 σ H1 D I1 q1
end
abbrev TG:=V->St->Hp->(St->Hp->Prop)->Prop
abbrev pR:=List V->St->Hp->(St->Hp->Prop)->Prop
def PG (X:Cx)(target:Expr)(t:TG):Prop:=
 ∀(pins:List (Addr×Obj)) (s:Shared) (σ:St) (H:Hp) (v:V) (u:Value) (Q:St->Hp->Prop),Inv X pins σ H s->RelV v u->t v σ H Q->
  wpAny (model X.prog X.w) X.A (assign target X.env u) (λ_ s'=>∃σ' H',Inv X pins σ' H' s'/\Q σ' H') X.xe s
def xD (X:Cx)(ts:List Expr)(t:pR):Prop:=
 ∀(pins:List (Addr×Obj)) (s:Shared) (σ:St) (H:Hp) (vs:List V) (us:List Value) (Q:St->Hp->Prop),Inv X pins σ H s->Vals vs us->t vs σ H Q->
  wpAny (model X.prog X.w) X.A (assignInOrder ((assignEach ts X.env).map (·.2)) us) (λ_ s'=>∃σ' H',Inv X pins σ' H' s'/\Q σ' H') X.xe s
abbrev pY:=V->V->V->Hp->(Hp->Prop)->Prop
def tI (X:Cx)(t:pY):Prop:=
 ∀(pins:List (Addr×Obj)) (s:Shared) (σ:St) (H:Hp) (o i v:V) (ov iv u:Value) (Q:Hp->Prop),Inv X pins σ H s->RelV o ov->RelV i iv->RelV v u->t o i v H Q->
  wpAny (model X.prog X.w) X.A (setItem ov iv u) (λ_ s'=>∃H',Inv X pins σ H' s'/\Q H') X.xe s
section
variable {X:Cx} {pos:Pos}
def O5 (i:Nat):TG:=λv σ H Q=>Q (σ.set i (some v)) H
theorem xt {i:Nat}{x:Str}(hN:X.N.Nodup)(hi:X.N[i]?=some x)(hx:yT X.env.scope x)(hf:X.fn x=true\/X.env.scope.names.lookup x=some .local:=by first|exact .inl rfl|exact .inr rfl|assumption):PG X (.Name x pos) (O5 i):=by
 intro pins s σ H v u Q I r h;exact wpAny_assign_Name (oh I hN hi hx r (λs' I'=>⟨_,H,I',h⟩) hf)
def zY:pR:=λvs σ H Q=>vs=[]/\Q σ H
def qG (t:TG)(u:pR):pR:=λvs σ H Q=>∃v r,vs=v::r/\t v σ H λσ' H'=>u r σ' H' Q
theorem xN:xD X [] zY:=by
 intro pins s σ H vs us Q I r h;obtain⟨e,h⟩:=h;subst e;cases r;exact assignInOrder_nil ⟨σ,H,I,h⟩
theorem vK {e:Expr}{es:List Expr}{t:TG}{u:pR}(h1:PG X e t)(h2:xD X es u)
  (hs:(assignEach (e::es) X.env).map (·.2)=assign e X.env::(assignEach es X.env).map (·.2):=by rfl):xD X (e::es) (qG t u):=by
 intro pins s σ H vs us Q I r h
 obtain⟨v,vr,e1,h⟩:=h
 subst e1
 cases r with
 |cons r rr=>
  rw[hs]
  refine assignInOrder_cons (M8 (h1 pins s σ H _ _ _ I r h) λ_ s1 ⟨σ1,H1,I1,q1⟩=>?_)
  exact h2 pins s1 σ1 H1 _ _ Q I1 rr q1
def vF (K:Kd)(n:Nat)(t:pR):TG:=λv σ H Q=>∃a xs,v= .ref a/\SqT K H a xs/\xs.length=n/\t xs σ H Q
theorem Ap {es:List Expr}{k:Nat}{t:pR}{n:Nat}(hc:X.calm=true)(h:xD X es t)
  (hn:(assignEach es X.env).length=n:=by rfl) (OD:(assignEach es X.env).findIdx? (·.1)=none:=by rfl):PG X (.Tuple es k pos) (vF X.K n t):=by
 intro pins s σ H v u Q I r hw
 obtain⟨a,xs,e1,hq,hl,hw⟩:=hw
 subst e1
 cases r
 obtain⟨a_,rv,ht,hz⟩:=I.tuple hq
 refine assign_Tuple_tuple (I.ok.hd hc) ht (by simp [hn,←hl,rv.length]) OD λh' hx=>?_
 have I1:Inv X pins σ H {s with heap:=h'}:=I.kept (t':=s.toks) λb o e=>hx b o (FX (FN e)) e
 exact h pins _ σ H xs _ Q I1 (by simpa using rv) hw
def Ad (to ti:TE)(t:pY):TG:=λv σ H Q=>to σ H λo H1=>ti σ H1 λi H2=>t o i v H2 λH3=>Q σ H3
theorem zT {o i:Expr}{to ti:TE}{t:pY}(ho:PE X o to)(hi:PE X i ti)(hs:tI X t)
  (ha:∀v,assign (.Subscript o i pos) X.env v=(do
   let ov←holding [v] (eval o X.env)
   let iv←holding [v,ov] (eval i X.env)
   standAt pos
   holding [v,ov,iv] (setItem ov iv v)
   release [v,ov,iv] []):=by intro _;rfl):PG X (.Subscript o i pos) (Ad to ti t):=by
 intro pins s σ H v u Q I r h
 rw[ha]
 refine FQ (Hs (M8 (ho pins s σ H _ I h) λov s1 ⟨x,H1,I1,r1,q1⟩=>?_))
 refine FQ (Hs (M8 (hi pins s1 σ H1 _ I1 q1) λiv s2 ⟨y,H2,I2,r2,q2⟩=>?_))
 refine FQ (Km (FQ (Hs (M8 (hs pins s2 σ H2 x y v ov iv u _ I2 r1 r2 r q2) λ_ s3 ⟨H3,I3,q3⟩=>?_))))
 exact wpAny_release ⟨σ,H3,I3,q3⟩
def pL (te:TE)(g:TG):TS:=λD σ H=>te σ H λx H1=>g x σ H1 D.nx
theorem yY {tg e:Expr}{te:TE}{g:TG}(he:PE X e te)(hg:PG X tg g)(hs:swapsWithSole [tg] e pos.line X.env=pure false:=by rfl)(hw:swappedStores [tg] e X.env=pure none:=by rfl)
  (h1:(assignEach [tg] X.env).map (·.2)=[assign tg X.env]:=by rfl):PS X (.Assign [tg] e pos) (pL te g):=by
 intro pins s σ H D I h
 refine wpAny_Assign_stores (M8 (he pins s σ H _ I h) λv s1 ⟨x,H1,I1,r1,q1⟩=>?_) hs hw
 rw[h1]
 exact M8 (hg pins s1 σ H1 x v _ I1 r1 q1) λ_ s2 q=>q
theorem za {i:Nat}{x:Str}{e:Expr}{te:TE}{pos':Pos}(hN:X.N.Nodup)(hi:X.N[i]?=some x)(hx:yT X.env.scope x)(he:PE X e te)(hs:swapsWith e (some (.Name x pos')) pos.line X.env=pure false:=by rfl)(hf:X.fn x=true\/X.env.scope.names.lookup x=some .local:=by first|exact .inl rfl|exact .inr rfl|assumption):
  PS X (.Assign [.Name x pos'] e pos) (pL te (O5 i)):=by
 intro pins s σ H D I h
 refine wpAny_Assign_Name (M8 (he pins s σ H _ I h) λv s1 ⟨y,H1,I1,r1,q1⟩=>?_) hs
 exact oh I1 hN hi hx r1 (λs2 I2=>⟨_,H1,I2,q1⟩) hf
end
section
variable {X:Cx} {pos:Pos}
end
structure It where
 go:Nat->Hp->Prop
 yld:Nat->Hp->V->Hp->Prop
 stop:Nat->Hp->Prop
def dF (X:Cx)(pins:List (Addr×Obj))(H:Hp)(b:Addr):Prop:=
 H b=none/\b≠X.env.locals/\b∉X.fs/\(b∈X.ex\/X.s₀.heap.objs.size<=b)/\(∀x c,X.env.cells.lookup x=some c->c≠b)/\∀p∈X.pn++pins,p.1≠b
theorem Inv.fpOk {X:Cx}{pins:List (Addr×Obj)}{σ:St}{H H':Hp}{s:Shared}{b:Addr}(I:Inv X pins σ H s)(hb:s.heap.objs.size<=b)(hn:H' b=none):dF X pins H' b:=by
 refine⟨hn,KL (FP I.lt hb),I.nofs hb,.inr (GB I.sz hb),λx c e z=>?_,λp hp z=>?_⟩
 .obtain⟨v,q⟩:=I.cell x c e;exact absurd (FP q.lt (by rw[z];exact hb)) (Hf _)
 .exact absurd (FP (FN (I.pin p hp).1) (by rw[z];exact hb)) (Hf _)
structure fi (P:Program) (w:World) (K:Kd) (tg:Expr) (J:It) (fp:List Addr) (it:Addr) (tn:Nat->Heap->Prop):Prop where
 mem:it∈fp
 obj:∀i h,tn i h->∀b∈fp,∃o,h.get? b=some o/\∀v,o.data≠ .cell v
 keep:∀i h h',tn i h->(∀b∈fp,∀o,h.get? b=some o->h'.get? b=some o)->tn i h'
 item:∀(X:Cx),X.prog=P->X.w=w->X.K=K->X.calm=true->∀(i:Nat) (pins:List (Addr×Obj)) (s:Shared) (σ:St) (H:Hp) (E:Value->Shared->Prop),Inv X pins σ H s->(∀b∈fp,dF X pins H b)->tn i s.heap->J.go i H->
  wpAny (model P w) X.A (pyNext (.ref it)) (λr s1=>∃u,r=some u/\
   wpAny (model P w) X.A (letOwnedTupleGo tg (.ref it) u) (λ_ s2=>∃x H',Inv X pins σ H' s2/\RelV x u/\J.yld i H x H'/\tn (i+1) s2.heap/\∀b∈fp,H' b=none) E s1) E s
 done:∀(X:Cx),X.prog=P->X.w=w->X.K=K->X.calm=true->∀(i:Nat) (pins:List (Addr×Obj)) (s:Shared) (σ:St) (H:Hp) (E:Value->Shared->Prop),Inv X pins σ H s->(∀b∈fp,dF X pins H b)->tn i s.heap->J.stop i H->
  wpAny (model P w) X.A (pyNext (.ref it)) (λr s1=>r=none/\Inv X pins σ H s1) E s
 self:∀(A:Around) (i:Nat) (s:Shared) (Q:Value->Shared->Prop) (E:Value->Shared->Prop),tn i s.heap->Q (.ref it) s->wpAny (model P w) A (pyIter (.ref it)) Q E s
abbrev TI:=St->Hp->(It->Hp->Prop)->Prop
def Dv (X:Cx)(pins:List (Addr×Obj))(σ:St)(tg:Expr)(R:It->Hp->Prop)(OE:Value)(s2:Shared):Prop:=
 ∃(it:Addr) (fp:List Addr) (tn:Nat->Heap->Prop) (J:It) (H':Hp),OE= .ref it/\Inv X pins σ H' s2/\fi X.prog X.w X.K tg J fp it tn/\tn 0 s2.heap/\(∀b∈fp,dF X pins H' b)/\R J H'
def PI (X:Cx)(tg iter:Expr)(wi:TI):Prop:=
 ∀(pins:List (Addr×Obj)) (s:Shared) (σ:St) (H:Hp) (R:It->Hp->Prop),Inv X pins σ H s->wi σ H R->
  wpAny (model X.prog X.w) X.A (eval iter X.env) (λv s1=>wpAny (model X.prog X.w) X.A (pyIter v) (Dv X pins σ tg R) X.xe s1) X.xe s
theorem oG {M : Model} {A : Around} {E : Value -> Shared -> Prop} {s : Shared} {tg : Expr} {it : Addr} {u : Value} {o : Obj} {n : String} {vs : Array Value} {Q : Unit -> Shared -> Prop} (ho : s.heap.get? it = some o) (hc : o.cls = .type n) (hd : o.data = .fields vs)
    (hn : ["enumerate", "zip", "dict_itemiterator", "dict_reverseitemiterator", "odict_iterator", "itertools.zip_longest", "itertools.pairwise"].contains n = false) (hQ : Q () s) : wpAny M A (letOwnedTupleGo tg (.ref it) u) Q E s := by
  unfold letOwnedTupleGo
  cases tg <;> first
    | exact Gm hQ
    | (cases u <;> first
        | exact Gm hQ
        | (refine FQ (wpAny_load ho ?_)
           rw [hc, hd]
           show wpAny M A (if (["enumerate", "zip", "dict_itemiterator", "dict_reverseitemiterator", "odict_iterator", "itertools.zip_longest", "itertools.pairwise"].contains n && vs[0]? == some (rawInt _)) = true then _ else _) Q E s
           rw [if_neg (by intro h; rw [hn, Bool.false_and] at h; cases h)]
           exact Gm hQ))
def Itl (K:Kd)(a:Addr):It:=
 ⟨λi H=>∃xs x,SqL K H a xs/\xs[i]?=some x,λi H x H'=>H'=H/\∀xs,SqL K H a xs->xs[i]?=some x,λi H=>∃xs,SqL K H a xs/\xs.length<=i⟩
def EI (K:Kd)(a:Addr):It:=
 ⟨λi H=>∃xs x,SqT K H a xs/\xs[i]?=some x,λi H x H'=>H'=H/\∀xs,SqT K H a xs->xs[i]?=some x,λi H=>∃xs,SqT K H a xs/\xs.length<=i⟩
def Dy (lo:Int)(n:Nat):It:=⟨λi _=>i<n,λi H x H'=>H'=H/\x= .int (lo+i),λi _=>n<=i⟩
theorem tM {P:Program}{w:World}{K:Kd}{tg:Expr}(a it:Addr):fi P w K tg (Itl K a) [it] it (λi h=>h.IsListIter it a i) where
 mem:=by simp
 obj:=λi h st b hb=>by
  have e:b=it:=by simpa using hb
  subst e;obtain⟨o,e,c,d⟩:=st;exact⟨o,e,λv z=>by rw[d] at z;cases z⟩
 keep:=λi h h' st k=>st.at λo e=>k it (by simp) o e
 item:=by
  intro X hP hw hK hc i pins s σ H E I hf st hg;subst hP hw hK;obtain⟨xs,x,hq,hx⟩:=hg;obtain⟨a_,rv,p,hz⟩:=I.list hq;obtain⟨u,hu,ru⟩:=rv.get hx;obtain⟨f0,f1,f2,f3,f4,f5⟩:=hf it (by simp);refine IF st p.isList (x:=u) (by simpa using hu) λh' A_ sb=>?_;have I1:Inv X pins σ H {s with heap:=h'}:=I.turned (t':=s.toks) (λb o hb e=>(sb.2 b hb).trans e) f0 f1 f3 f4 f5;obtain⟨o,e,c,d⟩:=id A_;exact⟨u,rfl,oG (s:={s with heap:=h'}) e c d (by decide) ⟨x,H,I1,ru,⟨rfl,λys hy=>by rw[I.list_inj hy hq];exact hx⟩,A_,λb hb=>(hf b hb).1⟩⟩
 done:=by
  intro X hP hw hK hc i pins s σ H E I hf st hg;subst hP hw hK;obtain⟨xs,hq,hx⟩:=hg;obtain⟨a_,rv,p,hz⟩:=I.list hq;obtain⟨f0,f1,f2,f3,f4,f5⟩:=hf it (by simp);have hl:=rv.length;exact IK (I.ok.hd hc) st p.isList (by simp;lia) λh' eb=>⟨rfl,I.turned (t':=s.toks) (λb o hb e=>eb b o hb e) f0 f1 f3 f4 f5⟩
 self:=λ_ _ _ _ _ st h=>wpAny_pyIter_listiter st h
theorem qv {P:Program}{w:World}{K:Kd}{tg:Expr}(a it:Addr):fi P w K tg (EI K a) [it] it (λi h=>h.IsTupleIter it a i) where
 mem:=by simp
 obj:=λi h st b hb=>by
  have e:b=it:=by simpa using hb
  subst e;obtain⟨o,e,c,d⟩:=st;exact⟨o,e,λv z=>by rw[d] at z;cases z⟩
 keep:=λi h h' st k=>st.at λo e=>k it (by simp) o e
 item:=by
  intro X hP hw hK hc i pins s σ H E I hf st hg;subst hP hw hK;obtain⟨xs,x,hq,hx⟩:=hg;obtain⟨a_,rv,p,hz⟩:=I.tuple hq;obtain⟨u,hu,ru⟩:=rv.get hx;obtain⟨f0,f1,f2,f3,f4,f5⟩:=hf it (by simp);refine wpAny_pyNext_tuple_item st (show s.heap.IsTuple a a_.toArray from p) (x:=u) (by simpa using hu) λh' A_ sb=>?_;have I1:Inv X pins σ H {s with heap:=h'}:=I.turned (t':=s.toks) (λb o hb e=>(sb.2 b hb).trans e) f0 f1 f3 f4 f5;obtain⟨o,e,c,d⟩:=id A_;exact⟨u,rfl,oG (s:={s with heap:=h'}) e c d (by decide) ⟨x,H,I1,ru,⟨rfl,λys hy=>by rw[I.tuple_inj hy hq];exact hx⟩,A_,λb hb=>(hf b hb).1⟩⟩
 done:=by
  intro X hP hw hK hc i pins s σ H E I hf st hg;subst hP hw hK;obtain⟨xs,hq,hx⟩:=hg;obtain⟨a_,rv,p,hz⟩:=I.tuple hq;obtain⟨f0,f1,f2,f3,f4,f5⟩:=hf it (by simp);have hl:=rv.length;exact wpAny_pyNext_tuple_end (I.ok.hd hc) st (show s.heap.IsTuple a a_.toArray from p) (by simp;lia) λh' eb=>⟨rfl,I.turned (t':=s.toks) (λb o hb e=>eb b o hb e) f0 f1 f3 f4 f5⟩
 self:=λ_ _ _ _ _ st h=>wpAny_pyIter_tupleiter st h
theorem qc {P:Program}{w:World}{K:Kd}{tg:Expr}(it:Addr)(lo:Int)(n:Nat):fi P w K tg (Dy lo n) [it] it (λi h=>IsRangeIter h it (lo+(i:Nat)*1) ((n:Int) -(i:Nat)) 1) where
 mem:=by simp
 obj:=λi h st b hb=>by
  have e:b=it:=by simpa using hb
  subst e;exact⟨_,st,λv z=>by
   have z':Data.fields _=Data.cell v:=z;cases z'⟩
 keep:=λi h h' st k=>k it (by simp) _ st
 item:=by
  intro X hP hw hK hc i pins s σ H E I hf st hg;subst hP hw hK;obtain⟨f0,f1,f2,f3,f4,f5⟩:=hf it (by simp);have W:=Walks.range (prog:=X.prog) (w:=X.w) (I.ok.hd hc) it lo 1 n;refine W.item i s _ _ hg st λv h' tk hv A_ kk=>?_;obtain⟨t,rfl⟩:=hv;have I1:Inv X pins σ H {s with heap:=h',toks:=tk}:=I.turned (λb o hb e=>kk b o (by simpa using hb) e) f0 f1 f3 f4 f5;refine⟨_,rfl,oG (s:={s with heap:=h',toks:=tk}) (n:="range_iterator") A_ rfl rfl (by decide) ⟨.int (lo+i),H,I1,⟨t,?_⟩,⟨rfl,rfl⟩,A_,λb hb=>(hf b hb).1⟩⟩;rw[Int.mul_one]
 done:=by
  intro X hP hw hK hc i pins s σ H E I hf st hg;subst hP hw hK;obtain⟨f0,f1,f2,f3,f4,f5⟩:=hf it (by simp);exact wpAny_pyNext_range_end (I.ok.hd hc) st (by have:n<=i:=hg;lia) λh' eb=>⟨rfl,I.turned (t':=s.toks) (λb o hb e=>eb b o hb e) f0 f1 f3 f4 f5⟩
 self:=λ_ _ _ _ _ st h=>wpAny_pyIter_rangeiter st h
section
variable {X:Cx} {tg:Expr}
theorem wX {pins:List (Addr×Obj)}{σ:St}{H:Hp}{s:Shared}{R:It->Hp->Prop}{E:Value->Shared->Prop}{lo hi:Int}{t u v:Tok}{tk:Nat}(I:Inv X pins σ H s)(h1: -(2 ^ 62)<=lo)(h2:lo<2 ^ 62)(h3: -(2 ^ 62)<=hi)(h4:hi<2 ^ 62)
  (q:R (Dy lo (hi -lo).toNat) H):wpAny (model X.prog X.w) X.A (pyIter (.ref s.heap.objs.size)) (Dv X pins σ tg R) E {s with heap:=s.heap.push {cls:= .type "range",data:= .fields #[.int lo t,.int hi u,.int 1 v]},toks:=tk}:=by
 refine wpAny_pyIter_range (IsRange.new ..) (small_one h1 h2 h3 h4) ?_
 have I1:Inv X pins σ H {s with heap:=s.heap.push {cls:= .type "range",data:= .fields #[.int lo t,.int hi u,.int 1 v]},toks:=tk}:=I.kept λb o e=>FG _ e
 refine⟨(s.heap.push {cls:= .type "range",data:= .fields #[.int lo t,.int hi u,.int 1 v]}).objs.size,[(s.heap.push {cls:= .type "range",data:= .fields #[.int lo t,.int hi u,.int 1 v]}).objs.size],_,_,H,rfl,
  I1.kept (t':=tk) λb o e=>FG _ e,qc _ lo (hi -lo).toNat,?_,λb hb=>?_,q⟩
 .have e1:lo+((0:Nat):Int)*1=lo:=by simp
  have e2:(((hi -lo).toNat:Nat):Int) -((0:Nat):Int)=Builtin.Range.rangeSize lo hi 1:=by rw[rangeSize_one];split<;>lia
  show IsRangeIter _ _ (lo+((0:Nat):Int)*1) ((((hi -lo).toNat:Nat):Int) -((0:Nat):Int)) 1
  rw[e1,e2]
  exact FW _ rfl
 .have e:b=(s.heap.push {cls:= .type "range",data:= .fields #[.int lo t,.int hi u,.int 1 v]}).objs.size:=by simpa using hb
  subst e
  exact I1.fpOk (Fz _) (I1.hok.fresh (Fz _))
def uu (ta:TA):TI:=λσ H R=>ta σ H λvs H1=>∃j:Int,vs=[.int j]/\-(2 ^ 62)<=j/\j<2 ^ 62/\R (Dy 0 j.toNat) H1
theorem rS {a:Expr}{ta:TA}{p pos:Pos}(hg:Gl X "range")(hm:X.mg "range"=none)(ha:PA X [a] ta)(hs:starEach [a] X.env=[(false,eval a X.env)]:=by rfl):PI X tg (.Call (.Name "range" p) [a] [] pos) (uu ta):=by
 intro pins s σ H R I h;refine Call_ (eV I hg hm boot_range (Hv (M8 (ha pos pins s σ H _ I h) λus s1 ⟨vs,H1,I1,r1,q1⟩=>?_) hs rfl));obtain⟨j,e,q1,q2,q⟩:=q1;subst e;cases r1 with
 |cons r rr=>
  cases rr
  obtain⟨t,rfl⟩:=r
  exact call_range_1 (wX I1 (by lia) (by lia) q1 q2 (by simpa using q))
def iL (fp:List Addr)(h:Heap):List (Addr×Obj):=fp.filterMap λb=>(h.get? b).map λo=>(b,o)
theorem au {fp:List Addr}{h:Heap}{b:Addr}{o:Obj}(hb:b∈fp)(e:h.get? b=some o):(b,o)∈iL fp h:=Iy.mpr ⟨b,hb,by rw[e];rfl⟩
theorem tS {fp:List Addr}{h:Heap}{p:Addr×Obj}(hp:p∈iL fp h):p.1∈fp/\h.get? p.1=some p.2:=by
 obtain⟨b,hb,e⟩:=Iy.mp hp;cases q:h.get? b with
 |none=>rw[q] at e;cases e
 |some o=>
  rw[q] at e
  have e':(b,o)=p:=Ga e
  subst e'
  exact⟨hb,q⟩
theorem Inv.pinned {pins:List (Addr×Obj)}{σ:St}{H:Hp}{s:Shared}{fp:List Addr}(I:Inv X pins σ H s)(hf:∀b∈fp,dF X pins H b)(ho:∀b∈fp,∃o,s.heap.get? b=some o/\∀v,o.data≠ .cell v):Inv X (pins++iL fp s.heap) σ H s:=
 I.pins_of λp hp=>(FC.mp hp).elim (λz=>I.pin p (FA _ z)) λz=>by
  obtain⟨hb,e⟩:=tS z;obtain⟨f0,f1,f2,_⟩:=hf p.1 hb;obtain⟨o,e',d⟩:=ho p.1 hb;rw[e] at e';cases e';exact⟨e,f0,f1,f2,d⟩
theorem Inv.unpinned {pins pl:List (Addr×Obj)}{σ:St}{H:Hp}{s:Shared}(I:Inv X (pins++pl) σ H s):Inv X pins σ H s:=I.pins_of λp hp=>I.pin p (FA _ (Fy _ hp))
end
abbrev R2:=V->V->Hp->VK->Prop
def OpR (X:Cx)(f:Value->Value->Sem Value)(r:R2):Prop:=
 ∀(pins:List (Addr×Obj)) (s:Shared) (σ:St) (H:Hp) (x y:V) (v u:Value) (Q:VK),Inv X pins σ H s->RelV x v->RelV y u->r x y H Q->
  wpAny (model X.prog X.w) X.A (f v u) (EP X pins σ Q) X.xe s
def Ds (X:Cx)(f:Value->Sem Value)(r:V->Hp->VK->Prop):Prop:=
 ∀(pins:List (Addr×Obj)) (s:Shared) (σ:St) (H:Hp) (x:V) (v:Value) (Q:VK),Inv X pins σ H s->RelV x v->r x H Q->
  wpAny (model X.prog X.w) X.A (f v) (EP X pins σ Q) X.xe s
def CallR (X:Cx)(f:Value)(r:List V->Hp->VK->Prop):Prop:=
 ∀(pins:List (Addr×Obj)) (s:Shared) (σ:St) (H:Hp) (xs:List V) (us:List Value) (Q:VK),Inv X pins σ H s->Vals xs us->r xs H Q->
  wpAny (model X.prog X.w) X.A (call f us) (EP X pins σ Q) X.xe s
def DF (X:Cx)(r:V->Hp->(Bool->Hp->Prop)->Prop):Prop:=
 ∀(pins:List (Addr×Obj)) (s:Shared) (σ:St) (H:Hp) (x:V) (v:Value) (Q:Bool->Hp->Prop),Inv X pins σ H s->RelV x v->r x H Q->
  wpAny (model X.prog X.w) X.A (truthy v) (TP X pins σ Q) X.xe s
def xg (r:R2)(ta tb:TE):TE:=λσ H Q=>ta σ H λx H1=>tb σ H1 λy H2=>r x y H2 Q
def El (r:V->Hp->VK->Prop)(ta:TE):TE:=λσ H Q=>ta σ H λx H1=>r x H1 Q
def rI (C:Int->Int->Prop)(g:Int->Int->V):R2:=λx y H Q=>∃i j,x= .int i/\y= .int j/\C i j/\Q (g i j) H
def xf (g:Int->Int->V):R2:=λx y H Q=>∃i j,x= .int i/\y= .int j/\Q (g i j) H
def rU (g:Int->V):V->Hp->VK->Prop:=λx H Q=>∃i,x= .int i/\Q (g i) H
section
variable {X:Cx} {a b c:Expr} {ta tb tc:TE} {pos:Pos}
theorem AQ (ha:PE X a ta)(hb:PE X b tb){pins:List (Addr×Obj)}{s:Shared}{σ:St}{H:Hp}{R:V->V->Hp->Prop}(I:Inv X pins σ H s)
  (h:ta σ H λx H1=>tb σ H1 λy H2=>R x y H2) {Q:Value->Shared->Prop} {f:Value->Value->Sem Value}
  (hf:∀v u s2 x y H2,Inv X pins σ H2 s2->RelV x v->RelV y u->R x y H2->wpAny (model X.prog X.w) X.A (f v u) Q X.xe s2):
  wpAny (model X.prog X.w) X.A (eval a X.env) (λv s₁=>wpAny (model X.prog X.w) X.A (eval b X.env) (λu s₂=>wpAny (model X.prog X.w) X.A (f v u) Q X.xe s₂) X.xe s₁) X.xe s:=by
 refine M8 (ha pins s σ H _ I h) λv s1 ⟨x,H1,I1,r1,q1⟩=>?_
 refine M8 (hb pins s1 σ H1 _ I1 q1) λu s2 ⟨y,H2,I2,r2,q2⟩=>?_
 exact hf v u s2 x y H2 I2 r1 r2 q2
theorem BM {op:Operator}{r:R2}(ho:OpR X (binaryOp op) r)(ha:PE X a ta)(hb:PE X b tb):PE X (.BinOp a op b pos) (xg r ta tb):=by
 intro pins s σ H Q I h;exact wpAny_BinOp (AQ ha hb I h λv u s2 x y H2 I2 rx ry q=>ho pins s2 σ H2 x y v u Q I2 rx ry q)
theorem Bs {op:UnaryOp}{r:V->Hp->VK->Prop}(ho:Ds X (unaryOp op) r)(ha:PE X a ta):PE X (.UnaryOp op a pos) (El r ta):=by
 intro pins s σ H Q I h;exact UnaryOp_ (M8 (ha pins s σ H _ I h) λv s1 ⟨x,H1,I1,r1,q1⟩=>ho pins s1 σ H1 x v Q I1 r1 q1)
theorem Dn {f:Value->Value->Sem Value}{C:Int->Int->Prop}{g:Int->Int->Int}
  (rule:∀(i j:Int) (t u:Tok) (s:Shared) (Q:Value->Shared->Prop) (E:Value->Shared->Prop),C i j->Q (.int (g i j) s.toks) {s with toks:=s.toks+1}->wpAny (model X.prog X.w) X.A (f (.int i t) (.int j u)) Q E s):
  OpR X f (rI C λi j=> .int (g i j)):=by
 intro pins s σ H x y v u Q I rx ry h
 obtain⟨i,j,rfl,rfl,hc,q⟩:=h
 obtain⟨t,rfl⟩:=rx
 obtain⟨t',rfl⟩:=ry
 exact rule i j t t' s _ _ hc ⟨.int (g i j),H,I.tok _,⟨_,rfl⟩,q⟩
theorem Av {f:Value->Value->Sem Value}{g:Int->Int->Int}
  (rule:∀(i j:Int) (t u:Tok) (s:Shared) (Q:Value->Shared->Prop) (E:Value->Shared->Prop),Q (.int (g i j) s.toks) {s with toks:=s.toks+1}->wpAny (model X.prog X.w) X.A (f (.int i t) (.int j u)) Q E s):
  OpR X f (xf λi j=> .int (g i j)):=by
 intro pins s σ H x y v u Q I rx ry h
 obtain⟨i,j,rfl,rfl,q⟩:=h
 obtain⟨t,rfl⟩:=rx
 obtain⟨t',rfl⟩:=ry
 exact rule i j t t' s _ _ ⟨.int (g i j),H,I.tok _,⟨_,rfl⟩,q⟩
theorem Dc {f:Value->Value->Sem Value}{g:Int->Int->Bool}
  (rule:∀(i j:Int) (t u:Tok) (s:Shared) (Q:Value->Shared->Prop) (E:Value->Shared->Prop),Q (.bool (g i j)) s->wpAny (model X.prog X.w) X.A (f (.int i t) (.int j u)) Q E s):
  OpR X f (xf λi j=> .bl (g i j)):=by
 intro pins s σ H x y v u Q I rx ry h
 obtain⟨i,j,rfl,rfl,q⟩:=h
 obtain⟨t,rfl⟩:=rx
 obtain⟨t',rfl⟩:=ry
 exact rule i j t t' s _ _ ⟨.bl (g i j),H,I,rfl,q⟩
def CC (i j:Int):Prop:=0<j/\j<1073741824
def DR (i j:Int):Prop:=0<=j/\j<=1000000/\i.natAbs<2 ^ 64
def CMul (i j:Int):Prop:=(-(2 ^ 64)<i/\i<2 ^ 64)\/(-(2 ^ 64)<j/\j<2 ^ 64)
theorem CMul.ok {i j:Int}(h:CMul i j):IntMulOk i j:=by
 rcases h with⟨h1,h2⟩|⟨h1,h2⟩
 .exact .of_left (intBits_le_64 h1 h2)
 .exact .of_right (intBits_le_64 h1 h2)
theorem qk (k:Nat):(0:Int)<=2 ^ k:=by
 rw[two_pow_cast];exact Int.natCast_nonneg _
theorem op_add:OpR X (binaryOp .Add) (xf λi j=> .int (i+j)):=Av λ_ _ _ _ _ _ _ q=>add_int q
theorem kX:OpR X (binaryOp .Sub) (xf λi j=> .int (i -j)):=Av λ_ _ _ _ _ _ _ q=>sub_int q
theorem op_mul:OpR X (binaryOp .Mult) (rI CMul λi j=> .int (i*j)):=Dn λ_ _ _ _ _ _ _ hc q=>mul_int q hc.ok
theorem D0:OpR X (binaryOp .FloorDiv) (rI CC λi j=> .int (i/j)):=Dn λi j _ _ _ _ _ hc q=>by
 have h1:(0:Int)<j:=hc.1;have h2:j<1073741824:=hc.2;exact floordiv_int (by lia) (by rw[Ja i (by lia)];exact q) (.inl (PyProof.noPylong_small (by lia)))
theorem p5:OpR X (binaryOp .Mod) (rI (λ_ j=>0<j) λi j=> .int (i % j)):=Dn λi j _ _ _ _ _ hc q=>by
 have h1:(0:Int)<j:=hc;exact mod_int' (by lia) (by rw[Int.fmod_eq_emod_of_nonneg i (by lia)];exact q)
theorem tY:OpR X (binaryOp .RShift) (rI (λ_ j=>0<=j) λi j=> .int (i/2 ^ j.toNat)):=Dn λi j _ _ _ _ _ hc q=>
 rshift_int hc (by rw[Ja i (qk _)];exact q)
theorem vg:OpR X (binaryOp .BitAnd) (xf λi j=> .int (Builtin.bitAnd i j)):=Av λ_ _ _ _ _ _ _ q=>and_int q
theorem Fl {f:Value->Sem Value}{g:Int->Int}
  (rule:∀(i:Int) (t:Tok) (s:Shared) (Q:Value->Shared->Prop) (E:Value->Shared->Prop),Q (.int (g i) s.toks) {s with toks:=s.toks+1}->wpAny (model X.prog X.w) X.A (f (.int i t)) Q E s):
  Ds X f (rU λi=> .int (g i)):=by
 intro pins s σ H x v Q I rx h
 obtain⟨i,rfl,q⟩:=h
 obtain⟨t,rfl⟩:=rx
 exact rule i t s _ _ ⟨.int (g i),H,I.tok _,⟨_,rfl⟩,q⟩
theorem bC:Ds X (unaryOp .USub) (rU λi=> .int (-i)):=Fl λ_ _ _ _ _ q=>neg_int q
end
def CK:V->V->Bool
 | .non,.non=>true| .non,.int _=>true| .int _,.non=>true| .non,.bl _=>true| .bl _,.non=>true| .non,.str _=>true| .str _,.non=>true
 | .int _,.int _=>true| .bl _,.bl _=>true| .str _,.str _=>true| .byt _,.byt _=>true
 | .int _,.str _=>true| .str _,.int _=>true| .bl _,.str _=>true| .str _,.bl _=>true
 |_,_=>false
def Dt:R2:=λx y H Q=>CK x y=true/\Q (.bl (decide (x=y))) H
def DO:R2:=λx y H Q=>CK x y=true/\Q (.bl (!decide (x=y))) H
theorem gG {i j:Int}:decide (V.int i=V.int j)=(i==j):=by
 rw[GC];simp
theorem uy {i j:Bool}:decide (V.bl i=V.bl j)=(i==j):=by
 rw[GC];simp
theorem mq {i j:Str}:decide (V.str i=V.str j)=(i==j):=by
 rw[GC];simp
theorem rK {i j:Array UInt8}:decide (V.byt i=V.byt j)=(i.toList==j.toList):=by
 rw[GC];cases i;cases j;simp
section
variable {X:Cx} {a b c:Expr} {ta tb tc:TE} {pos:Pos}
theorem A0 {pins:List (Addr×Obj)}{σ:St}{H:Hp}{s:Shared}{Q:VK}{k k':Bool}(I:Inv X pins σ H s)(q:Q (.bl k) H)(e:k=k'):EP X pins σ Q (.bool k') s:=by
 subst e;exact⟨.bl k,H,I,rfl,q⟩
theorem op_eq:OpR X (compareOp .Eq) Dt:=by
 intro pins s σ H x y v u Q I rx ry h;obtain⟨hs,q⟩:=h;cases x with
 |non=>
  cases rx
  cases y with
  |non=>cases ry;exact PySem.EqNone.eq_none_none (A0 I q (by simp))
  |bl j=>cases ry;exact PySem.EqNone.eq_none_bool (A0 I q (by simp))
  |int j=>obtain⟨t',rfl⟩:=ry;exact PySem.EqNone.eq_none_int (A0 I q (by simp))
  |str j=>obtain⟨t',rfl⟩:=ry;exact PySem.EqNone.eq_none_str (A0 I q (by simp))
  |_=>exact absurd (show false=true from hs) Gi
 |bl i=>
  cases rx
  cases y with
  |non=>cases ry;exact PySem.EqNone.eq_bool_none (A0 I q (by simp))
  |bl j=>cases ry;exact eq_bool (A0 I q uy)
  |str j=>obtain⟨t',rfl⟩:=ry;exact PySem.EqMixed.eq_bool_str (A0 I q (by simp))
  |_=>exact absurd (show false=true from hs) Gi
 |int i=>
  obtain⟨t,rfl⟩:=rx
  cases y with
  |non=>cases ry;exact PySem.EqNone.eq_int_none (A0 I q (by simp))
  |int j=>obtain⟨t',rfl⟩:=ry;exact eq_int (A0 I q gG)
  |str j=>obtain⟨t',rfl⟩:=ry;exact PySem.EqMixed.eq_int_str (A0 I q (by simp))
  |_=>exact absurd (show false=true from hs) Gi
 |str i=>
  obtain⟨t,rfl⟩:=rx
  cases y with
  |non=>cases ry;exact PySem.EqNone.eq_str_none (A0 I q (by simp))
  |bl j=>cases ry;exact PySem.EqMixed.eq_str_bool (A0 I q (by simp))
  |int j=>obtain⟨t',rfl⟩:=ry;exact PySem.EqMixed.eq_str_int (A0 I q (by simp))
  |str j=>obtain⟨t',rfl⟩:=ry;exact eq_str (A0 I q mq)
  |_=>exact absurd (show false=true from hs) Gi
 |byt i=>
  obtain⟨t,rfl⟩:=rx
  cases y with
  |byt j=>obtain⟨t',rfl⟩:=ry;exact PySem.W.eq_bytes (A0 I q rK)
  |_=>exact absurd (show false=true from hs) Gi
 |_=>cases y<;>exact absurd (show false=true from hs) Gi
theorem op_ne:OpR X (compareOp .NotEq) DO:=by
 intro pins s σ H x y v u Q I rx ry h;obtain⟨hs,q⟩:=h;cases x with
 |non=>
  cases rx
  cases y with
  |non=>cases ry;exact PySem.EqNone.ne_none_none (A0 I q (by simp))
  |bl j=>cases ry;exact PySem.EqNone.ne_none_bool (A0 I q (by simp))
  |int j=>obtain⟨t',rfl⟩:=ry;exact PySem.EqNone.ne_none_int (A0 I q (by simp))
  |str j=>obtain⟨t',rfl⟩:=ry;exact PySem.EqNone.ne_none_str (A0 I q (by simp))
  |_=>exact absurd (show false=true from hs) Gi
 |bl i=>
  cases rx
  cases y with
  |non=>cases ry;exact PySem.EqNone.ne_bool_none (A0 I q (by simp))
  |bl j=>cases ry;exact ne_bool (A0 I q (GY not uy))
  |str j=>obtain⟨t',rfl⟩:=ry;exact PySem.EqMixed.ne_bool_str (A0 I q (by simp))
  |_=>exact absurd (show false=true from hs) Gi
 |int i=>
  obtain⟨t,rfl⟩:=rx
  cases y with
  |non=>cases ry;exact PySem.EqNone.ne_int_none (A0 I q (by simp))
  |int j=>obtain⟨t',rfl⟩:=ry;exact ne_int (A0 I q (GY not gG))
  |str j=>obtain⟨t',rfl⟩:=ry;exact PySem.EqMixed.ne_int_str (A0 I q (by simp))
  |_=>exact absurd (show false=true from hs) Gi
 |str i=>
  obtain⟨t,rfl⟩:=rx
  cases y with
  |non=>cases ry;exact PySem.EqNone.ne_str_none (A0 I q (by simp))
  |bl j=>cases ry;exact PySem.EqMixed.ne_str_bool (A0 I q (by simp))
  |int j=>obtain⟨t',rfl⟩:=ry;exact PySem.EqMixed.ne_str_int (A0 I q (by simp))
  |str j=>obtain⟨t',rfl⟩:=ry;exact ne_str (A0 I q (GY not mq))
  |_=>exact absurd (show false=true from hs) Gi
 |byt i=>
  obtain⟨t,rfl⟩:=rx
  cases y with
  |byt j=>obtain⟨t',rfl⟩:=ry;exact PySem.W.ne_bytes (A0 I q (GY not rK))
  |_=>exact absurd (show false=true from hs) Gi
 |_=>cases y<;>exact absurd (show false=true from hs) Gi
theorem op_lt:OpR X (compareOp .Lt) (xf λi j=> .bl (decide (i<j))):=Dc λ_ _ _ _ _ _ _ q=>lt_int q
theorem wm:OpR X (compareOp .Gt) (xf λi j=> .bl (decide (j<i))):=Dc λ_ _ _ _ _ _ _ q=>gt_int q
theorem sI:OpR X (compareOp .Lt) (λx y H Q=>∃i j,x= .str i/\y= .str j/\Q (.bl (decide (i.cps.toList<j.cps.toList))) H):=by
 intro pins s σ H x y v u Q I rx ry h;obtain⟨i,j,rfl,rfl,q⟩:=h;obtain⟨t,rfl⟩:=rx;obtain⟨t',rfl⟩:=ry;exact lt_str (A0 I q rfl)
theorem tw:OpR X (compareOp .In) (λx y H Q=>∃i j,x= .str i/\y= .str j/\Q (.bl (!(Builtin.Str.occurrences j i 0 j.length 1).isEmpty)) H):=by
 intro pins s σ H x y v u Q I rx ry h;obtain⟨i,j,rfl,rfl,q⟩:=h;obtain⟨t,rfl⟩:=rx;obtain⟨t',rfl⟩:=ry;exact in_str (A0 I q rfl)
theorem OpR.or {f:Value->Value->Sem Value}{r r':R2}(h:OpR X f r)(h':OpR X f r'):OpR X f (λx y H Q=>r x y H Q\/r' x y H Q):=by
 intro pins s σ H x y v u Q I rx ry q;rcases q with q|q
 .exact h pins s σ H x y v u Q I rx ry q
 .exact h' pins s σ H x y v u Q I rx ry q
theorem r9 (b:Expr){op:CmpOp}(h:op≠ .In:=by decide)(h2:op≠ .NotIn:=by decide):behindInMarks op b=false:=by
 have e1:(op==CmpOp.In)=false:=by cases op<;>first|rfl|exact absurd rfl h
 have e2:(op==CmpOp.NotIn)=false:=by cases op<;>first|rfl|exact absurd rfl h2
 cases b<;>simp [behindInMarks,e1,e2]
theorem xA {op:CmpOp}{r:R2}(ho:OpR X (compareOp op) r)(ha:PE X a ta)(hb:PE X b tb)(hm:behindInMarks op b=false):PE X (.Compare a [op] [b] pos) (xg r ta tb):=by
 intro pins s σ H Q I h;exact wpAny_Compare1 (AQ ha hb I h λv u s2 x y H2 I2 rx ry q=>ho pins s2 σ H2 x y v u Q I2 rx ry q) hm
def uk (t:TE):TT:=λσ H Q=>t σ H λx H'=>∃k,x= .bl k/\Q k H'
theorem xP {op:CmpOp}{r:R2}(ho:OpR X (compareOp op) r)(ha:PE X a ta)(hb:PE X b tb)(hm:behindInMarks op b=false):PT X (.Compare a [op] [b] pos) (uk (xg r ta tb)):=by
 intro pins s σ H Q I h;refine wpAny_isTrue_Compare1 (M8 (ha pins s σ H _ I h) λv s1 ⟨x,H1,I1,r1,q1⟩=>M8 (hb pins s1 σ H1 _ I1 q1) λu s2 ⟨y,H2,I2,r2,q2⟩=>
  M8 (ho pins s2 σ H2 x y v u _ I2 r1 r2 q2) λc s3 ⟨z,H3,I3,r3,k,e,q3⟩=>?_) hm
 subst e;cases r3;exact Hm ⟨H3,I3,q3⟩
def wR (K:Kd)(x:V)(H:Hp)(k:Bool):Prop:=
 match x with
 | .non=>k=false
 | .bl b=>k=b
 | .int i=>k=(i !=0)
 | .str y=>y.length<=sizeLine/\k=((y.length:Int) !=0)
 | .byt y=>y.size<=sizeLine/\k=((y.size:Int) !=0)
 | .ref p=>(∃xs,SqL K H p xs/\k=!xs.isEmpty)\/(∃xs,SqT K H p xs/\k=!xs.isEmpty)\/∃kvs,H p=some (.dK kvs)/\k=!kvs.isEmpty
 |_=>False
theorem pO {κ:Type}{kvs:List (κ×V)}{vs:List (κ×Value)}(r:KV kvs vs):(!vs.isEmpty)=!kvs.isEmpty:=by
 cases r<;>rfl
theorem jj {xs:List V}{a_:List Value}(r:Vals xs a_):(!a_.toArray.isEmpty)=!xs.isEmpty:=by
 cases r<;>simp
theorem fC:(sizeLine:Nat)<2 ^ 63:=by rw[Kc];decide
theorem Bh:DF X (λx H Q=>∃k,wR X.K x H k/\Q k H):=by
 intro pins s σ H x v Q I rx h;obtain⟨k,e,q⟩:=h;have hl:=fC;have hs:sizeLine=16777216:=Kc;cases x with
 |non=>
  cases rx
  have e':k=false:=e
  subst e'
  exact truthy_none ⟨H,I,q⟩
 |bl b=>
  cases rx
  have e':k=b:=e
  subst e'
  exact Hm ⟨H,I,q⟩
 |int i=>
  obtain⟨t,rfl⟩:=rx
  have e':k=(i !=0):=e
  subst e'
  exact PySem.P.truthy_int ⟨H,I,q⟩
 |str y=>
  obtain⟨t,rfl⟩:=rx
  obtain⟨hy,e'⟩:y.length<=sizeLine/\k=((y.length:Int) !=0):=e
  subst e'
  exact PySem.P.truthy_str (by lia) ⟨H,I.tok _,q⟩
 |byt y=>
  obtain⟨t,rfl⟩:=rx
  obtain⟨hy,e'⟩:y.size<=sizeLine/\k=((y.size:Int) !=0):=e
  subst e'
  exact PySem.W.truthy_bytes (by lia) ⟨H,I.tok _,q⟩
 |ref p=>
  cases rx
  have e':(∃xs,SqL X.K H p xs/\k=!xs.isEmpty)\/(∃xs,SqT X.K H p xs/\k=!xs.isEmpty)\/∃kvs,H p=some (.dK kvs)/\k=!kvs.isEmpty:=e
  rcases e' with⟨xs,hx,e'⟩|⟨xs,hx,e'⟩|⟨kvs,hx,e'⟩
  .subst e'
   obtain⟨a_,r,pl,hz⟩:=I.list hx
   have hlen:=r.length
   exact wpAny_truthy_list pl.isList (by simp only[FV];lia) ⟨H,I.tok _,by rw[jj r];exact q⟩
  .subst e'
   obtain⟨a_,r,pl,hz⟩:=I.tuple hx
   have hlen:=r.length
   exact truthy_tuple pl (by simp only[FV];lia) ⟨H,I.tok _,by rw[jj r];exact q⟩
  .subst e'
   obtain⟨hz,hS,vs,r,m⟩:kvs.length<=sizeLine/\(p==sysModules)=false/\∃vs,KV kvs vs/\s.heap.DictOf (l0 X.prog X.w) p vs:=I.hok p _ hx
   have hlen:kvs.length=vs.length:=GV r
   exact wpAny_truthy_dict hS m (by lia) ⟨H,I.tok _,by rw[pO r];exact q⟩
 |_=>exact(show False from e).elim
theorem wq (ha:PE X a ta)(he:∀whole,isTrue a X.env whole=(do let v←whole;standAt a.pos;holding [v] (truthy v))):
  PT X a (λσ H Q=>ta σ H λx H'=>∃k,wR X.K x H' k/\Q k H'):=by
 intro pins s σ H Q I h
 exact isTrue_plain (M8 (ha pins s σ H _ I h) λv s1 ⟨x,H1,I1,r1,q1⟩=>Bh pins s1 σ H1 x v Q I1 r1 q1) (he _)
theorem op_add_str:OpR X (binaryOp .Add) (λx y H Q=>∃i j,x= .str i/\y= .str j/\i.length+j.length<=sizeLine/\Q (.str (i++j)) H):=by
 intro pins s σ H x y v u Q I rx ry h;obtain⟨i,j,rfl,rfl,hz,q⟩:=h;obtain⟨t,rfl⟩:=rx;obtain⟨t',rfl⟩:=ry;exact add_str (λt' tk=>⟨.str (i++j),H,I.tok _,⟨_,rfl⟩,q⟩) hz
theorem P0 {x:V}{us:List Value}(r:Vals [x] us):∃u,us=[u]/\RelV x u:=by
 cases r with
 |cons r1 r2=>cases r2;exact⟨_,rfl,r1⟩
theorem fY {x y:V}{us:List Value}(r:Vals [x,y] us):∃u w',us=[u,w']/\RelV x u/\RelV y w':=by
 cases r with
 |cons r1 r2=>
  cases r2 with
  |cons r3 r4=>cases r4;exact⟨_,_,rfl,r1,r3⟩
theorem jZ (hc:X.calm=true):CallR X (.builtin "min") (λxs H Q=>∃i j,xs=[.int i,.int j]/\Q (.int (if j<i then j else i)) H):=by
 intro pins s σ H xs us Q I r h;obtain⟨i,j,rfl,q⟩:=h;obtain⟨u,w',rfl,⟨t,rfl⟩,⟨t',rfl⟩⟩:=fY r;refine min_two_ints (I.ok.hd hc) λh' tk k=>⟨_,H,I.kept k,?_,q⟩
 by_cases hj:j<i
 .rw[if_pos hj,if_pos hj];exact⟨_,rfl⟩
 .rw[if_neg hj,if_neg hj];exact⟨_,rfl⟩
theorem fE:CallR X (.type "int") (λxs H Q=>(∃i,xs=[.int i]/\Q (.int i) H)\/∃k,xs=[.bl k]/\Q (.int (if k then 1 else 0)) H):=by
 intro pins s σ H xs us Q I r h;rcases h with⟨i,rfl,q⟩|⟨k,rfl,q⟩
 .obtain⟨u,rfl,t,rfl⟩:=P0 r;exact call_int_int ⟨.int i,H,I,⟨_,rfl⟩,q⟩
 .obtain⟨u,rfl,r1⟩:=P0 r;cases r1;exact call_int_bool ⟨.int (if k then 1 else 0),H,I.tok _,⟨_,rfl⟩,q⟩
def BI (K:Kd)(x:V)(H:Hp)(n:Nat):Prop:=
 match x with
 | .str y=>y.length<=sizeLine/\n=y.length
 | .byt y=>y.size<=sizeLine/\n=y.size
 | .ref p=>(∃xs,SqL K H p xs/\n=xs.length)\/∃xs,SqT K H p xs/\n=xs.length
 |_=>False
theorem call_len:CallR X (.builtin "len") (λxs H Q=>∃x n,xs=[x]/\BI X.K x H n/\Q (.int n) H):=by
 intro pins s σ H xs us Q I r h;obtain⟨x,n,rfl,e,q⟩:=h;obtain⟨u,rfl,rx⟩:=P0 r;have hl:=fC;have hs:sizeLine=16777216:=Kc;cases x with
 |str y=>
  obtain⟨t,rfl⟩:=rx
  obtain⟨hy,e'⟩:y.length<=sizeLine/\n=y.length:=e
  subst e'
  exact len_str (by lia) ⟨.int _,H,I.tok _,⟨_,rfl⟩,q⟩
 |byt y=>
  obtain⟨t,rfl⟩:=rx
  obtain⟨hy,e'⟩:y.size<=sizeLine/\n=y.size:=e
  subst e'
  exact PySem.W.len_bytes (by lia) ⟨.int _,H,I.tok _,⟨_,rfl⟩,q⟩
 |ref p=>
  cases rx
  have e':(∃xs,SqL X.K H p xs/\n=xs.length)\/∃xs,SqT X.K H p xs/\n=xs.length:=e
  rcases e' with⟨xs,hx,e'⟩|⟨xs,hx,e'⟩
  .subst e'
   obtain⟨a_,r',pl,hz⟩:=I.list hx
   have hlen:=r'.length
   exact Calls.call_len_list pl.isList (by simp only[FV];lia) ⟨.int xs.length,H,I.tok _,⟨_,by simp only[FV];rw[hlen]⟩,q⟩
  .subst e'
   obtain⟨a_,r',pl,hz⟩:=I.tuple hx
   have hlen:=r'.length
   exact len_tuple pl (by simp only[FV];lia) ⟨.int xs.length,H,I.tok _,⟨_,by simp only[FV];rw[hlen]⟩,q⟩
 |_=>exact(show False from e).elim
end
structure ES (h:Heap) (x dx C:Addr) (mA:Str->Option Value):Prop where
 obj:h.get? x=some (PySem.W.instObj C dx)
 ns:h.Ns1 dx mA
 ne:dx≠x
section
variable {prog:Program} {w:World} {A:Around} {E:Value->Shared->Prop} {s:Shared} {K:Kd} {x dx C f:Addr} {mA:Str->Option Value} {name:Str} {v:Value}
end
theorem RelO.some_of {v:V}{o:Option Value}(r:RelO (some v) o):∃u,o=some u/\RelV v u:=by
 cases o with
 |none=>exact(show False from r).elim
 |some u=>exact⟨u,rfl,r⟩
section
variable {P:Program} {w:World} {H H':Hp} {h h':Heap} {a C dx:Addr} {fs Wk:List (Str×V)}
end
structure EX (K:Kd) (C:Addr):Prop where
 pg:PySem.W.plainGet K C Str.empty=true
 hd:PySem.W.hasDictIn K C=true
 po:PySem.W.plainOver K C=true
 sa:PySem.W.findIn K (.ref C) "__setattr__"=some (some (.builtin "object.__setattr__"))
structure Fs (K:Kd) (C:Addr) (f:Str) (v:V) (u:Value):Prop where
 at_:PySem.W.findIn K (.ref C) f=some (some u)
 rel:RelV v u
 get:PySem.W.specialIn K u "__get__"=some none
 cp:PySem.W.copiedNames.contains f=false
structure Fe (K:Kd) (C:Addr) (m:Str) (f:Addr):Prop where
 at_:PySem.W.findIn K (.ref C) m=some (some (.ref f))
 fn:PySem.W.isFn K (.ref f)=true
 kp:PySem.W.keepIn K (.ref f)=true
section
variable {X:Cx} {pins:List (Addr×Obj)} {σ:St} {H:Hp} {s:Shared} {a C dx:Addr} {fs:List (Str×V)} {f:Str} {v:V} {A:Around} {E:Value->Shared->Prop}
end
section
variable {X:Cx} {o e value:Expr} {f:Str} {pos pos' k_:Pos} {ta tv:TE}
end
section
variable {X:Cx} {pins:List (Addr×Obj)} {σ:St} {H:Hp} {s:Shared} {A:Around} {E:Value->Shared->Prop} {Q:Value->Shared->Prop} {c:Value} {b:Bool}
inductive jl (K:Kd) (H:Hp):V->Value->Prop where
 |non:jl K H .non (.type "NoneType")
 |bl (x:Bool):jl K H (.bl x) (.type "bool")
 |int (i:Int):jl K H (.int i) (.type "int")
 |str (x:Str):jl K H (.str x) (.type "str")
 |flt (x:UInt64):jl K H (.flt x) (.type "float")
 |lst {a:Addr} {xs:List V} (e:H a=some (.lst xs)):jl K H (.ref a) (.type "list")
 |frz {a:Addr} {o:Obj} {xs:List V} (e:H a=some (.frz o (.lst xs))):jl K H (.ref a) (.type "list")
 |tup {a:Addr} {xs:List V} (e:H a=some (.tup xs)):jl K H (.ref a) (.type "tuple")
 |dK {a:Addr} {kvs:List (j4×V)} (e:H a=some (.dK kvs)):jl K H (.ref a) (.type "dict")
 |dT {a:Addr} {kvs:List (List j4×V)} (e:H a=some (.dT kvs)):jl K H (.ref a) (.type "dict")
 |ins {a C dx:Addr} {fs:List (Str×V)} (e:H a=some (.ins C dx fs)) (cl:EX K C) (ha:PySem.W.findIn K (.ref C) "__class__"=some (some (.builtin "object.__class__")))
   (hn:PySem.W.specialIn K (.builtin "object.__class__") "__get__"=some (some (.builtin "getset_descriptor.__get__"))) (Nr:PySem.W.takesIn K (.builtin "object.__class__")=some true)
   (hm:PySem.W.mroIn K C (.type "object")=some true):jl K H (.ref a) (.ref C)
end
structure Room (k:Nat) (A:Around):Prop where
 hd:A.handled=none
 dp:A.depth+3*k+5<recursionLimit
 un:A.units+16*k+200<cLine
theorem Room.mono {j k:Nat}{A:Around}(r:Room k A)(h:j<=k):Room j A:=⟨r.hd,by have:=r.dp;lia,by have:=r.un;lia⟩
theorem Room.deeper {k:Nat}{A:Around}(r:Room (k+1) A)(env:Env):Room k (A.deeper env):=
 ⟨r.hd,by have:=r.dp;show A.depth+1+3*k+5<_;lia,by have:=r.un;show A.units+3+16*k+200<_;lia⟩
theorem Room.depth {k:Nat}{A:Around}(r:Room k A):A.depth<recursionLimit:=by have:=r.dp;lia
theorem Room.units {k:Nat}{A:Around}(r:Room k A):A.units+64<cLine:=by have:=r.un;lia
def xu:TA:=λ_ H Q=>Q [] H
def qX (ta:TE)(tr:TA):TA:=λσ H Q=>ta σ H λx H1=>tr σ H1 λxs H2=>Q (x::xs) H2
section
variable {X:Cx} {e:Expr} {es:List Expr} {te:TE} {t:TA} {pos:Pos}
theorem zq:PA X [] xu:=λ_ _ _ _ H Q I h=>Calls.spliced_nil ⟨[],H,I,.nil,h⟩
theorem yj (ha:PE X e te)(hr:PA X es t)(hs:starEach (e::es) X.env=(false,eval e X.env)::starEach es X.env:=by rfl):PA X (e::es) (qX te t):=by
 intro pos pins s σ H Q I h;rw[hs];show wpAny _ _ (spliced ((false,eval e X.env)::backTo pos (starEach es X.env))) _ _ s;refine Calls.spliced_cons (M8 (ha pins s σ H _ I h) λu s1 ⟨x,H1,I1,r1,q1⟩=>?_);exact M8 (hr pos pins s1 σ H1 _ I1 q1) λus s2 ⟨xs,H2,I2,r2,q2⟩=>⟨x::xs,H2,I2,.cons r1 r2,q2⟩
def zZ (t:TA):TE:=λσ H Q=>t σ H λxs H1=>xs.length<=sizeLine/\∀p,H1 p=none->Q (.ref p) (upd H1 p (.tup xs))
def Bc (t:TA):TE:=λσ H Q=>t σ H λxs H1=>xs.length<=sizeLine/\∀p,H1 p=none->Q (.ref p) (upd H1 p (.lst xs))
theorem zJ {x1}(h:PA X es t):PE X (.Tuple es x1 pos) (zZ t):=by
 intro pins s σ H Q I hq;refine wpAny_Tuple_spliced (M8 (h pos pins s σ H _ I hq) λus s1 ⟨xs,H1,I1,r,z,q⟩=>⟨by rw[←r.length];exact z,?_⟩);have hf:H1 s1.heap.objs.size=none:=I1.hok.fresh (Fz _);refine⟨.ref s1.heap.objs.size,upd H1 s1.heap.objs.size (.tup xs),I1.laid (t':=s1.toks) (λb u e=>FG _ e) (Fz _) ?_,rfl,q _ hf⟩;exact⟨z,us,r,⟨_,FW _ rfl,rfl,_,rfl⟩⟩
theorem As (h:PA X es t):PE X (.List es pos) (Bc t):=by
 intro pins s σ H Q I hq;refine wpAny_List_spliced (M8 (h pos pins s σ H _ I hq) λus s1 ⟨xs,H1,I1,r,z,q⟩=>⟨by rw[←r.length];exact z,?_⟩);have hf:H1 s1.heap.objs.size=none:=I1.hok.fresh (Fz _);refine⟨.ref s1.heap.objs.size,upd H1 s1.heap.objs.size (.lst xs),I1.laid (t':=s1.toks) (λb u e=>FG _ e) (Fz _) ?_,rfl,q _ hf⟩;exact⟨z,us,0,r,FW _ rfl⟩
end
abbrev Sp:=List V->Hp->VK->XK->Prop
abbrev mW:=List Env->Hp->Shared->XK->Value->Shared->Prop
structure yA (P:Program) (w:World) (K:Kd) (mg:Str->Option Value) (base:Heap) (A:Around) (outer:List Env) (s:Shared) (H:Hp):Prop where
 frames:A.frames=some outer
 mod:Mod K mg base
 bs:∀b o,base.get? b=some o->s.heap.get? b=some o/\H b=none
 bsz:base.objs.size<=s.heap.objs.size
 funs:s.heap.FunFrames base outer
 frf:∀b∈aS outer,H b=none
 hok:HOk P w H s.heap
 bare:AllBare s.gens
def CE (outer:List Env)(P:Program)(w:World)(H:Hp)(s:Shared)(Q:VK)(u:Value)(s':Shared):Prop:=
 ∃v H',s'.os=s.os/\AllBare s'.gens/\Un (aS outer) [] H H' s.heap s'.heap/\HOk P w H' s'.heap/\RelV v u/\Q v H'
def CR (CX:mW)(outer:List Env)(P:Program)(w:World)(H:Hp)(s:Shared)(Q:VK)(E:XK)(r:Result)(s':Shared):Prop:=
 match r with
 | .ok (.ret u)=>CE outer P w H s Q u s'
 | .ok _=>False
 | .error e=>CX outer H s E e s'
structure u9 (P:Program) (w:World) (K:Kd) (mg:Str->Option Value) (base:Heap) (CX:mW) (k:Nat) (f:Addr) (fd:FuncData) (ps:List Str) (sp:Sp):Prop where
 len:∀vs H Q E,sp vs H Q E->vs.length=ps.length
 run:∀(A:Around) (outer:List Env) (s:Shared) (H:Hp) (args:Args) (us:List Value) (vs:List V) (Q:VK) (E:XK),Room k A->yA P w K mg base A outer s H->BindsTo s fd args (ps.zip us)->Vals vs us->sp vs H Q E->
  codeAny (model P w) A (.call (.ref f) args) (CR CX outer P w H s Q E) s
section
variable {X:Cx} {pins:List (Addr×Obj)} {σ:St} {H:Hp} {s s':Shared}
theorem Inv.env0 (I:Inv X pins σ H s):yA X.prog X.w X.K X.mg X.base X.A X.stack s H:=
 ⟨I.ok.frames,I.ok.mod,I.bs,GB I.ok.bsz I.sz,I.stack,I.stkFree,I.hok,I.bare⟩
theorem Inv.after {Q:VK}{u:Value}(I:Inv X pins σ H s)(h:CE X.stack X.prog X.w H s Q u s'):EP X pins σ Q u s':=by
 obtain⟨v,H',os,bare,un,hok,r,q⟩:=h;obtain⟨hh,g,d,t,Kt⟩:=s';obtain rfl:Kt=s.os:=os;exact⟨v,H',I.call (h':=hh) (g':=g) (d':=d) (t':=t) (ch:=[]) un hok bare (λb z=>absurd z (by simp)),r,q⟩
end
def nZ (sp:Sp)(v_:List V)(E:XK)(t:TA):TE:=λσ H Q=>t σ H λvs H1=>sp (vs++v_) H1 Q E
def Binds (K:Kd)(fd:FuncData)(ps:List Str)(ds:List Value):Prop:=
 ∀(s:Shared) (us:List Value),K.In s.heap->(us++ds).length=ps.length->BindsTo s fd ⟨us,[]⟩ (ps.zip (us++ds))
theorem Binds.all {K:Kd}{fd:FuncData}{ps:List Str}(h:∀us:List Value,us.length=ps.length->bindArgs fd ⟨us,[]⟩=pure (ps.zip us)):Binds K fd ps []:=λs us _ hl=>by
 rw[Gw] at hl⊢;exact .of_eq (h us hl)
def aY (CX:mW)(X:Cx)(E:XK):Prop:=∀(pins:List (Addr×Obj)) (σ:St) (H:Hp) (s:Shared) (e:Value) (s':Shared),Inv X pins σ H s->CX X.stack H s E e s'->X.xe e s'
section
variable {X:Cx} {CX:mW} {k:Nat} {f C:Addr} {fd:FuncData} {ps:List Str} {sp:Sp} {v_:List V} {ds:List Value} {E:XK} {x m:Str} {p pos apos:Pos} {e o:Expr} {es:List Expr} {ta:TE} {t:TA}
theorem AF {pins:List (Addr×Obj)}{σ:St}{H:Hp}{s:Shared}{Q:VK}{us:List Value}{vs:List V}(F:u9 X.prog X.w X.K X.mg X.base CX k f fd ps sp)(hr:Room k X.A)(hb:Binds X.K fd ps ds)(hd:Vals v_ ds)(hx:aY CX X E)
  (I:Inv X pins σ H s) (r:Vals vs us) (h:sp (vs++v_) H Q E):wpAny (model X.prog X.w) X.A (call (.ref f) us) (EP X pins σ Q) X.xe s:=by
 have r2:Vals (vs++v_) (us++ds):=r.append hd
 have hl:(us++ds).length=ps.length:=by rw[←r2.length];exact F.len _ _ _ _ h
 refine wpAny_call (Je (F.run X.A X.stack s H ⟨us,[]⟩ (us++ds) (vs++v_) Q E hr I.env0 (hb s us I.kIn hl) r2 h) λr s' hq=>?_)
 cases r with
 |error e=>exact hx pins σ H s e s' I hq
 |ok fl=>
  cases fl with
  |ret u=>exact I.after hq
  |next=>exact False.elim hq
  |brk=>exact False.elim hq
  |cont=>exact False.elim hq
theorem xT (F:u9 X.prog X.w X.K X.mg X.base CX k f fd ps sp)(hr:Room k X.A)(hg:Gl X x)(hm:X.mg x=some (.ref f))(hk:PySem.W.keepIn X.K (.ref f)=true)(hb:Binds X.K fd ps ds)(hd:Vals v_ ds)(hx:aY CX X E)
  (ha:PA X (e::es) t) (w_:(x==("__debug__":Str))=false:=by decide) (he:starEach (e::es) X.env=(false,eval e X.env)::starEach es X.env:=by rfl) (Lh:(backTo pos (starEach es X.env)).any (·.1)=false:=by rfl):
  PE X (.Call (.Name x p) (e::es) [] pos) (nZ sp v_ E t):=by
 intro pins s σ H Q I h
 refine Jf (lC I hg hm ?_ w_)
 refine PySem.W.callWith_K (h₀:=X.base) I.ok.mod.kin hk (M8 (ha pos pins s σ H _ I h) λus s1 ⟨vs,H1,I1,r,q⟩=>⟨I1.kIn,?_⟩) he Lh
 exact AF F hr hb hd hx I1 r q
structure Mk (K:Kd) (C f:Addr):Prop where
 makes:PySem.W.makesIn K C=true
 init:PySem.W.findIn K (.ref C) "__init__"=some (some (.ref f))
 fn:PySem.W.isFn K (.ref f)=true
 kp:PySem.W.keepIn K (.ref C)=true
end
section
variable {X:Cx} {CX:mW} {k:Nat} {f C:Addr} {fd:FuncData} {ps ks:List Str} {sp:Sp} {E:XK} {x m:Str} {p pos apos Wn:Pos} {e o:Expr} {es:List Expr} {Zh:List Keyword} {te ta:TE} {t tk:TA} {nm:Option Str}
structure Ei (K:Kd) (fd:FuncData) (ps ks:List Str) (g:List Value->List Value->List Value) (gV:List V->List V->List V):Prop where
 to:∀(s:Shared) (us ws:List Value),K.In s.heap->(g us ws).length=ps.length->BindsTo s fd ⟨us,ks.zip ws⟩ (ps.zip (g us ws))
 rel:∀{vs:List V} {us:List Value} {zs:List V} {ws:List Value},Vals vs us->Vals zs ws->Vals (gV vs zs) (g us ws)
variable {g:List Value->List Value->List Value} {gV:List V->List V->List V}
end
structure j0 (N P:List Str) (sc:Scope):Prop where
 kind:sc.kind= .function
 co:sc.isCoroutine=false
 gen:sc.isGenerator=false
 nd:N.Nodup
 pre:N.take P.length=P
 par:∀x∈P,sc.names.lookup x=some .local\/sc.names.lookup x=some .cell
 nofree:∀y∈sc.names,y.2≠ .free
theorem kQ {kindOf:Str->Option NameKind}{x:Str}:∀{binds:List (Str×Value)} {m:Str->Option Value},(∀v,(x,v)∉binds)->bindL kindOf binds m x=m x
 |[],_,_=>rfl
 |(n,v)::r,m,h=>by
  unfold bindL;rw[kQ λw hw=>h w (Gb _ hw)];split
  .have:x≠n:=by rintro rfl;exact h v FU
   simp [this]
  .rfl
theorem kN {kindOf:Str->Option NameKind}{x:Str}:∀{binds:List (Str×Value)} {m:Str->Option Value},(∀v,(x,v)∉binds)->bindC kindOf binds m x=m x
 |[],_,_=>rfl
 |(n,v)::r,m,h=>by
  unfold bindC;rw[kN λw hw=>h w (Gb _ hw)];split
  .rfl
  .have:x≠n:=by rintro rfl;exact h v FU
   simp [this]
theorem kx {kindOf:Str->Option NameKind}{x:Str}{v:Value}:∀{P:List Str} {vs:List Value} {i:Nat} {m:Str->Option Value},P.Nodup->P[i]?=some x->vs[i]?=some v->kindOf x=some .local->
  bindL kindOf (P.zip vs) m x=some v
 |[],_,_,_,_,h,_,_=>by simp at h
 |_::_,[],_,_,_,_,h,_=>by simp at h
 |p::P,w::vs,0,m,nd,h1,h2,hk=>by
  simp at h1 h2;subst h1;subst h2;show bindL kindOf ((p,w)::P.zip vs) m p=_;unfold bindL;rw[kQ λv hv=>(GK.mp nd).1 (JJ hv).1,if_pos hk];simp
 |p::P,w::vs,i+1,m,nd,h1,h2,hk=>by
  show bindL kindOf ((p,w)::P.zip vs) m x=_;unfold bindL;exact kx (i:=i) (GK.mp nd).2 (by simpa using h1) (by simpa using h2) hk
theorem kT {kindOf:Str->Option NameKind}{x:Str}{v:Value}:∀{P:List Str} {vs:List Value} {i:Nat} {m:Str->Option Value},P.Nodup->P[i]?=some x->vs[i]?=some v->kindOf x≠some .local->
  bindC kindOf (P.zip vs) m x=some v
 |[],_,_,_,_,h,_,_=>by simp at h
 |_::_,[],_,_,_,_,h,_=>by simp at h
 |p::P,w::vs,0,m,nd,h1,h2,hk=>by
  simp at h1 h2;subst h1;subst h2;show bindC kindOf ((p,w)::P.zip vs) m p=_;unfold bindC;rw[kN λv hv=>(GK.mp nd).1 (JJ hv).1,if_neg hk];simp
 |p::P,w::vs,i+1,m,nd,h1,h2,hk=>by
  show bindC kindOf ((p,w)::P.zip vs) m x=_;unfold bindC;exact kT (i:=i) (GK.mp nd).2 (by simpa using h1) (by simpa using h2) hk
def dP (N:List Str)(vs:List V):St:=vs.map some++List.replicate (N.length -vs.length) none
def iP (CX:mW)(P:Program)(w:World)(K:Kd)(mg:Str->Option Value)(base:Heap)(N:List Str)(qual:Str)(scope:Scope)(f:Addr)(cd:Value)(A:Around)(outer:List Env)(s:Shared)(H:Hp)(E:XK):Cx where
 prog:=P
 w:=w
 K:=K
 mg:=mg
 base:=base
 A:=A.deeper (envOfC qual scope s.heap.objs.size f cd)
 N:=N
 s₀:=s
 H₀:=H
 env:=envOfC qual scope s.heap.objs.size f cd
 outer:=outer
 stack:=envOfC qual scope s.heap.objs.size f cd::outer
 ex:=[]
 calm:=true
 fn:=λ_=>true
 pn:=[]
 xe:=λe s'=>wpAny (model P w) (A.deeper (envOfC qual scope s.heap.objs.size f cd)) («leaving» (envOfC qual scope s.heap.objs.size f cd) e) (λ_ OF=>CX outer H s E e OF) (λe' OF=>CX outer H s E e' OF) s'
theorem oB {sc:Scope}{n:Nat}{x:Str}(h:sc.names.lookup x=some .cell):∃c,(cellsFrom n sc.names []).lookup x=some c:=by
 have q:=JA sc.names n [] (.inl h);exact Jj.mp q
theorem sf {CX:mW}{P:Program}{w:World}{K:Kd}{mg:Str->Option Value}{base:Heap}{N ps:List Str}{qual:Str}{scope:Scope}{f:Addr}{cd:Value}{A:Around}{outer:List Env}{s s1:Shared}{H:Hp}{E:XK}{us:List Value}{vs:List V}
  (S:j0 N ps scope) (hd:A.handled=none) (e0:yA P w K mg base A outer s H) (hl:vs.length=ps.length) (r:Vals vs us)
  (x:InCallC s s.heap.objs.size (bindL (envOfC qual scope s.heap.objs.size f cd).kindOf (ps.zip us) λ_=>none) (cellsFrom (s.heap.objs.size+1) scope.names []) (bindC (envOfC qual scope s.heap.objs.size f cd).kindOf (ps.zip us) λ_=>none) s1):
  Inv (iP CX P w K mg base N qual scope f cd A outer s H E) [] (dP N vs) H s1:=by
 have Lh:ps.length<=N.length:=by have:=GY List.length S.pre;rw[FO] at this;lia
 obtain⟨h1,tk,rfl,hk⟩:=x.done
 have OG:∀b:Addr,b∉(iP CX P w K mg base N qual scope f cd A outer s H E).ex:=λb z=>absurd (show b∈([]:List Addr) from z) (by simp)
 refine⟨⟨e0.mod,S.kind,rfl,rfl,Fz _,λy z c h1 h2=>?_,λy hy=>?_,λy c _ h=>?_,λ_=>hd,Around.frames_deeper e0.frames,.inr ⟨rfl,rfl⟩,λb z=>absurd z (OG b),e0.bs,e0.bsz,λb _ _=>OG b,λb z=>absurd z (OG b),e0.funs,e0.frf⟩,
  rfl,e0.bare,Un.kept hk,⟨_,x.toInCall.ns,λi y v h1 h2 h3=>?_⟩,λy c h=>⟨_,x.cell y c h⟩,e0.hok.fresh (Fz _),λy c h=>?_,λp hp=>absurd (show p∈([]:List (Addr×Obj)) from hp) (by simp),e0.hok.kept hk,?_⟩
 .exact name_of_addr x.apart (HK h1) (HK h2)
 .have hy:scope.names.lookup y=some .cell\/scope.names.lookup y=some .free:=hy
  rcases hy with hy|hy
  .exact oB hy
  .exact absurd rfl (S.nofree _ (HK hy))
 .exact KJ (x.above y c (HK h))
 .have hi:i<vs.length:=by
   unfold dP at h2;by_cases hi:i<vs.length
   .exact hi
   .rw[Hd (by simpa using hi)] at h2;rw[List.getElem?_replicate] at h2;split at h2<;>cases h2
  have ha:vs[i]?=some v:=by
   unfold dP at h2;rw[GS (by simpa using hi),FD] at h2;cases e:vs[i]? with
   |none=>rw[e] at h2;cases h2
   |some a=>rw[e] at h2;cases h2;rfl
  obtain⟨u,hu,rv⟩:=r.get ha
  have hp:ps[i]?=some y:=by
   rw[←S.pre,List.getElem?_take_of_lt (by lia)];exact h1
  have Nt:ps.Nodup:=by rw[←S.pre];exact S.nd.sublist (GZ _ _)
  refine⟨u,rv,?_⟩
  rcases S.par y (FI hp) with k|k
  .exact .inl ⟨k,kx Nt hp hu k⟩
  .obtain⟨c,e⟩:=oB (n:=s.heap.objs.size+1) k
   refine .inr ⟨.inl k,c,e,?_⟩
   have q:=x.cell y c e
   rw[kT Nt hp hu (by show scope.names.lookup y≠_;rw[k];decide)] at q
   exact q
 .exact e0.hok.fresh (KJ (x.above y c (HK h)))
 .unfold dP
  show _=N.length
  rw[FE,Fv,Hi]
  lia
theorem yF {CX:mW}{P:Program}{w:World}{K:Kd}{mg:Str->Option Value}{base:Heap}{k:Nat}{f:Addr}{name qual:Str}{params:Arguments}{body:List Stmt}{scope:Scope}{dV kV doc pm c_ ct oc:Value}{an od:Option Addr}
  {KY:Array (Option Value)} {N ps:List Str} {sp:Sp} (lk:K.lookup f=some ⟨oc,od,.func (PySem.W.fnOf name qual params body scope dV kV doc pm an c_ ct),KY⟩) (KU:PySem.W.codeIn K c_ qual=true) (S:j0 N ps scope)
  (len:∀vs H Q E,sp vs H Q E->vs.length=ps.length)
  (JZ:∀(A:Around) (outer:List Env) (s:Shared) (H:Hp) (vs:List V) (Q:VK) (E:XK),Room k (A.deeper (envOfC qual scope s.heap.objs.size f c_))->sp vs H Q E->
   ∃t,PSs (iP CX P w K mg base N qual scope f c_ A outer s H E) body t/\t {nx:=λ_ H'=>Q .non H',rt:=Q} (dP N vs) H):
  u9 P w K mg base CX (k+1) f (PySem.W.fnOf name qual params body scope dV kV doc pm an c_ ct) ps sp:=by
 refine⟨len,λA outer s H args us vs Q E hr e0 hb r Mi=>?_⟩
 have hl:=len _ _ _ _ Mi
 have KX:K.In s.heap:=e0.mod.kin.keeps λb o e=>(e0.bs b o e).1
 have lim:s.heap.NoLimit:=e0.mod.nolimit.keeps λb o e=>(e0.bs b o e).1
 have OH:∀y∈ps.zip us,scope.names.lookup y.1=some .local\/(scope.names.lookup y.1=some .cell/\((cellsFrom (s.heap.objs.size+1) scope.names []).lookup y.1).isSome=true):=fun⟨n,v⟩ hy=>by
  rcases S.par n (JJ hy).1 with q|q
  .exact .inl q
  .exact .inr ⟨q,JA _ _ _ (.inl q)⟩
 refine codeAny_call_function hr.depth (KX _ _ lk) rfl S.co S.gen rfl (PySem.W.codeRec_of KX KU) (hb _ _ _ _ ?_)
 refine wpAny_newFunctionEnv_cells S.kind OH λenv he s1 x=>?_
 subst he
 refine⟨lim.keeps x.toInCall.keep,codeAny_func ?_⟩
 obtain⟨t,ht,hq⟩:=JZ A outer s H vs Q E (hr.deeper _) Mi
 have I:Inv (iP CX P w K mg base N qual scope f c_ A outer s H E) [] (dP N vs) H s1:=sf S hr.hd e0 hl r x
 refine JU (ht [] s1 (dP N vs) H _ I hq) (λfl s' hs=>?_) λe s' hs=>hs
 have fin:∀{σ':St} {H':Hp} {v:V} {u:Value},Inv (iP CX P w K mg base N qual scope f c_ A outer s H E) [] σ' H' s'->RelV v u->Q v H'->CE outer P w H s Q u s':=
  fun{σ' H' v u} J rv q=>⟨v,H',J.os,J.bare,J.base,J.hok,rv,q⟩
 cases fl with
 |ret u=>
  obtain⟨v,σ',H',J,rv,q⟩:=hs
  exact fin J rv q
 |next=>
  obtain⟨σ',H',J,q⟩:=hs
  exact fin (v:=V.non) (u:=Value.none) J rfl q
 |brk=>
  obtain⟨_,_,_,q⟩:=hs
  exact False.elim q
 |cont=>
  obtain⟨_,_,_,q⟩:=hs
  exact False.elim q
section
variable {X:Cx} {x:Str} {p pos:Pos} {e:Expr} {es:List Expr} {t:TA} {id T:String} {r:List V->Hp->VK->Prop}
def Aa (r:List V->Hp->VK->Prop)(t:TA):TE:=λσ H Q=>t σ H λvs H1=>r vs H1 Q
theorem wz (hc:CallR X (.builtin id) r)(hg:Gl X x)(hm:X.mg x=none)(hv:bootBuiltins x=some (.builtin id))(ha:PA X (e::es) t)(hn:x≠"__name__":=by decide)(w_:(x==("__debug__":Str))=false:=by decide)
  (he:starEach (e::es) X.env=(false,eval e X.env)::starEach es X.env:=by rfl) (Lh:(backTo pos (starEach es X.env)).any (·.1)=false:=by rfl):PE X (.Call (.Name x p) (e::es) [] pos) (Aa r t):=by
 intro pins s σ H Q I h
 refine Jf (eV I hg hm hv ?_ hn w_)
 exact PyProof.Rows.callWith_builtin1 (M8 (ha pos pins s σ H _ I h) λus s1 ⟨vs,H1,I1,r1,q1⟩=>hc pins s1 σ H1 vs us Q I1 r1 q1) he Lh
theorem tT (hc:CallR X (.type T) r)(hg:Gl X x)(hm:X.mg x=none)(hv:bootBuiltins x=some (.type T))(ha:PA X (e::es) t)(hn:x≠"__name__":=by decide)(w_:(x==("__debug__":Str))=false:=by decide)
  (he:starEach (e::es) X.env=(false,eval e X.env)::starEach es X.env:=by rfl) (Lh:(backTo pos (starEach es X.env)).any (·.1)=false:=by rfl):PE X (.Call (.Name x p) (e::es) [] pos) (Aa r t):=by
 intro pins s σ H Q I h
 refine Jf (eV I hg hm hv ?_ hn w_)
 exact Hv (M8 (ha pos pins s σ H _ I h) λus s1 ⟨vs,H1,I1,r1,q1⟩=>hc pins s1 σ H1 vs us Q I1 r1 q1) he Lh
end
end L2
namespace HT
open PySem PyProof.Rows
section
open PySem.SeqAt
open PySem.AutoSeq1 (wpAny_loadPart')
open PySem.MeetsSeq PySem.MeetsSeq2 PySem.MeetsSeq3
end
section
variable {prog:Program} {w:World} {A:Around} {E:Value->Shared->Prop} {s:Shared}
theorem cat_tup {t b:Addr}{vs ws:List Value}{Q:Value->Shared->Prop}(ht:IsTup s.heap t vs.toArray)(hb:IsTup s.heap b ws.toArray)(hv:vs≠[])
  (h1:ws=[]->Q (.ref t) s) (h2:ws≠[]->Q (.ref s.heap.objs.size) {s with heap:=s.heap.push {cls:= .type "tuple",data:= .seq (vs++ws).toArray}})
  (hsz:vs.length+ws.length<=sizeLine):wpAny (model prog w) A (binaryOp .Add (.ref t) (.ref b)) Q E s:=by
 obtain⟨⟨cls,dd,data,sl⟩,ho,hc,n,hd⟩:=id ht
 obtain⟨⟨Wo,Uw,data2,Ux⟩,KZ,RE,n2,hd2⟩:=id hb
 simp only at hc hd RE hd2
 subst hc hd RE hd2
 have e:vs.toArray++ws.toArray=(vs++ws).toArray:=by simp
 by_cases hw:ws=[]
 .exact concat_meets ⟨_,ho,rfl⟩ ⟨_,KZ,rfl⟩ noFill_tuple_add seq_tuple_add JB Jp (Jk _ _)
   (tuple_addW1 t b vs.toArray ws.toArray n n2 dd Uw sl Ux (by simpa using hv) (by simp [hw])) ⟨ho,KZ,h1 hw⟩
 .refine concat_meets ⟨_,ho,rfl⟩ ⟨_,KZ,rfl⟩ noFill_tuple_add seq_tuple_add JB Jp (Jk _ _)
   (tuple_addW2 t b vs.toArray ws.toArray n n2 dd Uw sl Ux (by simpa using hv) (by simpa using hw) (by rw[FV,FV];exact hsz)) ⟨ho,KZ,?_⟩
  rw[e]
  exact h2 hw
def sIx (n d:Nat):Option Int->Nat
 |none=>d
 |some v=>if v<0 then(v+(n:Int)).toNat else min v.toNat n
theorem sIx_nat (n d k:Nat):sIx n d (some (k:Int))=min k n:=by
 show(if(k:Int)<0 then((k:Int)+(n:Int)).toNat else min (k:Int).toNat n)=min k n;rw[if_neg (by lia),Int.toNat_natCast]
theorem zG (n d:Nat)(hd:d<=n)(o:Option Int):sIx n d o<=n:=by
 cases o with
 |none=>exact hd
 |some v=>
  show(if v<0 then(v+(n:Int)).toNat else min v.toNat n)<=n
  by_cases hv:v<0
  .rw[if_pos hv];lia
  .rw[if_neg hv];exact Jt _ _
theorem qD (v:Int)(n d:Nat):(if v<0 then max (v+(n:Int)) 0 else min v (n:Int))=((sIx n d (some v):Nat):Int):=by
 show(if v<0 then max (v+(n:Int)) 0 else min v (n:Int))=(((if v<0 then(v+(n:Int)).toNat else min v.toNat n):Nat):Int);by_cases hv:v<0
 .simp only[if_pos hv];lia
 .simp only[if_neg hv];lia
theorem qy (lo hi:Option Int)(n:Nat):Builtin.Slice.sliceAdjust lo hi 1 (n:Int)=(((sIx n 0 lo:Nat):Int),((sIx n n hi:Nat):Int)):=by
 have h1:¬((1:Int)<0):=by lia
 unfold Builtin.Slice.sliceAdjust;simp only[h1,ML];refine Prod.ext ?_ ?_
 .cases lo with
  |none=>rfl
  |some v=>exact qD v n 0
 .cases hi with
  |none=>rfl
  |some v=>exact qD v n n
theorem qe (i j:Nat):Builtin.Slice.slicePlaces (i:Int) (j:Int) 1=j -i:=by
 unfold Builtin.Slice.slicePlaces;have h1:(1:Int)>0:=by lia
 simp only[h1,JK,Int.ediv_one];split<;>lia
theorem iZ {v:Value}{o:Option Int}{Q:Option Int->Shared->Prop}(p:IsPart v o)(h:Q o s):wpAny (model prog w) A (Builtin.Slice.slicePartIndex v) Q E s:=by
 cases p with
 |none=>exact slicePart_none h
 |int i t=>exact slicePart_int h
theorem fm {sl:Addr}{vl vu:Value}{lo hi:Option Int}{n:Nat}{Q:Int×Int×Nat->Shared->Prop}(hs:s.heap.IsSliceOf sl vl vu .none)(pl:IsPart vl lo)(pu:IsPart vu hi)
  (h:Q (((sIx n 0 lo:Nat):Int),1,sIx n n hi -sIx n 0 lo) s):wpAny (model prog w) A (Builtin.Slice.sliceApplied (.ref sl) (pure (n:Int))) Q E s:=by
 obtain⟨os,Nu,LD,E_⟩:=id hs
 unfold Builtin.Slice.sliceApplied Builtin.Slice.sliceFields
 refine FQ (FQ (wpAny_field Nu E_ (x:=vl) rfl (FQ (wpAny_field Nu E_ (x:=vu) rfl (FQ (wpAny_field Nu E_ (x:= .none) rfl (Gm ?_)))))))
 refine FQ (slicePart_none ?_)
 show wpAny _ _ (if((1:Int)==0)=true then _ else _) _ _ s
 rw[if_neg (by decide)]
 refine FQ (iZ pl (FQ (iZ pu (FQ (Gm ?_)))))
 show wpAny _ _ (match Builtin.Slice.sliceAdjust lo hi 1 (n:Int) with|(lo,hi)=>pure (lo,(1:Int),Builtin.Slice.slicePlaces lo hi 1)) _ _ s
 rw[qy lo hi n]
 show wpAny _ _ (pure (((sIx n 0 lo:Nat):Int),(1:Int),Builtin.Slice.slicePlaces ((sIx n 0 lo:Nat):Int) ((sIx n n hi:Nat):Int) 1)) _ _ s
 rw[qe]
 exact Gm h
theorem vd (xs:Array Value)(i k:Nat):((List.range k).filterMap fun(m:Nat)=>xs[((i:Int)+(m:Int)*1).toNat]?).toArray=((xs.toList.drop i).take k).toArray:=by
 have e:(fun(m:Nat)=>xs[((i:Int)+(m:Int)*1).toNat]?)=λm=>xs[i+m]?:=by
  funext m;have:((i:Int)+(m:Int)*1).toNat=i+m:=by lia
  rw[this]
 rw[e];have:=pick_run xs i k;rw[List.filterMap_map] at this;have e2:((λx=>xs[x]?)∘λx=>i+x)=λm=>xs[i+m]?:=rfl;rw[e2] at this;rw[this]
theorem getItem_tuple_cut {t sl:Addr}{items:Array Value}{vl vu:Value}{lo hi:Option Int}{Q:Value->Shared->Prop}(ht:IsTup s.heap t items)(hs:s.heap.IsSliceOf sl vl vu .none)(pl:IsPart vl lo)(pu:IsPart vu hi)
  (hw:¬(sIx items.size 0 lo=0/\sIx items.size items.size hi=items.size))
  (h:Q (.ref s.heap.objs.size) {s with heap:=s.heap.push {cls:= .type "tuple",data:= .seq ((items.toList.drop (sIx items.size 0 lo)).take (sIx items.size items.size hi -sIx items.size 0 lo)).toArray}})
  (hsz:items.size<=sizeLine):wpAny (model prog w) A (getItem (.ref t) (.ref sl)) Q E s:=by
 have K':sizeOk (.seq ((items.toList.drop (sIx items.size 0 lo)).take (sIx items.size items.size hi -sIx items.size 0 lo)).toArray):=by
  show((items.toList.drop (sIx items.size 0 lo)).take (sIx items.size items.size hi -sIx items.size 0 lo)).toArray.size<=sizeLine;rw[FV,FO,IQ,Iq];lia
 have hj:sIx items.size items.size hi<=items.size:=zG _ _ (Fz _) hi
 obtain⟨os,Nu,LD,E_⟩:=id hs
 have Wq:s.TypeIs (.ref sl) "slice":=⟨os,Nu,LD⟩
 unfold getItem
 try with_reducible refine Hs ?_
 first|refine FQ (Gm ?_)|skip
 refine FQ (wpAny_sequenceKey ht.typeIs (by decide) ?_)
 refine FQ (wpAny_callSpecial?_slot (name:=Str.ofString "__getitem__") ht.typeIs HF
  (Ju HF ht.typeIs entry_tuple_getitem ?_ (args_tuple_getitem _ _)))
 show wpAny _ _ (Builtin.Tuple.tupleItemsOf (.ref t)>>=_) _ _ s
 refine FQ (tupleItemsOf_ ht ?_)
 refine FQ (wpAny_typeOf Wq ?_)
 rw[if_pos (by decide)]
 refine FQ (fm hs pl pu ?_)
 have s_:¬((((sIx items.size 0 lo:Nat):Int)==0&&(1:Int)==1&&(sIx items.size items.size hi -sIx items.size 0 lo)==items.size)=true):=by
  intro q;rw[Gh,Gh] at q;have q1:((sIx items.size 0 lo:Nat):Int)=0:=eq_of_beq q.1.1;have q2:sIx items.size items.size hi -sIx items.size 0 lo=items.size:=eq_of_beq q.2;exact hw ⟨by lia,by lia⟩
 show wpAny _ _ (if(((sIx items.size 0 lo:Nat):Int)==0&&(1:Int)==1&&(sIx items.size items.size hi -sIx items.size 0 lo)==items.size)=true then _ else _) _ _ s
 rw[if_neg s_,vd]
 first
  |exact FQ (m:=Builtin.Tuple.tupleExact _) (HG (Gm ⟨_,rfl,Gm h⟩) K')
  |exact FQ (m:=Builtin.Tuple.tupleExact _) (HG (FQ (Gm (Gm ⟨_,rfl,Gm h⟩))) K')
  |exact FQ (FQ (m:=Builtin.Tuple.tupleExact _) (HG (Gm (Gm ⟨_,rfl,Gm h⟩)) K'))
  |exact FQ (FQ (m:=Builtin.Tuple.tupleExact _) (HG (Gm ⟨_,rfl,Gm h⟩) K'))
end
end HT
namespace L2
open PySem PySem.Spec PyProof.Rows
abbrev TO:=St->Hp->(Option Int->Hp->Prop)->Prop
def PO (X:Cx)(e:Option Expr)(t:TO):Prop:=
 ∀(pins:List (Addr×Obj)) (s:Shared) (σ:St) (H:Hp) (Q:Option Int->Hp->Prop),Inv X pins σ H s->t σ H Q->
  wpAny (model X.prog X.w) X.A (evalPart e X.env) (λu s'=>∃o H',Inv X pins σ H' s'/\IsPart u o/\Q o H') X.xe s
def lN:TO:=λ_ H Q=>Q none H
def vi (t:TE):TO:=λσ H Q=>t σ H λx H1=>∃i,x= .int i/\Q (some i) H1
section
variable {X:Cx} {e:Expr} {te:TE} {lo hi:Option Expr} {tl th:TO} {pos p2:Pos}
theorem yd:PO X none lN:=by
 intro pins s σ H Q I h;rw[evalPart_none];exact Gm ⟨none,H,I,.none,h⟩
theorem yt (h:PE X e te):PO X (some e) (vi te):=by
 intro pins s σ H Q I hw;rw[evalPart_some];refine M8 (h pins s σ H _ I hw) λu s1 ⟨x,H1,I1,r1,q1⟩=>?_;obtain⟨i,rfl,q⟩:=q1;obtain⟨t,rfl⟩:=r1;exact⟨some i,H1,I1,.int i t,q⟩
def SlR (X:Cx)(r:V->Option Int->Option Int->Hp->VK->Prop):Prop:=
 ∀(pins:List (Addr×Obj)) (s:Shared) (σ:St) (H:Hp) (x:V) (v vl vu:Value) (lo hi:Option Int) (sl:Addr) (Q:VK),Inv X pins σ H s->RelV x v->s.heap.IsSliceOf sl vl vu .none->IsPart vl lo->IsPart vu hi->r x lo hi H Q->
  ∃T id,typeLookup (.type T) "__getitem__"=pure (some (.builtin id))/\s.TypeIs v T/\wpAny (model X.prog X.w) X.A (getItem v (.ref sl)) (EP X pins σ Q) X.xe s
theorem SlR.or {r r':V->Option Int->Option Int->Hp->VK->Prop}(h:SlR X r)(h':SlR X r'):SlR X (λx lo hi H Q=>r x lo hi H Q\/r' x lo hi H Q):=by
 intro pins s σ H x v vl vu lo hi sl Q I rx hs pl pu q;rcases q with q|q
 .exact h pins s σ H x v vl vu lo hi sl Q I rx hs pl pu q
 .exact h' pins s σ H x v vl vu lo hi sl Q I rx hs pl pu q
def DY (r:V->Option Int->Option Int->Hp->VK->Prop)(te:TE)(tl th:TO):TE:=λσ H Q=>te σ H λx H1=>tl σ H1 λl H2=>th σ H2 λu H3=>r x l u H3 Q
theorem vf {r:V->Option Int->Option Int->Hp->VK->Prop}(hr:SlR X r)(he:PE X e te)(hl:PO X lo tl)(hu:PO X hi th):PE X (.Subscript e (.Slice lo hi none p2) pos) (DY r te tl th):=by
 intro pins s σ H Q I h;refine Subscript_ (M8 (he pins s σ H _ I h) λv s1 ⟨x,H1,I1,r1,q1⟩=>?_);refine wpAny_Slice (M8 (hl pins s1 σ H1 _ I1 q1) λvl s2 ⟨l,H2,I2,pl,q2⟩=>M8 (hu pins s2 σ H2 _ I2 q2) λvu s3 ⟨u,H3,I3,pu,q3⟩=>?_);rw[evalPart_none];refine Gm ?_;have I4:Inv X pins σ H3 {s3 with heap:=s3.heap.push {cls:= .type "slice",data:= .fields #[vl,vu,.none]}}:=I3.kept (t':=s3.toks) λb ob q=>FG _ q;obtain⟨T,id,hT,ht,hg⟩:=hr pins {s3 with heap:=s3.heap.push {cls:= .type "slice",data:= .fields #[vl,vu,.none]}} σ H3 x v vl vu l u s3.heap.objs.size Q I4 r1 (Heap.IsSliceOf.new ..) pl pu q3;show wpAny (model X.prog X.w) X.A (subscriptTail e (.Slice lo hi none p2) v (.ref s3.heap.objs.size)) (EP X pins σ Q) X.xe {s3 with heap:=s3.heap.push {cls:= .type "slice",data:= .fields #[vl,vu,.none]}};exact tail_any (ops:=[.ref s3.heap.objs.size,v]) ht hT hg (by with_unfolding_all rfl)
def dO (xs:List V)(lo hi:Option Int):List V:=(xs.drop (HT.sIx xs.length 0 lo)).take (HT.sIx xs.length xs.length hi -HT.sIx xs.length 0 lo)
theorem fX (xs:List V)(lo hi:Option Int):(dO xs lo hi).length<=xs.length:=by
 unfold dO;rw[FO,IQ];lia
def Df (K:Kd):V->Option Int->Option Int->Hp->VK->Prop:=λx lo hi H Q=>∃a xs,x= .ref a/\SqT K H a xs/\
 ¬(HT.sIx xs.length 0 lo=0/\HT.sIx xs.length xs.length hi=xs.length)/\∀p,H p=none->Q (.ref p) (upd H p (.tup (dO xs lo hi)))
theorem sl_tup:SlR X (Df X.K):=by
 intro pins s σ H x v vl vu lo hi sl Q I rx hs pl pu h;obtain⟨a,xs,rfl,hx,hw,q⟩:=h;cases rx;obtain⟨a_,r,ht,hz⟩:=I.tuple hx;have hlen:a_.toArray.size=xs.length:=by rw[FV];exact r.length.symm
 refine⟨"tuple",_,HF.lookup,ht.typeIs,?_⟩;refine HT.getItem_tuple_cut ht hs pl pu (by rw[hlen];exact hw) ?_ (by rw[hlen];exact hz);rw[hlen];refine⟨.ref s.heap.objs.size,_,I.laid (t':=s.toks) (o:= .tup (dO xs lo hi)) (λb ob q=>FG _ q) (Fz _) ?_,rfl,q _ (I.hok.fresh (Fz _))⟩;exact⟨GB (fX xs lo hi) hz,_,(r.drop (HT.sIx xs.length 0 lo)).take (HT.sIx xs.length xs.length hi -HT.sIx xs.length 0 lo),IsTup.new _ _⟩
def yK (K:Kd):R2:=λx y H Q=>∃a b xs ys,x= .ref a/\y= .ref b/\SqT K H a xs/\SqT K H b ys/\xs≠[]/\xs.length+ys.length<=sizeLine/\
 (ys=[]->Q (.ref a) H)/\(ys≠[]->∀p,H p=none->Q (.ref p) (upd H p (.tup (xs++ys))))
theorem Vals.nil_iff {xs:List V}{us:List Value}(r:Vals xs us):us=[]↔xs=[]:=by
 cases r with
 |nil=>simp
 |cons _ _=>simp
theorem yr:OpR X (binaryOp .Add) (yK X.K):=by
 intro pins s σ H x y v u Q I rx ry h;obtain⟨a,b,xs,ys,rfl,rfl,ha,hb,hx,hz,q1,q2⟩:=h;cases rx;cases ry;obtain⟨a_,r1,p1,_⟩:=I.tuple ha;obtain⟨Nv,r2,p2,_⟩:=I.tuple hb;refine HT.cat_tup p1 p2 (λz=>hx (r1.nil_iff.mp z)) (λz=>⟨.ref a,H,I,rfl,q1 (r2.nil_iff.mp z)⟩) (λz=>?_) (by rw[←r1.length,←r2.length];exact hz);refine⟨.ref s.heap.objs.size,_,I.laid (t':=s.toks) (o:= .tup (xs++ys)) (λb ob q=>FG _ q) (Fz _) ?_,rfl,q2 (λw=>z (r2.nil_iff.mpr w)) _ (I.hok.fresh (Fz _))⟩;exact⟨by rw[FE];exact hz,_,r1.append r2,IsTup.new _ _⟩
end
def xR (n:Nat)(i:Int):Option Nat:=if 0<=i then(if i<n then some i.toNat else none) else if -(n:Int)<=i then some (i+n).toNat else none
def jI {α:Type}(xs:List α)(i:Int):Option α:=(xR xs.length i).bind λj=>xs[j]?
theorem rA {n:Nat}{i:Int}{j:Nat}(h:xR n i=some j):seqIndex? i n=some j/\j<n/\-(n:Int)<=i/\i<n:=by
 unfold xR at h;by_cases h0:0<=i
 .rw[if_pos h0] at h;by_cases h1:i<n
  .rw[if_pos h1] at h;have e:i.toNat=j:=Ga h;exact⟨by rw[seqIndex_of h0 h1,e],by lia,by lia,h1⟩
  .rw[if_neg h1] at h;cases h
 .rw[if_neg h0] at h;by_cases h1: -(n:Int)<=i
  .rw[if_pos h1] at h;have e:(i+n).toNat=j:=Ga h;exact⟨by rw[seqIndex_neg (by lia) h1,e],by lia,h1,by lia⟩
  .rw[if_neg h1] at h;cases h
theorem mO {α:Type}{xs:List α}{i:Int}{v:α}(h:jI xs i=some v):∃j,seqIndex? i xs.length=some j/\xs[j]?=some v/\j<xs.length/\-(xs.length:Int)<=i/\i<xs.length:=by
 unfold jI at h;cases e:xR xs.length i with
 |none=>rw[e] at h;cases h
 |some j=>
  rw[e] at h
  obtain⟨h1,h2,h3,h4⟩:=rA e
  exact⟨j,h1,h,h2,h3,h4⟩
theorem b6 {α:Type}{xs:List α}{j:Nat}{v:α}(h:xs[j]?=some v):jI xs (j:Int)=some v:=by
 have hj:j<xs.length:=(Gy.mp h).1;have e:xR xs.length (j:Int)=some j:=by
  unfold xR;rw[if_pos (by lia),if_pos (by lia)];simp
 unfold jI;rw[e];exact h
theorem atI_last {α:Type}(xs:List α)(v:α):jI (xs++[v]) (-1)=some v:=by
 have hl:(xs++[v]).length=xs.length+1:=by simp
 have e:xR (xs++[v]).length (-1)=some xs.length:=by
  unfold xR;rw[hl,if_neg (by decide),if_pos (by lia)];congr 1;lia
 unfold jI;rw[e];show(xs++[v])[xs.length]?=some v;simp
def rz (b:Expr):Prop:=∀o i,subscripted b false o i=operate [o,i] (getItem o i)
def IxR (X:Cx)(r:R2):Prop:=
 ∀(value slice:Expr) (pins:List (Addr×Obj)) (s:Shared) (σ:St) (H:Hp) (x y:V) (v u:Value) (Q:VK),Inv X pins σ H s->RelV x v->RelV y u->r x y H Q->
  subscripted slice false v u=operate [v,u] (getItem v u)->wpAny (model X.prog X.w) X.A (subscriptTail value slice v u) (EP X pins σ Q) X.xe s
def xW (X:Cx)(id:String)(r:V->List V->Hp->VK->Prop):Prop:=
 ∀(pins:List (Addr×Obj)) (s:Shared) (σ:St) (H:Hp) (x:V) (xs:List V) (v:Value) (us:List Value) (Q:VK),Inv X pins σ H s->RelV x v->Vals xs us->r x xs H Q->
  wpAny (model X.prog X.w) X.A (call (.builtin id) (v::us)) (EP X pins σ Q) X.xe s
section
variable {X:Cx} {a b:Expr} {ta tb:TE} {pos:Pos}
theorem IxR.or {r r':R2}(h:IxR X r)(h':IxR X r'):IxR X (λx y H Q=>r x y H Q\/r' x y H Q):=by
 intro value slice pins s σ H x y v u Q I rx ry q hs;rcases q with q|q
 .exact h value slice pins s σ H x y v u Q I rx ry q hs
 .exact h' value slice pins s σ H x y v u Q I rx ry q hs
theorem BU {r:R2}(hr:IxR X r)(ha:PE X a ta)(hb:PE X b tb)(hs:rz b):PE X (.Subscript a b pos) (xg r ta tb):=by
 intro pins s σ H Q I h;exact Subscript_ (AQ ha hb I h λv u s2 x y H2 I2 rx ry q=>hr a b pins s2 σ H2 x y v u Q I2 rx ry q (hs _ _))
def CP (K:Kd):R2:=λx y H Q=>∃p xs i v,x= .ref p/\y= .int i/\SqL K H p xs/\jI xs i=some v/\Q v H
def Cc (K:Kd):R2:=λx y H Q=>∃p xs i v,x= .ref p/\y= .int i/\SqT K H p xs/\jI xs i=some v/\Q v H
def CF:R2:=λx y H Q=>∃z i c,x= .str z/\y= .int i/\z.length<=sizeLine/\jI z.cps.toList i=some c/\Q (.str ⟨#[c]⟩) H
theorem ix_list:IxR X (CP X.K):=by
 intro value slice pins s σ H x y v u Q I rx ry h hs;obtain⟨p,xs,i,z,rfl,rfl,hq,he,q⟩:=h;cases rx;obtain⟨t,rfl⟩:=ry;obtain⟨a_,r,pl,hz⟩:=I.list hq;obtain⟨j,h1,h2,h3,h4,h5⟩:=mO he;obtain⟨w,ew,MA⟩:=r.get h2;have hl:=r.length;have hn:=fC;have fin:EP X pins σ Q w s:=⟨z,H,I,MA,q⟩
 by_cases h0:0<=i
 .have hj:i.toNat=j:=by
   rw[seqIndex_of h0 h5] at h1;exact Ga h1
  exact item_listR pl.isList h0 (by lia) (by rw[hj];simpa using ew) fin hs
 .have hj:(i+(a_.toArray.size:Int)).toNat=j:=by
   rw[seqIndex_neg (by lia) h4] at h1;rw[FV,←hl];exact Ga h1
  exact subscriptTail_builtinR (x:=w) pl.isList.typeIs slot_list_getitem.lookup
   (wpAny_getItem_list_neg (Q:=λr s'=>r=w/\EP X pins σ Q r s') pl.isList (by lia) (by rw[FV]<;>lia) (by lia) (by rw[hj];simpa using ew) ⟨rfl,fin⟩) hs
theorem ix_tup:IxR X (Cc X.K):=by
 intro value slice pins s σ H x y v u Q I rx ry h hs;obtain⟨p,xs,i,z,rfl,rfl,hq,he,q⟩:=h;cases rx;obtain⟨t,rfl⟩:=ry;obtain⟨a_,r,pl,hz⟩:=I.tuple hq;obtain⟨j,h1,h2,h3,h4,h5⟩:=mO he;obtain⟨w,ew,MA⟩:=r.get h2;have hl:=r.length;have hn:=fC;have fin:EP X pins σ Q w s:=⟨z,H,I,MA,q⟩
 exact subscriptTail_builtinR (x:=w) pl.typeIs slot_tuple_getitem.lookup
  (getItem_tuple (j:=j) (Q:=λr s'=>r=w/\EP X pins σ Q r s') pl (by lia) (by lia) (by rw[FV,←hl];exact h1) (by simpa using ew) ⟨rfl,fin⟩) hs
theorem zN:IxR X CF:=by
 intro value slice pins s σ H x y v u Q I rx ry h hs;obtain⟨z,i,c,rfl,rfl,hz,he,q⟩:=h;obtain⟨t,rfl⟩:=rx;obtain⟨t',rfl⟩:=ry;obtain⟨j,h1,h2,h3,h4,h5⟩:=mO he;have hl:z.cps.toList.length=z.length:=by simp [Str.length]
 rw[hl] at h1 h4 h5;have hn:=fC;exact tail_any (typeIs_str s z t) slot_str_getitem.lookup (getItem_str (c:=c) (by
  have e1:decide (i< -(2 ^ 63:Int))=false:=Ge (by lia);have e2:decide (i≥2 ^ 63)=false:=Ge (by lia);rw[e1,e2,Bool.or_false]) (by rw[h1];simpa using h2) ⟨.str ⟨#[c]⟩,H,I.tok _,⟨_,rfl⟩,q⟩) hs
def EL (K:Kd):R2:=λx y H Q=>CP K x y H Q\/Cc K x y H Q\/CF x y H Q
theorem ix_seq:IxR X (EL X.K):=ix_list.or (ix_tup.or zN)
theorem qt (a_:List Value)(n j:Nat)(u:Value):Obj.mapSeq (·.setIfInBounds j u) {cls:= .type "list",data:= .seq a_.toArray n}={cls:= .type "list",data:= .seq (a_.set j u).toArray n}:=by
 simp [Obj.mapSeq]
theorem Inv.lst {pins:List (Addr×Obj)}{σ:St}{H:Hp}{s:Shared}{p:Addr}{xs:List V}(I:Inv X pins σ H s)(h:H p=some (.lst xs)):
  ∃(a_:List Value) (n:Nat),Vals xs a_/\s.heap.get? p=some {cls:= .type "list",data:= .seq a_.toArray n}/\xs.length<=sizeLine:=by
 obtain⟨z,a_,n,r,e⟩:=I.hok p _ h
 exact⟨a_,n,r,e,z⟩
theorem Inv.lstUpd {pins:List (Addr×Obj)}{σ:St}{H:Hp}{s:Shared}{p:Addr}{xs ys:List V}{a_ its':List Value}{n n':Nat}{f:Obj->Obj}(I:Inv X pins σ H s)(h:H p=some (.lst xs))
  (ho:s.heap.get? p=some {cls:= .type "list",data:= .seq a_.toArray n}) (hf:f {cls:= .type "list",data:= .seq a_.toArray n}={cls:= .type "list",data:= .seq its'.toArray n'}) (r:Vals ys its') (hz:ys.length<=sizeLine) (t:Nat):
  Inv X pins σ (upd H p (.lst ys)) {s with heap:=s.heap.update p f,toks:=t}:=by
 have e:(s.heap.update p f).get? p=some {cls:= .type "list",data:= .seq its'.toArray n'}:=by
  rw[Heap.get?_update_self f ho (by rw[hf]<;>rfl),hf]
 refine I.write (x:=p) (e:=p) (by rw[h];trivial) (.inl rfl) (λb u hb q=>(Heap.get?_update_other _ _ (HX hb)).trans q) ⟨_,e⟩ ?_
 exact⟨hz,its',n',r,e⟩
def yL:V->V->V->Hp->(Hp->Prop)->Prop:=λo i v H Q=>∃p xs k j,o= .ref p/\i= .int k/\H p=some (.lst xs)/\xR xs.length k=some j/\Q (upd H p (.lst (xs.set j v)))
theorem wI:tI X yL:=by
 intro pins s σ H o i v ov iv u Q I ro ri rv h;obtain⟨p,xs,k,j,rfl,rfl,hp,hj,q⟩:=h;cases ro;obtain⟨t,rfl⟩:=ri;obtain⟨a_,n,r,ho,hz⟩:=I.lst hp;obtain⟨h1,h2,h3,h4⟩:=rA hj;have hl:=r.length;have hn:=fC;have I':Inv X pins σ (upd H p (.lst (xs.set j v))) {s with heap:=s.heap.update p (Obj.mapSeq (·.setIfInBounds j u))}:=
  I.lstUpd hp ho (qt a_ n j u) (r.set rv j) (by rw[List.length_set];exact hz) s.toks
 by_cases h0:0<=k
 .have hk:k.toNat=j:=by
   rw[seqIndex_of h0 h4] at h1;exact Ga h1
  exact PySem.W.ki_setAt ho h0 (by lia) (by rw[FV,←hl];exact h4) (by rw[hk];exact⟨_,I',q⟩)
 .have hk:(k+(a_.toArray.size:Int)).toNat=j:=by
   rw[seqIndex_neg (by lia) h3] at h1;rw[FV,←hl];exact Ga h1
  exact PySem.W.ki_setBack ho (by lia) (by rw[FV,←hl];exact h3) (by lia) (by rw[hk];exact⟨_,I',q⟩)
theorem lZ (lo hi:Option Int)(n:Nat):(sliceBounds lo hi none n).1=((HT.sIx n 0 lo:Nat):Int)/\(sliceBounds lo hi none n).2.1=((HT.sIx n n hi:Nat):Int)/\(sliceBounds lo hi none n).2.2=1:=by
 refine⟨?_,?_,rfl⟩
 .cases lo with
  |none=>simp [sliceBounds,HT.sIx]
  |some i=>
   simp only[sliceBounds,HT.sIx,Option.getD_none,show(1:Int)>0 by decide,JK]
   by_cases h:i<0
   .simp only[h,JK]<;>lia
   .simp only[h,ML]<;>lia
 .cases hi with
  |none=>simp [sliceBounds,HT.sIx]
  |some i=>
   simp only[sliceBounds,HT.sIx,Option.getD_none,show(1:Int)>0 by decide,JK]
   by_cases h:i<0
   .simp only[h,JK]<;>lia
   .simp only[h,ML]<;>lia
theorem jM (a_:List Value)(lo hi:Option Int):slicePick a_.toArray lo hi none=((a_.drop (HT.sIx a_.length 0 lo)).take (HT.sIx a_.length a_.length hi -HT.sIx a_.length 0 lo)).toArray:=by
 obtain⟨h1,h2,h3⟩:=lZ lo hi a_.toArray.size;unfold slicePick;rw[h1,h2,h3];simp only[sliceRange_one,pick_run,FV]<;>rfl
def CD (K:Kd):V->Option Int->Option Int->Hp->VK->Prop:=λx lo hi H Q=>∃a xs,x= .ref a/\SqL K H a xs/\∀p,H p=none->Q (.ref p) (upd H p (.lst (dO xs lo hi)))
theorem sl_list:SlR X (CD X.K):=by
 intro pins s σ H x v vl vu lo hi sl Q I rx hs pl pu h;obtain⟨a,xs,rfl,hx,q⟩:=h;cases rx;obtain⟨a_,r,ht,hz⟩:=I.list hx;have hlen:=r.length;refine⟨"list",_,slot_list_getitem.lookup,ht.isList.typeIs,?_⟩;refine wpAny_getItem_list_slice ht.isList hs pl pu .none (by simp) ?_ (by rw[FV]<;>lia);rw[jM,←hlen];refine⟨.ref s.heap.objs.size,_,I.laid (t':=s.toks) (o:= .lst (dO xs lo hi)) (λb ob q=>FG _ q) (Fz _) ?_,rfl,q _ (I.hok.fresh (Fz _))⟩;exact⟨GB (fX xs lo hi) hz,_,0,(r.drop (HT.sIx xs.length 0 lo)).take (HT.sIx xs.length xs.length hi -HT.sIx xs.length 0 lo),FW _ rfl⟩
def F0:V->Bool
 | .non=>true
 | .bl _=>true
 | .int _=>true
 | .str _=>true
 |_=>false
def eE:V->V->Bool
 | .non,.non=>true
 | .bl a,.bl b=>a==b
 | .bl a,.int b=>(if a then 1 else 0)==b
 | .int a,.bl b=>a==(if b then 1 else 0)
 | .int a,.int b=>a==b
 | .str a,.str b=>a==b
 |_,_=>false
theorem eO {A:Around}{s:Shared}{y x:V}{u v:Value}(ry:RelV y u)(rx:RelV x v)(fy:F0 y=true)(fx:F0 x=true):SeqAt.EqAt A s u v (eE y x):=by
 cases y with
 |non=>
  cases ry
  cases x with
  |non=>cases rx;exact IW _
  |bl b=>cases rx;exact SeqAt.EqAt.none_bool b
  |int b=>obtain⟨t,rfl⟩:=rx;exact SeqAt.EqAt.none_int b t
  |str b=>obtain⟨t,rfl⟩:=rx;exact SeqAt.EqAt.none_str b t
  |_=>exact absurd (show false=true from fx) Gi
 |bl a=>
  cases ry
  cases x with
  |non=>cases rx;exact SeqAt.EqAt.bool_none a
  |bl b=>cases rx;exact SeqAt.EqAt.bool_bool a b
  |int b=>obtain⟨t,rfl⟩:=rx;exact SeqAt.EqAt.bool_int a b t
  |str b=>obtain⟨t,rfl⟩:=rx;exact SeqAt.EqAt.bool_str a b t
  |_=>exact absurd (show false=true from fx) Gi
 |int a=>
  obtain⟨t',rfl⟩:=ry
  cases x with
  |non=>cases rx;exact SeqAt.EqAt.int_none a t'
  |bl b=>cases rx;exact SeqAt.EqAt.int_bool a t' b
  |int b=>obtain⟨t,rfl⟩:=rx;exact SeqAt.EqAt.int_int a t' b t
  |str b=>obtain⟨t,rfl⟩:=rx;exact Jb a t' b t
  |_=>exact absurd (show false=true from fx) Gi
 |str a=>
  obtain⟨t',rfl⟩:=ry
  cases x with
  |non=>cases rx;exact SeqAt.EqAt.str_none a t'
  |bl b=>cases rx;exact SeqAt.EqAt.str_bool a t' b
  |int b=>obtain⟨t,rfl⟩:=rx;exact Jc a t' b t
  |str b=>obtain⟨t,rfl⟩:=rx;exact SeqAt.EqAt.str_str a t' b t
  |_=>exact absurd (show false=true from fx) Gi
 |_=>exact absurd (show false=true from fy) Gi
def qi (x:V)(u:Value):Bool:=match u with
 | .none=>eE .non x
 | .bool b=>eE (.bl b) x
 | .int i _=>eE (.int i) x
 | .str z _=>eE (.str z) x
 |_=>false
theorem vp {x y:V}{u:Value}(r:RelV y u)(f:F0 y=true):qi x u=eE y x:=by
 cases y with
 |non=>cases r;rfl
 |bl b=>cases r;rfl
 |int i=>obtain⟨t,rfl⟩:=r;rfl
 |str z=>obtain⟨t,rfl⟩:=r;rfl
 |_=>exact absurd (show false=true from f) Gi
theorem eI {x:V}:∀{xs:List V} {us:List Value},Vals xs us->xs.all F0=true->us.any (qi x)=xs.any λy=>eE y x
 |_,_,.nil,_=>rfl
 |y::xs,u::us,.cons r t,f=>by
  rw[HL,Gh] at f;rw[IU,IU,vp r f.1,eI t f.2]
theorem bf {A:Around}{s:Shared}{x:V}{v:Value}(rx:RelV x v)(fx:F0 x=true):∀{xs:List V} {us:List Value},Vals xs us->xs.all F0=true->∀u∈us,SeqAt.EqAt A s u v (qi x u)
 |_,_,.nil,_=>λu hu=>by cases hu
 |y::xs,u::us,.cons r t,f=>λu' hu=>by
  rw[HL,Gh] at f;rcases Gn.mp hu with rfl|hu
  .rw[vp r f.1];exact eO r rx f.1 fx
  .exact bf rx fx t f.2 u' hu
def BH (x:V)(xs:List V):Bool:=xs.any λy=>eE y x
def DC (K:Kd)(neg:Bool):R2:=λx y H Q=>∃p xs,y= .ref p/\(SqL K H p xs\/SqT K H p xs)/\F0 x=true/\xs.all F0=true/\Q (.bl (if neg then !BH x xs else BH x xs)) H
theorem op_in_seq:OpR X (compareOp .In) (DC X.K false):=by
 intro pins s σ H x y v u Q I rx ry h;obtain⟨p,xs,rfl,hq,fx,fs,q⟩:=h;cases ry;rcases hq with hq|hq
 .obtain⟨a_,r,pl,hz⟩:=I.list hq;refine SeqAt.in_listAt (qi x) pl.isList (λw hw=>bf rx fx r fs w (by simpa using hw)) ⟨.bl _,H,I,rfl,?_⟩;rw[show a_.toArray.any (qi x)=a_.any (qi x) by simp,eI r fs];exact q
 .obtain⟨a_,r,pl,hz⟩:=I.tuple hq;refine SeqAt.in_tupleAt (qi x) pl (λw hw=>bf rx fx r fs w (by simpa using hw)) ⟨.bl _,H,I,rfl,?_⟩;rw[show a_.toArray.any (qi x)=a_.any (qi x) by simp,eI r fs];exact q
theorem op_notIn_seq:OpR X (compareOp .NotIn) (DC X.K true):=by
 intro pins s σ H x y v u Q I rx ry h;obtain⟨p,xs,rfl,hq,fx,fs,q⟩:=h;cases ry;rcases hq with hq|hq
 .obtain⟨a_,r,pl,hz⟩:=I.list hq;refine SeqAt.notIn_listAt (qi x) pl.isList (λw hw=>bf rx fx r fs w (by simpa using hw)) ⟨.bl _,H,I,rfl,?_⟩;rw[show a_.toArray.any (qi x)=a_.any (qi x) by simp,eI r fs];exact q
 .obtain⟨a_,r,pl,hz⟩:=I.tuple hq;refine SeqAt.notIn_tupleAt (qi x) pl (λw hw=>bf rx fx r fs w (by simpa using hw)) ⟨.bl _,H,I,rfl,?_⟩;rw[show a_.toArray.any (qi x)=a_.any (qi x) by simp,eI r fs];exact q
theorem lE:OpR X (compareOp .NotIn) (λx y H Q=>∃i j,x= .str i/\y= .str j/\Q (.bl (!(!(Builtin.Str.occurrences j i 0 j.length 1).isEmpty))) H):=by
 intro pins s σ H x y v u Q I rx ry h;obtain⟨i,j,rfl,rfl,q⟩:=h;obtain⟨t,rfl⟩:=rx;obtain⟨t',rfl⟩:=ry;exact notIn_str ⟨.bl _,H,I,rfl,q⟩
theorem CallR.or {f:Value}{r r':List V->Hp->VK->Prop}(h:CallR X f r)(h':CallR X f r'):CallR X f (λxs H Q=>r xs H Q\/r' xs H Q):=by
 intro pins s σ H xs us Q I rs q;rcases q with q|q
 .exact h pins s σ H xs us Q I rs q
 .exact h' pins s σ H xs us Q I rs q
theorem call_list_of:CallR X (.type "list") (λxs H Q=>∃p ys,xs=[.ref p]/\(SqL X.K H p ys\/SqT X.K H p ys)/\∀l,H l=none->Q (.ref l) (upd H l (.lst ys))):=by
 intro pins s σ H xs us Q I r h;obtain⟨p,ys,rfl,hq,q⟩:=h;obtain⟨u,rfl,rx⟩:=P0 r;cases rx;have fin:∀(a_:List Value),Vals ys a_->ys.length<=sizeLine->∀(h':Heap) (c':Nat),(∀b o',s.heap.get? b=some o'->h'.get? b=some o')->
   h'.get? s.heap.objs.size=some {cls:= .type "list",dict:=none,data:= .seq a_.toArray c',slots:= #[]}->EP X pins σ Q (.ref s.heap.objs.size) {s with heap:=h'}:=λa_ r' hz h' c' kp e=>
  ⟨.ref s.heap.objs.size,_,I.laid (t':=s.toks) kp (Fz _) (show ObjOk X.prog X.w _ h' _ (.lst ys) from⟨hz,a_,c',r',e⟩),rfl,q _ (I.hok.fresh (Fz _))⟩
 rcases hq with hq|hq
 .obtain⟨a_,r',pl,hz⟩:=I.list hq;have hlen:=r'.length;obtain⟨o,ho,hc,n,hd⟩:=pl.isList;exact call_list_seq p (.inl rfl) ho hc hd (λh' c' kp e=>fin a_ r' hz h' c' kp e) (by simp only[FV]<;>lia)
 .obtain⟨a_,r',pl,hz⟩:=I.tuple hq;have hlen:=r'.length;obtain⟨o,ho,hc,n,hd⟩:=pl;exact call_list_seq p (.inr rfl) ho hc hd (λh' c' kp e=>fin a_ r' hz h' c' kp e) (by simp only[FV]<;>lia)
def BJ (K:Kd)(T:String)(x:V)(H:Hp):Prop:=match x with
 | .str _=>T="str"
 | .int _=>T="int"
 | .ref p=>(T="list"/\∃xs,SqL K H p xs)\/(T="tuple"/\∃o,K.lookup p=some o/\o.cls= .type "tuple"/\o.dict=none)\/
   (T="dict"/\((∃kvs,H p=some (.dK kvs))\/∃kvs,H p=some (.dT kvs)))\/(T="set"/\∃S n,H p=some (.set S n))
 |_=>False
theorem vy {pins:List (Addr×Obj)}{σ:St}{H:Hp}{s:Shared}{T:String}{x:V}{v:Value}(I:Inv X pins σ H s)(r:RelV x v)(ty:BJ X.K T x H):
  s.TypeIs v T/\∀a,v= .ref a->∃ob,s.heap.get? a=some ob/\ob.dict=none:=by
 cases x with
 |str z=>
  obtain⟨t,rfl⟩:=r
  cases (show T="str" from ty)
  exact⟨typeIs_str s z t,λ_ e=>nomatch e⟩
 |int i=>
  obtain⟨t,rfl⟩:=r
  cases (show T="int" from ty)
  exact⟨typeIs_int s i t,λ_ e=>nomatch e⟩
 |ref p=>
  cases r
  rcases ty with⟨rfl,xs,hq⟩|⟨rfl,o,hk,hc,hd⟩|⟨rfl,hk⟩|⟨rfl,S,n,hk⟩
  .obtain⟨a_,_,pl,_⟩:=I.list hq
   refine⟨pl.isList.typeIs,λa e=>?_⟩
   cases e
   obtain⟨o,n,e,c,hd,_⟩:=pl
   exact⟨o,e,hd⟩
  .refine⟨⟨o,I.kIn p o hk,hc⟩,λa e=>?_⟩
   cases e
   exact⟨o,I.kIn _ o hk,hd⟩
  .have z:∃o,s.heap.get? p=some o/\o.ExactDict:=by
    rcases hk with⟨kvs,hk⟩|⟨kvs,hk⟩
    .obtain⟨_,_,_,_,o,_,_,e,ex,_⟩:=I.hok p _ hk;exact⟨o,e,ex⟩
    .obtain⟨_,_,_,_,o,_,_,e,ex,_⟩:=I.hok p _ hk;exact⟨o,e,ex⟩
   obtain⟨o,e,ex⟩:=z
   refine⟨⟨o,e,ex.1⟩,λa e2=>?_⟩
   cases e2
   exact⟨o,e,ex.2.1⟩
  .obtain⟨o,_,_,_,e,ex,_⟩:=I.hok p _ hk
   refine⟨⟨o,e,ex.1⟩,λa e2=>?_⟩
   cases e2
   exact⟨o,e,ex.2.1⟩
 |_=>exact False.elim ty
def AX (K:Kd)(T:String)(r:V->List V->Hp->VK->Prop)(to:TE):TE:=λσ H Q=>to σ H λx H1=>BJ K T x H1/\r x [] H1 Q
def DW (K:Kd)(T:String)(r:V->List V->Hp->VK->Prop)(to:TE)(t:TA):TE:=λσ H Q=>to σ H λx H1=>BJ K T x H1/\t σ H1 λxs H2=>r x xs H2 Q
variable {o e:Expr} {es:List Expr} {to:TE} {t:TA} {name:Str} {apos b_:Pos} {T id:String} {r:V->List V->Hp->VK->Prop}
theorem AM (pa:PlainAttrs T)(slot:Slot T name id)(MB:typeOf (.builtin id)=pure (.type "method_descriptor"))(hm:xW X id r)(ho:PE X o to)
  (e_:attributeBase o name X.env (eval o X.env)=eval o X.env:=by rfl) (f_:(apos.endLine==b_.line)=true:=by rfl):PE X (.Call (.Attribute o name apos) [] [] b_) (AX X.K T r to):=by
 intro pins s σ H Q I h
 refine Iz e_ f_ (M8 (ho pins s σ H _ I h) λv s1 ⟨x,H1,I1,r1,ty,q1⟩=>?_)
 obtain⟨h1,h2⟩:=vy I1 r1 ty
 exact⟨T,id,pa,slot,MB,h1,h2,Hy rfl (IX (hm pins s1 σ H1 x [] v [] Q I1 r1 .nil q1))⟩
theorem Bp (pa:PlainAttrs T)(slot:Slot T name id)(MB:typeOf (.builtin id)=pure (.type "method_descriptor"))(hm:xW X id r)(ho:PE X o to)(ha:PA X (e::es) t)
  (e_:attributeBase o name X.env (eval o X.env)=eval o X.env:=by rfl)
  (RF:((backTo b_ (starEach (e::es) X.env)).all (λx=>!x.1)&&(backToKw b_ (keywordEach [] X.env)).all (λx=>x.1.isSome)
   &&decide ((e::es).length+([]:List Keyword).length+(if([]:List Keyword).isEmpty then 0 else 1)<30))=true:=by rfl)
  (f_:(apos.endLine==b_.line)=true:=by rfl) (hs:starEach (e::es) X.env=(false,eval e X.env)::starEach es X.env:=by rfl) (Nw:(backTo b_ (starEach es X.env)).any (·.1)=false:=by rfl):
  PE X (.Call (.Attribute o name apos) (e::es) [] b_) (DW X.K T r to t):=by
 intro pins s σ H Q I h
 refine wpAny_Call_method_late e_ RF f_ rfl (M8 (ho pins s σ H _ I h) λv s1 ⟨x,H1,I1,r1,ty,q1⟩=>?_)
 obtain⟨h1,h2⟩:=vy I1 r1 ty
 refine⟨T,id,pa,slot,MB,h1,h2,?_⟩
 have hA:=ha b_ pins s1 σ H1 _ I1 q1
 rw[hs] at hA⊢
 refine Hy (by show(false||(backTo b_ (starEach es X.env)).any (·.1))=false;rw[Nw]<;>rfl) (IT ?_)
 exact M8 hA λus s2 ⟨vs,H2,I2,r2,q2⟩=>hm pins s2 σ H2 x vs v us Q I2 r1 r2 q2
end
def EC (X:Cx)(id:String)(r:V->List V->Hp->VK->Prop):Prop:=
 ∀(pins:List (Addr×Obj)) (s:Shared) (σ:St) (H:Hp) (x:V) (xs:List V) (v:Value) (us:List Value) (Q:VK),Inv X pins σ H s->RelV x v->Vals xs us->r x xs H Q->
  wpAny (model X.prog X.w) X.A (call (.builtin id) (v::us)) (EP X pins σ Q) X.xe s
theorem Vals.one:∀{x:V} {us:List Value},Vals [x] us->∃u,us=[u]/\RelV x u
 |_,_,.cons r .nil=>⟨_,rfl,r⟩
theorem Vals.zero:∀{us:List Value},Vals [] us->us=[]
 |_,.nil=>rfl
section
variable {X:Cx} {pins:List (Addr×Obj)} {σ:St} {H:Hp} {s:Shared} {l b:Addr} {xs ys zs:List V}
theorem Inv.lset {a_ its':List Value}{n:Nat}{f:Array Value->Array Value}{t':Nat}(I:Inv X pins σ H s)(hH:H l=some (.lst xs))
  (e:s.heap.get? l=some {cls:= .type "list",data:= .seq a_.toArray n}) (hf:f a_.toArray=its'.toArray) (hv:Vals ys its') (hz:ys.length<=sizeLine):
  Inv X pins σ (upd H l (.lst ys)) {s with heap:=s.heap.update l (Obj.mapSeq f),toks:=t'}:=by
 have q:=PySem.IsL.update e f
 rw[hf] at q
 refine I.write (x:=l) (e:=l) (by rw[hH];exact trivial) (.inl rfl) (λb' u hb hu=>(Heap.get?_update_other s.heap (Obj.mapSeq f) (HX hb)).trans hu) ⟨_,q⟩ ?_
 exact⟨hz,its',_,hv,q⟩
theorem Inv.lnew {a_:List Value}{t':Nat}(I:Inv X pins σ H s)(hv:Vals ys a_)(hz:ys.length<=sizeLine):
  Inv X pins σ (upd H s.heap.objs.size (.lst ys)) {s with heap:=s.heap.push {cls:= .type "list",data:= .seq a_.toArray},toks:=t'}:=
 I.laid (λ_ _ q=>FG _ q) (Fz _) ⟨hz,a_,0,hv,FW _ rfl⟩
theorem Inv.fresh (I:Inv X pins σ H s):H s.heap.objs.size=none:=I.hok.fresh (Fz _)
theorem Inv.lstM (I:Inv X pins σ H s)(hH:H l=some (.lst xs)):xs.length<=sizeLine/\∃(a_:List Value) (n:Nat),Vals xs a_/\xs.length=a_.length/\s.heap.get? l=some {cls:= .type "list",data:= .seq a_.toArray n}:=by
 obtain⟨z,a_,n,r,e⟩:=I.hok l _ hH;exact⟨z,a_,n,r,r.length,e⟩
end
section
variable {X:Cx}
def rF:V->List V->Hp->VK->Prop:=λx vs H Q=>∃l xs y,x= .ref l/\vs=[y]/\H l=some (.lst xs)/\xs.length<sizeLine/\Q .non (upd H l (.lst (xs++[y])))
theorem tJ:EC X "list.append" rF:=by
 intro pins s σ H x vs v us Q I rx rv h;obtain⟨l,xs,y,rfl,rfl,hH,hz,q⟩:=h;cases rx;obtain⟨u,rfl,ru⟩:=rv.one;obtain⟨z,a_,n,r,hl,e⟩:=I.lstM hH;refine call_meets F.slot_list_append ⟨_,e,rfl⟩ F.entry_list_append (F.args_list_append_2 _ _) (PySem.list_append l a_.toArray n u (by rw[FV];lia)) ⟨e,?_⟩;refine⟨.non,_,I.lset (its':=a_++[u]) hH e (by simp) (r.append (.cons ru .nil)) ?_,rfl,q⟩;rw[FE,FT];lia
def wH:V->List V->Hp->VK->Prop:=λx vs H Q=>∃l xs,x= .ref l/\vs=[]/\H l=some (.lst xs)/\Q .non (upd H l (.lst []))
theorem vP:EC X "list.clear" wH:=by
 intro pins s σ H x vs v us Q I rx rv h;obtain⟨l,xs,rfl,rfl,hH,q⟩:=h;cases rx;have Mj:=rv.zero;subst Mj;obtain⟨z,a_,n,r,hl,e⟩:=I.lstM hH;refine call_meets F.slot_list_clear ⟨_,e,rfl⟩ F.entry_list_clear (F.args_list_clear_1 _) (AutoSeq1.list_clear_list_0 l a_.toArray n (by rw[FV];lia)) ⟨e,?_⟩;exact⟨.non,_,I.lset (its':=[]) (ys:=[]) hH e rfl .nil (Hk _),rfl,q⟩
def Bz:R2:=λx y H Q=>∃l b xs zs,x= .ref l/\y= .ref b/\H l=some (.lst xs)/\H b=some (.lst zs)/\xs.length+zs.length<=sizeLine/\∀p,H p=none->Q (.ref p) (upd H p (.lst (xs++zs)))
theorem op_cat:OpR X (binaryOp .Add) Bz:=by
 intro pins s σ H x y v u Q I rx ry h;obtain⟨l,b,xs,zs,rfl,rfl,hH,hB,hz,q⟩:=h;cases rx;cases ry;obtain⟨z,a_,n,r,hl,e⟩:=I.lstM hH;obtain⟨z2,Nv,n2,r2,Qr,e2⟩:=I.lstM hB;refine PySem.P.add_list e e2 ?_ (by rw[FV,FV];lia);have ea:a_.toArray++Nv.toArray=(a_++Nv).toArray:=by simp
 rw[ea];exact⟨.ref _,_,I.lnew (t':=s.toks) (r.append r2) (by rw[FE];lia),rfl,q _ I.fresh⟩
end
section
variable {prog:Program} {w:World} {A:Around} {E:Value->Shared->Prop} {s:Shared}
end
section
variable {X:Cx}
end
section
variable {κ:Type} [DecidableEq κ]
def A2 (kvs:List (κ×V))(k:κ):Option V:=(kvs.find? λkv=>decide (kv.1=k)).map (·.2)
def E3 (kvs:List (κ×V))(k:κ)(v:V):List (κ×V):=
 if(kvs.any λkv=>decide (kv.1=k))=true then kvs.map (λkv=>if kv.1=k then(kv.1,v) else kv) else kvs++[(k,v)]
theorem I0 {p:κ×V}{r:List (κ×V)}{k:κ}(e:p.1=k):A2 (p::r) k=some p.2:=by simp [A2,HY,e]
theorem I9 {p:κ×V}{r:List (κ×V)}{k:κ}(e:¬p.1=k):A2 (p::r) k=A2 r k:=by simp [A2,HY,e]
theorem M9 (k:κ):∀kvs:List (κ×V),(kvs.any λkv=>decide (kv.1=k))=(A2 kvs k).isSome
 |[]=>rfl
 |p::r=>by
  rw[IU];by_cases e:p.1=k
  .simp only[I0 e,FZ e,Bool.true_or,Option.isSome_some]
  .rw[I9 e,Ge e,Bool.false_or];exact M9 k r
theorem nH (k j:κ)(y:V):∀kvs:List (κ×V),A2 (kvs.map λkv=>if kv.1=k then(kv.1,y) else kv) j=(A2 kvs j).map λx=>if j=k then y else x
 |[]=>rfl
 |p::r=>by
  have ih:=nH k j y r;rw[GF];by_cases h:p.1=k
  .rw[if_pos h];by_cases e:p.1=j
   .rw[I0 (p:=(p.1,y)) e,I0 e,IA,if_pos (e.symm.trans h)]
   .rw[I9 (p:=(p.1,y)) e,I9 e,ih]
  .rw[if_neg h];by_cases e:p.1=j
   .rw[I0 (p:=p) e,I0 e,IA,if_neg (λz=>h (e.trans z))]
   .rw[I9 (p:=p) e,I9 e,ih]
theorem kM (k j:κ)(y:V):∀kvs:List (κ×V),A2 kvs k=none->A2 (kvs++[(k,y)]) j=if j=k then some y else A2 kvs j
 |[],_=>by
  by_cases e:k=j
  .rw[if_pos e.symm];exact I0 (p:=(k,y)) e
  .rw[if_neg (λz=>e z.symm)];exact I9 (p:=(k,y)) e
 |p::r,hn=>by
  rw[HS];have hk:¬p.1=k:=λz=>by rw[I0 z] at hn;cases hn
  rw[I9 hk] at hn;have ih:=kM k j y r hn;by_cases e:p.1=j
  .rw[I0 e,I0 e,if_neg (λz=>hk (e.trans z))]
  .rw[I9 e,I9 e,ih]
theorem nO (kvs:List (κ×V))(k j:κ)(y:V):A2 (E3 kvs k y) j=if j=k then some y else A2 kvs j:=by
 unfold E3;by_cases a:(kvs.any λkv=>decide (kv.1=k))=true
 .rw[if_pos a,nH];rw[M9] at a;by_cases e:j=k
  .obtain⟨x,hx⟩:=Jj.mp a;rw[if_pos e,e,hx,IA,if_pos rfl]
  .rw[if_neg e];cases A2 kvs j with
   |none=>rfl
   |some x=>rw[IA,if_neg e]
 .rw[if_neg a];refine kM k j y kvs ?_;rw[M9] at a;cases q:A2 kvs k with
  |none=>rfl
  |some x=>rw[q] at a;exact(a rfl).elim
theorem X0 (kvs:List (κ×V))(k:κ)(v:V):(E3 kvs k v).length<=kvs.length+1:=by
 unfold E3;split
 .rw[Fv];lia
 .rw[FE,GR,JL];lia
theorem Q8 {kvs:List (κ×V)}{k:κ}(v:V)(h:A2 kvs k=none):E3 kvs k v=kvs++[(k,v)]:=by
 unfold E3;rw[M9,h];exact if_neg (by decide)
theorem RelO.isSome_eq {o:Option V}{u:Option Value}(r:RelO o u):o.isSome=u.isSome:=by
 cases o with
 |none=>cases u with
  |none=>rfl
  |some _=>exact(show False from r).elim
 |some _=>cases u with
  |none=>exact(show False from r).elim
  |some _=>rfl
theorem RelO.getD {o:Option V}{u:Option Value}{d:V}{d':Value}(r:RelO o u)(rd:RelV d d'):RelV (o.getD d) (u.getD d'):=by
 cases o with
 |none=>cases u with
  |none=>exact rd
  |some _=>exact(show False from r).elim
 |some _=>cases u with
  |none=>exact(show False from r).elim
  |some _=>exact r
theorem KV.val {kvs:List (κ×V)}{vs:List (κ×Value)}(r:KV kvs vs)(k:κ):RelO (A2 kvs k) (valueAt vs k):=by
 unfold KV at r;induction r with
 |nil=>exact True.intro
 | @cons p q ps qs h t ih=>
  obtain⟨h1,h2⟩:=h
  by_cases e:p.1=k
  .have e':q.1=k:=h1.symm.trans e
   have b:valueAt (q::qs) k=some q.2:=by simp [valueAt,HY,e']
   rw[I0 e,b];exact h2
  .have e':¬q.1=k:=λz=>e (h1.trans z)
   have b:valueAt (q::qs) k=valueAt qs k:=by simp [valueAt,HY,e']
   rw[I9 e,b];exact ih
theorem KV.any {kvs:List (κ×V)}{vs:List (κ×Value)}(r:KV kvs vs)(k:κ):(kvs.any λkv=>decide (kv.1=k))=vs.any λkv=>decide (kv.1=k):=by
 unfold KV at r;induction r with
 |nil=>rfl
 |cons h t ih=>rw[IU,IU,ih,h.1]
theorem KV.repl {kvs:List (κ×V)}{vs:List (κ×Value)}(r:KV kvs vs)(k:κ){y:V}{u:Value}(ry:RelV y u):
  KV (kvs.map λkv=>if kv.1=k then(kv.1,y) else kv) (vs.map λkv=>if kv.1=k then(kv.1,u) else kv):=by
 unfold KV at r⊢
 induction r with
 |nil=>exact .nil
 | @cons p q ps qs h t ih=>
  rw[GF,GF]
  refine .cons ?_ ih
  obtain⟨h1,h2⟩:=h
  by_cases e:p.1=k
  .rw[if_pos e,if_pos (h1.symm.trans e)];exact⟨h1,ry⟩
  .rw[if_neg e,if_neg (λz=>e (h1.trans z))];exact⟨h1,h2⟩
theorem KV.put {kvs:List (κ×V)}{vs:List (κ×Value)}(r:KV kvs vs)(k:κ){y:V}{u:Value}(ry:RelV y u):KV (E3 kvs k y) (stored vs k u):=by
 unfold E3 stored;rw[r.any k];by_cases e:(vs.any λkv=>decide (kv.1=k))=true
 .rw[if_pos e,if_pos e];exact r.repl k ry
 .rw[if_neg e,if_neg e];exact Paired.snoc r ⟨rfl,ry⟩
theorem KV.keys {kvs:List (κ×V)}{vs:List (κ×Value)}(r:KV kvs vs):kvs.map (·.1)=vs.map (·.1):=by
 unfold KV at r;induction r with
 |nil=>rfl
 |cons h t ih=>rw[GF,GF,ih,h.1]
theorem KV.length {kvs:List (κ×V)}{vs:List (κ×Value)}(r:KV kvs vs):kvs.length=vs.length:=GV r
end
theorem jy {P:Program}{w:World}{k:j4}{u:Value}(r:RelV (kV k) u):(l0 P w).is k u=true:=by
 cases k with
 |inl i=>obtain⟨t,e⟩:=(show ∃t,u=Value.int i t from r);subst e;exact nS P w i t
 |inr x=>obtain⟨t,e⟩:=(show ∃t,u=Value.str x t from r);subst e;exact oN P w x t
theorem ku {P:Program}{w:World}:∀{ks:List j4} {us:List Value},Vals (ks.map kV) us->ItemsAre (l0 P w) ks us
 |[],_,r=>by rw[Iu] at r;cases r;exact .nil
 |k::ks,_,r=>by
  rw[GF] at r;cases r with
  |cons h t=>exact .cons (jy h) (ku t)
abbrev KT (H:Hp):List (List j4×V)->List (List j4×Addr×Value)->Prop:=Paired λp q=>p.1=q.1/\H q.2.1=some (.tup (p.1.map kV))/\RelV p.2 q.2.2
theorem KT.val {H:Hp}{kvs:List (List j4×V)}{xs:List (List j4×Addr×Value)}(r:KT H kvs xs)(k:List j4):RelO (A2 kvs k) ((atKey xs k).map (·.2)):=by
 induction r with
 |nil=>exact True.intro
 | @cons p q ps qs h t ih=>
  obtain⟨h1,_,h2⟩:=h
  by_cases e:p.1=k
  .have e':q.1=k:=h1.symm.trans e
   have b:atKey (q::qs) k=some q.2:=by simp [atKey,HY,e']
   rw[I0 e,b];exact h2
  .have e':¬q.1=k:=λz=>e (h1.trans z)
   have b:atKey (q::qs) k=atKey qs k:=by simp [atKey,HY,e']
   rw[I9 e,b];exact ih
theorem KT.repl {H:Hp}{kvs:List (List j4×V)}{xs:List (List j4×Addr×Value)}(r:KT H kvs xs)(k:List j4){y:V}{u:Value}(ry:RelV y u):
  KT H (kvs.map λkv=>if kv.1=k then(kv.1,y) else kv) (xs.map (putAt k u)):=by
 induction r with
 |nil=>exact .nil
 | @cons p q ps qs h t ih=>
  rw[GF,GF]
  refine .cons ?_ ih
  obtain⟨h1,h2,h3⟩:=h
  unfold putAt
  by_cases e:p.1=k
  .rw[if_pos e,if_pos (h1.symm.trans e)];exact⟨h1,h2,ry⟩
  .rw[if_neg e,if_neg (λz=>e (h1.trans z))];exact⟨h1,h2,h3⟩
theorem KT.put {H:Hp}{kvs:List (List j4×V)}{xs:List (List j4×Addr×Value)}(r:KT H kvs xs)(k:List j4){b:Addr}{y:V}{u:Value}(hb:H b=some (.tup (k.map kV)))(ry:RelV y u):
  KT H (E3 kvs k y) (storedH xs k b u):=by
 have e:(kvs.any λkv=>decide (kv.1=k))=(atKey xs k).isSome:=by
  rw[M9,(r.val k).isSome_eq,Jl]
 unfold E3 storedH
 rw[e]
 by_cases q:(atKey xs k).isSome=true
 .rw[if_pos q,if_pos q];exact r.repl k ry
 .rw[if_neg q,if_neg q];exact Paired.snoc r ⟨rfl,hb,ry⟩
theorem KT.keeps {H H':Hp}{kvs:List (List j4×V)}{xs:List (List j4×Addr×Value)}(r:KT H kvs xs)(ht:∀b ys,H b=some (.tup ys)->H' b=some (.tup ys)):KT H' kvs xs:=
 Paired.mapP r λ_ _ z=>⟨z.1,ht _ _ z.2.1,z.2.2⟩
section
variable {P:Program} {w:World} {H:Hp} {h:Heap} {a:Addr}
theorem yR {u:HO}(ok:HOk P w H h)(e:Rd H a u):ObjOk P w H h a u:=e.ok ok
theorem R0 {kvs:List (j4×V)}(ok:HOk P w H h)(e:Rd H a (.dK kvs)):kvs.length<=sizeLine/\(a==sysModules)=false/\∃vs,KV kvs vs/\h.DictOf (l0 P w) a vs:=
 show ObjOk P w H h a (.dK kvs) from yR ok e
theorem rD {kvs:List (j4×V)}(ok:HOk P w H h)(e:H a=some (.dK kvs)):kvs.length<=sizeLine/\(a==sysModules)=false/\∃vs,KV kvs vs/\h.DictOf (l0 P w) a vs:=R0 ok (.inl e)
theorem ff {ks:List j4}(ok:HOk P w H h)(e:H a=some (.tup (ks.map kV))):(tupleKind (l0 P w)).is h ks a:=by
 obtain⟨_,a_,r,o,h1,h2,n,h3⟩:=(show ObjOk P w H h a (.tup (ks.map kV)) from ok a _ e)
 exact⟨o,a_.toArray,n,h1,h2,h3,by simpa using ku r⟩
theorem jh {kvs:List (List j4×V)}(ok:HOk P w H h)(e:Rd H a (.dT kvs)):kvs.length<=sizeLine/\(a==sysModules)=false/\
  ∃xs,KT H kvs xs/\h.DictOfH (tupleKind (l0 P w)) a xs:=by
 obtain⟨z,y,xs,r,o,es,ep,h1,h2,h3,h4,h5⟩:=(show ObjOk P w H h a (.dT kvs) from yR ok e)
 refine⟨z,y,xs,r,o,es,ep,h1,h2,h3,h4,λx hx=>?_,h5⟩
 have all:∀{l:List (List j4×V)} {m:List (List j4×Addr×Value)},KT H l m->∀x∈m,(tupleKind (l0 P w)).is h x.1 x.2.1:=by
  intro l m q;induction q with
  |nil=>intro x hx;exact nomatch hx
  | @cons p q ps qs hq t ih=>
   intro x hx
   rcases Gn.mp hx with e|hx
   .subst e
    exact ff ok (by rw[←hq.1];exact hq.2.1)
   .exact ih x hx
 exact all r x hx
theorem Cn {kvs:List (List j4×V)}(ok:HOk P w H h)(e:H a=some (.dT kvs)):kvs.length<=sizeLine/\(a==sysModules)=false/\
  ∃xs,KT H kvs xs/\h.DictOfH (tupleKind (l0 P w)) a xs:=jh ok (.inl e)
end
def aQ (H:Hp)(a:Addr)(y:V)(r:Option V):Prop:=
 (∃kvs k,Rd H a (.dK kvs)/\y=kV k/\r=A2 kvs k)\/∃kvs k b,Rd H a (.dT kvs)/\y= .ref b/\H b=some (.tup (k.map kV))/\r=A2 kvs k
def DPut (H:Hp)(a:Addr)(y v:V)(H':Hp):Prop:=
 (∃kvs k,H a=some (.dK kvs)/\y=kV k/\kvs.length<sizeLine/\H'=upd H a (.dK (E3 kvs k v)))\/
 ∃kvs k b,H a=some (.dT kvs)/\y= .ref b/\H b=some (.tup (k.map kV))/\kvs.length<sizeLine/\H'=upd H a (.dT (E3 kvs k v))
theorem DPut.k {H:Hp}{a:Addr}{kvs:List (j4×V)}{k:j4}{v:V}(e:H a=some (.dK kvs))(hl:kvs.length<sizeLine):DPut H a (kV k) v (upd H a (.dK (E3 kvs k v))):= .inl ⟨kvs,k,e,rfl,hl,rfl⟩
section
variable {X:Cx} {pins:List (Addr×Obj)} {σ:St} {H:Hp} {s:Shared} {a:Addr} {y v:V} {u r:Value} {o:Option V} {A:Around} {E:Value->Shared->Prop}
theorem Inv.big (I:Inv X pins σ H s):sysModules<s.heap.objs.size:=by
 have h:mainGlobals<s.heap.objs.size:=(I.mod.glob.keeps I.bk).lt;exact KP (by decide) h
theorem tR {Q:Value->Shared->Prop}(hu:A.units+1<cLine)(I:Inv X pins σ H s)(g:aQ H a y (some v))(ry:RelV y u)(h:∀w' s',Inv X pins σ H s'->RelV v w'->Q w' s'):
  wpAny (model X.prog X.w) A (getItem (.ref a) u) Q E s:=by
 rcases g with⟨kvs,k,e,ey,l⟩|⟨kvs,k,b,e,ey,eb,l⟩
 .subst ey
  obtain⟨z,hd,vs,rel,dd⟩:=R0 I.hok e
  obtain⟨w',hw,MA⟩:=RelO.some_of (v:=v) (o:=valueAt vs k) (by rw[l];exact rel.val k)
  exact wpAny_getItem_of (jy ry) dd.mapOf hw (h w' _ (I.tok _) MA)
 .subst ey
  cases (show u=Value.ref b from ry)
  obtain⟨z,hd,xs,rel,dd⟩:=jh I.hok e
  obtain⟨w',hw,MA⟩:=RelO.some_of (v:=v) (o:=(atKey xs k).map (·.2)) (by rw[l];exact rel.val k)
  obtain⟨p,hp,RG⟩:=Gj.mp hw
  refine wpAny_getItem_heap (HW hu) (ff I.hok eb) dd hp ?_
  rw[RG]
  exact h w' _ (I.tok _) MA
theorem DS {Q:Value->Shared->Prop}(hu:A.units+1<cLine)(I:Inv X pins σ H s)(g:aQ H a y o)(ry:RelV y u)(h:∀s',Inv X pins σ H s'->Q (.bool o.isSome) s'):
  wpAny (model X.prog X.w) A (compareOp .In u (.ref a)) Q E s:=by
 rcases g with⟨kvs,k,e,ey,l⟩|⟨kvs,k,b,e,ey,eb,l⟩
 .subst ey
  obtain⟨z,hd,vs,rel,dd⟩:=R0 I.hok e
  refine wpAny_in_of (jy ry) hd dd.mapOf ?_
  rw[←(rel.val k).isSome_eq,←l]
  exact h _ (I.tok _)
 .subst ey
  cases (show u=Value.ref b from ry)
  obtain⟨z,hd,xs,rel,dd⟩:=jh I.hok e
  refine wpAny_in_heap (HW hu) (ff I.hok eb) hd dd ?_
  have q:=(rel.val k).isSome_eq
  rw[Jl] at q
  rw[←q,←l]
  exact h _ (I.tok _)
theorem xl {Q:Value->Shared->Prop}(hu:A.units+1<cLine)(I:Inv X pins σ H s)(g:aQ H a y o)(ry:RelV y u)(h:∀s',Inv X pins σ H s'->Q (.bool (!o.isSome)) s'):
  wpAny (model X.prog X.w) A (compareOp .NotIn u (.ref a)) Q E s:=by
 rcases g with⟨kvs,k,e,ey,l⟩|⟨kvs,k,b,e,ey,eb,l⟩
 .subst ey
  obtain⟨z,hd,vs,rel,dd⟩:=R0 I.hok e
  refine wpAny_notIn_of (jy ry) hd dd.mapOf ?_
  rw[←(rel.val k).isSome_eq,←l]
  exact h _ (I.tok _)
 .subst ey
  cases (show u=Value.ref b from ry)
  obtain⟨z,hd,xs,rel,dd⟩:=jh I.hok e
  refine wpAny_notIn_heap (HW hu) (ff I.hok eb) hd dd ?_
  have q:=(rel.val k).isSome_eq
  rw[Jl] at q
  rw[←q,←l]
  exact h _ (I.tok _)
theorem eh {h':Heap}{t':Nat}{ob:HO}(I:Inv X pins σ H s)(mu:CM (H a))(hs:Heap.SameBut a s.heap h')(he:∃q,h'.get? a=some q)(new:ObjOk X.prog X.w (upd H a ob) h' a ob):
  Inv X pins σ (upd H a ob) {s with heap:=h',toks:=t'}:=
 I.write (x:=a) (e:=a) mu (.inl rfl) (λb q hb z=>(hs.2 b hb).trans z) he new
theorem iS {P:Program}{w:World}{H':Hp}{h':Heap}{kvs:List (j4×V)}{vs:List (j4×Value)}(z:kvs.length<=sizeLine)(hd:(a==sysModules)=false)(rel:KV kvs vs)(dd:h'.DictOf (l0 P w) a vs):
  ObjOk P w H' h' a (.dK kvs):=⟨z,hd,vs,rel,dd⟩
theorem tG {H':Hp}{Q:Unit->Shared->Prop}(hu:A.units+1<cLine)(I:Inv X pins σ H s)(g:DPut H a y v H')(ry:RelV y u)(rv:RelV v r)(h:∀s',Inv X pins σ H' s'->Q () s'):
  wpAny (model X.prog X.w) A (setItem (.ref a) u r) Q E s:=by
 rcases g with⟨kvs,k,e,ey,l,eH⟩|⟨kvs,k,b,e,ey,eb,l,eH⟩
 .subst ey eH
  obtain⟨z,hd,vs,rel,dd⟩:=rD I.hok e
  have hz:vs.length<=sizeLine:=by rw[←rel.length];exact z
  have hl:(E3 kvs k v).length<=sizeLine:=by have:=X0 kvs k v;lia
  refine wpAny_setItem_pairs (hsz:=hz) (jy ry) dd λh' dd' hs=>h _ ?_
  have he:∃q,h'.get? a=some q:=let ⟨q,_,_,hq,_⟩:=dd';⟨q,hq⟩
  exact eh I (by rw[e];exact True.intro) hs he (iS hl hd (rel.put k rv) dd')
 .subst ey eH
  cases (show u=Value.ref b from ry)
  obtain⟨z,hd,xs,rel,dd⟩:=Cn I.hok e
  have hz:xs.length<=sizeLine:=by rw[←GV rel];exact z
  have hl:(E3 kvs k v).length<=sizeLine:=by have:=X0 kvs k v;lia
  refine wpAny_setItem_heap (hsz:=hz) (HW hu) (ff I.hok eb) dd λh' dd' hs=>h _ ?_
  obtain⟨q,es,ep,hq,h2,h3,h4,_,h5⟩:=dd'
  refine eh I (by rw[e];exact True.intro) hs ⟨q,hq⟩ ⟨hl,hd,_,(rel.put k eb rv).keeps λc ys ec=>?_,q,es,ep,hq,h2,h3,h4,h5⟩
  rw[d0 (CO ec e (λz=>nomatch z))]
  exact ec
end
section
variable {X:Cx} {pins:List (Addr×Obj)} {σ:St} {H:Hp} {s:Shared} {a:Addr} {kvs:List (j4×V)} {k:j4} {u:Value} {A:Around} {E:Value->Shared->Prop}
theorem yD {Q:Value->Shared->Prop}(I:Inv X pins σ H s)(e:H a=some (.dK kvs))(h:∀s',Inv X pins σ (upd H a (.dK [])) s'->Q .none s'):wpAny (model X.prog X.w) A (call (.builtin "dict.clear") [.ref a]) Q E s:=by
 obtain⟨z,hd,vs,rel,dd⟩:=rD I.hok e;refine Ho Ht dd.typeIs PySem.F.entry_dict_clear (PySem.F.args_dict_clear_1 _) (meets_dict_clear (l0 X.prog X.w) a) ⟨vs,dd,by rw[←rel.length];exact z,λh' dd' hs=>h _ ?_⟩;have he:∃q,h'.get? a=some q:=let ⟨q,_,_,hq,_⟩:=dd';⟨q,hq⟩
 exact eh (t':=s.toks) I (by rw[e];exact True.intro) hs he (iS (Hk _) hd .nil dd')
theorem Ce {Q:Value->Shared->Prop}(I:Inv X pins σ H s)(e:Rd H a (.dK kvs))(h:∀t s',Inv X pins σ H s'->Q (.int kvs.length t) s'):wpAny (model X.prog X.w) A (call (.builtin "len") [.ref a]) Q E s:=by
 obtain⟨z,hd,vs,rel,dd⟩:=R0 I.hok e;refine call_len_dict hd dd (by rw[←rel.length];rw[Kc] at z;lia) ?_;rw[←rel.length];exact h _ _ (I.tok _)
end
theorem oA {X:Cx}{pins:List (Addr×Obj)}{σ:St}{H:Hp}{s:Shared}{a:Addr}{y:V}{o:Option V}(I:Inv X pins σ H s)(g:aQ H a y o):s.TypeIs (.ref a) "dict":=by
 rcases g with⟨kvs,k,e,_,_⟩|⟨kvs,k,b,e,_,_,_⟩
 .obtain⟨_,_,vs,_,dd⟩:=R0 I.hok e;exact dd.typeIs
 .obtain⟨_,_,xs,_,dd⟩:=jh I.hok e;exact dd.typeIs
section
variable {X:Cx} {o i e value:Expr} {pos pos' k_:Pos} {td ty tv:TE}
end
theorem uh {P:Program}{w:World}{H:Hp}(h:Heap)(hb:sysModules<h.objs.size):ObjOk P w H (h.push {cls:= .type "dict",data:= .dict #[]}) h.objs.size (.dK []):=
 ⟨Hk _,Io.mpr (HX (FX hb)),[],.nil,Heap.DictOf.new h⟩
def uf:TE:=λ_ H Q=>∀p,H p=none->Q (.ref p) (upd H p (.dK []))
section
variable {X:Cx} {pos:Pos}
theorem uz:PE X (.Dict [] [] pos) uf:=λpins s σ H Q I h=>
 wpAny_Dict_empty ⟨.ref s.heap.objs.size,_,I.laid (a:=s.heap.objs.size) (o:= .dK []) (t':=s.toks) (λ_ _ q=>FG _ q) (Fz _) (uh s.heap I.big),rfl,h _ (I.hok.fresh (Fz _))⟩
end
def wt:List (TE×TE)->St->Hp->(List (V×V)->Hp->Prop)->Prop
 |[],_,H,Q=>Q [] H
 |(tk,tv)::r,σ,H,Q=>tk σ H λx H1=>tv σ H1 λy H2=>wt r σ H2 λps H3=>Q ((x,y)::ps) H3
abbrev VV:List (V×V)->List (Value×Value)->Prop:=Paired λp q=>RelV p.1 q.1/\RelV p.2 q.2
def EZ (X:Cx)(pos:Pos)(keys:List (Option Expr))(values:List Expr)(RH:List (TE×TE)):Prop:=
 ∀(pins:List (Addr×Obj)) (s:Shared) (σ:St) (H:Hp) (Q:List (V×V)->Hp->Prop),Inv X pins σ H s->wt RH σ H Q->
  wpAny (model X.prog X.w) X.A (evalPairs (pairTrees keys values X.env pos)) (λvs s'=>∃ps H',Inv X pins σ H' s'/\VV ps vs/\Q ps H') X.xe s
structure M1 (X:Cx) (o:Expr) (m:Str) (apos:Pos) (e:Expr) (b_:Pos):Prop where
 base:attributeBase o m X.env (eval o X.env)=eval o X.env
 few:((backTo b_ (starEach [e] X.env)).all (λx=>!x.1)&&(backToKw b_ (keywordEach [] X.env)).all (λx=>x.1.isSome)
  &&decide (([e]:List Expr).length+([]:List Keyword).length+(if([]:List Keyword).isEmpty then 0 else 1)<30))=true
 line:(apos.endLine==b_.line)=true
 trees:backTo b_ (starEach [e] X.env)=[(false,eval e X.env)]
structure M2 (X:Cx) (o:Expr) (m:Str) (apos:Pos) (e f:Expr) (b_:Pos):Prop where
 base:attributeBase o m X.env (eval o X.env)=eval o X.env
 few:((backTo b_ (starEach [e,f] X.env)).all (λx=>!x.1)&&(backToKw b_ (keywordEach [] X.env)).all (λx=>x.1.isSome)
  &&decide (([e,f]:List Expr).length+([]:List Keyword).length+(if([]:List Keyword).isEmpty then 0 else 1)<30))=true
 line:(apos.endLine==b_.line)=true
 trees:backTo b_ (starEach [e,f] X.env)=[(false,eval e X.env),(false,eval f X.env)]
def Eg (H:Hp)(a:Addr):Prop:=(∃kvs,Rd H a (.dK kvs))\/∃kvs,Rd H a (.dT kvs)
theorem zV {X:Cx}{pins:List (Addr×Obj)}{σ:St}{H:Hp}{s:Shared}{a:Addr}(I:Inv X pins σ H s)(d:Eg H a):
  s.TypeIs (.ref a) "dict"/\(∀b,Value.ref a= .ref b->∃ob,s.heap.get? b=some ob/\ob.dict=none)/\(a==sysModules)=false:=by
 rcases d with⟨kvs,e⟩|⟨kvs,e⟩
 .obtain⟨_,hd,vs,_,dd⟩:=R0 I.hok e
  refine⟨dd.typeIs,λb q=>?_,hd⟩
  cases q
  obtain⟨ob,_,_,h1,h2,_⟩:=dd
  exact⟨ob,h1,h2.2.1⟩
 .obtain⟨_,hd,xs,_,dd⟩:=jh I.hok e
  refine⟨dd.typeIs,λb q=>?_,hd⟩
  cases q
  obtain⟨ob,_,_,h1,h2,_⟩:=dd
  exact⟨ob,h1,h2.2.1⟩
section
variable {X:Cx} {pins:List (Addr×Obj)} {σ:St} {H:Hp} {s:Shared} {a:Addr} {y d:V} {u r:Value} {o:Option V} {A:Around} {E:Value->Shared->Prop}
theorem Ai {Q:Value->Shared->Prop}(hu:A.units+1<cLine)(I:Inv X pins σ H s)(g:aQ H a y o)(ry:RelV y u)(h:∀w' s',Inv X pins σ H s'->RelV (o.getD .non) w'->Q w' s'):
  wpAny (model X.prog X.w) A (call (.builtin "dict.get") [.ref a,u]) Q E s:=by
 rcases g with⟨kvs,k,e,ey,l⟩|⟨kvs,k,b,e,ey,eb,l⟩
 .subst ey
  obtain⟨z,hd,vs,rel,dd⟩:=R0 I.hok e
  refine Ho IL dd.typeIs JE (Jq _ _) (meets_dict_get (l0 X.prog X.w) a (jy ry) hd) ⟨_,dd.mapOf,h _ _ (I.tok _) ?_⟩
  rw[l]
  exact(rel.val k).getD rfl
 .subst ey
  cases (show u=Value.ref b from ry)
  obtain⟨z,hd,xs,rel,dd⟩:=jh I.hok e
  refine Ho IL dd.typeIs JE (Jq _ _) (meetsH_dict_get (tupleKind (l0 X.prog X.w)) a b hd) ⟨HW hu,k,xs,ff I.hok eb,dd,h _ _ (I.tok _) ?_⟩
  rw[l]
  exact(rel.val k).getD rfl
end
def pE (td ty:TE):TE:=λσ H Q=>td σ H λx H1=>∃a,x= .ref a/\Eg H1 a/\ty σ H1 λy H2=>∃o,aQ H2 a y o/\Q (o.getD .non) H2
section
variable {X:Cx} {o e f:Expr} {apos b_:Pos} {td ty tx:TE}
theorem uw (hu:X.A.units+1<cLine)(ho:PE X o td)(he:PE X e ty)(m:M1 X o "get" apos e b_):PE X (.Call (.Attribute o "get" apos) [e] [] b_) (pE td ty):=by
 intro pins s σ H Q I h;refine wpAny_Call_method m.base m.few m.line GG IL PySem.F.type_dict_get (M8 (ho pins s σ H _ I h) λu s1 ⟨x,H1,I1,rx,a,ex,d,q1⟩=>?_);subst ex;obtain rfl:u=Value.ref a:=rx;obtain⟨t1,t2,_⟩:=zV I1 d;refine⟨t1,t2,?_⟩;rw[m.trees];refine Hy rfl (IT (Calls.spliced_cons (M8 (he pins s1 σ H1 _ I1 q1) λiv s2 ⟨y,H2,I2,ry,ov,g,q2⟩=>Calls.spliced_nil ?_)));exact Ai hu I2 g ry λw' s3 I3 MA=>⟨_,H2,I3,MA,q2⟩
end
section
variable {X:Cx} {pins:List (Addr×Obj)} {σ:St} {H:Hp} {s:Shared} {a:Addr} {kvs:List (j4×V)} {A:Around} {E:Value->Shared->Prop}
theorem um {Q:Value->Shared->Prop}(I:Inv X pins σ H s)(e:Rd H a (.dK kvs))(h:∀p s',H p=none->Inv X pins σ (upd H p (.dK kvs)) s'->Q (.ref p) s'):wpAny (model X.prog X.w) A (call (.type "dict") [.ref a]) Q E s:=by
 obtain⟨z,hd,vs,rel,dd⟩:=R0 I.hok e;refine kt_call_dict hd dd (by rw[←rel.length];exact z) λh' dd' hs=>?_;refine h _ _ (I.hok.fresh (Fz _)) (I.laid (a:=s.heap.objs.size) (o:= .dK kvs) (t':=s.toks) (λb q hq=>?_) (Fz _) (iS z (Io.mpr (HX (FX I.big))) rel dd'));exact(hs.2 b (FX (FN hq))).trans (FG _ hq)
end
section
variable {X:Cx} {pins:List (Addr×Obj)} {σ:St} {H:Hp} {s:Shared} {a:Addr} {y:V} {u:Value} {A:Around} {E:Value->Shared->Prop}
end
end L2
namespace Att
open PySem PySem.W PySem.Calls PyProof.Rows
theorem gu {P:Params}{h:Heap}:∀(ns:List Int) (vs:List Value),WellAll P h vs (ns.map WData.int)->IntsAre vs ns:=by
 intro ns;induction ns with
 |nil=>
  intro vs w
  rw[Iu] at w
  cases w
  exact .nil
 |cons n ns ih=>
  intro vs w
  rw[GF] at w
  cases w with
  |cons a b=>
   cases a
   exact .cons _ _ (ih _ b)
theorem sv {l:OpenLaw}{n:Nat}(hn:l.most=some n){P:Params}{h:Heap}{args:List WData}{vals:List Value}
  (MC:l.row.toRowW.claim.pre args=true) (MD:WellAll P h vals args):
  ∃a vs ns,vals=[Value.ref a]/\args=[WData.list (ns.map WData.int)]/\h.get? a=some {cls:= .type "list",data:= .seq vs.toArray}/\IntsAre vs ns/\ns.length<=n:=by
 have Wr:WShape.hasAll [] args [.list .int]=true:=(pre_splitW MC).1
 have hc:l.pre.holds [] {args:=args}=true:=(pre_splitW MC).2
 obtain⟨d,r,rfl,h1,h2⟩:=hasAllW_cons Wr
 obtain rfl:=hasAllW_nil h2
 obtain⟨xs,rfl,h3⟩:=hasW_list h1
 obtain⟨ns,rfl⟩:=items_int h3
 have hlen:ns.length<=n:=by
  unfold OpenLaw.pre at hc;have h4:(WTm.not (.lt (.lit (.int (n:Int))) (.len (.arg 0)))).holds [] {args:=[.list (ns.map .int)]}=true:=by
   have h4:=(holds_andW hc).1;rw[hn] at h4;exact h4
  have h5:=condW_of h4 (w_not (w_lt w_lit (w_len_list (w_arg rfl))));rw[Fv] at h5;refine Nat.le_of_not_lt λq=>?_;have q':(n:Int)<((ns.length:Nat):Int):=by lia
  first
   |(rw[FZ q'] at h5;exact absurd h5 (by decide))
   |(simp at h5;lia)
 cases MD with
 |cons w1 w2=>
  cases w2
  cases w1 with
  |list ho LF=>exact⟨_,_,ns,rfl,rfl,ho,gu ns _ LF,hlen⟩
theorem rN (l:OpenLaw)(args:List WData):l.row.toRowW.claim.post args (.bool true) args=true:=
 postW_of (r:=l.row.toRowW) (X:=(true==true))
  (show WShape.has [] (.bool true) .bool=true by first|rfl|decide|simp [WShape.has,WShape.arms,WShape.armsAll])
  (show(WTm.eq .res (.lit (.bool true))).value [] {args:=args,res:=some (.bool true),after:=args}=some (.bool (true==true)) from w_eq_bool (w_res rfl) w_lit) rfl
theorem attach_call {l:OpenLaw}{n:Nat}{q:Program}{loose:List Str}{XP:(Str->Option Value)->Heap->Prop}{YP:World->Heap->Prop}{d:DefRec}
  (hn:l.most=some n) (OI:d.params.defaults=[])
  (call:∀(w:World) (s₀ s₁:Shared) (mg mb:Str->Option Value) (fa:Addr) (o:Obj) (pm cd doc:Value) (a:Addr) (vs:List Value) (ns:List Int),
   Ground q loose [] XP w s₀ mg mb s₁.heap->YP w s₁.heap->
   s₁.heap.get? fa=some o->o.data= .func (docDef d.name d.params d.body d.scope pm cd doc)->s₁.heap.CodeRec cd d.name->mg d.name=some (.ref fa)->
   s₁.heap.get? a=some {cls:= .type "list",data:= .seq vs.toArray}->IntsAre vs ns->ns.length<=n->s₁.gens= #[]->
   codeAny (model l.prog w) callerA (.call (.ref fa) ⟨[.ref a],[]⟩) (λr s'=>r= .ok (.ret (.bool true))/\OldK s₁.heap s'.heap/\s'.os=s₁.os/\AllBare s'.gens) s₁):
  WalkO q loose XP YP l.row.toRowW d [] (λf vs=>PySem.call f vs):=by
 intro w s₀ s₁ mg mb G Y fa o pm cd doc dV kV ho hd KU hD hmg hg args vals as MC hlay hrd MD Uy
 obtain rfl:dV= .none:=Dflts.none hD OI
 obtain rfl:kV= .none:=Dflts.noKw hD
 obtain⟨a,vs,ns,rfl,rfl,Nx,hints,hlen⟩:=sv hn MC MD
 refine enter_call (Je (call w s₀ s₁ mg mb fa o pm cd doc a vs ns G Y ho (fd_plain hd) KU hmg Nx hints hlen hg) λr s' hq=>?_)
 obtain⟨rfl,h2,h3,h4⟩:=hq
 exact⟨.inl ⟨.bool true,.bool true,[],rfl,λ_=>rfl,.bool true,rN l _,λ_=>⟨List.Pairwise.nil,λ_ hm=>(nomatch hm)⟩⟩,h2,h3,h4⟩
section
variable {prog:Program} {w:World} {A:Around} {E:Value->Shared->Prop} {s:Shared} {K:Frag}
end
end Att
namespace L2
open PySem PySem.Spec PyProof.Rows
theorem jT:∀{vs:List Value} {ns:List Int},IntsAre vs ns->Vals (ns.map V.int) vs
 |_,_,.nil=> .nil
 |_,_,.cons n t h=> .cons ⟨t,rfl⟩ (jT h)
def Aw (H:Hp):Prop:=∀b,H b=none\/∃o xs,H b=some (.frz o (.lst xs))
theorem ux {P:Program}{w:World}{K:Kd}{mg mb:Str->Option Value}{CX:mW}{k:Nat}{fa a:Addr}{fd:FuncData}{x:Str}{sp:Sp}{s₁:Shared}{vs:List Value}{ns:List Int}
  (KX:K.In s₁.heap) (Uz:s₁.heap.Ns mainGlobals mg) (hb:s₁.heap.Ns builtinsNs mb) (RI:∀x:Str,x≠"__name__"->mb x=bootBuiltins x) (RJ:s₁.heap.NoLimit) (hg:s₁.gens= #[])
  (ha:s₁.heap.get? a=some {cls:= .type "list",data:= .seq vs.toArray}) (hi:IntsAre vs ns) (hl:ns.length<=sizeLine) (hr:Room k callerA)
  (F:∀base:Heap,K.In base->base.Ns mainGlobals mg->u9 P w K mg base CX k fa fd [x] sp) (OJ:∀(s:Shared) (u:Value),BindsTo s fd ⟨[u],[]⟩ [(x,u)])
  (Mi:∀H:Hp,Aw H->SqL K H a (ns.map V.int)->sp [.ref a] H (λv _=>v= .bl true) λ_ _ _=>False)
  (RK:∀H e s',CX [] H s₁ (λ_ _ _=>False) e s'->False):
  codeAny (model P w) callerA (.call (.ref fa) ⟨[.ref a],[]⟩) (λr s'=>r= .ok (.ret (.bool true))/\OldK s₁.heap s'.heap/\s'.os=s₁.os/\AllBare s'.gens) s₁:=by
 have rv:=jT hi
 have RM:=hi.length
 have core:∀H:Hp,Aw H->SqL K H a (ns.map V.int)->HOk P w H s₁.heap->(∀b,H b≠none->b=a)->(H a≠none->K.lookup a=none)->
   codeAny (model P w) callerA (.call (.ref fa) ⟨[.ref a],[]⟩) (λr s'=>r= .ok (.ret (.bool true))/\OldK s₁.heap s'.heap/\s'.os=s₁.os/\AllBare s'.gens) s₁:=by
  intro H hO hS hok hA hK
  have base_of:∀{b:Addr} {o:Obj},s₁.heap.get? b=some o->H b=none->(kW s₁.heap H).get? b=some o:=λe n=>vt e n
  have OG:∀{b:Addr} {o:Obj} {es:Array DictEntry} {ep:Nat},s₁.heap.get? b=some o->o.data= .dict es ep->H b=none:=fun{b o es ep} e d=>by
   cases q:H b with
   |none=>rfl
   |some u=>
    have e':b=a:=hA b (by rw[q];simp)
    subst e'
    rw[ha] at e;cases e
    have d':Data.seq vs.toArray _=Data.dict es ep:=d
    cases d'
  have Qt:∀{b:Addr} {m:Str->Option Value},s₁.heap.Ns b m->(kW s₁.heap H).Ns b m:=fun{b m} ⟨o,es,ep,e,d,r⟩=>⟨o,es,ep,base_of e (OG e d),d,r⟩
  have UA:K.In (kW s₁.heap H):=λb o e=>base_of (KX b o e) (by
   cases q:H b with
   |none=>rfl
   |some u=>
    have e':b=a:=hA b (by rw[q];simp)
    subst e'
    rw[hK (by rw[q];simp)] at e;cases e)
  have hM:Mod K mg (kW s₁.heap H):=⟨UA,Qt Uz,⟨mb,Qt hb,RI⟩,let ⟨mc,h1,h2⟩:=RJ;⟨mc,Qt h1,h2⟩⟩
  have e0:yA P w K mg (kW s₁.heap H) callerA [] s₁ H:=⟨rfl,hM,λb o e=>xm e,Nat.le_of_eq (sU _ _),trivial,λb hb=>absurd (show b∈([]:List Addr) from hb) (by simp),hok,.of_eq hg⟩
  refine Je ((F _ UA (Qt Uz)).run callerA [] s₁ H ⟨[.ref a],[]⟩ [.ref a] [.ref a] _ _ hr e0 (OJ s₁ (.ref a)) (.cons rfl .nil) (Mi H hO hS)) λr s' h=>?_
  cases r with
  |error e=>exact(RK H e s' h).elim
  |ok fl=>
   cases fl with
   |next=>exact False.elim h
   |brk=>exact False.elim h
   |cont=>exact False.elim h
   |ret u=>
    obtain⟨v,H',os,bare,un,RN,r',q⟩:=h
    have q':v= .bl true:=q
    subst q'
    obtain rfl:u=Value.bool true:=r'
    refine⟨rfl,OldK.of_keep λb o e=>?_,os,bare⟩
    cases q:H b with
    |none=>exact un.keep b o e q (by intro z;exact absurd (show b∈([]:List Addr) from z) (by simp)) (by simp)
    |some u=>
     rcases hO b with z|⟨ob,xs,z⟩
     .rw[q] at z;cases z
     .have z2:=un.frzs b ob _ z
      obtain⟨e1,_⟩:=hok b _ z
      obtain⟨e2,_⟩:=RN b _ z2
      rw[e] at e1;cases e1
      exact e2
 cases hk:K.lookup a with
 |some o=>
  have e:=KX a o hk
  rw[ha] at e
  cases e
  refine core (λ_=>none) (λ_=> .inl rfl) (.inr ⟨_,vs.toArray,_,hk,rfl,rfl,rfl,by rw[FV,RM];exact hl,by simpa using rv⟩) (λb u z=>by have z':(none:Option HO)=some u:=z;cases z') (λb z=>absurd rfl z) λz=>absurd rfl z
 |none=>
  refine core (λb=>if b=a then some (.frz {cls:= .type "list",data:= .seq vs.toArray} (.lst (ns.map V.int))) else none) (λb=>?_) (.inl (.inr ⟨{cls:= .type "list",data:= .seq vs.toArray},if_pos rfl⟩)) (λb u z=>?_) (λb z=>?_) λ_=>hk
  .by_cases hb:b=a
   .exact .inr ⟨_,_,if_pos hb⟩
   .exact .inl (if_neg hb)
  .by_cases hb:b=a
   .have z':=(if_pos hb).symm.trans z
    cases z'
    subst hb
    exact⟨ha,by rw[Fv];exact hl,vs,_,rv,ha⟩
   .have z':=(if_neg hb).symm.trans z
    cases z'
  .by_cases hb:b=a
   .exact hb
   .exact absurd (if_neg hb) z
theorem walk_of {l:PySem.W.OpenLaw}{n k:Nat}{q:Program}{loose:List Str}{XP:(Str->Option Value)->Heap->Prop}{YP:World->Heap->Prop}{d:DefRec}{K:Params->Kd}{CX:World->mW}{sp:World->Sp}{x:Str}
  (hn:l.most=some n) (Ws:n<=sizeLine) (OI:d.params.defaults=[]) (hr:Room k callerA)
  (hY:∀(w:World) (h:Heap),YP w h->(K w.params).In h)
  (F:∀(w:World) (mg:Str->Option Value) (fa:Addr) (h:Heap),(K w.params).In h->h.Ns mainGlobals mg->mg d.name=some (.ref fa)->
   ∃fd:FuncData,(∀(s:Shared) (u:Value),BindsTo s fd ⟨[u],[]⟩ [(x,u)])/\
    ∀base:Heap,(K w.params).In base->base.Ns mainGlobals mg->u9 l.prog w (K w.params) mg base (CX w) k fa fd [x] (sp w))
  (Mi:∀(w:World) (H:Hp) (a:Addr) (ns:List Int),ns.length<=n->Aw H->SqL (K w.params) H a (ns.map V.int)->sp w [.ref a] H (λv _=>v= .bl true) λ_ _ _=>False)
  (RK:∀(w:World) (H:Hp) (s:Shared) (e:Value) (s':Shared),CX w [] H s (λ_ _ _=>False) e s'->False):
  PySem.W.WalkO q loose XP YP l.row.toRowW d [] (λf vs=>PySem.call f vs):=by
 refine Att.attach_call hn OI λw s₀ s₁ mg mb fa o pm cd doc a vs ns G Y ho hd KU hmg Nx hints hlen hg=>?_
 have KX:=hY w _ Y
 obtain⟨fd,hb,hF⟩:=F w mg fa _ KX G.T.g hmg
 exact ux KX G.T.g G.T.b G.T.builtins G.T.nolimit hg Nx hints (GB hlen Ws) hr hF hb (λH hO hS=>Mi w H a ns hlen hO hS) λH e s'=>RK w H s₁ e s'
def X6 (s:Stmt):Arguments:=match s with
 | .FunctionDef _ a _ _ _ _ _ _ _ _=>a
 |_=>{posonlyargs:=[],args:=[],vararg:=none,kwonlyargs:=[],kw_defaults:=[],kwarg:=none,defaults:=[]}
def Q6 (s:Stmt):List Stmt:=match s with
 | .FunctionDef _ _ b _ _ _ _ _ _ _=>b
 |_=>[]
def g5 (s:Stmt):Scope:=match s with
 | .FunctionDef _ _ _ _ _ _ sc _ _ _=>sc
 |_=>{kind:= .function,names:=[],isGenerator:=false,isCoroutine:=false}
abbrev C0:mW:=λ_ _ _ _ _ _=>False
abbrev E0:XK:=λ_ _ _=>False
theorem k7 {X:Cx}:aY C0 X E0:=λ_ _ _ _ _ _ _ h=>h.elim
structure Fun (K:Kd) (x qual:Str) (st:Stmt) (f:Addr) (fd:FuncData):Prop where
 ex:∃(oc:Value) (od:Option Addr) (kV doc pm:Value) (an:Option Addr) (c_ ct:Value) (KY:Array (Option Value)),
  fd=PySem.W.fnOf x qual (X6 st) (Q6 st) (g5 st) .none kV doc pm an c_ ct/\K.lookup f=some ⟨oc,od,.func fd,KY⟩/\PySem.W.codeIn K c_ qual=true
 kp:PySem.W.keepIn K (.ref f)=true
section
variable {P:Program} {w:World} {K:Kd} {mg:Str->Option Value} {base:Heap}
theorem Fun.ok {x qual:Str}{st:Stmt}{f:Addr}{fd:FuncData}{N ps:List Str}{k:Nat}{sp:Sp}(F:Fun K x qual st f fd)(S:j0 N ps (g5 st))(len:∀vs H Q E,sp vs H Q E->vs.length=ps.length)
  (JZ:∀(c_:Value) (A:Around) (outer:List Env) (s:Shared) (H:Hp) (vs:List V) (Q:VK) (E:XK),Room k (A.deeper (envOfC qual (g5 st) s.heap.objs.size f c_))->sp vs H Q E->
   ∃t,PSs (iP C0 P w K mg base N qual (g5 st) f c_ A outer s H E).nox (Q6 st) t/\t {nx:=λ_ H'=>Q .non H',rt:=Q} (dP N vs) H):u9 P w K mg base C0 (k+1) f fd ps sp:=by
 obtain⟨oc,od,kV,doc,pm,an,c_,ct,KY,rfl,lk,KU⟩:=F.ex
 refine yF lk KU S len λA outer s H vs Q E hr Mi=>?_
 obtain⟨t,h,q⟩:=JZ c_ A outer s H vs Q E hr Mi
 exact⟨t,h.nox,q⟩
theorem Fun.binds {x qual:Str}{st:Stmt}{f:Addr}{fd:FuncData}{ps:List Str}(F:Fun K x qual st f fd)
  (h:∀(kV doc pm:Value) (an:Option Addr) (c_ ct:Value) (us:List Value),us.length=ps.length->bindArgs (PySem.W.fnOf x qual (X6 st) (Q6 st) (g5 st) .none kV doc pm an c_ ct) ⟨us,[]⟩=pure (ps.zip us)):Binds K fd ps []:=by
 obtain⟨oc,od,kV,doc,pm,an,c_,ct,KY,rfl,lk,KU⟩:=F.ex
 exact .all (h kV doc pm an c_ ct)
theorem ze {x qual:Str}{st:Stmt}{f:Addr}{oc:Value}{od an:Option Addr}{KY:Array (Option Value)}{kV doc pm c_ ct:Value}(l:K.lookup f=some ⟨oc,od,.func (PySem.W.fnOf x qual (X6 st) (Q6 st) (g5 st) .none kV doc pm an c_ ct),KY⟩)
  (c:PySem.W.codeIn K c_ qual=true) (k:PySem.W.keepIn K (.ref f)=true):Fun K x qual st f (PySem.W.fnOf x qual (X6 st) (Q6 st) (g5 st) .none kV doc pm an c_ ct):=⟨⟨oc,od,kV,doc,pm,an,c_,ct,KY,rfl,l,c⟩,k⟩
end
theorem N5 {n:Nat}(h:n<=1000):n<sizeLine:=IB h (by decide)
section
variable {X:Cx}
end
theorem DP {A B:Prop}(h:B):if false=true then A else B:=by
 rw[if_neg Gi];exact h
theorem Eb {A B:Prop}(h:A):if true=true then A else B:=by
 rw[if_pos rfl];exact h
def Same (H H':Hp):Prop:=∀b o,H b=some o->H' b=some o
theorem Same.refl (H:Hp):Same H H:=λ_ _ h=>h
theorem Same.trans {H H1 H2:Hp}(a:Same H H1)(b:Same H1 H2):Same H H2:=λc o h=>b c o (a c o h)
theorem Same.free {H H':Hp}(e:Same H H'){l:Addr}(h:H' l=Option.none):H l=Option.none:=by
 cases q:H l with
 |none=>rfl
 |some o=>
  rw[e l o q] at h
  cases h
theorem Same.seq {K:Kd}{H H':Hp}{a:Addr}{xs:List V}(e:Same H H')(h:SqL K H a xs):SqL K H' a xs:=by
 rcases h with(h|⟨o,h⟩)|h
 .exact .inl (.inl (e _ _ h))
 .exact .inl (.inr ⟨o,e _ _ h⟩)
 .exact .inr h
section
variable {κ:Type} [DecidableEq κ]
theorem vW {kvs:List (κ×V)}{k:κ}(h:A2 kvs k=none):¬k∈kvs.map (·.1):=by
 intro m;obtain⟨p,hp,e⟩:=Fx.mp m;have q:(kvs.any λkv=>decide (kv.1=k))=true:=Hg.mpr ⟨p,hp,FZ e⟩;rw[M9,h] at q;exact absurd q (by simp)
theorem qY {kvs:List (κ×V)}{k:κ}{v:V}(h:A2 kvs k=some v):k∈kvs.map (·.1):=by
 have q:(kvs.any λkv=>decide (kv.1=k))=true:=by
  rw[M9,h];all_goals rfl
 obtain⟨p,hp,e⟩:=Hg.mp q;exact Fx.mpr ⟨p,hp,Hu e⟩
theorem B9:∀{l:List κ} {k:κ},l.Nodup->¬k∈l->(l++[k]).Nodup
 |[],k,_,_=>by simp
 |a::r,k,h,hk=>by
  obtain⟨h1,h2⟩:=GK.mp h;show(a::(r++[k])).Nodup;refine GK.mpr ⟨λm=>?_,B9 h2 λm=>hk (Gn.mpr (Or.inr m))⟩;rcases FC.mp m with q|q
  .exact h1 q
  .exact hk (Gn.mpr (Or.inl (FH.mp q).symm))
theorem xM {kvs:List (κ×V)}{k:κ}(v:V)(hn:(kvs.map (·.1)).Nodup)(h:A2 kvs k=none):((E3 kvs k v).map (·.1)).Nodup:=by
 rw[Q8 v h,FF];exact B9 hn (vW h)
end
end L2
set_option maxHeartbeats 4000000
namespace L2
open PySem PySem.Spec PyProof.Rows
def gv (scope:Scope)(env:Env):List (Str×Addr):=(scope.names.filter λx=>x.2== .free).reverse.map λx=>(x.1,(env.cells.lookup x.1).getD 0)
theorem bU {env:Env}:∀(l:List (Str×NameKind)) (cs:List (Str×Addr)),(∀x∈l,x.2= .free->∃c,env.cells.lookup x.1=some c)->
  (forIn l cs fun(x:Str×NameKind) (r:List (Str×Addr))=>if(x.2==NameKind.free)=true then(do let a←cellOf env x.1;pure (ForInStep.yield ((x.1,a)::r))) else(pure (ForInStep.yield r):Sem (ForInStep (List (Str×Addr)))))=
   pure (((l.filter λx=>x.2== .free).reverse.map λx=>(x.1,(env.cells.lookup x.1).getD 0))++cs)
 |[],cs,_=>rfl
 |(n,k)::l,cs,h=>by
  rw[List.forIn_cons];by_cases hk:k= .free
  .subst hk;obtain⟨c,hc⟩:=h (n,.free) FU rfl;simp only[Jv,JK];have Mx:env.cells.lookup n=some c:=hc;have e0:cellOf env n=pure c:=by unfold cellOf;rw[Mx]
   simp only[e0,pure_bind];rw[bU l _ λx hx=>h x (Gb _ hx)];rw[List.filter_cons,if_pos (by rfl),List.reverse_cons,FF,Gx];simp only[GF,Iu,Mx,Im,HS,List.nil_append]
  .have hb:(k==NameKind.free)=false:=by simpa using hk
   simp only[hb,Bool.false_eq_true,ML,pure_bind];rw[bU l cs λx hx=>h x (Gb _ hx)];rw[List.filter_cons,if_neg (by simp [hb])]
theorem hV {scope:Scope}{env:Env}(h:∀x∈scope.names,x.2= .free->∃c,env.cells.lookup x.1=some c):closureFor scope env=pure (gv scope env):=by
 have e:=bU (env:=env) scope.names [] h;rw[Gw] at e;unfold closureFor gv;simp only[];refine Eq.trans ?_ (GY (λm=>m>>=λr=>(pure r:Sem (List (Str×Addr)))) e);rfl
theorem S0 {env:Env}{x:Str}:∀(l:List (Str×NameKind)),(∀y∈l,∃c,env.cells.lookup y.1=some c)->(x∈l.map (·.1)->(l.map λy=>(y.1,(env.cells.lookup y.1).getD 0)).lookup x=env.cells.lookup x)/\(x∉l.map (·.1)->(l.map λy=>(y.1,(env.cells.lookup y.1).getD 0)).lookup x=none)
 |[],_=>⟨λh=>by simp at h,λ_=>rfl⟩
 |(n,k)::l,h=>by
  have ih:=S0 (x:=x) l λy hy=>h y (Gb _ hy);obtain⟨c,hc⟩:=h (n,k) FU;have Mx:env.cells.lookup n=some c:=hc;by_cases e:x=n
  .subst e;refine⟨λ_=>?_,λz=>absurd (by simp) z⟩;simp [Hh,Mx]
  .have eb:(x==n)=false:=by simpa using e
   refine⟨λhm=>?_,λhm=>?_⟩
   .simp only[GF,Hh,eb];exact ih.1 (by simpa [e] using hm)
   .simp only[GF,Hh,eb];exact ih.2 (λz=>hm (by simp [z]))
theorem U8 {scope:Scope}{env:Env}(h:∀x∈scope.names,x.2= .free->∃c,env.cells.lookup x.1=some c){x:Str}{c:Addr}(e:(gv scope env).lookup x=some c):env.cells.lookup x=some c:=by
 have hl:∀y∈(scope.names.filter λx=>x.2== .free).reverse,∃c,env.cells.lookup y.1=some c:=λy hy=>by
  obtain⟨h1,h2⟩:=FJ.mp (Jw.mp hy);exact h y h1 (by simpa using h2)
 have a:=S0 (x:=x) _ hl;by_cases hm:x∈(scope.names.filter λx=>x.2== .free).reverse.map (·.1)
 .rw[←a.1 hm];exact e
 .have z:=a.2 hm;unfold gv at e;rw[z] at e;cases e
theorem oi {scope:Scope}{env:Env}(h:∀x∈scope.names,x.2= .free->∃c,env.cells.lookup x.1=some c){x:Str}(hx:(x,NameKind.free)∈scope.names):(gv scope env).lookup x=env.cells.lookup x:=by
 have hl:∀y∈(scope.names.filter λx=>x.2== .free).reverse,∃c,env.cells.lookup y.1=some c:=λy hy=>by
  obtain⟨h1,h2⟩:=FJ.mp (Jw.mp hy);exact h y h1 (by simpa using h2)
 exact(S0 (x:=x) _ hl).1 (Fx.mpr ⟨(x,.free),Jw.mpr (FJ.mpr ⟨hx,rfl⟩),rfl⟩)
theorem lB {scope:Scope}{env:Env}(hc:∀y∈scope.names,y.2≠ .cell){x:Str}(h:(relabel scope env).names.lookup x=some .cell\/(relabel scope env).names.lookup x=some .free):(x,NameKind.free)∈scope.names:=by
 have key:∀(l:List (Str×NameKind)),(∀y∈l,y.2≠ .cell)->∀k,(k=NameKind.cell\/k=NameKind.free)->(l.map fun(n,k)=>if(k==NameKind.free&&env.scope.kind== .function&&env.kindOf n==some .cell) then(n,NameKind.cell) else(n,k)).lookup x=some k->(x,NameKind.free)∈l:=by
  intro l;induction l with
  |nil=>intro _ k _ e;simp at e
  |cons y r ih=>
   obtain⟨n,k0⟩:=y
   intro hl k hk e
   have UB:=ih (λy hy=>hl y (Gb _ hy)) k hk
   rw[GF] at e
   have UC:k0≠ .cell:=hl (n,k0) FU
   dsimp only at e
   by_cases hcnd:(k0==NameKind.free&&env.scope.kind== .function&&env.kindOf n==some .cell)=true
   .rw[if_pos hcnd] at e
    cases hx:x==n with
    |true=>
     have:x=n:=by simpa using hx
     subst this
     have:k0= .free:=by
      simp only[Gh,Mz] at hcnd;exact hcnd.1.1
     subst this
     exact FU
    |false=>
     simp only[Hh,hx] at e
     exact Gb _ (UB e)
   .rw[if_neg hcnd] at e
    cases hx:x==n with
    |true=>
     have:x=n:=by simpa using hx
     subst this
     simp only[Hh,hx] at e
     have e':k0=k:=Ga e
     subst e'
     rcases hk with z|z
     .exact absurd z UC
     .subst z;exact FU
    |false=>
     simp only[Hh,hx] at e
     exact Gb _ (UB e)
 rcases h with h|h
 .exact key _ hc _ (.inl rfl) h
 .exact key _ hc _ (.inr rfl) h
def cG (X:Cx)(own:List Str)(js:List Nat)(scope:Scope)(C:Addr)(s:Shared)(H:Hp)(fp:List Addr):Cx:=
 {X with N:=own++js.map (λj=>X.N.getD j Str.empty),s₀:=s,H₀:=H,env:=compEnvC scope (gv scope X.env) C X.env,outer:=X.stack,stack:=X.stack,ex:=fp,fn:=λ_=>false,pn:=[],xe:=λ_ _=>False}
def uX (own:List Str)(js:List Nat)(σ:St):St:=own.map (λ_=>none)++js.map (λj=>(σ[j]?).join)
def Bn (X:Cx)(own:List Str)(js:List Nat)(scope:Scope):Bool:=
 (scope.kind== .function)&&(scope.names.all λx=>x.2 != .cell)&&(scope.names.all λx=>x.2 != .local||scope.names.lookup x.1==some .local)&&
 (scope.names.all λx=>x.2 != .free||(X.env.kindOf x.1==some .cell||X.env.kindOf x.1==some .free))&&
 (js.all λj=>decide (j<X.N.length)&&scope.names.any (λy=>y.1==X.N.getD j Str.empty&&y.2== .free))&&
 (scope.names.all λx=>x.2 != .free||scope.names.lookup x.1 !=some .local)
theorem rH {own:List Str}{js:List Nat}{σ:St}{X:Cx}{scope:Scope}{C:Addr}{s:Shared}{H:Hp}{fp:List Addr}:(uX own js σ).length=(cG X own js scope C s H fp).N.length:=by
 show(uX own js σ).length=(own++js.map (λj=>X.N.getD j Str.empty)).length;unfold uX;simp
section
variable {X:Cx} {pins:List (Addr×Obj)} {σ:St} {H:Hp} {s:Shared} {own:List Str} {js:List Nat} {scope:Scope} {fp:List Addr} {C D:Addr} {h1:Heap}
structure ScB (X:Cx) (own:List Str) (js:List Nat) (scope:Scope):Prop where
 kind:scope.kind= .function
 nocell:∀y∈scope.names,y.2≠ .cell
 names:∀x∈scope.names,x.2= .local->scope.names.lookup x.1=some .local
 free:∀x∈scope.names,x.2= .free->X.env.kindOf x.1=some .cell\/X.env.kindOf x.1=some .free
 js:∀j∈js,j<X.N.length/\(X.N.getD j Str.empty,NameKind.free)∈scope.names
 one:∀x,(x,NameKind.free)∈scope.names->scope.names.lookup x≠some .local
theorem vA (h:Bn X own js scope=true):ScB X own js scope:=by
 unfold Bn at h;simp only[Gh,Gk,Bool.or_eq_true,bne_iff_ne,Mz,GI,Hg] at h;obtain⟨⟨⟨⟨⟨h1,h2⟩,h3⟩,h4⟩,h5⟩,h6⟩:=h;refine⟨h1,h2,λx hx e=>?_,λx hx e=>?_,λj hj=>?_,λx hx=>?_⟩
 .rcases h3 x hx with z|z
  .exact absurd e z
  .exact z
 .rcases h4 x hx with z|z
  .exact absurd e z
  .exact z
 .obtain⟨a,y,hy,e1,e2⟩:=h5 j hj;refine⟨a,?_⟩;obtain⟨n,k⟩:=y;simp only at e1 e2;rw[←e1,←e2];exact hy
 .rcases h6 _ hx with z|z
  .exact absurd rfl z
  .exact z
theorem ScB.cells (S:ScB X own js scope)(I:Inv X pins σ H s):∀x∈scope.names,x.2= .free->∃c,X.env.cells.lookup x.1=some c:=λx hx e=>I.ok.has x.1 (S.free x hx e)
theorem Inv.block (S:ScB X own js scope)(I:Inv X pins σ H s)(hf:∀b∈fp,dF X pins H b)(Ku:∀b∈fp,∃o,s.heap.get? b=some o)(hC:s.heap.objs.size<=C){m:Str->Option Value}{t':Nat}(hn:h1.Ns C m)(k:∀b u,s.heap.get? b=some u->h1.get? b=some u):
  Inv (cG X own js scope C s H fp) (X.pn++pins) (uX own js σ) H {s with heap:=h1,toks:=t'}:=by
 have J':=S.cells I
 have below:∀b o,s.heap.get? b=some o->b≠C:=λb o e=>FX (FP (FN e) hC)
 have stk:∀b,b≠X.env.locals->b∉X.fs->b∉aS X.stack:=λb h1 h2 z=>by
  rcases Gn.mp (I.stkSub b z) with e|e
  .exact h1 e
  .exact h2 e
 have noex:∀b o,X.base.get? b=some o->b∉fp:=λb o e z=>by
  rcases(hf b z).2.2.2.1 with q|q
  .exact I.ok.noex b o e q
  .exact absurd (FP (FN e) (GB I.ok.bsz q)) (Hf _)
 refine⟨⟨I.ok.mod,S.kind,I.ok.glob,I.ok.blt,hC,λx y c e1 e2=>?_,λx hx=>?_,λx c z _=>(Gi z).elim,I.ok.hd,I.ok.frames,.inl rfl,λb hb=>⟨?_,λx c e=>?_⟩,I.bs,GB I.ok.bsz I.sz,noex,λb hb=>?_,I.stack,I.stkFree⟩,
  rfl,I.bare,Un.kept k,⟨m,hn,λi x v e1 e2 e3=>?_⟩,λx c e=>?_,?_,λx c e=>?_,λp hp=>?_,I.hok.kept k,rH⟩
 .exact I.ok.inj x y c (U8 J' e1) (U8 J' e2)
 .have hm:=lB S.nocell (x:=x) (env:=X.env) hx
  obtain⟨c,e⟩:=J' (x,.free) hm rfl
  exact⟨c,(oi J' hm).trans e⟩
 .obtain⟨o,e⟩:=Ku b hb;exact below b o e
 .exact(hf b hb).2.2.2.2.1 x c (U8 J' e)
 .exact stk b (hf b hb).2.1 (hf b hb).2.2.1
 .have Ny:(own++js.map (λj=>X.N.getD j Str.empty))[i]?=some x:=e1
  unfold uX at e2
  by_cases hi:i<own.length
  .rw[GS (by simpa using hi),FD] at e2
   rw[Fw hi] at e2
   simp at e2
  .rw[Hd (by simpa using hi),FD] at e2
   rw[Hd (by simpa using hi),FD] at Ny
   have el:(own.map λ_=>(none:Option V)).length=own.length:=by simp
   rw[el] at e2
   cases hj:js[i -own.length]? with
   |none=>rw[hj] at Ny;simp at Ny
   |some j=>
    rw[hj] at Ny e2
    simp only[IA,Option.some.injEq] at Ny e2
    have Wt:j∈js:=FI hj
    obtain⟨JH,Li⟩:=S.js j Wt
    have Wu:X.N[j]?=some x:=by
     rw[←Ny,Gf,Fw JH];simp
    have hσ:σ[j]?=some (some v):=by
     cases q:σ[j]? with
     |none=>rw[q] at e2;simp at e2
     |some w=>rw[q] at e2;simp at e2;rw[e2]
    rw[Ny] at Li
    obtain⟨m0,Zi,Nz⟩:=I.loc
    have UD:X.env.kindOf x=some .cell\/X.env.kindOf x=some .free:=S.free (x,.free) Li rfl
    obtain⟨u,r,l⟩:=Nz j x v Wu hσ (by rcases UD with z|z;exact .inr (.inl z);exact .inr (.inr z))
    refine⟨u,r,?_⟩
    rcases l with⟨z,_⟩|⟨_,c,hc,KW⟩
    .rcases UD with q|q
     .rw[q] at z;cases z
     .rw[q] at z;cases z
    .have Mx:(gv scope X.env).lookup x=some c:=(oi J' Li).trans hc
     obtain⟨oc,Qq,Nq⟩:=KW
     refine .inr ⟨?_,c,Mx,⟨oc,k _ _ Qq,Nq⟩⟩
     rcases e3 with z|z|z
     .exfalso
      have Wv:(relabel scope X.env).names.lookup x=some .local:=z
      exact absurd Wv (by
       intro hh;have key:∀l:List (Str×NameKind),(∀y∈l,y.2= .local->scope.names.lookup y.1=some .local)->(l.map fun(n,k)=>if(k==NameKind.free&&X.env.scope.kind== .function&&X.env.kindOf n==some .cell) then(n,NameKind.cell) else(n,k)).lookup x=some .local->scope.names.lookup x=some .local:=by
        intro l;induction l with
        |nil=>intro _ e;simp at e
        |cons y r ih=>
         obtain⟨n,k0⟩:=y
         intro hl e
         rw[GF] at e
         dsimp only at e
         by_cases hcnd:(k0==NameKind.free&&X.env.scope.kind== .function&&X.env.kindOf n==some .cell)=true
         .rw[if_pos hcnd] at e
          cases hx:x==n with
          |true=>simp only[Hh,hx] at e;cases e
          |false=>simp only[Hh,hx] at e;exact ih (λy hy=>hl y (Gb _ hy)) e
         .rw[if_neg hcnd] at e
          cases hx:x==n with
          |true=>
           simp only[Hh,hx] at e
           have e':k0= .local:=Ga e
           have:x=n:=by simpa using hx
           subst this
           exact hl (x,k0) FU e'
          |false=>simp only[Hh,hx] at e;exact ih (λy hy=>hl y (Gb _ hy)) e
       have a:=key scope.names S.names hh;exact S.one x Li a)
     .exact .inl z
     .exact .inr z
 .obtain⟨v,o,ho,hd⟩:=I.cell x c (U8 J' e)
  exact⟨v,o,k _ _ ho,hd⟩
 .exact I.hok.fresh hC
 .exact I.freeC x c (U8 J' e)
 .obtain⟨e,n,ne,nf,d⟩:=I.pin p hp
  exact⟨k _ _ e,n,below _ _ e,stk _ ne nf,d⟩
end
theorem HOk.track {P:Program}{w:World}{H:Hp}{h h':Heap}{a C:Addr}{o:HO}(x:HOk P w H h)(hC:H C=none)(k:∀b,b≠C->h'.get? b=h.get? b)(hn:H a=none)(new:ObjOk P w (upd H a o) h' a o):HOk P w (upd H a o) h':=λb u e=>by
 by_cases hb:b=a
 .subst hb;rw[d8] at e;cases e;exact new
 .rw[d0 hb] at e;refine(x b u e).stay (λc v hc q=>?_) (λc q=>by rw[d0 (b7 q hn)];exact q) λc xs q=>by rw[d0 (b7 q hn)];exact q
  have Ww:c≠C:=by
   rcases hc with z|z
   .subst z;exact b7 e hC
   .exact b7 z hC
  rw[k c Ww];exact q
abbrev vD (ifs:List Expr)(env:Env):Sem Bool:=forIn ifs true λc r=>if r=true then do let ok←isTrue c env (eval c env);pure (ForInStep.yield ok) else pure (ForInStep.yield r)
def pG (X:Cx)(ifs:List Expr)(t:TT):Prop:=
 ∀(pins:List (Addr×Obj)) (s:Shared) (σ:St) (H:Hp) (Q:Bool->Hp->Prop),Inv X pins σ H s->t σ H Q->wpAny (model X.prog X.w) X.A (vD ifs X.env) (TP X pins σ Q) X.xe s
theorem Er {X:Cx}:pG X [] (λ_ H Q=>Q true H):=λpins s σ H Q I h=>wpAny_tests_nil ⟨H,I,h⟩
theorem EB {X:Cx}{c:Expr}{t:TT}(h:PT X c t):pG X [c] t:=λpins s σ H Q I hq=>wpAny_tests_one (h pins s σ H Q I hq)
section
variable {X:Cx} {pins:List (Addr×Obj)} {σ:St} {H:Hp} {s:Shared} {own:List Str} {js:List Nat} {scope:Scope}
variable {tg iter elt:Expr} {ifs:List Expr} {pos:Pos} {g:TG} {ti:TT} {te:TE}
structure BlockEnd (X:Cx) (pins:List (Addr×Obj)) (own:List Str) (js:List Nat) (scope:Scope) (σ:St) (H:Hp) (s:Shared) (fp:List Addr) (C D:Addr) (out:List V) (H':Hp) (s':Shared):Prop where
 inv:Inv (cG X own js scope C s H fp) (X.pn++pins) (uX own js σ) H' s'
 free:H' D=none
 obj:∃(a_:List Value) (n:Nat),Vals out a_/\s'.heap.get? D=some {cls:= .type "list",data:= .seq a_.toArray n}
theorem BlockEnd.out {fp:List Addr}{C D:Addr}{out:List V}{H':Hp}{s':Shared}{h':Heap}(e:BlockEnd X pins own js scope σ H s fp C D out H' s')(I:Inv X pins σ H s)(hf:∀b∈fp,dF X pins H b)(hD:s.heap.objs.size<=D)(hC:s.heap.objs.size<=C)(Lj:D≠C)
  (hl:out.length<=sizeLine) (sb:Heap.SameBut C s'.heap h'):Inv X pins σ (upd H' D (.lst out)) {s' with heap:=h'}:=by
 obtain⟨a_,n,rv,ob⟩:=e.obj
 have J:=e.inv
 have U:Un (aS X.stack) fp H H' s.heap s'.heap:=J.base
 have same:∀b,b≠C->h'.get? b=s'.heap.get? b:=λb hb=>sb.2 b hb
 have old:∀b o,s.heap.get? b=some o->b≠C/\b≠D:=λb o q=>⟨FX (FP (FN q) hC),FX (FP (FN q) hD)⟩
 have RO:H' C=none:=J.free
 refine I.call' (s':={s' with heap:=h'}) (ch:=fp) J.os ?_ ?_ J.bare λb hb=>?_
 .refine⟨λb o q n hb hx=>?_,λb o q n hb hx=>?_,λb o q n hx=>?_,λb o q hx=>?_,λb xs q=>?_,λb o u q=>?_,λb ps q=>?_⟩
  .show h'.get? b=_
   rw[same b (old b o q).1];exact U.keep b o q n hb hx
  .show ∃sl,h'.get? b=_
   rw[same b (old b o q).1];exact U.slot b o q n hb hx
  .rw[d0 (old b o q).2];exact U.free b o q n hx
  .show ∃o',h'.get? b=_
   rw[same b (old b o q).1];exact U.there b o q hx
  .rw[d0 (b7 (U.tups b xs q) e.free)];exact U.tups b xs q
  .rw[d0 (b7 (U.frzs b o u q) e.free)];exact U.frzs b o u q
  .obtain⟨mo,z⟩:=U.tbls b ps q
   exact⟨mo,by rw[d0 (b7 z e.free)];exact z⟩
 .refine HOk.track J.hok RO same e.free ?_
  exact⟨hl,a_,n,rv,by rw[same D Lj];exact ob⟩
 .exact⟨(hf b hb).2.2.2.1,(hf b hb).2.1,(hf b hb).2.2.2.2.1,(hf b hb).2.2.2.2.2⟩
theorem kz (S:ScB X own js scope)(hc:X.calm=true){fp:List Addr}{it C D:Addr}{tn:Nat->Heap->Prop}{J:It}(T:fi X.prog X.w X.K tg J fp it tn)(I:Inv X pins σ H s)(hf:∀b∈fp,dF X pins H b)
  (hD:s.heap.objs.size<=D) (hC:s.heap.objs.size<=C) (Lj:D≠C) (Ku:∀b∈fp,∃o,s.heap.get? b=some o)
  (hg:PG (cG X own js scope C s H fp) tg g) (hi:pG (cG X own js scope C s H fp) ifs ti) (he:PE (cG X own js scope C s H fp) elt te)
  (W:Nat->Nat->List V->Hp->Prop) {K:List V->Hp->Prop}
  (turn:∀i m out H,W i m out H->(J.stop i H/\(H D=none->out.length<=sizeLine/\K out H))\/
   (J.go i H/\∀x H',J.yld i H x H'->g x (uX own js σ) H' λσ2 H2=>σ2.drop own.length=js.map (λj=>(σ[j]?).join)/\ti σ2 H2 λb H3=>
    if b=true then te σ2 H3 λv H4=>out.length<=sizeLine/\∃m',m'<m/\W (i+1) m' (out++[v]) H4 else ∃m',m'<m/\W (i+1) m' out H3))
  {R:Result->Shared->Prop} (hR:∀out H' s',BlockEnd X pins own js scope σ H s fp C D out H' s'->out.length<=sizeLine->K out H'->R (.ok .next) s')
  {m0:Nat} {H1:Hp} {s1:Shared} (w0:W 0 m0 [] H1) (B:BlockEnd X pins own js scope σ H s fp C D [] H1 s1) (st:tn 0 s1.heap) (fr:∀b∈fp,H1 b=none):
  codeAny (model X.prog X.w) X.A (.compLoop (.ListComp elt [⟨tg,iter,ifs,0⟩] scope pos) 0 (.ref it) (.ref D) (compEnvC scope (gv scope X.env) C X.env)) R s1:=by
 have LG:∀{H':Hp},(∀b∈fp,H' b=none)->∀b∈fp,dF (cG X own js scope C s H fp) (X.pn++pins) H' b:=λhn b hb=>by
  obtain⟨o,ho⟩:=Ku b hb;refine⟨hn b hb,FX (FP (FN ho) hC),?_,.inl hb,λx c e=>(hf b hb).2.2.2.2.1 x c (U8 (S.cells I) e),λp hp=>(hf b hb).2.2.2.2.2 p hp⟩;intro z;rcases Gn.mp (I.stkSub b z) with e|e
  .exact(hf b hb).2.1 e
  .exact(hf b hb).2.2.1 e
 have UE:D∉fp:=λz=>by
  obtain⟨o,ho⟩:=Ku D z;exact absurd (FP (FN ho) hD) (Hf _)
 have OK:∀x c,(cG X own js scope C s H fp).env.cells.lookup x=some c->c≠D:=λx c e z=>by
  obtain⟨v,o,ho,_⟩:=I.cell x c (U8 (S.cells I) e);rw[z] at ho;exact absurd (FP (FN ho) hD) (Hf _)
 have RQ:∀p∈X.pn++pins,p.1≠D:=λp hp z=>by
  have ho:=(I.pin p hp).1;rw[z] at ho;exact absurd (FP (FN ho) hD) (Hf _)
 have Wx:D∉(cG X own js scope C s H fp).fs:=λz=>by
  obtain⟨_,o,ho,_⟩:=I.stack.mem z;exact absurd (FP (FN ho) hD) (Hf _)
 refine codeAny_loop rfl (λn s'=>∃i out H',BlockEnd X pins own js scope σ H s fp C D out H' s'/\tn i s'.heap/\(∀b∈fp,H' b=none)/\W i n out H') (λn s3 hI=>?_) m0 ⟨0,[],H1,B,st,fr,w0⟩
 obtain⟨i,out,H3,B3,ME,OL,w3⟩:=hI
 obtain⟨a_,nD,rv,UG⟩:=B3.obj
 have OM:∀{σ':St} {H':Hp} {s':Shared},Inv (cG X own js scope C s H fp) (X.pn++pins) σ' H' s'->H' D=none->s'.heap.get? D=some {cls:= .type "list",data:= .seq a_.toArray nD}->
   Inv (cG X own js scope C s H fp) (X.pn++pins++[(D,{cls:= .type "list",data:= .seq a_.toArray nD})]) σ' H' s':=fun{σ' H' s'} I' n' e'=>I'.pins_of λp hp=>by
  rcases FC.mp hp with z|z
  .exact I'.pin p (by show p∈([]:List (Addr×Obj))++_;exact FA _ z)
  .have z':p=(D,{cls:= .type "list",data:= .seq a_.toArray nD}):=by simpa using z
   subst z'
   exact⟨e',n',Lj,Wx,λv q=>by cases q⟩
 have LH:∀{H':Hp},(∀b∈fp,H' b=none)->∀b∈fp,dF (cG X own js scope C s H fp) (X.pn++pins++[(D,{cls:= .type "list",data:= .seq a_.toArray nD})]) H' b:=λhn b hb=>by
  obtain⟨a1,a2,a3,a4,a5,a6⟩:=LG hn b hb;refine⟨a1,a2,a3,a4,a5,λp hp=>?_⟩;have F':p∈X.pn++pins++[(D,{cls:= .type "list",data:= .seq a_.toArray nD})]:=hp;rcases FC.mp F' with z|z
  .exact a6 p (by show p∈([]:List (Addr×Obj))++_;exact z)
  .have z':p=(D,{cls:= .type "list",data:= .seq a_.toArray nD}):=by simpa using z
   subst z';rintro rfl;exact UE hb
 have RT:∀{α:Type} {t:Sem α} {Q Q':α->Shared->Prop} {E:Value->Shared->Prop} {s:Shared},wpAny (model X.prog X.w) X.A t Q (λ_ _=>False) s->(∀a s,Q a s->Q' a s)->wpAny (model X.prog X.w) X.A t Q' E s:=
  λh hQ=>JU h hQ λ_ _ x=>x.elim
 have RU:∀{pl:List (Addr×Obj)} {σ':St} {H':Hp} {s':Shared},Inv (cG X own js scope C s H fp) (X.pn++pins++[(D,{cls:= .type "list",data:= .seq a_.toArray nD})]++pl) σ' H' s'->Inv (cG X own js scope C s H fp) (X.pn++pins) σ' H' s'/\H' D=none/\s'.heap.get? D=some {cls:= .type "list",data:= .seq a_.toArray nD}:=fun{pl σ' H' s'} I'=>by
  have q:=I'.pin (D,{cls:= .type "list",data:= .seq a_.toArray nD}) (FA _ (Fy _ (FA _ (by simp))));exact⟨I'.unpinned.unpinned,q.2.1,q.1⟩
 show wpAny _ X.A ((compTurn (.ListComp elt [⟨tg,iter,ifs,0⟩] scope pos) 0 (.ref it) (.ref D) (compEnvC scope (gv scope X.env) C X.env)).onRaise (λx=>do noteFrame x (compEnvC scope (gv scope X.env) C X.env);theTreesLotGoes x)) _ _ s3
 refine wpAny_noted ?_
 rw[compTurn_list]
 refine FQ (Km (FQ ?_))
 rcases turn i n out H3 w3 with⟨stop,fin⟩|⟨go,step⟩
 .refine M8 (T.done (cG X own js scope C s H fp) rfl rfl rfl hc i _ s3 _ H3 _ (OM B3.inv B3.free UG) (LH OL) ME stop) λr s4 ⟨hr,I4⟩=>?_
  subst hr
  obtain⟨J4,n4,o4⟩:=RU (pl:=[]) (by rw[Gw];exact I4)
  obtain⟨hl,k⟩:=fin B3.free
  exact Gm (hR out H3 s4 ⟨J4,n4,a_,nD,rv,o4⟩ hl k)
 .refine M8 (T.item (cG X own js scope C s H fp) rfl rfl rfl hc i _ s3 _ H3 _ (OM B3.inv B3.free UG) (LH OL) ME go) λr s4 ⟨u,hr,h4⟩=>?_
  subst hr
  refine FQ (M8 h4 λ_ s5 ⟨x,H5,I5,r5,y5,st5,fr5⟩=>?_)
  have RV:=I5.pinned (LH fr5) (T.obj _ _ st5)
  refine FQ (RT (hg _ s5 _ H5 x u _ RV r5 (step x H5 y5)) λ_ s6 ⟨σ6,H6,I6,q6⟩=>?_)
  obtain⟨ed,q6⟩:=q6
  refine FQ (RT (hi _ s6 σ6 H6 _ I6 q6) λok s7 ⟨H7,I7,q7⟩=>?_)
  have stay:∀{H':Hp} {s':Shared},Inv (cG X own js scope C s H fp) (X.pn++pins++[(D,{cls:= .type "list",data:= .seq a_.toArray nD})]++iL fp s5.heap) σ6 H' s'->tn (i+1) s'.heap/\∀b∈fp,H' b=none:=fun{H' s'} I'=>by
   refine⟨T.keep _ _ _ st5 λb hb o e=>(I'.pin (b,o) (FA _ (FA _ (au hb e)))).1,λb hb=>?_⟩;obtain⟨o,e,d⟩:=T.obj _ _ st5 b hb;exact(I'.pin (b,o) (FA _ (FA _ (au hb e)))).2.1
  have wk:∀{H':Hp} {s':Shared},Inv (cG X own js scope C s H fp) (X.pn++pins) σ6 H' s'->Inv (cG X own js scope C s H fp) (X.pn++pins) (uX own js σ) H' s':=fun{H' s'} I'=>by
   refine I'.weak (by rw[I'.len];exact rH) λk v e=>?_;unfold uX at e;by_cases hk:k<own.length
   .rw[GS (by simpa using hk),FD,Fw hk] at e;simp at e
   .rw[Hd (by simpa using hk)] at e;have el:(own.map λ_=>(none:Option V)).length=own.length:=by simp
    rw[el,←ed,Ko] at e;have ek:own.length+(k -own.length)=k:=by lia
    rw[ek] at e;exact e
  cases ok with
  |false=>
   rw[if_neg Gi] at q7
   obtain⟨m',hm,w7⟩:=q7
   obtain⟨J7,n7,o7⟩:=RU I7
   exact Gm ⟨rfl,m',hm,i+1,out,H7,⟨wk J7,n7,a_,nD,rv,o7⟩,(stay I7).1,(stay I7).2,w7⟩
  |true=>
   rw[if_pos rfl] at q7
   refine FQ (FQ (RT (he _ s7 σ6 H7 _ I7 q7) λy s8 ⟨v,H8,I8,r8,hl8,m',hm,w8⟩=>?_))
   obtain⟨J8,n8,o8⟩:=RU I8
   have Zj:s8.heap.IsList D a_.toArray:=⟨_,o8,rfl,nD,rfl⟩
   refine FQ (wpAny_list_append_plain (hsz:=by have:=rv.length;simp;lia) ⟨nD,o8⟩ λh' F' F_=>?_)
   obtain⟨nn,Wy⟩:=F'
   have RW:h'.get? D=some {cls:= .type "list",data:= .seq (a_++[y]).toArray nn}:=by
    rw[Wy,List.push_toArray]
   have keep:∀b o,b≠D->s8.heap.get? b=some o->h'.get? b=some o:=λb o hb e=>(F_.2 b hb).trans e
   have J9:Inv (cG X own js scope C s H fp) (X.pn++pins) σ6 H8 {s8 with heap:=h'}:=J8.turned (t':=s8.toks) keep n8 Lj (.inr hD) OK (λp hp=>RQ p (by
    have F':p∈([]:List (Addr×Obj))++(X.pn++pins):=hp;rw[List.nil_append] at F';exact F'))
   refine Gm (Gm ⟨rfl,m',hm,i+1,out++[v],H8,⟨wk J9,n8,a_++[y],nn,rv.append (.cons r8 .nil),RW⟩,?_,(stay I8).2,w8⟩)
   exact T.keep _ _ _ (stay I8).1 λb hb o e=>keep b o (by rintro rfl;exact UE hb) e
end
def EE (n:Nat)(PV:Nat->V->Prop):It:=⟨λi _=>i<n,λi H x H'=>H'=H/\PV i x,λi _=>n<=i⟩
theorem qK {M:Model}{A:Around}{E:Value->Shared->Prop}{s:Shared}{tg:Expr}{it:Addr}{u:Value}{Q:Unit->Shared->Prop}(hu:∀a,u≠ .ref a)(hQ:Q () s):wpAny M A (letOwnedTupleGo tg (.ref it) u) Q E s:=by
 unfold letOwnedTupleGo;cases tg<;>first
  |exact Gm hQ
  |(cases u<;>first
    |exact Gm hQ
    |exact absurd rfl (hu _))
theorem iq {P:Program}{w:World}{K:Kd}{tg:Expr}{it:Addr}{n:Nat}{Pv:Nat->Value->Prop}{PV:Nat->V->Prop}{St:Nat->Heap->Prop}
  (W:∀A:Around,A.handled=none->Walks P w A it [it] [it] n Pv St) (hv:∀i u,Pv i u->(∀a,u≠ .ref a)/\∃x,RelV x u/\PV i x)
  (ho:∀i h,St i h->∃o,h.get? it=some o/\∀v,o.data≠ .cell v)
  (hk:∀i h h',St i h->(∀o,h.get? it=some o->h'.get? it=some o)->St i h')
  (ON:∀(A:Around) (i:Nat) (s:Shared) (Q:Value->Shared->Prop) (E:Value->Shared->Prop),St i s.heap->Q (.ref it) s->wpAny (model P w) A (pyIter (.ref it)) Q E s):
  fi P w K tg (EE n PV) [it] it (λi h=>St i h/\i<=n) where
 mem:=by simp
 obj:=λi h st b hb=>by
  have e:b=it:=by simpa using hb
  subst e;exact ho i h st.1
 keep:=λi h h' st k=>⟨hk i h h' st.1 λo e=>k it (by simp) o e,st.2⟩
 item:=by
  intro X hP hw hK hc i pins s σ H E I hf st hg;subst hP hw hK;obtain⟨f0,f1,f2,f3,f4,f5⟩:=hf it (by simp);refine(W X.A (I.ok.hd hc)).item i s _ _ hg st.1 λv h' tk hv' A_ kk=>?_;obtain⟨l_,x,rx,px⟩:=hv i v hv';have I1:Inv X pins σ H {s with heap:=h',toks:=tk}:=I.turned (λb o hb e=>kk b o (by simpa using hb) e) f0 f1 f3 f4 f5;exact⟨v,rfl,qK l_ ⟨x,H,I1,rx,⟨rfl,px⟩,⟨A_,hg⟩,λb hb=>(hf b hb).1⟩⟩
 done:=by
  intro X hP hw hK hc i pins s σ H E I hf st hg;subst hP hw hK;obtain⟨f0,f1,f2,f3,f4,f5⟩:=hf it (by simp);have e:i=n:=Nat.le_antisymm st.2 hg;subst e;exact(W X.A (I.ok.hd hc)).done s _ _ st.1 λh' tk kk=>⟨rfl,I.turned (λb o hb e=>kk b o (by simpa using hb) e) f0 f1 f3 f4 f5⟩
 self:=λA i s Q E st h=>ON A i s Q E st.1 h
def xU (c:Nat):V:= .str ⟨#[c]⟩
def yE (x:Str)(i:Nat)(v:V):Prop:=∃c,x.cps[i]?=some c/\v=xU c
def Its (x:Str):It:=EE x.cps.size (yE x)
theorem uC {x:Str}{i:Nat}{u:Value}(h:SignAt x i u):(∀a,u≠ .ref a)/\∃v,RelV v u/\yE x i v:=by
 obtain⟨c,t,hc,rfl⟩:=h;exact⟨λa z=>(by cases z),xU c,⟨t,rfl⟩,c,hc,rfl⟩
theorem tL {P:Program}{w:World}{K:Kd}{tg:Expr}(it:Addr)(x:Str)(t:Tok):fi P w K tg (Its x) [it] it (λi h=>h.IsStrIter it "str_ascii_iterator" x t i/\i<=x.cps.size):=
 iq (λA hh=>Walks.strAscii hh it x t) (λi u h=>uC h)
  (λi h st=>by obtain⟨o,e,c,d⟩:=st;exact⟨o,e,λv z=>by rw[d] at z;cases z⟩)
  (λi h h' st k=>let ⟨o,e,r⟩:=st;⟨o,k o e,r⟩)
  (λA i s Q E st h=>wpAny_pyIter_striter_ascii st h)
theorem rT {P:Program}{w:World}{K:Kd}{tg:Expr}(it:Addr)(x:Str)(t:Tok):fi P w K tg (Its x) [it] it (λi h=>h.IsStrIter it "str_iterator" x t i/\i<=x.cps.size):=
 iq (λA hh=>Walks.strWide hh it x t) (λi u h=>uC h)
  (λi h st=>by obtain⟨o,e,c,d⟩:=st;exact⟨o,e,λv z=>by rw[d] at z;cases z⟩)
  (λi h h' st k=>let ⟨o,e,r⟩:=st;⟨o,k o e,r⟩)
  (λA i s Q E st h=>wpAny_pyIter_striter_wide st h)
section
variable {X:Cx} {tg:Expr}
def rIter (K:Kd)(v:V)(H:Hp)(R:It->Hp->Prop):Prop:=
 (∃a,v= .ref a/\(∃xs,SqL K H a xs)/\R (Itl K a) H)\/(∃a,v= .ref a/\(∃xs,SqT K H a xs)/\R (EI K a) H)\/(∃x,v= .str x/\R (Its x) H)
theorem uP {pins:List (Addr×Obj)}{σ:St}{H1:Hp}{s1:Shared}{x:V}{v:Value}{R:It->Hp->Prop}(I1:Inv X pins σ H1 s1)(r1:RelV x v)(q1:rIter X.K x H1 R):
  wpAny (model X.prog X.w) X.A (pyIter v) (Dv X pins σ tg R) X.xe s1:=by
 have Qu:∀b∈[s1.heap.objs.size],dF X pins H1 b:=λb hb=>by
  have e:b=s1.heap.objs.size:=by simpa using hb
  subst e;exact I1.fpOk (Fz _) (I1.hok.fresh (Fz _))
 rcases q1 with⟨a,e,⟨xs,hq⟩,q⟩|⟨a,e,⟨xs,hq⟩,q⟩|⟨z,e,q⟩
 .subst e
  cases r1
  obtain⟨a_,rv,p,hz⟩:=I1.list hq
  refine Ig p.isList ?_
  exact⟨s1.heap.objs.size,[s1.heap.objs.size],_,_,H1,rfl,I1.kept (t':=s1.toks) λb o e=>FG _ e,tM a _,⟨_,FW _ rfl,rfl,rfl⟩,Qu,q⟩
 .subst e
  cases r1
  obtain⟨a_,rv,p,hz⟩:=I1.tuple hq
  refine wpAny_pyIter_tuple (show s1.heap.IsTuple a a_.toArray from p) ?_
  exact⟨s1.heap.objs.size,[s1.heap.objs.size],_,_,H1,rfl,I1.kept (t':=s1.toks) λb o e=>FG _ e,qv a _,⟨_,FW _ rfl,rfl,rfl⟩,Qu,q⟩
 .subst e
  obtain⟨t,rfl⟩:=r1
  cases ha:z.cps.all (·<128) with
  |false=>exact wpAny_pyIter_wide ha ⟨s1.heap.objs.size,[s1.heap.objs.size],_,_,H1,rfl,I1.kept (t':=s1.toks) λb o e=>FG _ e,rT _ z t,⟨⟨_,FW _ rfl,rfl,rfl⟩,Hk _⟩,Qu,q⟩
  |true=>exact wpAny_pyIter_ascii ha ⟨s1.heap.objs.size,[s1.heap.objs.size],_,_,H1,rfl,I1.kept (t':=s1.toks) λb o e=>FG _ e,tL _ z t,⟨⟨_,FW _ rfl,rfl,rfl⟩,Hk _⟩,Qu,q⟩
end
section
variable {X:Cx}
theorem lY:∀{bs:List Bool} {us:List Value},Vals (bs.map V.bl) us->us=bs.map Value.bool
 |[],_,.nil=>rfl
 |b::bs,_,.cons r t=>by
  have e:_=Value.bool b:=r;rw[e,lY t];rfl
theorem pV (bs:List Bool):((List.range bs.length).all λi=>(bs[i]?).getD true)=bs.all id:=by
 rw[GC,Gk,Gk];constructor
 .intro h b hb;obtain⟨i,hi,rfl⟩:=Ki hb;have:=h i (Hn.mpr hi);simpa [Fw hi] using this
 .intro h i hi;have Ly:=Hn.mp hi;simpa [Fw Ly] using h _ (Gd Ly)
theorem qf (bs:List Bool):((List.range bs.length).any λi=>(bs[i]?).getD true)=bs.any id:=by
 rw[GC,Hg,Hg];constructor
 .rintro⟨i,hi,e⟩;have Ly:=Hn.mp hi;simp only[Fw Ly,Im] at e;exact⟨_,Gd Ly,e⟩
 .rintro⟨b,hb,e⟩;obtain⟨i,hi,rfl⟩:=Ki hb;exact⟨i,Hn.mpr hi,by simp only[Fw hi,Im];exact e⟩
theorem qS {s:Shared}{h':Heap}{o:Obj}(hk:∀b x,b∉[s.heap.objs.size]->(s.heap.push o).get? b=some x->h'.get? b=some x):∀b x,s.heap.get? b=some x->h'.get? b=some x:=
 λb x e=>hk b x (λhm=>by rw[FH.mp hm] at e;exact Hf _ (FN e)) (FG _ e)
def vh (K:Kd):List V->Hp->VK->Prop:=λxs H Q=>∃(p:Addr) (bs:List Bool),xs=[.ref p]/\SqL K H p (bs.map V.bl)/\Q (.bl (bs.all id)) H
def Cq (K:Kd):List V->Hp->VK->Prop:=λxs H Q=>∃(p:Addr) (bs:List Bool),xs=[.ref p]/\SqL K H p (bs.map V.bl)/\Q (.bl (bs.any id)) H
theorem tE (hc:X.calm=true):CallR X (.builtin "all") (vh X.K):=by
 intro pins s σ H xs us Q I r h;obtain⟨l,bs,rfl,hx,q⟩:=h;obtain⟨u,rfl,ru⟩:=P0 r;cases ru;obtain⟨a_,rv,ht,hz⟩:=I.list hx;have e:=lY rv;subst e;have hl:=ht.isList;have JH:l<s.heap.objs.size:=ht.lt;refine call_all_walk (Ig hl ?_);refine⟨s.heap.objs.size,[s.heap.objs.size,l],[s.heap.objs.size],(bs.map Value.bool).toArray.size,_,_,λi=>(bs[i]?).getD true,rfl,Walks.list (A:=X.A.in1) (I.ok.hd hc) _ l (FX JH) (bs.map Value.bool).toArray,
  ⟨⟨_,FW _ rfl,rfl,rfl⟩,hl.push _⟩,λi v s' Q' E' hP hQ=>?_,λh' tk hk=>?_⟩
 .have LI:(bs.map Value.bool)[i]?=some v:=by simpa using hP
  rw[FD] at LI;cases e:bs[i]? with
  |none=>rw[e] at LI;cases LI
  |some b=>
   rw[e] at LI
   cases LI
   simp only[e,Im] at hQ
   exact Hm hQ
 .have e:((List.range (bs.map Value.bool).toArray.size).all λi=>(bs[i]?).getD true)=bs.all id:=by
   rw[FV,Fv];exact pV bs
  rw[e];exact⟨.bl (bs.all id),H,I.kept (qS hk),rfl,q⟩
theorem se (hc:X.calm=true):CallR X (.builtin "any") (Cq X.K):=by
 intro pins s σ H xs us Q I r h;obtain⟨l,bs,rfl,hx,q⟩:=h;obtain⟨u,rfl,ru⟩:=P0 r;cases ru;obtain⟨a_,rv,ht,hz⟩:=I.list hx;have e:=lY rv;subst e;have hl:=ht.isList;have JH:l<s.heap.objs.size:=ht.lt;refine call_any_walk (Ig hl ?_);refine⟨s.heap.objs.size,[s.heap.objs.size,l],[s.heap.objs.size],(bs.map Value.bool).toArray.size,_,_,λi=>(bs[i]?).getD true,rfl,Walks.list (A:=X.A.in1) (I.ok.hd hc) _ l (FX JH) (bs.map Value.bool).toArray,
  ⟨⟨_,FW _ rfl,rfl,rfl⟩,hl.push _⟩,λi v s' Q' E' hP hQ=>?_,λh' tk hk=>?_⟩
 .have LI:(bs.map Value.bool)[i]?=some v:=by simpa using hP
  rw[FD] at LI;cases e:bs[i]? with
  |none=>rw[e] at LI;cases LI
  |some b=>
   rw[e] at LI
   cases LI
   simp only[e,Im] at hQ
   exact Hm hQ
 .have e:((List.range (bs.map Value.bool).toArray.size).any λi=>(bs[i]?).getD true)=bs.any id:=by
   rw[FV,Fv];exact qf bs
  rw[e];exact⟨.bl (bs.any id),H,I.kept (qS hk),rfl,q⟩
def Dm:V->Option Int->Option Int->Hp->VK->Prop:=λx lo hi H Q=>∃z,x= .str z/\z.length<=sizeLine/\Q (.str (Txt.slice z lo hi)) H
theorem yW:SlR X Dm:=by
 intro pins s σ H x v vl vu lo hi sl Q I rx hs pl pu h;obtain⟨z,rfl,hz,q⟩:=h;obtain⟨t,rfl⟩:=rx;refine⟨"str",_,F.slot_str_getitem.lookup,typeIs_str _ _ _,?_⟩;have fin:∀t' k,EP X pins σ Q (.str (Txt.slice z lo hi) t') {s with toks:=k}:=λt' k=>⟨.str _,H,I.tok _,⟨t',rfl⟩,q⟩
 cases pl with
 |none=>
  cases pu with
  |none=>exact HP (l:=none) (u:=none) (st:=none) hs rfl (IY ⟨GB (Ia z _ _) hz,fin⟩)
  |int j tj=>exact HP (l:=none) (u:=some (j,tj)) (st:=none) hs rfl (IY ⟨GB (Ia z _ _) hz,fin⟩)
 |int i ti=>
  cases pu with
  |none=>exact HP (l:=some (i,ti)) (u:=none) (st:=none) hs rfl (IY ⟨GB (Ia z _ _) hz,fin⟩)
  |int j tj=>exact HP (l:=some (i,ti)) (u:=some (j,tj)) (st:=none) hs rfl (IY ⟨GB (Ia z _ _) hz,fin⟩)
def Bt (K:Kd):V->Option Int->Option Int->Hp->VK->Prop:=λx lo hi H Q=>CD K x lo hi H Q\/Df K x lo hi H Q\/Dm x lo hi H Q
theorem Am:SlR X (Bt X.K):=sl_list.or (sl_tup.or yW)
theorem RelV.plainB {x:V}{v:Value}(r:RelV x v)(b:Bool):plainIs v (.bool b)=true/\(v==Value.bool b)=decide (x= .bl b):=by
 cases x with
 |non=>cases r;exact⟨rfl,rfl⟩
 |bl c=>cases r;exact⟨rfl,by cases b<;>cases c<;>rfl⟩
 |int _=>obtain⟨t,rfl⟩:=r;exact⟨rfl,rfl⟩
 |str _=>obtain⟨t,rfl⟩:=r;exact⟨rfl,rfl⟩
 |byt _=>obtain⟨t,rfl⟩:=r;exact⟨rfl,rfl⟩
 |flt _=>obtain⟨t,rfl⟩:=r;exact⟨rfl,rfl⟩
 |ref _=>cases r;exact⟨rfl,rfl⟩
 |ty _=>cases r;exact⟨rfl,rfl⟩
def EH (neg:Bool):R2:=λx y H Q=>(y= .non\/∃b,y= .bl b)/\Q (.bl (if neg then !decide (x=y) else decide (x=y))) H
theorem oY:OpR X (compareOp .IsNot) (EH true):=by
 intro pins s σ H x y v u Q I rx ry h;obtain⟨hy,q⟩:=h;rcases hy with rfl|⟨b,rfl⟩
 .cases ry;exact isnot_none_gen ⟨.bl _,H,I,by rw[rx.none_iff];rfl,q⟩
 .cases ry;exact wpAny_isNot_plain (rx.plainB b).1 ⟨.bl _,H,I,by rw[(rx.plainB b).2];rfl,q⟩
def TyB (K:Kd)(H:Hp):V->String->Prop
 | .non,t=>t="NoneType"
 | .bl _,t=>t="bool"
 | .int _,t=>t="int"
 | .str _,t=>t="str"
 | .ref a,t=>(t="list"/\∃xs,SqL K H a xs)\/(t="tuple"/\∃xs,SqT K H a xs)\/(t="dict"/\∃kvs,Rd H a (.dK kvs))
 |_,_=>False
def dY (t T:String):Bool:=t==T||(t=="bool"&&T=="int")
def xE (K:Kd):List V->Hp->VK->Prop:=λxs H Q=>∃x T t,xs=[x,.ty T]/\TyB K H x t/\(T="str"\/T="int"\/T="bool"\/T="list"\/T="tuple"\/T="dict")/\Q (.bl (dY t T)) H
theorem X1 {K:Kd}{t T:String}(ht:t="NoneType"\/t="bool"\/t="int"\/t="str"\/t="list"\/t="tuple"\/t="dict")(hT:T="str"\/T="int"\/T="bool"\/T="list"\/T="tuple"\/T="dict"):
  PySem.W.kitOne K (.type t) (.type T)=some (dY t T):=by
 rcases ht with rfl|rfl|rfl|rfl|rfl|rfl|rfl<;>rcases hT with rfl|rfl|rfl|rfl|rfl|rfl<;>rfl
theorem call_isi:CallR X (.builtin "isinstance") (xE X.K):=by
 intro pins s σ H xs us Q I r h;obtain⟨x,T,t,rfl,ty,hT,q⟩:=h;obtain⟨u,c,rfl,rx,rc⟩:=fY r;cases rc;have fin:∀tk,EP X pins σ Q (.bool (dY t T)) {s with toks:=tk}:=λtk=>⟨.bl _,H,I.tok tk,rfl,q⟩
 cases x with
 |non=>cases ty;cases (show u=Value.none from rx);exact Hw PySem.W.kitx_none I.kIn True.intro (X1 (by simp) hT) (λz=>nomatch z) fin
 |bl y=>cases ty;cases (show u=Value.bool y from rx);exact Hw PySem.W.kitx_bool I.kIn True.intro (X1 (by simp) hT) (λz=>nomatch z) fin
 |int i=>cases ty;obtain⟨t,q⟩:=(show ∃t,u=Value.int i t from rx);cases q;exact Hw PySem.W.kitx_int I.kIn True.intro (X1 (by simp) hT) (λz=>nomatch z) fin
 |str y=>cases ty;obtain⟨t,q⟩:=(show ∃t,u=Value.str y t from rx);cases q;exact Hw PySem.W.kitx_str I.kIn True.intro (X1 (by simp) hT) (λz=>nomatch z) fin
 |byt _=>exact False.elim ty
 |flt _=>exact False.elim ty
 |ty _=>exact False.elim ty
 |ref a=>
  cases (show u=Value.ref a from rx)
  rcases ty with⟨rfl,ys,hy⟩|⟨rfl,ys,hy⟩|⟨rfl,kvs,hy⟩
  .obtain⟨a_,_,⟨o,n,e,c,_,_⟩,_⟩:=I.list hy
   exact Hw PySem.W.kitx_list I.kIn ⟨o,e,c⟩ (X1 (by simp) hT) (λz=>nomatch z) fin
  .obtain⟨a_,_,⟨o,e,c,_⟩,_⟩:=I.tuple hy
   exact Hw PySem.W.kitx_tuple I.kIn ⟨o,e,c⟩ (X1 (by simp) hT) (λz=>nomatch z) fin
  .obtain⟨_,_,vs,_,o,es,ep,h1,h2,_⟩:=R0 I.hok hy
   exact Hw Kw I.kIn ⟨o,h1,h2.1⟩ (X1 (by simp) hT) (λz=>nomatch z) fin
end
section
variable {X:Cx}
def pd (K:Kd):R2:=λx y H Q=>xf (λi j=> .int (i+j)) x y H Q\/(∃i j,x= .str i/\y= .str j/\i.length+j.length<=sizeLine/\Q (.str (i++j)) H)\/Bz x y H Q\/yK K x y H Q
theorem yk:OpR X (binaryOp .Add) (pd X.K):=op_add.or (op_add_str.or (op_cat.or yr))
theorem op_in_sgn:OpR X (compareOp .In) (λx y H Q=>∃c j,x=xU c/\y= .str j/\Q (.bl (decide (c∈j.cps.toList))) H):=by
 intro pins s σ H x y v u Q I rx ry h;obtain⟨c,j,rfl,rfl,q⟩:=h;refine tw pins s σ H _ _ v u Q I rx ry ⟨⟨#[c]⟩,j,rfl,rfl,?_⟩;rw[StrLaws.found_one];exact q
theorem op_notIn_sgn:OpR X (compareOp .NotIn) (λx y H Q=>∃c j,x=xU c/\y= .str j/\Q (.bl (!decide (c∈j.cps.toList))) H):=by
 intro pins s σ H x y v u Q I rx ry h;obtain⟨c,j,rfl,rfl,q⟩:=h;refine lE pins s σ H _ _ v u Q I rx ry ⟨⟨#[c]⟩,j,rfl,rfl,?_⟩;rw[StrLaws.found_one];exact q
theorem qa (hu:X.A.units+1<cLine):OpR X (compareOp .In) (λy x H Q=>∃a o,x= .ref a/\aQ H a y o/\Q (.bl o.isSome) H):=by
 intro pins s σ H y x v u Q I ry rx h;obtain⟨a,o,rfl,g,q⟩:=h;cases rx;exact DS hu I g ry λs' I'=>⟨.bl _,H,I',rfl,q⟩
theorem jB (hu:X.A.units+1<cLine):OpR X (compareOp .NotIn) (λy x H Q=>∃a o,x= .ref a/\aQ H a y o/\Q (.bl (!o.isSome)) H):=by
 intro pins s σ H y x v u Q I ry rx h;obtain⟨a,o,rfl,g,q⟩:=h;cases rx;exact xl hu I g ry λs' I'=>⟨.bl _,H,I',rfl,q⟩
def tD (K:Kd):R2:=λx y H Q=>(∃c j,x=xU c/\y= .str j/\Q (.bl (decide (c∈j.cps.toList))) H)\/DC K false x y H Q\/(∃a o,y= .ref a/\aQ H a x o/\Q (.bl o.isSome) H)
def gI (K:Kd):R2:=λx y H Q=>(∃c j,x=xU c/\y= .str j/\Q (.bl (!decide (c∈j.cps.toList))) H)\/DC K true x y H Q\/(∃a o,y= .ref a/\aQ H a x o/\Q (.bl (!o.isSome)) H)
theorem zk (hu:X.A.units+1<cLine):OpR X (compareOp .In) (tD X.K):=op_in_sgn.or (op_in_seq.or (qa hu))
theorem tP (hu:X.A.units+1<cLine):OpR X (compareOp .NotIn) (gI X.K):=op_notIn_sgn.or (op_notIn_seq.or (jB hu))
def BP:R2:=λx y H Q=>xf (λi j=> .bl (decide (i<j))) x y H Q\/(∃i j,x= .str i/\y= .str j/\Q (.bl (decide (i.cps.toList<j.cps.toList))) H)
theorem ie:OpR X (compareOp .Lt) BP:=op_lt.or sI
theorem xX (hu:X.A.units+1<cLine):IxR X (λx y H Q=>∃a v,x= .ref a/\aQ H a y (some v)/\Q v H):=by
 intro value slice pins s σ H x y v u Q I rx ry h hs;obtain⟨a,z,rfl,g,q⟩:=h;cases rx;exact tail_any (oA I g) PySem.F.slot_dict_getitem.lookup (tR hu I g ry λw2 s' I' r'=>⟨z,H,I',r',q⟩) hs
def nQ (K:Kd):R2:=λx y H Q=>EL K x y H Q\/(∃a v,x= .ref a/\aQ H a y (some v)/\Q v H)
theorem AY (hu:X.A.units+1<cLine):IxR X (nQ X.K):=ix_seq.or (xX hu)
def pB (K:Kd):List V->Hp->VK->Prop:=λxs H Q=>(∃x n,xs=[x]/\BI K x H n/\Q (.int n) H)\/(∃a kvs,xs=[V.ref a]/\Rd H a (.dK kvs)/\Q (.int kvs.length) H)
theorem call_lenX:CallR X (.builtin "len") (pB X.K):=by
 refine call_len.or ?_;intro pins s σ H xs us Q I r h;obtain⟨a,kvs,rfl,ha,q⟩:=h;obtain⟨u,rfl,ru⟩:=P0 r;cases ru;exact Ce I ha λt s' I'=>⟨.int kvs.length,H,I',⟨t,rfl⟩,q⟩
end
def N8 (P:Program)(w:World)(K:Kd)(mg:Str->Option Value)(base:Heap)(CX:mW)(k:Nat)(x:Str)(ps:List Str)(v_:List V)(sp:Sp):Prop:=
 ∃f fd ds,u9 P w K mg base CX k f fd ps sp/\mg x=some (.ref f)/\PySem.W.keepIn K (.ref f)=true/\Binds K fd ps ds/\Vals v_ ds
section
variable {X:Cx} {CX:mW} {k:Nat} {x:Str} {ps:List Str} {v_:List V} {sp:Sp} {E:XK} {e:Expr} {es:List Expr} {t:TA} {p pos:Pos}
theorem uY (C:N8 X.prog X.w X.K X.mg X.base CX k x ps v_ sp)(hr:Room k X.A)(hx:aY CX X E)(ha:PA X (e::es) t)(hg:Gl X x:=by rfl)
  (w_:(x==("__debug__":Str))=false:=by decide) (he:starEach (e::es) X.env=(false,eval e X.env)::starEach es X.env:=by rfl) (Lh:(backTo pos (starEach es X.env)).any (·.1)=false:=by rfl):
  PE X (.Call (.Name x p) (e::es) [] pos) (nZ sp v_ E t):=by
 obtain⟨f,fd,ds,F,hm,hk,hb,hd⟩:=C
 exact xT F hr hg hm hk hb hd hx ha w_ he Lh
def BW (mg:Str->Option Value)(x:Str)(v:V):Prop:=∃u,mg x=some u/\RelV v u
theorem zO {v:V}(h:BW X.mg x v)(hg:Gl X x:=by rfl)(hd:(x==("__debug__":Str))=false:=by decide):PE X (.Name x pos) (tC v):=by
 obtain⟨u,hm,r⟩:=h;exact xw hg hm r hd
theorem u6 {k:Nat}{A:Around}(r:Room k A):A.units+1<cLine:=by have:=r.un;lia
end
section
variable {K:Kd} {σ:St} {H:Hp} {Q:VK} {D:qg} {nx bk ct:St->Hp->Prop} {rt:VK}
theorem CY {i:Nat}{v:V}(h:σ[i]?=some (some v))(q:Q v H):Az i σ H Q:=⟨v,h,q⟩
theorem Fq {v:V}(q:Q v H):tC v σ H Q:=q
theorem DL {r:R2}{ta tb:TE}(q:ta σ H λx H1=>tb σ H1 λy H2=>r x y H2 Q):xg r ta tb σ H Q:=q
theorem AW {t:TE}{Qb:Bool->Hp->Prop}(q:t σ H λx H'=>∃k,x= .bl k/\Qb k H'):uk t σ H Qb:=q
theorem Ex {b:Bool}{Qb:Bool->Prop}(q:Qb b):∃k,V.bl b= .bl k/\Qb k:=⟨b,rfl,q⟩
theorem Bo {b:Bool}{Qb:Bool->Prop}(q:Qb b):∃k,wR K (V.bl b) H k/\Qb k:=⟨b,rfl,q⟩
theorem Dj {t:TT}{Qb:Bool->Hp->Prop}(q:t σ H λc H1=>Qb (!c) H1):Aq t σ H Qb:=q
theorem Ci {t u:TT}{Qb:Bool->Hp->Prop}(q:t σ H λc H1=>if c=true then u σ H1 Qb else Qb false H1):zz t u σ H Qb:=q
theorem Ed {t u:TT}{Qb:Bool->Hp->Prop}(q:t σ H λc H1=>if c=true then Qb true H1 else u σ H1 Qb):Em t u σ H Qb:=q
theorem Bf {ta tb:TE}(q:ta σ H λx H1=>∃c,x= .bl c/\if c=true then tb σ H1 Q else Q (.bl false) H1):ur ta tb σ H Q:=q
theorem Bv {ta tb:TE}(q:ta σ H λx H1=>∃c,x= .bl c/\if c=true then Q (.bl true) H1 else tb σ H1 Q):AZ ta tb σ H Q:=q
theorem yX {ta:TE}(q:ta σ H λx H1=>∃c,x= .bl c/\Q (.bl (!c)) H1):wG ta σ H Q:=q
theorem Ct {Qa:List V->Hp->Prop}(q:Qa [] H):xu σ H Qa:=q
theorem zC {ta:TE}{tr:TA}{Qa:List V->Hp->Prop}(q:ta σ H λx H1=>tr σ H1 λxs H2=>Qa (x::xs) H2):qX ta tr σ H Qa:=q
theorem AG {sp:Sp}{v_:List V}{E:XK}{t:TA}(q:t σ H λvs H1=>sp (vs++v_) H1 Q E):nZ sp v_ E t σ H Q:=q
theorem Ee {r:List V->Hp->VK->Prop}{t:TA}(q:t σ H λvs H1=>r vs H1 Q):Aa r t σ H Q:=q
theorem DI {r:V->Option Int->Option Int->Hp->VK->Prop}{te:TE}{tl th:TO}(q:te σ H λx H1=>tl σ H1 λl H2=>th σ H2 λu H3=>r x l u H3 Q):DY r te tl th σ H Q:=q
theorem uL {Qo:Option Int->Hp->Prop}(q:Qo none H):lN σ H Qo:=q
theorem zu {t:TE}{Qo:Option Int->Hp->Prop}(q:t σ H λx H1=>∃i,x= .int i/\Qo (some i) H1):vi t σ H Qo:=q
theorem CZ {i:Int}{Qo:Int->Prop}(q:Qo i):∃j,V.int i= .int j/\Qo j:=⟨i,rfl,q⟩
theorem sZ {i j:Int}(q:Q (.int (i+j)) H):pd K (.int i) (.int j) H Q:= .inl ⟨i,j,rfl,rfl,q⟩
theorem N6 {i j:Str}(h:i.length+j.length<=sizeLine)(q:Q (.str (i++j)) H):pd K (.str i) (.str j) H Q:= .inr (.inl ⟨i,j,rfl,rfl,h,q⟩)
theorem Eh {g:Int->Int->V}{i j:Int}(q:Q (g i j) H):xf g (.int i) (.int j) H Q:=⟨i,j,rfl,rfl,q⟩
theorem ED {C:Int->Int->Prop}{g:Int->Int->V}{i j:Int}(h:C i j)(q:Q (g i j) H):rI C g (.int i) (.int j) H Q:=⟨i,j,rfl,rfl,h,q⟩
theorem tW {i j:Int}(q:Q (.bl (decide (i<j))) H):BP (.int i) (.int j) H Q:= .inl ⟨i,j,rfl,rfl,q⟩
theorem oU {i j:Int}(q:Q (.bl (decide (i=j))) H):Dt (.int i) (.int j) H Q:=⟨rfl,by rw[gG];rw[show(i==j)=decide (i=j) from IM i j];exact q⟩
theorem oP {i j:Str}(q:Q (.bl (decide (i=j))) H):Dt (.str i) (.str j) H Q:=⟨rfl,by rw[mq];rw[show(i==j)=decide (i=j) from IM i j];exact q⟩
theorem uB {c:Nat}{j:Str}(q:Q (.bl (decide (c∈j.cps.toList))) H):tD K (xU c) (.str j) H Q:= .inl ⟨c,j,rfl,rfl,q⟩
theorem cc {y:Str}(h:y.length<=sizeLine)(q:Q (.int y.length) H):pB K [.str y] H Q:= .inl ⟨.str y,y.length,rfl,⟨h,rfl⟩,q⟩
theorem k8 {p:Addr}{xs:List V}(h:SqL K H p xs)(q:Q (.int xs.length) H):pB K [.ref p] H Q:= .inl ⟨.ref p,xs.length,rfl,.inl ⟨xs,h,rfl⟩,q⟩
theorem rR {p:Addr}{xs:List V}(h:SqT K H p xs)(q:Q (.int xs.length) H):pB K [.ref p] H Q:= .inl ⟨.ref p,xs.length,rfl,.inr ⟨xs,h,rfl⟩,q⟩
theorem Z4 {p:Addr}{kvs:List (j4×V)}(h:Rd H p (.dK kvs))(q:Q (.int kvs.length) H):pB K [.ref p] H Q:= .inr ⟨p,kvs,rfl,h,q⟩
theorem i8 {p:Addr}{xs:List V}{i:Int}{v:V}(h:SqL K H p xs)(e:jI xs i=some v)(q:Q v H):nQ K (.ref p) (.int i) H Q:= .inl (.inl ⟨p,xs,i,v,rfl,rfl,h,e,q⟩)
theorem b5 {p:Addr}{xs:List V}{i:Int}{v:V}(h:SqT K H p xs)(e:jI xs i=some v)(q:Q v H):nQ K (.ref p) (.int i) H Q:= .inl (.inr (.inl ⟨p,xs,i,v,rfl,rfl,h,e,q⟩))
theorem Z9 {z:Str}{i:Int}{c:Nat}(hz:z.length<=sizeLine)(e:jI z.cps.toList i=some c)(q:Q (xU c) H):nQ K (.str z) (.int i) H Q:= .inl (.inr (.inr ⟨z,i,c,rfl,rfl,hz,e,q⟩))
theorem k9 {p:Addr}{y v:V}(g:aQ H p y (some v))(q:Q v H):nQ K (.ref p) y H Q:= .inr ⟨p,v,rfl,g,q⟩
theorem oq {p:Addr}{xs:List V}{lo hi:Option Int}(h:SqL K H p xs)(q:∀p,H p=none->Q (.ref p) (upd H p (.lst (dO xs lo hi)))):Bt K (.ref p) lo hi H Q:= .inl ⟨p,xs,rfl,h,q⟩
theorem dS {z:Str}{lo hi:Option Int}(hz:z.length<=sizeLine)(q:Q (.str (Txt.slice z lo hi)) H):Bt K (.str z) lo hi H Q:= .inr (.inr ⟨z,rfl,hz,q⟩)
theorem qJ {l b:Addr}{xs zs:List V}(h1:H l=some (.lst xs))(h2:H b=some (.lst zs))(hz:xs.length+zs.length<=sizeLine)(q:∀p,H p=none->Q (.ref p) (upd H p (.lst (xs++zs)))):pd K (.ref l) (.ref b) H Q:= .inr (.inr (.inl ⟨l,b,xs,zs,rfl,rfl,h1,h2,hz,q⟩))
theorem CI {neg:Bool}{x:V}(q:Q (.bl (if neg then !decide (x= .non) else decide (x= .non))) H):EH neg x .non H Q:=⟨.inl rfl,q⟩
theorem bN {x:V}{t T:String}(ty:TyB K H x t)(hT:T="str"\/T="int"\/T="bool"\/T="list"\/T="tuple"\/T="dict")(q:Q (.bl (dY t T)) H):xE K [x,.ty T] H Q:=⟨x,T,t,rfl,ty,hT,q⟩
theorem om {p:Addr}{bs:List Bool}(h:SqL K H p (bs.map V.bl))(q:Q (.bl (bs.all id)) H):vh K [.ref p] H Q:=⟨p,bs,rfl,h,q⟩
theorem Bx {t:TA}(q:t σ H λxs H1=>xs.length<=sizeLine/\∀p,H1 p=none->Q (.ref p) (upd H1 p (.tup xs))):zZ t σ H Q:=q
theorem Dl {t:TA}(q:t σ H λxs H1=>xs.length<=sizeLine/\∀p,H1 p=none->Q (.ref p) (upd H1 p (.lst xs))):Bc t σ H Q:=q
theorem A1 {t u:TS}(q:t ⟨u ⟨nx,rt,bk,ct⟩,rt,bk,ct⟩ σ H):ip t u ⟨nx,rt,bk,ct⟩ σ H:=q
theorem Ba (q:nx σ H):wY ⟨nx,rt,bk,ct⟩ σ H:=q
theorem Cy {te:TE}(q:te σ H rt):uq te ⟨nx,rt,bk,ct⟩ σ H:=q
theorem Ak {te:TE}(q:te σ H λ_ H1=>nx σ H1):uK te ⟨nx,rt,bk,ct⟩ σ H:=q
theorem Dh {c:TT}{t u:TS}(q:c σ H λb H1=>if b=true then t ⟨nx,rt,bk,ct⟩ σ H1 else u ⟨nx,rt,bk,ct⟩ σ H1):zd c t u ⟨nx,rt,bk,ct⟩ σ H:=q
theorem CN {te:TE}{g:TG}(q:te σ H λx H1=>g x σ H1 nx):pL te g ⟨nx,rt,bk,ct⟩ σ H:=q
theorem AA {i:Nat}{v:V}{Qs:St->Hp->Prop}(q:Qs (σ.set i (some v)) H):O5 i v σ H Qs:=q
end
section
variable {X:Cx} {pins:List (Addr×Obj)} {σ:St} {H:Hp} {s:Shared} {d:Addr} {kvs:List (j4×V)} {o:Obj}
abbrev z8 (d:Addr)(o:Obj)(kvs:List (j4×V))(H:Hp):Hp:=upd H d (.frz o (.dK kvs))
theorem Inv.freeze (I:Inv X pins σ H s)(h:H d=some (.dK kvs))(ho:s.heap.get? d=some o):Inv X pins σ (z8 d o kvs H) s:=by
 have nd:∀b u,H b=some u->u≠ .dK kvs->b≠d:=λb u e n z=>by
  subst z;rw[h] at e;exact n (Ga e).symm
 have hok:HOk X.prog X.w (z8 d o kvs H) s.heap:=λb u e=>by
  have st:∀{a:Addr} {u:HO},ObjOk X.prog X.w H s.heap a u->ObjOk X.prog X.w (z8 d o kvs H) s.heap a u:=fun{a u} x=>
   x.stay (λc v _ q=>q) (λc q=>by unfold z8;rw[d0 (nd c _ q (by intro z;cases z))];exact q) λc xs q=>by unfold z8;rw[d0 (nd c _ q (by intro z;cases z))];exact q
  by_cases hb:b=d
  .subst hb;unfold z8 at e;rw[d8] at e;cases e;exact⟨ho,st (I.hok _ _ h)⟩
  .unfold z8 at e;rw[d0 hb] at e;exact st (I.hok b u e)
 have q:=I.un (H':=z8 d o kvs H) (h':=s.heap) (t':=s.toks) ⟨λb o e n hb hx=>e,λb o e n hb hx=>⟨o.slots,e⟩,λb o e n hx=>by
  unfold z8;rw[d0 (λz=>by subst z;rw[h] at n;cases n)];exact n,λb o e _=>⟨o,e⟩,λb xs e=>by unfold z8;rw[d0 (nd b _ e (by intro z;cases z))];exact e,
  λb o u e=>by unfold z8;rw[d0 (nd b _ e (by intro z;cases z))];exact e,λb ps e=>⟨#[],by unfold z8;rw[d0 (nd b _ e (by intro z;cases z))];simpa using e⟩⟩ hok
 exact q
def CQ:Option HO->Option HO
 |some (.frz _ u)=>some u
 |o=>o
def thaw (d:Addr)(H:Hp):Hp:=λb=>if b=d then CQ (H d) else H b
theorem Q7 {b:Addr}(h:b≠d):thaw d H b=H b:=by unfold thaw;rw[if_neg h]
theorem lq {u:HO}(h:H d=some (.frz o u)):thaw d H d=some u:=by unfold thaw;rw[if_pos rfl,h];rfl
theorem uD {u:HO}(h:H d=some (.frz o u)):thaw d H=upd H d u:=by
 funext b;by_cases hb:b=d
 .subst hb;rw[lq h,d8]
 .rw[Q7 hb,d0 hb]
theorem qZ (h:∀o u,H d≠some (.frz o u)):thaw d H=H:=by
 funext b;by_cases hb:b=d
 .subst hb;unfold thaw;rw[if_pos rfl];cases q:H b with
  |none=>rfl
  |some u=>cases u with
   |frz o u=>exact absurd q (h o u)
   |_=>rfl
 .exact Q7 hb
def xq (X:Cx)(th:Hp->Hp):Prop:=∀(pins:List (Addr×Obj)) (σ:St) (H:Hp) (s:Shared),Inv X pins σ H s->Inv X pins σ (th H) s
theorem ei:xq X id:=λ_ _ _ _ I=>I
theorem sE (hn:∀o u,X.H₀ d≠some (.frz o u)):xq X (thaw d):=λpins σ H s I=>by
 by_cases hf:∃o u,H d=some (.frz o u)
 .obtain⟨o,u,h⟩:=hf;rw[uD h];have nd:∀b v,H b=some v->v≠ .frz o u->b≠d:=λb v e n z=>by
   subst z;rw[h] at e;exact n (Ga e).symm
  have nn:∀b,H b=none->b≠d:=λb e z=>by subst z;rw[h] at e;cases e
  have st:∀{a:Addr} {v:HO},ObjOk X.prog X.w H s.heap a v->ObjOk X.prog X.w (upd H d u) s.heap a v:=fun{a v} x=>
   x.stay (λc v _ q=>q) (λc q=>by rw[d0 (nd c _ q (by intro z;cases z))];exact q) λc xs q=>by rw[d0 (nd c _ q (by intro z;cases z))];exact q
  refine⟨I.ok,I.os,I.bare,⟨I.base.keep,I.base.slot,λb ob e n hx=>?_,I.base.there,λb xs e=>?_,λb ob v e=>?_,λb ps e=>?_⟩,I.loc,I.cell,?_,λx c e=>?_,λp hp=>?_,λb v e=>?_,I.len⟩
  .have q:=I.base.free b ob e n hx;rw[d0 (nn b q)];exact q
  .have q:=I.base.tups b xs e;rw[d0 (nd b _ q (by intro z;cases z))];exact q
  .have q:=I.base.frzs b ob v e;rw[d0 (λz=>by subst z;exact hn ob v e)];exact q
  .obtain⟨m,q⟩:=I.base.tbls b ps e;exact⟨m,by rw[d0 (nd b _ q (by intro z;cases z))];exact q⟩
  .rw[d0 (nn _ I.free)];exact I.free
  .have q:=I.freeC x c e;rw[d0 (nn _ q)];exact q
  .obtain⟨a1,a2,a3⟩:=I.pin p hp;exact⟨a1,by rw[d0 (nn _ a2)];exact a2,a3⟩
  .by_cases hb:b=d
   .subst hb;rw[d8] at e;cases e;exact st (I.hok _ _ h).2
   .rw[d0 hb] at e;exact st (I.hok b v e)
 .rw[qZ λo u e=>hf ⟨o,u,e⟩];exact I
theorem Same.thaw {H H':Hp}(h:H d=some (.dK kvs))(e:Same (z8 d o kvs H) H'):Same H (thaw d H'):=λb u q=>by
 by_cases hb:b=d
 .subst hb;rw[h] at q;cases q;have z:=e b _ (show z8 b o kvs H b=some _ from d8);exact lq z
 .rw[Q7 hb];exact e b u (by unfold z8;rw[d0 hb];exact q)
end
abbrev mZ:=St->Hp->(It->(Hp->Hp)->Hp->Prop)->Prop
def uV (X:Cx)(tg iter:Expr)(wi:mZ):Prop:=
 ∀(pins:List (Addr×Obj)) (s:Shared) (σ:St) (H:Hp) (R:It->(Hp->Hp)->Hp->Prop),Inv X pins σ H s->wi σ H R->
  wpAny (model X.prog X.w) X.A (eval iter X.env) (λv s1=>wpAny (model X.prog X.w) X.A (pyIter v) (Dv X pins σ tg λJ H'=>∃th,xq X th/\R J th H') X.xe s1) X.xe s
theorem PI.two {X:Cx}{tg iter:Expr}{wi:TI}(h:PI X tg iter wi):uV X tg iter (λσ H R=>wi σ H λJ H'=>R J id H'):=by
 intro pins s σ H R I q;refine M8 (h pins s σ H _ I q) λv s1 h1=>M8 h1 λOE s2 h2=>?_;obtain⟨it,fp,tn,J,H',e,I',T,st,f,q⟩:=h2;exact⟨it,fp,tn,J,H',e,I',T,st,f,id,ei,q⟩
def yv (J:It)(th:Hp->Hp)(g:TG)(tb:TS)(nx:St->Hp->Prop)(rt:VK)(σ:St)(H1:Hp):Prop:=∃W:Nat->Nat->St->Hp->Prop,(∃m,W 0 m σ H1)/\∀i m σ H,W i m σ H->
 (J.stop i H/\nx σ (th H))\/(J.go i H/\∃N:St->Hp->Prop,(∀σ' H',N σ' H'->∃m',m'<m/\W (i+1) m' σ' H')/\∀x H',J.yld i H x H'->g x σ H' λσ2 H2=>tb ⟨N,λv H=>rt v (th H),λσ H=>nx σ (th H),N⟩ σ2 H2)
def vV (wi:mZ)(g:TG)(tb:TS):TS:=λD σ H=>wi σ H λJ th H1=>yv J th g tb D.nx D.rt σ H1
theorem xJ {X:Cx}{tg iter:Expr}{body:List Stmt}{wi:mZ}{g:TG}{tb:TS}{pos:Pos}(hp:PassesOwn (model X.prog X.w) X.A X.env X.xe)(hc:X.calm=true)(hi:uV X tg iter wi)(hg:PG X tg g)(hb:PSs X body tb)
  (hs:∀x,foldedSetIterable iter X.env x=pure x:=by intro _;rfl):PS X (.For tg iter body [] pos) (vV wi g tb):=by
 intro pins s σ H D I h
 refine wpAny_For (M8 (hi pins s σ H _ I h) λv s1 h1=>M8 h1 λOE s2 h2=>?_) hs
 obtain⟨it,fp,tn,J,H2,e,I2,T,m_,f2,th,Ll,W,⟨m0,w0⟩,turn⟩:=h2
 subst e
 have LG:∀{H':Hp},(∀b∈fp,H' b=none)->∀b∈fp,dF X pins H' b:=λhn b hb=>⟨hn b hb,(f2 b hb).2⟩
 refine codeAny_forLoop_any (λn s'=>∃i σ' H',Inv X pins σ' H' s'/\tn i s'.heap/\(∀b∈fp,H' b=none)/\W i n σ' H') ?_ m0 ⟨0,σ,H2,I2,m_,λb hb=>(f2 b hb).1,w0⟩
 rintro n s3 ⟨i,σ3,H3,I3,ME,OL,w3⟩
 rcases turn i n σ3 H3 w3 with⟨stop,qn⟩|⟨go,N,hN,step⟩
 .refine IC hp (M8 (T.done X rfl rfl rfl hc i pins s3 σ3 H3 X.xe I3 (LG OL) ME stop) λr s4 ⟨hr,I4⟩=>?_)
  subst hr
  exact JI ⟨σ3,th H3,Ll _ _ _ _ I4,qn⟩
 .refine IC hp (M8 (T.item X rfl rfl rfl hc i pins s3 σ3 H3 X.xe I3 (LG OL) ME go) λr s4 ⟨u,hr,h4⟩=>?_)
  subst hr
  refine IC hp (M8 h4 λ_ s5 ⟨x,H5,I5,r5,y5,st5,fr5⟩=>?_)
  have RV:=I5.pinned (LG fr5) (T.obj _ _ st5)
  refine IC hp (M8 (hg _ s5 σ3 H5 x u _ RV r5 (step x H5 y5)) λ_ s6 ⟨σ6,H6,I6,q6⟩=>?_)
  refine IC hp (M8 (hb _ s6 σ6 H6 _ I6 q6) λf s7 q7=>?_)
  have again:∀{σ7:St} {H7:Hp},Inv X (pins++iL fp s5.heap) σ7 H7 s7->N σ7 H7->∃m,m<n/\∃i σ' H',Inv X pins σ' H' s7/\tn i s7.heap/\(∀b∈fp,H' b=none)/\W i m σ' H':=fun{σ7 H7} I7 n7=>by
   obtain⟨m',hm,w7⟩:=hN σ7 H7 n7;refine⟨m',hm,i+1,σ7,H7,I7.unpinned,T.keep _ _ _ st5 λb hb o e=>(I7.pin (b,o) (FA _ (FA _ (au hb e)))).1,λb hb=>?_,w7⟩;obtain⟨o,e,d⟩:=T.obj _ _ st5 b hb;exact(I7.pin (b,o) (FA _ (FA _ (au hb e)))).2.1
  cases f with
  |next=>obtain⟨σ7,H7,I7,n7⟩:=q7;exact again I7 n7
  |cont=>obtain⟨σ7,H7,I7,n7⟩:=q7;exact again I7 n7
  |brk=>obtain⟨σ7,H7,I7,q7⟩:=q7;exact⟨σ7,th H7,Ll _ _ _ _ I7.unpinned,q7⟩
  |ret v=>obtain⟨x7,σ7,H7,I7,r7,q7⟩:=q7;exact⟨x7,σ7,th H7,Ll _ _ _ _ I7.unpinned,r7,q7⟩
def ue (own:List Str)(js:List Nat)(J:It)(th:Hp->Hp)(g:TG)(ti:TT)(te:TE)(Q:VK)(σ:St)(H1:Hp):Prop:=∃W:Nat->Nat->List V->Hp->Prop,(∃m,W 0 m [] H1)/\∀i m out H,W i m out H->
 (J.stop i H/\∀D,H D=none->out.length<=sizeLine/\Q (.ref D) (th (upd H D (.lst out))))\/
 (J.go i H/\∀x H',J.yld i H x H'->g x (uX own js σ) H' λσ2 H2=>σ2.drop own.length=js.map (λj=>(σ[j]?).join)/\ti σ2 H2 λb H3=>
  if b=true then te σ2 H3 λv H4=>out.length<=sizeLine/\∃m',m'<m/\W (i+1) m' (out++[v]) H4 else ∃m',m'<m/\W (i+1) m' out H3)
def ig (own:List Str)(js:List Nat)(wi:mZ)(g:TG)(ti:TT)(te:TE):TE:=λσ H Q=>wi σ H λJ th H1=>ue own js J th g ti te Q σ H1
def zE:TT:=λ_ H Q=>Q true H
theorem BE {X:Cx}:pG X [] zE:=Er
theorem sV {X:Cx}{own:List Str}{js:List Nat}{scope:Scope}{tg iter elt:Expr}{ifs:List Expr}{pos:Pos}{g:TG}{ti:TT}{te:TE}{wi:mZ}(S:Bn X own js scope=true)(hc:X.calm=true)(hit:uV X tg iter wi)
  (hg:∀C s H fp,PG (cG X own js scope C s H fp) tg g) (hi:∀C s H fp,pG (cG X own js scope C s H fp) ifs ti) (he:∀C s H fp,PE (cG X own js scope C s H fp) elt te)
  (hs:∀x,foldedSetIterable iter X.env x=pure x:=by intro _;rfl):
  PE X (.ListComp elt [⟨tg,iter,ifs,0⟩] scope pos) (ig own js wi g ti te):=by
 have SB:=vA S
 intro pins s σ H Q I h
 rw[eval_ListComp]
 refine Jm (use:=none) rfl hs (hV (SB.cells I)) SB.kind SB.names (M8 (hit pins s σ H _ I h) λv s1 h1=>M8 h1 λOE s2 h2=>?_)
 obtain⟨it,fp,tn,J,H2,e,I2,T,m_,f2,th,Ll,W,⟨m0,w0⟩,turn⟩:=h2
 subst e
 refine HG (wpAny_newFunctionEnv SB.nocell (by intro y hy;simp at hy) (λh₁ hns₁ hsb₁=>?_) SB.kind)
 dsimp only at hns₁ hsb₁⊢
 generalize NA:s2.heap.push {cls:= .type "list",dict:=none,data:= .seq ([]:List Value).toArray}=G2 at hns₁ hsb₁⊢
 have OO:G2.objs.size=s2.heap.objs.size+1:=by rw[←NA,Kb]
 have Lj:s2.heap.objs.size≠G2.objs.size:=by rw[OO];exact FX (GO _)
 have hC:s2.heap.objs.size<=G2.objs.size:=by rw[OO];exact HQ _
 have old:∀b o,s2.heap.get? b=some o->h₁.get? b=some o:=λb o e=>
  hsb₁.extBut b o (FX (FP (FN e) hC)) (FG _ (NA▸FG _ e))
 have Ku:∀b∈fp,∃o,s2.heap.get? b=some o:=λb hb=>let ⟨o,e,_⟩:=T.obj _ _ m_ b hb;⟨o,e⟩
 have t_:h₁.get? s2.heap.objs.size=some {cls:= .type "list",data:= .seq ([]:List Value).toArray}:=
  hsb₁.extBut _ _ Lj (FG _ (NA▸FW _ rfl))
 have loop:∀s3:Shared,s3={s2 with heap:=h₁,toks:=s2.toks+([]:List (Str×Value)).length}->
   codeAny (model X.prog X.w) X.A (.compLoop (.ListComp elt [⟨tg,iter,ifs,0⟩] scope pos) 0 (.ref it) (.ref s2.heap.objs.size) (compEnvC scope (gv scope X.env) G2.objs.size X.env))
    (compPost (model X.prog X.w) X.A X.xe none (EP X pins σ Q) (.ref s2.heap.objs.size) G2.objs.size) s3:=by
  rintro s3 rfl
  refine kz (K:=λout H'=>Q (.ref s2.heap.objs.size) (th (upd H' s2.heap.objs.size (.lst out)))) SB hc T I2 f2 (Fz _) hC Lj Ku (hg _ _ _ _) (hi _ _ _ _) (he _ _ _ _) W (λi m out H' w=>?_) (λout H' s' B hl k=>?_) w0
   ⟨Inv.block SB I2 f2 Ku hC hns₁ old,I2.hok.fresh (Fz _),[],_,.nil,t_⟩ (T.keep _ _ _ m_ λb _ o e=>old b o e) (λb hb=>(f2 b hb).1)
  .rcases turn i m out H' w with⟨a,b⟩|c
   .exact .inl ⟨a,λn=>b _ n⟩
   .exact .inr c
  .obtain⟨mm,hn,_⟩:=B.inv.loc
   exact⟨mm,hn,λh' sb=>⟨.ref s2.heap.objs.size,_,Ll _ _ _ _ (B.out I2 f2 (Fz _) hC Lj hl sb),rfl,k⟩⟩
 exact codeAny_compStart_list (loop _ rfl) (T.self _ 0 _ _ _ (T.keep _ _ _ m_ λb _ o e=>old b o e) (loop _ rfl))
theorem aJ {α β : Type} {F : α -> β -> Prop} : ∀ {l₁ : List α} {l₂ : List β} {i : Nat} {a : α}, Paired F l₁ l₂ -> l₁[i]? = some a -> ∃ b, l₂[i]? = some b /\ F a b
 := by
  intro l₁ l₂ i a hp e;induction hp generalizing i with
  | nil => cases e
  | cons r _ ih => cases i with
    | zero => cases e; exact ⟨_, rfl, r⟩
    | succ i => exact ih e
section
variable {P:Program} {w:World}
theorem gN {k:j4}{v:Value}(h:(l0 P w).is k v=true):RelV (kV k) v:=by
 rcases B6 (show cI k v=true from h) with⟨i,t,rfl,rfl⟩|⟨x,t,rfl,rfl⟩
 .exact⟨t,rfl⟩
 .exact⟨t,rfl⟩
theorem vJ {k:j4}{v:Value}(h:(l0 P w).is k v=true):∀a,v≠ .ref a:=by
 rcases B6 (show cI k v=true from h) with⟨i,t,rfl,rfl⟩|⟨x,t,rfl,rfl⟩<;>exact λa z=>by cases z
structure vn (P:Program) (w:World) (d:Addr) (o:Obj) (kvs:List (j4×V)) (vs:List (j4×Value)) (ep:Nat):Prop where
 kv:KV kvs vs
 at_:∀h:Heap,h.get? d=some o->h.DictAt (l0 P w) d vs ep
 nd:(kvs.map (·.1)).Nodup
theorem dI {H:Hp}{h:Heap}{d:Addr}{kvs:List (j4×V)}(ok:HOk P w H h)(e:Rd H d (.dK kvs)):(d==sysModules)=false/\∃o vs ep,h.get? d=some o/\vn P w d o kvs vs ep:=by
 obtain⟨z,hd,vs,rel,o,es,ep,h1,r⟩:=R0 ok e;refine⟨hd,o,vs,ep,h1,rel,λh' e'=>⟨o,es,e',r⟩,?_⟩;rw[KV.keys rel];exact r.2.2.2.2
def DD (d:Addr)(o:Obj)(kvs:List (j4×V))(f:j4×V->V):It:=
 ⟨λi H=>H d=some (.frz o (.dK kvs))/\i<kvs.length,λi H x H'=>H'=H/\∃kv,kvs[i]?=some kv/\x=f kv,λi H=>H d=some (.frz o (.dK kvs))/\kvs.length<=i⟩
def Cj (d:Addr)(o:Obj)(kvs:List (j4×V)):It:=
 ⟨λi H=>H d=some (.frz o (.dK kvs))/\i<kvs.length,λi H x H'=>∃t kv,kvs[i]?=some kv/\H t=none/\x= .ref t/\H'=upd H t (.tup [kV kv.1,kv.2]),λi H=>H d=some (.frz o (.dK kvs))/\kvs.length<=i⟩
theorem sO {K:Kd}{tg:Expr}{d:Addr}{o:Obj}{kvs:List (j4×V)}{vs:List (j4×Value)}{ep:Nat}(D:vn P w d o kvs vs ep)(it:Addr):
  fi P w K tg (DD d o kvs λkv=>kV kv.1) [it] it (λi h=>h.IsKeyIter it d i vs.length ep) where
 mem:=by simp
 obj:=λi h st b hb=>by
  have e:b=it:=by simpa using hb
  subst e;obtain⟨o,e,c,dd⟩:=st;exact⟨o,e,λv z=>by rw[dd] at z;cases z⟩
 keep:=λi h h' st k=>st.at λo e=>k it (by simp) o e
 item:=by
  intro X hP hw hK hc i pins s σ H E I hf st hg;subst hP hw hK;obtain⟨LJ,hi⟩:=hg;obtain⟨f0,f1,f2,f3,f4,f5⟩:=hf it (by simp);have dat:=D.at_ s.heap (I.hok d _ LJ).1;have hl:=KV.length D.kv;obtain⟨kv,d_⟩:∃kv,kvs[i]?=some kv:=⟨kvs[i],by simp [hi]⟩
  obtain⟨⟨k,x⟩,hx⟩:∃p,vs[i]?=some p:=⟨vs[i]'(by lia),by simp [show i<vs.length by lia]⟩
  have M_:kv.1=k:=by
   have e1:(kvs.map (·.1))[i]?=some kv.1:=by rw[FD,d_];rfl
   rw[KV.keys D.kv,FD,hx] at e1;exact(Ga e1).symm
  refine wpAny_pyNext_dict_item st dat hx λkey h' Lm hit' F_=>?_;have I1:Inv X pins σ H {s with heap:=h'}:=I.turned (t':=s.toks) (λb o hb e=>F_.extBut b o hb e) f0 f1 f3 f4 f5;exact⟨key,rfl,qK (vJ Lm) ⟨kV kv.1,H,I1,by rw[M_];exact gN Lm,⟨rfl,kv,d_,rfl⟩,hit',λb hb=>(hf b hb).1⟩⟩
 done:=by
  intro X hP hw hK hc i pins s σ H E I hf st hg;subst hP hw hK;obtain⟨LJ,hi⟩:=hg;obtain⟨f0,f1,f2,f3,f4,f5⟩:=hf it (by simp);have dat:=D.at_ s.heap (I.hok d _ LJ).1;have hl:=KV.length D.kv;exact wpAny_pyNext_dict_end (I.ok.hd hc) st dat (by simp;lia) λh' eb=>⟨rfl,I.turned (t':=s.toks) (λb o hb e=>eb b o hb e) f0 f1 f3 f4 f5⟩
 self:=λ_ _ _ _ _ st h=>wpAny_pyIter_keyiter st h
theorem pK {K:Kd}{elts:List Expr}{x1}{k_:Pos}{d:Addr}{o:Obj}{kvs:List (j4×V)}{vs:List (j4×Value)}{ep:Nat}(D:vn P w d o kvs vs ep)(it:Addr):
  fi P w K (.Tuple elts x1 k_) (Cj d o kvs) [it] it (λi h=>∃ok ov,IsItemIter h it d i vs.length ep ok ov) where
 mem:=by simp
 obj:=λi h st b hb=>by
  have e:b=it:=by simpa using hb
  subst e;obtain⟨ok,ov,e⟩:=st;exact⟨_,e,λv z=>by
   have z':Data.fields _=Data.cell v:=z;cases z'⟩
 keep:=λi h h' st k=>let ⟨ok,ov,e⟩:=st;⟨ok,ov,k it (by simp) _ e⟩
 item:=by
  intro X hP hw hK hc i pins s σ H E I hf st hg;subst hP hw hK;obtain⟨LJ,hi⟩:=hg;obtain⟨ok,ov,st⟩:=st;obtain⟨f0,f1,f2,f3,f4,f5⟩:=hf it (by simp);have dat:=D.at_ s.heap (I.hok d _ LJ).1;have hl:=KV.length D.kv;obtain⟨kv,d_⟩:∃kv,kvs[i]?=some kv:=⟨kvs[i],by simp [hi]⟩
  obtain⟨⟨k,x⟩,hx⟩:∃p,vs[i]?=some p:=⟨vs[i]'(by lia),by simp [show i<vs.length by lia]⟩
  obtain⟨M_,rx⟩:kv.1=k/\RelV kv.2 x:=by
   have q:=aJ D.kv d_;obtain⟨p,hp,r⟩:=q;rw[hx] at hp;cases hp;exact r
  refine wpAny_pyNext_items_item st dat hx λkey h' Lm LK htup hsz hk=>?_;have Na:it<s.heap.objs.size:=FN st;refine⟨.ref s.heap.objs.size,rfl,wpAny_letOwnedTupleGo_items (s:={s with heap:=h'}) LK λKz hit'' u_=>?_⟩;have Og:Heap.SameBut it h' Kz:=u_;have kp:∀b o,b≠it->s.heap.get? b=some o->Kz.get? b=some o:=λb o hb e=>Og.extBut b o hb (hk b o hb e);have LL:Kz.get? s.heap.objs.size=some {cls:= .type "tuple",data:= .seq #[key,x]}:=Og.extBut _ _ (KL Na) htup;have fresh:H s.heap.objs.size=none:=I.hok.fresh (Fz _);have RX:∀b o,s.heap.get? b=some o->b≠s.heap.objs.size:=λb o e=>FX (FN e);have hH:∀b u,H b=some u->b≠s.heap.objs.size/\b≠it:=λb u e=>⟨b7 e fresh,b7 e f0⟩
  have hok:HOk X.prog X.w (upd H s.heap.objs.size (.tup [kV kv.1,kv.2])) Kz:=λb u e=>by
   by_cases hb:b=s.heap.objs.size
   .subst hb;rw[d8] at e;cases e;refine⟨by show 2<=sizeLine;decide,[key,x],.cons (by rw[M_];exact gN Lm) (.cons rx .nil),⟨_,LL,rfl,_,rfl⟩⟩
   .rw[d0 hb] at e;refine(I.hok b u e).stay (λc v hc q=>kp c v ?_ q) (λc q=>by rw[d0 (hH c _ q).1];exact q) λc xs q=>by rw[d0 (hH c _ q).1];exact q
    rcases hc with z|z
    .rw[z];exact(hH b _ e).2
    .exact(hH c _ z).2
  have I1:Inv X pins σ (upd H s.heap.objs.size (.tup [kV kv.1,kv.2])) {s with heap:=Kz}:=by
   refine I.call' (s':={s with heap:=Kz}) (ch:=[it]) rfl ⟨λb o e n hb hx=>kp b o (by simpa using hx) e,λb o e n hb hx=>⟨o.slots,kp b o (by simpa using hx) e⟩,λb o e n hx=>by rw[d0 (RX b o e)];exact n,
    λb o e hx=>⟨o,kp b o (by simpa using hx) e⟩,λb xs e=>by rw[d0 (hH b _ e).1];exact e,λb ob v e=>by rw[d0 (hH b _ e).1];exact e,λb ps e=>⟨#[],by rw[d0 (hH b _ e).1];simpa using e⟩⟩ hok I.bare λb hb=>?_
   have e:b=it:=by simpa using hb
   subst e;exact⟨f3,f1,f4,f5⟩
  refine⟨.ref s.heap.objs.size,_,I1,rfl,⟨_,kv,d_,fresh,rfl,rfl⟩,⟨_,_,hit''⟩,λb hb=>?_⟩;have e:b=it:=by simpa using hb
  subst e;rw[d0 (FX Na)];exact f0
 done:=by
  intro X hP hw hK hc i pins s σ H E I hf st hg;subst hP hw hK;obtain⟨LJ,hi⟩:=hg;obtain⟨ok,ov,st⟩:=st;obtain⟨f0,f1,f2,f3,f4,f5⟩:=hf it (by simp);have dat:=D.at_ s.heap (I.hok d _ LJ).1;have hl:=KV.length D.kv;exact wpAny_pyNext_items_end (I.ok.hd hc) st dat (by simp;lia) λh' eb=>⟨rfl,I.turned (t':=s.toks) (λb o hb e=>eb b o hb e) f0 f1 f3 f4 f5⟩
 self:=λ_ _ _ _ _ st h=>by
  obtain⟨ok,ov,st⟩:=st;exact PySem.W.kcp_self st h
end
section
variable {X:Cx} {tg:Expr}
def rIterD (mk:Addr->Obj->List (j4×V)->It)(v:V)(H:Hp)(R:It->(Hp->Hp)->Hp->Prop):Prop:=
 ∃d kvs,v= .ref d/\((H d=some (.dK kvs)/\((kvs.map (·.1)).Nodup->∀o,R (mk d o kvs) (thaw d) (z8 d o kvs H)))\/(∃o,H d=some (.frz o (.dK kvs))/\((kvs.map (·.1)).Nodup->R (mk d o kvs) id H)))
theorem rIterD.go {mk:Addr->Obj->List (j4×V)->It}{x:V}{u:Value}{pins:List (Addr×Obj)}{σ:St}{H:Hp}{s:Shared}{R:It->(Hp->Hp)->Hp->Prop}(I:Inv X pins σ H s)(r:RelV x u)(h:rIterD mk x H R):
  ∃d kvs o vs ep th H',u= .ref d/\(d==sysModules)=false/\s.heap.get? d=some o/\vn X.prog X.w d o kvs vs ep/\Inv X pins σ H' s/\xq X th/\R (mk d o kvs) th H':=by
 obtain⟨d,kvs,e,h⟩:=h
 subst e
 cases r
 rcases h with⟨h,q⟩|⟨o,h,q⟩
 .obtain⟨hd,o,vs,ep,ho,D⟩:=dI I.hok (.inl h)
  refine⟨d,kvs,o,vs,ep,thaw d,_,rfl,hd,ho,D,I.freeze h ho,sE λob v z=>?_,q D.nd o⟩
  have z':=I.base.frzs d ob v z
  rw[h] at z';cases z'
 .obtain⟨hd,o',vs,ep,ho,D⟩:=dI I.hok (.inr ⟨o,h⟩)
  have e:=(I.hok d _ h).1
  rw[ho] at e;cases e
  exact⟨d,kvs,_,vs,ep,id,H,rfl,hd,ho,D,I,ei,q D.nd⟩
theorem rIter.mono {K:Kd}{v:V}{H:Hp}{R R':It->Hp->Prop}(h:rIter K v H R)(k:∀J H,R J H->R' J H):rIter K v H R':=by
 rcases h with⟨a,e,hq,q⟩|⟨a,e,hq,q⟩|⟨x,e,q⟩
 .exact .inl ⟨a,e,hq,k _ _ q⟩
 .exact .inr (.inl ⟨a,e,hq,k _ _ q⟩)
 .exact .inr (.inr ⟨x,e,k _ _ q⟩)
abbrev EF (d:Addr)(o:Obj)(kvs:List (j4×V)):It:=DD d o kvs λkv=>kV kv.1
def wx (K:Kd)(v:V)(H:Hp)(R:It->(Hp->Hp)->Hp->Prop):Prop:=rIter K v H (λJ H'=>R J id H')\/rIterD EF v H R
def Dq (K:Kd)(tl:TE):mZ:=λσ H R=>tl σ H λv H1=>wx K v H1 R
theorem Ca {l:Expr}{tl:TE}(hl:PE X l tl):uV X tg l (Dq X.K tl):=by
 intro pins s σ H R I h;refine M8 (hl pins s σ H _ I h) λv s1 ⟨x,H1,I1,r1,q1⟩=>?_;rcases q1 with q1|q1
 .exact uP I1 r1 (q1.mono λJ H' q=>⟨id,ei,q⟩)
 .obtain⟨d,kvs,o,vs,ep,th,H',rfl,hd,ho,D,I2,Ll,q⟩:=rIterD.go I1 r1 q1;refine wpAny_pyIter_dict hd (D.at_ _ ho) ?_;refine⟨s1.heap.objs.size,[s1.heap.objs.size],_,_,H',rfl,I2.kept (t':=s1.toks) λb o e=>FG _ e,sO D _,⟨_,FW _ rfl,rfl,rfl⟩,λb hb=>?_,th,Ll,q⟩;have e:b=s1.heap.objs.size:=by simpa using hb
  subst e;exact I2.fpOk (Fz _) (I2.hok.fresh (Fz _))
def pH (tl:TE):mZ:=λσ H R=>tl σ H λv H1=>rIterD Cj v H1 R
theorem uE {elts:List Expr}{x1}{k_:Pos}{o:Expr}{tl:TE}{apos b_:Pos}(ho:PE X o tl)
  (e_:attributeBase o "items" X.env (eval o X.env)=eval o X.env:=by rfl) (f_:(apos.endLine==b_.line)=true:=by rfl):
  uV X (.Tuple elts x1 k_) (.Call (.Attribute o "items" apos) [] [] b_) (pH tl):=by
 intro pins s σ H R I h
 refine Iz e_ f_ (M8 (ho pins s σ H _ I h) λv s1 ⟨x,H1,I1,r1,q1⟩=>?_)
 obtain⟨d,kvs,ob,vs,ep,th,H',rfl,hd,Ku,D,I2,Ll,q⟩:=rIterD.go I1 r1 q1
 have MF:=(D.at_ _ Ku).dictOf
 refine⟨"dict","dict.items",F.plainAttrs_dict,F.slot_dict_items,F.type_dict_items,MF.typeIs,MF.mapOf.noDict,Hy rfl (IX ?_)⟩
 refine Ho F.slot_dict_items MF.typeIs F.entry_dict_items (F.args_dict_items_1 _) (meets_dict_items (l0 X.prog X.w) d hd) ⟨⟨vs,MF⟩,?_⟩
 have I3:Inv X pins σ H' {s1 with heap:=s1.heap.push {cls:= .type "dict_items",data:= .fields #[.ref d]}}:=I2.kept (t':=s1.toks) λb o e=>FG _ e
 refine wpAny_pyIter_items (s:={s1 with heap:=s1.heap.push {cls:= .type "dict_items",data:= .fields #[.ref d]}}) (knd:=l0 X.prog X.w) ⟨_,FW _ rfl,rfl,rfl⟩ (D.at_ _ (FG _ Ku)) ?_
 generalize hG:s1.heap.push {cls:= .type "dict_items",data:= .fields #[.ref d]}=G at I3⊢
 refine⟨G.objs.size,[G.objs.size],_,_,H',rfl,I3.kept (t':=s1.toks) λb o e=>FG _ e,pK D _,⟨.none,.none,FW _ rfl⟩,λb hb=>?_,th,Ll,q⟩
 have e:b=G.objs.size:=by simpa using hb
 subst e
 exact I3.fpOk (Fz _) (I3.hok.fresh (Fz _))
end
section
variable {J:It} {th:Hp->Hp} {n:Nat} {g:TG} {tb:TS} {nx bk ct:St->Hp->Prop} {rt:VK} {σ:St} {H:Hp} {own:List Str} {js:List Nat} {ti:TT} {te:TE} {Q:VK} {K:Kd}
theorem C8 (Pv:Nat->St->Hp->Prop)(h0:Pv 0 σ H)(K_:∀i σ H,i<n->Pv i σ H->J.go i H)
  (hs:∀i x σ H H',i<n->Pv i σ H->J.yld i H x H'->g x σ H' λσ2 H2=>tb ⟨Pv (i+1),λv H=>rt v (th H),λσ H=>nx σ (th H),Pv (i+1)⟩ σ2 H2)
  (hd:∀σ H,Pv n σ H->J.stop n H/\nx σ (th H)):
  yv J th g tb nx rt σ H:=by
 refine⟨λi m σ H=>m=n -i/\i<=n/\Pv i σ H,⟨n,by simp,Hk _,h0⟩,?_⟩
 rintro i m σ H ⟨rfl,hi,p⟩
 by_cases JH:i<n
 .exact .inr ⟨K_ i σ H JH p,Pv (i+1),λσ' H' p'=>⟨n -(i+1),by lia,rfl,JH,p'⟩,λx H' y=>hs i x σ H H' JH p y⟩
 .have e:i=n:=by lia
  subst e
  exact .inl (hd σ H p)
theorem z7 (Pv:Nat->List V->Hp->Prop)(h0:Pv 0 [] H)(K_:∀i out H,i<n->Pv i out H->J.go i H)
  (hs:∀(N:List V->Hp->Prop) i x out H H',i<n->Pv i out H->J.yld i H x H'->(∀LM H',Pv (i+1) LM H'->N LM H')->g x (uX own js σ) H' λσ2 H2=>σ2.drop own.length=js.map (λj=>(σ[j]?).join)/\ti σ2 H2 λb H3=>
   if b=true then te σ2 H3 λv H4=>out.length<=sizeLine/\N (out++[v]) H4 else N out H3)
  (hd:∀out H,Pv n out H->J.stop n H/\∀D,H D=none->out.length<=sizeLine/\Q (.ref D) (th (upd H D (.lst out)))):
  ue own js J th g ti te Q σ H:=by
 refine⟨λi m out H=>m=n -i/\i<=n/\Pv i out H,⟨n,by simp,Hk _,h0⟩,?_⟩
 rintro i m out H ⟨rfl,hi,p⟩
 by_cases JH:i<n
 .exact .inr ⟨K_ i out H JH p,λx H' y=>hs (λLM H'=>∃m',m'<n -i/\m'=n -(i+1)/\i+1<=n/\Pv (i+1) LM H') i x out H H' JH p y λLM H' q=>⟨n -(i+1),by lia,rfl,JH,q⟩⟩
 .have e:i=n:=by lia
  subst e
  exact .inl (hd out H p)
theorem By {wi:mZ}(q:wi σ H λJ th H1=>yv J th g tb nx rt σ H1):vV wi g tb ⟨nx,rt,bk,ct⟩ σ H:=q
theorem AH {wi:mZ}(q:wi σ H λJ th H1=>ue own js J th g ti te Q σ H1):ig own js wi g ti te σ H Q:=q
theorem BQ {Qb:Bool->Hp->Prop}(q:Qb true H):zE σ H Qb:=q
theorem En {tl:TE}{R:It->(Hp->Hp)->Hp->Prop}(q:tl σ H λv H1=>wx K v H1 R):Dq K tl σ H R:=q
theorem vz {x:Str}{R:It->(Hp->Hp)->Hp->Prop}(q:R (Its x) id H):wx K (.str x) H R:= .inl (.inr (.inr ⟨x,rfl,q⟩))
theorem C6 {a:Addr}{xs:List V}{R:It->(Hp->Hp)->Hp->Prop}(h:SqL K H a xs)(q:R (Itl K a) id H):wx K (.ref a) H R:= .inl (.inl ⟨a,rfl,⟨xs,h⟩,q⟩)
theorem O8 {d:Addr}{kvs:List (j4×V)}{R:It->(Hp->Hp)->Hp->Prop}(h:H d=some (.dK kvs))(q:(kvs.map (·.1)).Nodup->∀o,R (EF d o kvs) (thaw d) (z8 d o kvs H)):wx K (.ref d) H R:=
 .inr ⟨d,kvs,rfl,.inl ⟨h,q⟩⟩
theorem xx {tl:TE}{R:It->(Hp->Hp)->Hp->Prop}(q:tl σ H λv H1=>rIterD Cj v H1 R):pH tl σ H R:=q
theorem L7 {d:Addr}{kvs:List (j4×V)}{R:It->(Hp->Hp)->Hp->Prop}(h:H d=some (.dK kvs))(q:(kvs.map (·.1)).Nodup->∀o,R (Cj d o kvs) (thaw d) (z8 d o kvs H)):rIterD Cj (.ref d) H R:=⟨d,kvs,rfl,.inl ⟨h,q⟩⟩
theorem zi {ta:TA}{R:It->Hp->Prop}(q:ta σ H λvs H1=>∃j:Int,vs=[.int j]/\-(2 ^ 62)<=j/\j<2 ^ 62/\R (Dy 0 j.toNat) H1):uu ta σ H R:=q
theorem O0 {i:Int}{R:Int->Prop}(h0:0<=i)(h1:i<1000000)(q:R i):∃j:Int,[V.int i]=[.int j]/\-(2 ^ 62)<=j/\j<2 ^ 62/\R j:=⟨i,rfl,by lia,by lia,q⟩
theorem L5 {p:Prop}[Decidable p]{A B:Prop}(h1:p->A)(h2:¬p->B):if decide p=true then A else B:=by
 by_cases h:p
 .rw[if_pos (FZ h)];exact h1 h
 .rw[if_neg (by simp [h])];exact h2 h
theorem J5 {p:Prop}[Decidable p]{A B:Prop}(h1:¬p->A)(h2:p->B):if(!decide p)=true then A else B:=by
 by_cases h:p
 .rw[if_neg (by simp [h])];exact h2 h
 .rw[if_pos (by simp [h])];exact h1 h
theorem mK {b:Bool}{A B:Prop}(h1:b=true->A)(h2:b=false->B):if b=true then A else B:=by
 cases b with
 |true=>rw[if_pos rfl];exact h1 rfl
 |false=>rw[if_neg Gi];exact h2 rfl
theorem gW {b:Bool}{A B:Prop}(h1:b=false->A)(h2:b=true->B):if(!b)=true then A else B:=by
 cases b with
 |true=>rw[if_neg (by simp)];exact h2 rfl
 |false=>rw[if_pos (by simp)];exact h1 rfl
theorem BR {A B:Prop}(h:A):if(!false)=true then A else B:=by rw[if_pos (by rfl)];exact h
theorem BN {A B:Prop}(h:B):if(!true)=true then A else B:=by rw[if_neg (by decide)];exact h
theorem Dd {t u:TS}(P:St->Hp->Prop)(h1:∀σ H,P σ H->u ⟨nx,rt,bk,ct⟩ σ H)(h2:∀MG:St->Hp->Prop,(∀σ H,P σ H->MG σ H)->t ⟨MG,rt,bk,ct⟩ σ H):ip t u ⟨nx,rt,bk,ct⟩ σ H:=h2 _ h1
theorem b9 {o:HO}{p:Addr}(hp:H p=none):∃H',upd H p o=H'/\H' p=some o/\Same H H'/\∀b,b≠p->H' b=H b:=⟨_,rfl,d8,λb u e=>by rw[d0 (b7 e hp)];exact e,λb hb=>d0 hb⟩
theorem fJ {α:Type}{xs:List α}{i:Int}(h0:0<=i)(h1:i<xs.length):∃v,jI xs i=some v/\xs[i.toNat]?=some v:=by
 obtain⟨j,rfl⟩:=Int.eq_ofNat_of_zero_le h0;have hj:j<xs.length:=by lia
 exact⟨xs[j],b6 (by simp [hj]),by simp [hj]⟩
theorem dG (x y:Str):(x++y).length=x.length+y.length:=by
 show(x.cps++y.cps).size=_;simp [Str.length]
theorem X5 (c:Nat):(⟨#[c]⟩:Str).length=1:=rfl
theorem cS (x:Str):x.length=x.cps.toList.length:=by simp [Str.length]
theorem d9 {n:Nat}(h:n<=1000):n<=sizeLine:=GB h (by decide)
theorem Same.rd {H H':Hp}{a:Addr}{u:HO}(s:Same H H')(h:Rd H a u):Rd H' a u:=by
 rcases h with h|⟨o,h⟩
 .exact .inl (s _ _ h)
 .exact .inr ⟨o,s _ _ h⟩
theorem Same.tup {H H':Hp}{a:Addr}{xs:List V}(s:Same H H')(h:SqT K H a xs):SqT K H' a xs:=by
 rcases h with h|h
 .exact .inl (s.rd h)
 .exact .inr h
theorem TyB.mono {H H':Hp}{v:V}{t:String}(h:TyB K H v t)(s:Same H H'):TyB K H' v t:=by
 cases v with
 |ref a=>
  rcases h with⟨e,xs,h⟩|⟨e,xs,h⟩|⟨e,kvs,h⟩
  .exact .inl ⟨e,xs,s.seq h⟩
  .exact .inr (.inl ⟨e,xs,s.tup h⟩)
  .exact .inr (.inr ⟨e,kvs,s.rd h⟩)
 |_=>exact h
theorem Its.lt {x:Str}{i:Nat}{H H':Hp}{v:V}(h:(Its x).yld i H v H'):H'=H/\∃c,x.cps.toList[i]?=some c/\v=xU c:=by
 obtain⟨e,c,hc,hv⟩:=h;exact⟨e,c,by simpa using hc,hv⟩
theorem Itl.get {a:Addr}{xs:List V}{i:Nat}{H H':Hp}{v:V}(h:(Itl K a).yld i H v H')(hx:SqL K H a xs):H'=H/\xs[i]?=some v:=⟨h.1,h.2 xs hx⟩
theorem K6 {α β:Type}{l:List α}{i:Nat}{a:α}(f:α->β)(h:l[i]?=some a):(l.take i).map f++[f a]=(l.take (i+1)).map f:=by
 rw[Gq,h];simp
end
section
variable {X:Cx} (K:Kd) {a e:Expr} {ta te:TE} {tg:Expr} {pos:Pos}
theorem F2 (h:X.K=K:=by rfl):OpR X (binaryOp .Add) (pd K):=h▸yk
theorem kIn (hu:X.A.units+1<cLine)(h:X.K=K:=by rfl):OpR X (compareOp .In) (tD K):=h▸zk hu
theorem K8 (hu:X.A.units+1<cLine)(h:X.K=K:=by rfl):OpR X (compareOp .NotIn) (gI K):=h▸tP hu
theorem j7 (hu:X.A.units+1<cLine)(h:X.K=K:=by rfl):IxR X (nQ K):=h▸AY hu
theorem AE (h:X.K=K:=by rfl):SlR X (Bt K):=h▸Am
theorem wg (hc:X.calm=true)(h:X.K=K:=by rfl):CallR X (.builtin "all") (vh K):=h▸tE hc
theorem DN (hc:X.calm=true)(h:X.K=K:=by rfl):CallR X (.builtin "any") (Cq K):=h▸se hc
def AD (ta:TE):TT:=λσ H Q=>ta σ H λx H'=>∃k,wR K x H' k/\Q k H'
theorem DV (ha:PE X a ta)(h:X.K=K:=by rfl)(he:∀whole,isTrue a X.env whole=(do let v←whole;standAt a.pos;holding [v] (truthy v)):=by intro _;rfl):PT X a (AD K ta):=h▸wq ha he
theorem zH {σ:St}{H:Hp}{Qb:Bool->Hp->Prop}(q:ta σ H λx H'=>∃k,wR K x H' k/\Qb k H'):AD K ta σ H Qb:=q
theorem Fh (hl:PE X a ta)(h:X.K=K:=by rfl):uV X tg a (Dq K ta):=h▸Ca hl
theorem DG {es:List Expr}{k:Nat}{t:pR}{n:Nat}(hc:X.calm=true)(hg:xD X es t)(h:X.K=K:=by rfl)
  (hn:(assignEach es X.env).length=n:=by rfl) (OD:(assignEach es X.env).findIdx? (·.1)=none:=by rfl):PG X (.Tuple es k pos) (vF K n t):=h▸Ap hc hg hn OD
end
def C5:Expr->Bool
 | .Starred _ _=>false
 |_=>true
def B0 (es:List Expr):Bool:=es.all C5
theorem bu {e:Expr}{es:List Expr}{env:Env}(h:C5 e=true):starEach (e::es) env=(false,eval e env)::starEach es env:=by
 cases e<;>first|rfl|cases h
theorem dq {env:Env}{pos:Pos}:∀{es:List Expr},B0 es=true->(backTo pos (starEach es env)).any (·.1)=false
 |[],_=>rfl
 |e::es,h=>by
  have h':(C5 e&&B0 es)=true:=h;rw[Gh] at h';rw[bu h'.1];show(false||(backTo pos (starEach es env)).any (·.1))=false;rw[dq h'.2];rfl
theorem rG {e:Expr}{es:List Expr}{env:Env}(h:C5 e=true):assignEach (e::es) env=(false,assign e env)::assignEach es env:=by
 cases e<;>first|rfl|cases h
theorem uF {env:Env}:∀{es:List Expr},B0 es=true->(assignEach es env).length=es.length
 |[],_=>rfl
 |e::es,h=>by
  have h':(C5 e&&B0 es)=true:=h;rw[Gh] at h';rw[rG h'.1,GR,uF h'.2,GR]
theorem uQ {env:Env}:∀{es:List Expr},B0 es=true->(assignEach es env).findIdx? (·.1)=none
 |[],_=>rfl
 |e::es,h=>by
  have h':(C5 e&&B0 es)=true:=h;rw[Gh] at h';rw[rG h'.1,List.findIdx?_cons];simp [uQ h'.2]
section
variable {X:Cx} {K:Kd} {e:Expr} {es:List Expr} {te:TE} {t:TA} {x:Str} {p pos:Pos} {id T:String} {r:List V->Hp->VK->Prop}
theorem Fp (ha:PE X e te)(hr:PA X es t)(h:C5 e=true:=by rfl):PA X (e::es) (qX te t):=yj ha hr (bu h)
theorem cB (hc:CallR X (.builtin id) r)(hm:X.mg x=none)(hv:bootBuiltins x=some (.builtin id))(ha:PA X (e::es) t)(hg:Gl X x:=by rfl)(hn:x≠"__name__":=by decide)(w_:(x==("__debug__":Str))=false:=by decide)
  (h:B0 (e::es)=true:=by rfl):PE X (.Call (.Name x p) (e::es) [] pos) (Aa r t):=by
 have h':(C5 e&&B0 es)=true:=h
 rw[Gh] at h'
 exact wz hc hg hm hv ha hn w_ (bu h'.1) (dq h'.2)
theorem EO (hc:CallR X (.type T) r)(hm:X.mg x=none)(hv:bootBuiltins x=some (.type T))(ha:PA X (e::es) t)(hg:Gl X x:=by rfl)(hn:x≠"__name__":=by decide)(w_:(x==("__debug__":Str))=false:=by decide)
  (h:B0 (e::es)=true:=by rfl):PE X (.Call (.Name x p) (e::es) [] pos) (Aa r t):=by
 have h':(C5 e&&B0 es)=true:=h
 rw[Gh] at h'
 exact tT hc hg hm hv ha hn w_ (bu h'.1) (dq h'.2)
theorem cC {CX:mW}{k:Nat}{ps:List Str}{v_:List V}{sp:Sp}{E:XK}(C:N8 X.prog X.w X.K X.mg X.base CX k x ps v_ sp)(hr:Room k X.A)(hx:aY CX X E)(ha:PA X (e::es) t)(hg:Gl X x:=by rfl)
  (w_:(x==("__debug__":Str))=false:=by decide) (h:B0 (e::es)=true:=by rfl):PE X (.Call (.Name x p) (e::es) [] pos) (nZ sp v_ E t):=by
 have h':(C5 e&&B0 es)=true:=h
 rw[Gh] at h'
 exact uY C hr hx ha hg w_ (bu h'.1) (dq h'.2)
theorem gT {tg:Expr}{k:Nat}{u:pR}(hc:X.calm=true)(hg:xD X es u)(hK:X.K=K:=by rfl)(h:B0 es=true:=by rfl):PG X (.Tuple es k pos) (vF K es.length u):=DG K hc hg hK (uF h) (uQ h)
theorem gC {g:TG}{u:pR}(h1:PG X e g)(h2:xD X es u)(h:C5 e=true:=by rfl):xD X (e::es) (qG g u):=vK h1 h2 (by rw[rG h];rfl)
end
structure QE (X:Cx) (e:Expr) (t:TE):Prop where
 r:PE X e t
structure QT (X:Cx) (e:Expr) (t:TT):Prop where
 r:PT X e t
structure QW (X:Cx) (e:Expr) (t:TT):Prop where
 r:PW X e t
structure QA (X:Cx) (es:List Expr) (t:TA):Prop where
 r:PA X es t
structure QS (X:Cx) (st:Stmt) (t:TS):Prop where
 r:PS X st t
structure QSs (X:Cx) (st:List Stmt) (t:TS):Prop where
 r:PSs X st t
structure QG (X:Cx) (tg:Expr) (t:TG):Prop where
 r:PG X tg t
structure Dx (X:Cx) (tg:List Expr) (t:pR):Prop where
 r:xD X tg t
structure QI (X:Cx) (tg iter:Expr) (t:mZ):Prop where
 r:uV X tg iter t
structure Dp (X:Cx) (ifs:List Expr) (t:TT):Prop where
 r:pG X ifs t
structure QO (X:Cx) (e:Option Expr) (t:TO):Prop where
 r:PO X e t
structure QP (X:Cx) (pos:Pos) (keys:List (Option Expr)) (values:List Expr) (RH:List (TE×TE)):Prop where
 r:EZ X pos keys values RH
section
variable {X:Cx} {a b c e o:Expr} {es:List Expr} {ta tb tc te to:TE} {tA My:TT} {t:TA} {V7:List Expr} {pos apos b_ p2:Pos} {x:Str} {p:Pos} {Nb T:String}
theorem Ar {j}:QE X (.Constant .none j pos) (tC .non):=⟨zM⟩
theorem rh {b:Bool}{j}:QE X (.Constant (.bool b) j pos) (tC (.bl b)):=⟨BA⟩
theorem d6 {i:Int}{j}:QE X (.Constant (.int i) j pos) (tC (.int i)):=⟨AB⟩
theorem jJ {x:Str}{j}:QE X (.Constant (.str x) j pos) (tC (.str x)):=⟨zW⟩
theorem qV (i:Nat)(hN:X.N[i]?=some x:=by rfl)(hv:DU X.env.scope x:=by first|exact Or.inl rfl|exact Or.inr (Or.inl rfl)|exact Or.inr (Or.inr rfl))(hd:(x==("__debug__":Str))=false:=by decide)
  (KU:(x==("__classdict__":Str))=false:=by decide):QE X (.Name x pos) (Az i):=⟨zh hN hv hd KU⟩
theorem Ea {v:V}(h:BW X.mg x v)(hg:Gl X x:=by rfl)(hd:(x==("__debug__":Str))=false:=by decide):QE X (.Name x pos) (tC v):=⟨zO h hg hd⟩
theorem yl (n:String)(hm:X.mg x=none)(hv:bootBuiltins x=some (.type n))(hg:Gl X x:=by rfl)(hn:x≠"__name__":=by decide)(hd:(x==("__debug__":Str))=false:=by decide):QE X (.Name x pos) (tC (.ty n)):=⟨xn hg hm hv rfl hn hd⟩
theorem A7 {op:Operator}{r:R2}(ho:OpR X (binaryOp op) r)(ha:QE X a ta)(hb:QE X b tb):QE X (.BinOp a op b pos) (xg r ta tb):=⟨BM ho ha.r hb.r⟩
theorem yU {op:UnaryOp}{r:V->Hp->VK->Prop}(ho:Ds X (unaryOp op) r)(ha:QE X a ta):QE X (.UnaryOp op a pos) (El r ta):=⟨Bs ho ha.r⟩
theorem DE (ha:QE X a ta):QE X (.UnaryOp .Not a pos) (wG ta):=⟨zF ha.r⟩
theorem yp {op}(h:QE X a ta):QE X (.BoolOp op [a] pos) ta:=⟨Ae h.r⟩
theorem uO (ha:QE X a ta)(hb:QE X (.BoolOp .And (b::V7) pos) tb):QE X (.BoolOp .And (a::b::V7) pos) (ur ta tb):=⟨zQ ha.r hb.r⟩
theorem Fo (ha:QE X a ta)(hb:QE X (.BoolOp .Or (b::V7) pos) tb):QE X (.BoolOp .Or (a::b::V7) pos) (AZ ta tb):=⟨De ha.r hb.r⟩
theorem eG {op:CmpOp}{r:R2}(ho:OpR X (compareOp op) r)(ha:QE X a ta)(hb:QE X b tb)(hm:behindInMarks op b=false):QE X (.Compare a [op] [b] pos) (xg r ta tb):=⟨xA ho ha.r hb.r hm⟩
theorem p0 {op:CmpOp}{r:R2}(ho:OpR X (compareOp op) r)(ha:QE X a ta)(hb:QE X b tb)(hm:behindInMarks op b=false):QT X (.Compare a [op] [b] pos) (uk (xg r ta tb)):=⟨xP ho ha.r hb.r hm⟩
theorem Bk:QO X none lN:=⟨yd⟩
theorem yI (h:QE X e te):QO X (some e) (vi te):=⟨yt h.r⟩
theorem zI {lo hi:Option Expr}{tl th:TO}{r:V->Option Int->Option Int->Hp->VK->Prop}(hr:SlR X r)(he:QE X e te)(hl:QO X lo tl)(hu:QO X hi th):QE X (.Subscript e (.Slice lo hi none p2) pos) (DY r te tl th):=⟨vf hr he.r hl.r hu.r⟩
theorem j6 {r:R2}(hr:IxR X r)(ha:QE X a ta)(hb:QE X b tb)(hs:rz b):QE X (.Subscript a b pos) (xg r ta tb):=⟨BU hr ha.r hb.r hs⟩
theorem U3 (h:QA X es t):QE X (.List es pos) (Bc t):=⟨As h.r⟩
theorem J3 {x1}(h:QA X es t):QE X (.Tuple es x1 pos) (zZ t):=⟨zJ h.r⟩
theorem uo:QE X (.Dict [] [] pos) uf:=⟨uz⟩
theorem j5:QA X [] xu:=⟨zq⟩
theorem i7 (ha:QE X e te)(hr:QA X es t)(h:C5 e=true:=by rfl):QA X (e::es) (qX te t):=⟨Fp ha.r hr.r h⟩
theorem qB {r:List V->Hp->VK->Prop}(hc:CallR X (.builtin Nb) r)(hm:X.mg x=none)(hv:bootBuiltins x=some (.builtin Nb))(ha:QA X (e::es) t)(hg:Gl X x:=by rfl)(hn:x≠"__name__":=by decide)(w_:(x==("__debug__":Str))=false:=by decide)
  (h:B0 (e::es)=true:=by rfl):QE X (.Call (.Name x p) (e::es) [] pos) (Aa r t):=⟨cB hc hm hv ha.r hg hn w_ h⟩
theorem gJ {r:List V->Hp->VK->Prop}(hc:CallR X (.type T) r)(hm:X.mg x=none)(hv:bootBuiltins x=some (.type T))(ha:QA X (e::es) t)(hg:Gl X x:=by rfl)(hn:x≠"__name__":=by decide)(w_:(x==("__debug__":Str))=false:=by decide)
  (h:B0 (e::es)=true:=by rfl):QE X (.Call (.Name x p) (e::es) [] pos) (Aa r t):=⟨EO hc hm hv ha.r hg hn w_ h⟩
theorem qC {CX:mW}{k:Nat}{ps:List Str}{v_:List V}{sp:Sp}{E:XK}(C:N8 X.prog X.w X.K X.mg X.base CX k x ps v_ sp)(hr:Room k X.A)(hx:aY CX X E)(ha:QA X (e::es) t)(hg:Gl X x:=by rfl)
  (w_:(x==("__debug__":Str))=false:=by decide) (h:B0 (e::es)=true:=by rfl):QE X (.Call (.Name x p) (e::es) [] pos) (nZ sp v_ E t):=⟨cC C hr hx ha.r hg w_ h⟩
theorem qM {name:Str}{r:V->List V->Hp->VK->Prop}(pa:PlainAttrs T)(slot:Slot T name Nb)(MB:typeOf (.builtin Nb)=pure (.type "method_descriptor"))(hm:xW X Nb r)(K:Kd)(ho:QE X o to)(ha:QA X (e::es) t)(hK:X.K=K:=by rfl)
  (e_:attributeBase o name X.env (eval o X.env)=eval o X.env:=by rfl)
  (h:B0 (e::es)=true:=by rfl) (h2:decide ((e::es).length<30)=true:=by rfl) (f_:(apos.endLine==b_.line)=true:=by rfl):QE X (.Call (.Attribute o name apos) (e::es) [] b_) (DW K T r to t):=by
 have h':(C5 e&&B0 es)=true:=h
 rw[Gh] at h'
 have LF:∀{l:List Expr},B0 l=true->(backTo b_ (starEach l X.env)).all (λx=>!x.1)=true:=fun{l} hl=>by
  have q:=dq (env:=X.env) (pos:=b_) hl;rw[Gk];intro y hy;rw[KA] at q;simpa using q y hy
 subst hK
 refine⟨Bp pa slot MB hm ho.r ha.r e_ ?_ f_ (bu h'.1) (dq h'.2)⟩
 rw[LF h]
 show(true&&true&&decide ((e::es).length+0+0<30))=true
 simpa using h2
theorem AV {name:Str}{r:V->List V->Hp->VK->Prop}(pa:PlainAttrs T)(slot:Slot T name Nb)(MB:typeOf (.builtin Nb)=pure (.type "method_descriptor"))(hm:xW X Nb r)(K:Kd)(ho:QE X o to)(hK:X.K=K:=by rfl)
  (e_:attributeBase o name X.env (eval o X.env)=eval o X.env:=by rfl) (f_:(apos.endLine==b_.line)=true:=by rfl):QE X (.Call (.Attribute o name apos) [] [] b_) (AX K T r to):=⟨hK▸AM pa slot MB hm ho.r e_ f_⟩
theorem N0 {own:List Str}{js:List Nat}{scope:Scope}{tg iter elt:Expr}{ifs:List Expr}{g:TG}{ti:TT}{wi:mZ}(S:Bn X own js scope=true)(hc:X.calm=true)(hit:QI X tg iter wi)
  (hg:∀C s H fp,QG (cG X own js scope C s H fp) tg g) (hi:∀C s H fp,Dp (cG X own js scope C s H fp) ifs ti) (he:∀C s H fp,QE (cG X own js scope C s H fp) elt te)
  (hs:∀x,foldedSetIterable iter X.env x=pure x:=by intro _;rfl):QE X (.ListComp elt [⟨tg,iter,ifs,0⟩] scope pos) (ig own js wi g ti te):=
 ⟨sV S hc hit.r (λC s H fp=>(hg C s H fp).r) (λC s H fp=>(hi C s H fp).r) (λC s H fp=>(he C s H fp).r) hs⟩
theorem aR:Dp X [] zE:=⟨BE⟩
theorem mU (h:QT X c tA):Dp X [c] tA:=⟨EB h.r⟩
theorem Z5 (ha:QT X a tA):QT X (.UnaryOp .Not a pos) (Aq tA):=⟨zP ha.r⟩
theorem Z7 (K:Kd)(ha:QE X a ta)(h:X.K=K:=by rfl)(he:∀whole,isTrue a X.env whole=(do let v←whole;standAt a.pos;holding [v] (truthy v)):=by intro _;rfl):QT X a (AD K ta):=⟨DV K ha.r h he⟩
theorem kG (h:QW X a tA):QT X a tA:=⟨h.r.pt⟩
theorem aE (ha:QT X a tA):QW X (.BoolOp .And [a] pos) tA:=⟨xB ha.r⟩
theorem bB (ha:QT X a tA):QW X (.BoolOp .Or [a] pos) tA:=⟨Bg ha.r⟩
theorem bc (ha:QT X a tA)(hb:QW X (.BoolOp .And (b::V7) pos) My):QW X (.BoolOp .And (a::b::V7) pos) (zz tA My):=⟨An ha.r hb.r⟩
theorem fI (ha:QT X a tA)(hb:QW X (.BoolOp .Or (b::V7) pos) My):QW X (.BoolOp .Or (a::b::V7) pos) (Em tA My):=⟨Bu ha.r hb.r⟩
theorem F4 {i:Nat}(hN:X.N.Nodup)(hi:X.N[i]?=some x)(hx:yT X.env.scope x)(hf:X.fn x=true\/X.env.scope.names.lookup x=some .local:=by first|exact .inl rfl|exact .inr rfl|assumption):QG X (.Name x pos) (O5 i):=⟨xt hN hi hx hf⟩
theorem jA:Dx X [] zY:=⟨xN⟩
theorem U1 {g:TG}{u:pR}(h1:QG X e g)(h2:Dx X es u)(h:C5 e=true:=by rfl):Dx X (e::es) (qG g u):=⟨gC h1.r h2.r h⟩
theorem jz (K:Kd){k:Nat}{u:pR}(hc:X.calm=true)(hg:Dx X es u)(hK:X.K=K:=by rfl)(h:B0 es=true:=by rfl):QG X (.Tuple es k pos) (vF K es.length u):=⟨gT (tg:= .Name Str.empty pos) hc hg.r hK h⟩
theorem mY {i:Expr}{ti:TE}{u:pY}(ho:QE X o to)(hi:QE X i ti)(hs:tI X u)
  (ha:∀v,assign (.Subscript o i pos) X.env v=(do
   let ov←holding [v] (eval o X.env)
   let iv←holding [v,ov] (eval i X.env)
   standAt pos
   holding [v,ov,iv] (setItem ov iv v)
   release [v,ov,iv] []):=by intro _;rfl):QG X (.Subscript o i pos) (Ad to ti u):=⟨zT ho.r hi.r hs ha⟩
theorem P8 (K:Kd){tg:Expr}(hl:QE X a ta)(h:X.K=K:=by rfl):QI X tg a (Dq K ta):=⟨Fh K hl.r h⟩
def Bw (wi:TI):mZ:=λσ H R=>wi σ H λJ H'=>R J id H'
theorem BS {wi:TI}{σ:St}{H:Hp}{R:It->(Hp->Hp)->Hp->Prop}(q:wi σ H λJ H'=>R J id H'):Bw wi σ H R:=q
theorem iE {tg:Expr}(hm:X.mg "range"=none)(ha:QA X [a] t)(hg:Gl X "range":=by rfl)(h:C5 a=true:=by rfl):QI X tg (.Call (.Name "range" p) [a] [] pos) (Bw (uu t)):=⟨(rS hg hm ha.r (bu h)).two⟩
theorem aL {elts:List Expr}{x1}{k_:Pos}(ho:QE X o to)
  (e_:attributeBase o "items" X.env (eval o X.env)=eval o X.env:=by rfl) (f_:(apos.endLine==b_.line)=true:=by rfl):QI X (.Tuple elts x1 k_) (.Call (.Attribute o "items" apos) [] [] b_) (pH to):=⟨uE ho.r e_ f_⟩
variable {st:Stmt} {sts body orelse:List Stmt} {u u':TS} {g:TG}
theorem cU:QSs X [] wY:=⟨xo⟩
theorem C4 (h:QS X st u):QSs X [st] u:=⟨ye h.r⟩
theorem z6 (h1:QS X st u)(h2:QSs X sts u'):QSs X (st::sts) (ip u u'):=⟨vm h1.r h2.r⟩
theorem z0 {i:Nat}{pos':Pos}(hN:X.N.Nodup)(hi:X.N[i]?=some x)(hx:yT X.env.scope x)(he:QE X e te)(hs:swapsWith e (some (.Name x pos')) pos.line X.env=pure false:=by rfl)(hf:X.fn x=true\/X.env.scope.names.lookup x=some .local:=by first|exact .inl rfl|exact .inr rfl):
  QS X (.Assign [.Name x pos'] e pos) (pL te (O5 i)):=⟨za hN hi hx he.r hs hf⟩
theorem P6 {tg:Expr}(he:QE X e te)(hg:QG X tg g)(hs:swapsWithSole [tg] e pos.line X.env=pure false:=by rfl)(hw:swappedStores [tg] e X.env=pure none:=by rfl)(h:C5 tg=true:=by rfl):QS X (.Assign [tg] e pos) (pL te g):=
 ⟨yY he.r hg.r hs hw (by rw[rG h];rfl)⟩
theorem cm (hc:QT X c tA)(ht:QSs X body u)(he:QSs X orelse u'):QS X (.If c body orelse pos) (zd tA u u'):=⟨Br hc.r ht.r he.r⟩
theorem A3 (he:QE X e te):QS X (.Return (some e) pos) (uq te):=⟨zj he.r⟩
theorem mX (he:QE X e te)(hs:swapsWith e none pos.line X.env=pure false:=by rfl):QS X (.Expr e pos) (uK te):=⟨yw he.r hs⟩
theorem Q9 {tg iter:Expr}{wi:mZ}(hp:PassesOwn (model X.prog X.w) X.A X.env X.xe)(hc:X.calm=true)(hi:QI X tg iter wi)(hg:QG X tg g)(hb:QSs X body u)(hs:∀x,foldedSetIterable iter X.env x=pure x:=by intro _;rfl):QS X (.For tg iter body [] pos) (vV wi g u):=
 ⟨xJ hp hc hi.r hg.r hb.r hs⟩
end
theorem aD:∀{ss:List Str} {us:List Value},Vals (ss.map V.str) us->StrsAre us ss
 |[],_,.nil=> .nil
 |x::ss,_,.cons r t=>by
  obtain⟨k,rfl⟩:=r;exact .cons x k (aD t)
theorem aw:∀{us:List Value} {ss:List Str},StrsAre us ss->Vals (ss.map V.str) us
 |_,_,.nil=> .nil
 |_,_,.cons y t r=> .cons ⟨t,rfl⟩ (aw r)
theorem X3:∀{xs:List V} {us:List Value},xs.length=us.length->(∀(i:Nat) x u,xs[i]?=some x->us[i]?=some u->RelV x u)->Vals xs us
 |[],[],_,_=> .nil
 |[],_::_,h,_=>by simp at h
 |_::_,[],h,_=>by simp at h
 |x::xs,u::us,h,k=> .cons (k 0 x u rfl rfl) (X3 (by simpa using h) λi y v e1 e2=>k (i+1) y v (by simpa using e1) (by simpa using e2))
section
variable {X:Cx}
theorem Inv.newL {pins:List (Addr×Obj)}{σ:St}{H:Hp}{s:Shared}{h':Heap}{tk:Nat}{a:Addr}{xs:List V}{out:Array Value}{e:Nat}(I:Inv X pins σ H s)(k:∀b u,s.heap.get? b=some u->h'.get? b=some u)(ha:s.heap.objs.size<=a)
  (ho:h'.get? a=some {cls:= .type "list",data:= .seq out e}) (rv:Vals xs out.toList) (hz:xs.length<=sizeLine):Inv X pins σ (upd H a (.lst xs)) {s with heap:=h',toks:=tk}:=
 I.laid k ha ⟨hz,out.toList,e,rv,by rw[ho]⟩
theorem ObjOk.live {P:Program}{w:World}{H:Hp}{h:Heap}{a:Addr}{o:HO}(x:ObjOk P w H h a o):∃ob,h.get? a=some ob:=by
 cases o with
 |lst xs=>obtain⟨_,_,_,_,e⟩:=x;exact⟨_,e⟩
 |tup xs=>obtain⟨_,_,_,o,e,_⟩:=x;exact⟨_,e⟩
 |dK kvs=>obtain⟨_,_,_,_,o,_,_,e,_⟩:=x;exact⟨_,e⟩
 |dT kvs=>obtain⟨_,_,_,_,o,_,_,e,_⟩:=x;exact⟨_,e⟩
 |set S n=>obtain⟨o,_,_,_,e,_⟩:=x;exact⟨_,e⟩
 |ins C dx fs=>obtain⟨_,_,_,e,_⟩:=x;exact⟨_,e⟩
 |own y=>exact x
 |xd fs=>obtain⟨_,⟨_,_,_,e,_⟩,_⟩:=x;exact⟨_,e⟩
 |rng lo hi=>obtain⟨_,_,_,e⟩:=x;exact⟨_,e⟩
 |frz ob u=>obtain⟨e,_⟩:=x;exact⟨_,e⟩
 |tbl ps=>exact⟨_,(show h.get? a=some _ from x)⟩
 |met f y=>exact⟨_,(show h.get? a=some _ from x)⟩
 |ext φ=>obtain⟨_,e,_⟩:=x;exact e
theorem Inv.newN {pins:List (Addr×Obj)}{σ:St}{H:Hp}{s:Shared}{h':Heap}{tk:Nat}{a:Addr}{xs:List V}{out:Array Value}{e:Nat}(I:Inv X pins σ H s)(k:∀b u,s.heap.get? b=some u->h'.get? b=some u)(hn:s.heap.get? a=none)
  (ho:h'.get? a=some {cls:= .type "list",data:= .seq out e}) (rv:Vals xs out.toList) (hz:xs.length<=sizeLine):H a=none/\Inv X pins σ (upd H a (.lst xs)) {s with heap:=h',toks:=tk}:=by
 have hH:H a=none:=by
  cases q:H a with
  |none=>rfl
  |some u=>
   obtain⟨ob,z⟩:=(I.hok a u q).live
   rw[hn] at z;cases z
 have na:∀b o,s.heap.get? b=some o->b≠a:=λb o z w=>by rw[w,hn] at z;cases z
 have nh:∀b u,H b=some u->b≠a:=λb u z=>b7 z hH
 refine⟨hH,I.un ⟨λb o z n _ _=>k b o z,λb o z n _ _=>⟨o.slots,k b o z⟩,λb o z n _=>by rw[d0 (na b o z)];exact n,λb o z _=>⟨o,k b o z⟩,λb ys z=>by rw[d0 (nh b _ z)];exact z,
  λb ob u z=>by rw[d0 (nh b _ z)];exact z,λb ps z=>⟨#[],by rw[d0 (nh b _ z)];simpa using z⟩⟩ λb u z=>?_⟩
 by_cases hb:b=a
 .subst hb
  rw[d8] at z;cases z
  exact⟨hz,out.toList,e,rv,by rw[ho]⟩
 .rw[d0 hb] at z
  exact(I.hok b u z).stay (λc v _ y=>k c v y) (λc y=>by rw[d0 (nh c _ y)];exact y) λc ys y=>by rw[d0 (nh c _ y)];exact y
def lj (K:Kd):List V->Hp->VK->Prop:=λxs H Q=>∃(p:Addr) (ss:List Str),xs=[.ref p]/\(SqL K H p (ss.map V.str)\/∃kvs:List (j4×V),Rd H p (.dK kvs)/\kvs.map (·.1)=ss.map Sum.inr)/\ss.length<64/\
 ∀JW:List Str,JW.Perm ss->sortedS JW=true->∀l,H l=none->Q (.ref l) (upd H l (.lst (JW.map V.str)))
theorem sj {M:Program}{w:World}{A:Around}{E:Value->Shared->Prop}{s:Shared}{a:Addr}{vs:List Value}{ss:List Str}{n:Nat}{Q:Value->Shared->Prop}(ho:s.heap.get? a=some (seqObj "list" vs.toArray n))(hS:StrsAre vs ss)(Qv:vs.length<64)
  (h:∀(out:Array Value) (JW:List Str),StrsAre out.toList JW->JW.Perm ss->sortedS JW=true->Q .none {s with heap:=sortedHeap s.heap a vs out}):
  wpAny (model M w) A (call (.builtin "list.sort") [.ref a]) Q E s:=by
 refine Ju PySem.F.slot_list_sort ⟨_,ho,rfl⟩ PySem.F.entry_list_sort ?_ (PySem.F.args_list_sort_1 _)
 refine list_sort_treeK strKind_oneLt ho hS.keysOf (λv₁ v₂ V7 e=>keyKind_strs (by rw[←e];exact hS)) Qv λA_ hp hs=>?_
 obtain⟨JW,h1,h2,h3⟩:=sorted_out_str hS hp hs
 exact⟨_,rfl,h _ JW h1 h2 h3⟩
theorem mV (hc:X.calm=true):CallR X (.builtin "sorted") (lj X.K):=by
 intro pins s σ H xs us Q I r h;obtain⟨p,ss,rfl,hx,Qv,q⟩:=h;obtain⟨u,rfl,ru⟩:=P0 r;cases ru;have Zk:(64:Nat)<=sizeLine:=by decide
 rcases hx with hx|⟨kvs,hx,hk⟩
 .obtain⟨a_,rv,ht,hz⟩:=I.list hx;have hS:=aD rv;have hl:a_.length=ss.length:=by have:=rv.length;simpa using this.symm
  refine sorted_strs ht.isList hS (by lia) λout JW a1 a2 a3=>?_;obtain⟨e,he⟩:=sortedAll_at s.heap a_ out;have Mv:=a2.length_eq;exact⟨.ref (s.heap.objs.size+1),_,I.newL (tk:=s.toks) (λ_ _=>sortedAll_old) (HQ _) he (aw a1) (by rw[Fv];lia),rfl,q JW a2 a3 _ (I.hok.fresh (HQ _))⟩
 .obtain⟨hd,o,vs,ep,ho,D⟩:=dI I.hok hx;have dat:=D.at_ _ ho;have hlen:kvs.length=ss.length:=by have:=GY List.length hk;simpa using this
  have Qw:=KV.length D.kv;refine Calls.call_function_entry kind_sorted plain_sorted entry_sorted (args_sorted1 _) ?_;unfold Builtin.«sorted»;refine FQ (m:=checkCount "sorted" 1 1 _) (Gm ?_);refine FQ (PySem.W.kdu_collect (A:=X.A.in1) (PySem.W.kdl_dict (knd:=l0 X.prog X.w) (kvs:=vs) (ep:=ep) hd) (I.ok.hd hc) dat (by lia) λh' tk acc hkp t_=>?_);have hl:acc.toList.length=vs.length:=by rw[Iq];exact t_.1
  have hS:StrsAre acc.toList ss:=by
   refine aD (X3 (by rw[Fv];lia) λi x u e1 e2=>?_);obtain⟨k,y,hy,RY⟩:=t_.2 i u (by rw[←IP];exact e2);have e3:(kvs.map (·.1))[i]?=some k:=by rw[KV.keys D.kv,FD,hy];rfl
   rw[hk,FD] at e3;rw[FD] at e1;cases e4:ss[i]? with
   |none=>rw[e4] at e1;cases e1
   |some z=>
    rw[e4] at e1 e3
    cases e1
    cases e3
    exact gN RY
  refine FQ (wpAny_newList ?_ (by rw[hl];lia));refine FQ (Hs (sj (s:={s with heap:=h'.push {cls:= .type "list",data:= .seq acc.toList.toArray},toks:=tk}) (n:=0) (FW _ rfl) hS (by lia) λout JW a1 a2 a3=>?_));obtain⟨e,he⟩:=sortedHeap_at (h:=h'.push {cls:= .type "list",data:= .seq acc.toList.toArray}) (a:=h'.objs.size) (vs:=acc.toList) (n:=0) (out:=out) (FW _ rfl);have s_:s.heap.get? h'.objs.size=none:=by
   cases z:s.heap.get? h'.objs.size with
   |none=>rfl
   |some ob=>exact absurd (FN (hkp _ _ z)) (Hf _)
  have Mv:=a2.length_eq;obtain⟨hH,I2⟩:=I.newN (tk:=tk) (h':=sortedHeap (h'.push {cls:= .type "list",data:= .seq acc.toList.toArray}) h'.objs.size acc.toList out) (xs:=JW.map V.str) (λb u eb=>by
   have hb:=FN (hkp b u eb);rw[sortedHeap_old (b:=b) (FX hb) (by rw[Kb];exact Nat.lt_succ_of_lt hb)];exact FG _ (hkp b u eb)) s_ he (aw a1) (by rw[Fv];lia)
  exact Gm ⟨_,rfl,.ref h'.objs.size,_,I2,rfl,q JW a2 a3 _ hH⟩
def yN (K:Kd):List V->Hp->VK->Prop:=λxs H Q=>(∃p ys,xs=[.ref p]/\(SqL K H p ys\/SqT K H p ys)/\∀l,H l=none->Q (.ref l) (upd H l (.lst ys)))\/
 (∃(p:Addr) (kvs:List (j4×V)),xs=[.ref p]/\Rd H p (.dK kvs)/\∀l,H l=none->Q (.ref l) (upd H l (.lst (kvs.map λkv=>kV kv.1))))
theorem qd (hc:X.calm=true):CallR X (.type "list") (yN X.K):=by
 refine call_list_of.or ?_;intro pins s σ H xs us Q I r h;obtain⟨p,kvs,rfl,hx,q⟩:=h;obtain⟨u,rfl,ru⟩:=P0 r;cases ru;obtain⟨hd,o,vs,ep,ho,D⟩:=dI I.hok hx;have Qw:=KV.length D.kv;have hz:kvs.length<=sizeLine:=(R0 I.hok hx).1;refine PySem.W.kdl_call (PySem.W.kdl_dict (knd:=l0 X.prog X.w) (kvs:=vs) (ep:=ep) hd) (I.ok.hd hc) (D.at_ _ ho) (by lia) λh' tk acc c hkp hS t_=>?_;refine⟨.ref s.heap.objs.size,_,I.newL (tk:=tk) hkp (Fz _) hS (X3 (by have:=t_.1;simp;lia) λi x u e1 e2=>?_) (by rw[Fv];exact hz),rfl,q _ (I.hok.fresh (Fz _))⟩;obtain⟨k,y,hy,RY⟩:=t_.2 i u (by rw[←IP];exact e2);rw[FD] at e1;cases e4:kvs[i]? with
 |none=>rw[e4] at e1;cases e1
 |some kv=>
  rw[e4] at e1
  cases e1
  have e3:(kvs.map (·.1))[i]?=some kv.1:=by rw[FD,e4];rfl
  rw[KV.keys D.kv,FD,hy] at e3
  cases e3
  exact gN RY
def yG:List V->Hp->VK->Prop:=λxs H Q=>∃(p:Addr) (kvs:List (j4×V)),xs=[.ref p]/\Rd H p (.dK kvs)/\∀l,H l=none->Q (.ref l) (upd H l (.dK kvs))
theorem qu:CallR X (.type "dict") yG:=by
 intro pins s σ H xs us Q I r h;obtain⟨p,kvs,rfl,hx,q⟩:=h;obtain⟨u,rfl,ru⟩:=P0 r;cases ru;exact um I hx λl s' hl I'=>⟨.ref l,_,I',rfl,q l hl⟩
def yJ:R2:=λx y H Q=>rI CMul (λi j=> .int (i*j)) x y H Q\/(∃z n,x= .str z/\y= .int n/\z.length<=1000/\-1000<=n/\n<=1000/\Q (.str (Txt.mul z n)) H)
theorem Q3:OpR X (binaryOp .Mult) yJ:=by
 refine op_mul.or ?_;intro pins s σ H x y v u Q I rx ry h;obtain⟨z,n,rfl,rfl,h1,h2,h3,q⟩:=h;obtain⟨t,rfl⟩:=rx;obtain⟨t',rfl⟩:=ry;exact SB.mul (mulOk_of 1000 1000 h1 h3 (by lia) (by decide) (by decide)) λt2 k=>⟨.str _,H,I.tok _,⟨t2,rfl⟩,q⟩
def rJ:pY:=λo i v H Q=>yL o i v H Q\/(∃a H',o= .ref a/\DPut H a i v H'/\Q H')
theorem xK (hu:X.A.units+1<cLine):tI X rJ:=by
 intro pins s σ H o i v ov iv u Q I ro ri rv h;rcases h with h|⟨a,H',rfl,g,q⟩
 .exact wI pins s σ H o i v ov iv u Q I ro ri rv h
 .cases ro;exact tG hu I g ri rv λs' I'=>⟨H',I',q⟩
end
section
variable {X:Cx}
theorem Inv.pairNew {pins:List (Addr×Obj)}{σ:St}{H:Hp}{s:Shared}{fp:List Addr}{h':Heap}{tk:Nat}{x y:V}{u v:Value}{e:Nat}(I:Inv X pins σ H s)(hf:∀b∈fp,dF X pins H b)
  (kp:∀b o,b∉fp->s.heap.get? b=some o->h'.get? b=some o) (there:∀b∈fp,b<s.heap.objs.size) (tup:h'.get? s.heap.objs.size=some {cls:= .type "tuple",data:= .seq #[u,v] e}) (rx:RelV x u) (ry:RelV y v):
  H s.heap.objs.size=none/\Inv X pins σ (upd H s.heap.objs.size (.tup [x,y])) {s with heap:=h',toks:=tk}/\∀b∈fp,upd H s.heap.objs.size (.tup [x,y]) b=none:=by
 have fresh:H s.heap.objs.size=none:=I.hok.fresh (Fz _)
 have RX:∀b o,s.heap.get? b=some o->b≠s.heap.objs.size:=λb o z=>FX (FN z)
 have hH:∀b w,H b=some w->b≠s.heap.objs.size/\b∉fp:=λb w z=>⟨b7 z fresh,λm=>by rw[(hf b m).1] at z;cases z⟩
 have hok:HOk X.prog X.w (upd H s.heap.objs.size (.tup [x,y])) h':=λb w z=>by
  by_cases hb:b=s.heap.objs.size
  .subst hb;rw[d8] at z;cases z;exact⟨by show 2<=sizeLine;decide,[u,v],.cons rx (.cons ry .nil),⟨_,tup,rfl,_,rfl⟩⟩
  .rw[d0 hb] at z;refine(I.hok b w z).stay (λc ob hc q=>kp c ob ?_ q) (λc q=>by rw[d0 (hH c _ q).1];exact q) λc ys q=>by rw[d0 (hH c _ q).1];exact q
   rcases hc with m|m
   .rw[m];exact(hH b _ z).2
   .exact(hH c _ m).2
 refine⟨fresh,I.call' (s':={s with heap:=h',toks:=tk}) (ch:=fp) rfl ⟨λb o z n _ hx=>kp b o hx z,λb o z n _ hx=>⟨o.slots,kp b o hx z⟩,λb o z n _=>by rw[d0 (RX b o z)];exact n,
  λb o z hx=>⟨o,kp b o hx z⟩,λb ys z=>by rw[d0 (hH b _ z).1];exact z,λb ob w z=>by rw[d0 (hH b _ z).1];exact z,λb ps z=>⟨#[],by rw[d0 (hH b _ z).1];simpa using z⟩⟩ hok I.bare λb hb=>?_,λb hb=>?_⟩
 .obtain⟨f0,f1,f2,f3,f4,f5⟩:=hf b hb
  exact⟨f3,f1,f4,f5⟩
 .rw[d0 (FX (there b hb))];exact(hf b hb).1
theorem Inv.turnedAll {pins:List (Addr×Obj)}{σ:St}{H:Hp}{s:Shared}{fp:List Addr}{h':Heap}{tk:Nat}(I:Inv X pins σ H s)(hf:∀b∈fp,dF X pins H b)
  (kp:∀b o,b∉fp->s.heap.get? b=some o->h'.get? b=some o):Inv X pins σ H {s with heap:=h',toks:=tk}:=by
 have hH:∀b w,H b=some w->b∉fp:=λb w z m=>by rw[(hf b m).1] at z;cases z
 refine I.call' (s':={s with heap:=h',toks:=tk}) (ch:=fp) rfl ⟨λb o z n _ hx=>kp b o hx z,λb o z n _ hx=>⟨o.slots,kp b o hx z⟩,λb o z n _=>n,
  λb o z hx=>⟨o,kp b o hx z⟩,λb ys z=>z,λb ob w z=>z,λb ps z=>⟨#[],by simpa using z⟩⟩ (λb w z=>?_) I.bare λb hb=>?_
 .refine(I.hok b w z).stay (λc ob hc q=>kp c ob ?_ q) (λc q=>q) λc ys q=>q
  rcases hc with m|m
  .rw[m];exact hH b _ z
  .exact hH c _ m
 .obtain⟨f0,f1,f2,f3,f4,f5⟩:=hf b hb
  exact⟨f3,f1,f4,f5⟩
end
def DT (K:Kd)(l:Addr):It:=
 ⟨λi H=>∃xs x,SqL K H l xs/\xs[i]?=some x,λi H x H'=>∃t v,(∀xs,SqL K H l xs->xs[i]?=some v)/\H t=none/\x= .ref t/\H'=upd H t (.tup [.int i,v]),λi H=>∃xs,SqL K H l xs/\xs.length<=i⟩
theorem tf {P:Program}{w:World}{K:Kd}{elts:List Expr}{x1}{k_:Pos}{en it l:Addr}(l_:en≠it):fi P w K (.Tuple elts x1 k_) (DT K l) [en,it] en (λi h=>∃old,IsEnum h en it i old/\h.IsListIter it l i) where
 mem:=by simp
 obj:=λi h st b hb=>by
  obtain⟨old,h1,o,e,c,d⟩:=st;have LN:b=en\/b=it:=by simpa using hb
  rcases LN with rfl|rfl
  .exact⟨_,h1,λv z=>by
    have z':Data.fields _=Data.cell v:=z;cases z'⟩
  .exact⟨o,e,λv z=>by rw[d] at z;cases z⟩
 keep:=λi h h' st k=>by
  obtain⟨old,h1,h2⟩:=st;exact⟨old,k en (by simp) _ h1,h2.at λo e=>k it (by simp) o e⟩
 item:=by
  intro X hP hw hK hc i pins s σ H E I hf st hg;subst hP hw hK;obtain⟨old,G_,m_⟩:=st;obtain⟨xs,x,hq,hx⟩:=hg;obtain⟨a_,rv,p,hz⟩:=I.list hq;obtain⟨u,hu,ru⟩:=rv.get hx;have LO:en<s.heap.objs.size:=FN G_;have hit:it<s.heap.objs.size:=by obtain⟨o,e,_⟩:=m_;exact FN e
  refine wpAny_pyNext_enum_item G_ m_ p.isList (x:=u) (by simpa using hu) l_ λh' MZ hit1 ht1 UH hk1=>?_;refine⟨.ref s.heap.objs.size,rfl,wpAny_letOwnedTupleGo_enum (s:={s with heap:=h',toks:=s.toks+1}) MZ λKz he'' u_=>?_⟩;have Og:Heap.SameBut en h' Kz:=u_;have LL:Kz.get? s.heap.objs.size=some {cls:= .type "tuple",data:= .seq #[.int i s.toks,u]}:=Og.extBut _ _ (KL LO) ht1;obtain⟨fr,I1,WA⟩:=I.pairNew (fp:=[en,it]) (h':=Kz) (tk:=s.toks+1) (x:= .int i) (y:=x) hf (λb o hb e=>by
   have LN:b≠en/\b≠it:=by simpa using hb
   exact Og.extBut b o LN.1 (hk1 b o LN.1 LN.2 e)) (λb hb=>by
   have LN:b=en\/b=it:=by simpa using hb
   rcases LN with rfl|rfl
   .exact LO
   .exact hit) LL ⟨_,rfl⟩ ru
  refine⟨.ref s.heap.objs.size,_,I1,rfl,⟨_,x,λys hy=>by rw[I.list_inj hy hq];exact hx,fr,rfl,rfl⟩,⟨_,he'',?_⟩,WA⟩;exact hit1.at λo e=>Og.extBut it o (HX l_) e
 done:=by
  intro X hP hw hK hc i pins s σ H E I hf st hg;subst hP hw hK;obtain⟨old,G_,m_⟩:=st;obtain⟨xs,hq,hx⟩:=hg;obtain⟨a_,rv,p,hz⟩:=I.list hq;have hl:=rv.length;exact wpAny_pyNext_enum_end (I.ok.hd hc) G_ m_ p.isList (by simp;lia) λh' eb=>⟨rfl,I.turnedAll (fp:=[en,it]) (tk:=s.toks) hf λb o hb e=>eb b o (by
   have LN:b≠en/\b≠it:=by simpa using hb
   exact LN.2) e⟩
 self:=λ_ _ _ _ _ st h=>by
  obtain⟨old,G_,m_⟩:=st;exact wpAny_pyIter_enum G_ h
section
variable {X:Cx} {a b:Expr} {t:TA} {p pos:Pos}
end
section
variable {X:Cx} {a b:Expr} {t:TA} {p pos:Pos}
end
section
variable {X:Cx} (K:Kd) {a b:Expr} {t:TA} {p pos:Pos}
theorem O1 (hc:X.calm=true)(h:X.K=K:=by rfl):CallR X (.builtin "sorted") (lj K):=h▸mV hc
end
theorem A4 {X:Cx}:xW X "list.append" rF:=tJ
theorem gY {X:Cx}:xW X "list.clear" wH:=vP
section
variable {K:Kd} {σ:St} {H:Hp} {Q:VK}
theorem A9 {p:Addr}{kvs:List (j4×V)}{ss:List Str}(h:Rd H p (.dK kvs))(hk:kvs.map (·.1)=ss.map Sum.inr)(Qv:ss.length<64)(q:∀JW:List Str,JW.Perm ss->sortedS JW=true->∀l,H l=none->Q (.ref l) (upd H l (.lst (JW.map V.str)))):lj K [.ref p] H Q:=⟨p,ss,rfl,.inr ⟨kvs,h,hk⟩,Qv,q⟩
theorem tK {i j:Int}(h:CMul i j)(q:Q (.int (i*j)) H):yJ (.int i) (.int j) H Q:= .inl ⟨i,j,rfl,rfl,h,q⟩
theorem zB {to ti:TE}{t:pY}{v:V}{Qs:St->Hp->Prop}(q:to σ H λo H1=>ti σ H1 λi H2=>t o i v H2 λH3=>Qs σ H3):Ad to ti t v σ H Qs:=q
theorem z5 {a:Addr}{kvs:List (j4×V)}{k:j4}{v:V}{Qh:Hp->Prop}(h:H a=some (.dK kvs))(hl:kvs.length<sizeLine)(q:Qh (upd H a (.dK (E3 kvs k v)))):rJ (.ref a) (kV k) v H Qh:= .inr ⟨a,_,rfl,DPut.k h hl,q⟩
theorem J1 {n:Nat}{t:pR}{a:Addr}{xs:List V}{Qs:St->Hp->Prop}(h:SqT K H a xs)(hl:xs.length=n)(q:t xs σ H Qs):vF K n t (.ref a) σ H Qs:=⟨a,xs,rfl,h,hl,q⟩
theorem yb {t:TG}{u:pR}{v:V}{r:List V}{Qs:St->Hp->Prop}(q:t v σ H λσ' H'=>u r σ' H' Qs):qG t u (v::r) σ H Qs:=⟨v,r,rfl,q⟩
theorem zl {Qs:St->Hp->Prop}(q:Qs σ H):zY [] σ H Qs:=⟨rfl,q⟩
theorem Ec {T:String}{r:V->List V->Hp->VK->Prop}{to:TE}{t:TA}(q:to σ H λx H1=>BJ K T x H1/\t σ H1 λxs H2=>r x xs H2 Q):DW K T r to t σ H Q:=q
theorem Cm {T:String}{r:V->List V->Hp->VK->Prop}{to:TE}(q:to σ H λx H1=>BJ K T x H1/\r x [] H1 Q):AX K T r to σ H Q:=q
theorem bJ {p:Addr}{x:V}{o:Option V}(g:aQ H p x o)(q:Q (.bl o.isSome) H):tD K x (.ref p) H Q:= .inr (.inr ⟨p,o,rfl,g,q⟩)
theorem K0 {p:Addr}{x:V}{o:Option V}(g:aQ H p x o)(q:Q (.bl (!o.isSome)) H):gI K x (.ref p) H Q:= .inr (.inr ⟨p,o,rfl,g,q⟩)
theorem oO {p:Addr}{x:V}{xs:List V}(h:SqL K H p xs\/SqT K H p xs)(h1:F0 x=true)(h2:xs.all F0=true)(q:Q (.bl (BH x xs)) H):tD K x (.ref p) H Q:= .inr (.inl ⟨p,xs,rfl,h,h1,h2,q⟩)
theorem vZ {p:Addr}{xs:List V}{lo hi:Option Int}(h:SqT K H p xs)(hw:¬(HT.sIx xs.length 0 lo=0/\HT.sIx xs.length xs.length hi=xs.length))(q:∀p,H p=none->Q (.ref p) (upd H p (.tup (dO xs lo hi)))):Bt K (.ref p) lo hi H Q:= .inr (.inl ⟨p,xs,rfl,h,hw,q⟩)
theorem F5 {a:Addr}{kvs:List (j4×V)}{k:j4}(e:Rd H a (.dK kvs)):aQ H a (kV k) (A2 kvs k):= .inl ⟨kvs,k,e,rfl,rfl⟩
end
open PySem.AutoSeq1 (wpAny_loadPart')
def EqP (P:Program)(w:World)(A:Around)(s:Shared)(y x:Value)(b:Bool):Prop:=∀(E:Value->Shared->Prop) (Q:Bool->Shared->Prop),Q b s->wpAny (model P w) A (eqBool y x) Q E s
def RcP (P:Program)(w:World)(A:Around)(s:Shared)(y x:Value)(b:Bool):Prop:=∀(E:Value->Shared->Prop) (Q:Value->Shared->Prop),Q (.bool b) s->wpAny (model P w) A (richCompare .Eq y x) Q E s
theorem EqP.of {P:Program}{w:World}{A:Around}{s:Shared}{y x:Value}{b:Bool}(h:SeqAt.EqAt A s y x b):EqP P w A s y x b:=λE Q q=>h P w E Q q
theorem EqP.refs {P:Program}{w:World}{A:Around}{s:Shared}{l m:Addr}{k:Bool}(l_:l≠m)(h:RcP P w A s (.ref l) (.ref m) k):EqP P w A s (.ref l) (.ref m) k:=λE Q q=>by
 unfold eqBool;refine Hs (wpAny_ite_split (λz=>absurd (Value.ref.inj (eq_of_beq z)) l_) λ_=>FQ (h E _ (Hm q)))
theorem Ag {P:Program}{w:World}(l m:Addr)(xs ys:Array Value)(n1 n2:Nat)(d1 d2:Option Addr)(s1 s2:Array (Option Value))(f:Nat->Bool):
  MeetsIn P w (Builtin.«tuple.__eq__» ⟨[.ref l,.ref m],[]⟩) (λA R s=>
   s.heap.get? l=some {cls:= .type "tuple",dict:=d1,data:= .seq xs n1,slots:=s1}/\s.heap.get? m=some {cls:= .type "tuple",dict:=d2,data:= .seq ys n2,slots:=s2}/\
   (∀j (g1:j<xs.size) (g2:j<ys.size),EqP P w A.in1 s xs[j] ys[j] (f j))/\
   R (.ok (.ret (.bool ((List.range (min xs.size ys.size)).all f&&xs.size==ys.size)))) s):=
 .of_wp λA R s hyp=>by
  obtain⟨hp,gg,dr,tk,os⟩:=s;obtain⟨e1,e2,he,fin⟩:=hyp;have sub:=Jn;have len:(xs.toList.zip ys.toList).length=min xs.size ys.size:=by simp
  wp_walk using wpAny_loadPart' e1,wpAny_loadPart' e2,wpAny_forIn_list _ (λmore acc st=>acc.1=none/\st=⟨hp,gg,dr,tk,os⟩/\∃i,more=(xs.toList.zip ys.toList).drop i/\
   R (.ok (.ret (.bool (((List.range (min xs.size ys.size)).drop i).all f&&xs.size==ys.size)))) ⟨hp,gg,dr,tk,os⟩) _
  case turn=>
   rintro⟨y,x⟩ more acc st ⟨ha,rfl,i,hi,hR⟩
   have lt:i<(xs.toList.zip ys.toList).length:=by
    rcases JM i (xs.toList.zip ys.toList).length with z|z
    .exact z
    .rw[HV z] at hi;cases hi
   have lm:i<min xs.size ys.size:=len▸lt
   have lx:i<xs.size:=FP lm (Nat.min_le_left _ _)
   have ly:i<ys.size:=FP lm (Jt _ _)
   rw[Hc lt] at hi
   injection hi with h1 h2
   have q1:y=xs[i]:=by simpa using GY Prod.fst h1
   have q2:x=ys[i]:=by simpa using GY Prod.snd h1
   subst q1 q2
   have RZ:(List.range (min xs.size ys.size)).drop i=i::(List.range (min xs.size ys.size)).drop (i+1):=by simp [Hc,lm]
   rw[RZ,HL] at hR
   refine FQ (he i lx ly _ _ ?_)
   cases hf:f i with
   |true=>
    rw[hf] at hR
    wp_walk
    exact⟨rfl,rfl,i+1,h2,by simpa using hR⟩
   |false=>
    rw[hf] at hR
    wp_walk
    exact⟨_,rfl,by simpa using hR⟩
  case fin=>
   rintro⟨c1,c2⟩ st ⟨ha,rfl,i,hi,hR⟩
   simp only at ha
   subst ha
   have ge:min xs.size ys.size<=i:=by
    rcases JM i (xs.toList.zip ys.toList).length with z|z
    .rw[Hc z] at hi;cases hi
    .exact len▸z
   rw[HV (by simpa using ge)] at hR
   wp_walk
   exact⟨_,rfl,by simpa [Builtin.Tuple.tupleCompareSizes] using hR⟩
  case h=>
   exact⟨rfl,rfl,0,rfl,by simpa using fin⟩
theorem RcP.tup {P:Program}{w:World}{A:Around}{s:Shared}{l m:Addr}{xs ys:Array Value}{f:Nat->Bool}(hl:s.heap.IsTuple l xs)(hm:s.heap.IsTuple m ys)(hu:A.units<cLine)
  (he:∀j (g1:j<xs.size) (g2:j<ys.size),EqP P w A.in1 s xs[j] ys[j] (f j)):RcP P w A s (.ref l) (.ref m) ((List.range (min xs.size ys.size)).all f&&xs.size==ys.size):=λE Q q=>by
 obtain⟨⟨c1,d1,a1,s1⟩,o1,k1,n1,t1⟩:=id hl
 obtain⟨⟨c2,d2,a2,s2⟩,o2,k2,n2,t2⟩:=id hm
 simp only at k1 t1 k2 t2
 subst k1 t1 k2 t2
 refine Hl (op:= .Eq) ⟨_,o1,rfl⟩ ⟨_,o2,rfl⟩ JN (Ho JN ⟨_,o1,rfl⟩ PySem.F.entry_tuple_eq (PySem.F.args_tuple_eq_2 _ _) (Ag l m xs ys n1 n2 d1 d2 s1 s2 f) ⟨o1,o2,he,?_⟩) hu
 exact⟨(λz=>nomatch z),q⟩
def Y0:List V->List V->Bool
 |[],[]=>true
 |x::xs,y::ys=>eE x y&&Y0 xs ys
 |_,_=>false
inductive Eq1 (K:Kd) (H:Hp):V->V->Bool->Prop
 |flat {x y:V}:F0 x=true->F0 y=true->Eq1 K H x y (eE x y)
 |tup {a b:Addr} {xs ys:List V}:SqT K H a xs->SqT K H b ys->xs.all F0=true->ys.all F0=true->Eq1 K H (.ref a) (.ref b) (Y0 xs ys)
 |nt {a:Addr} {xs:List V}:SqT K H a xs->Eq1 K H .non (.ref a) false
 |tn {a:Addr} {xs:List V}:SqT K H a xs->Eq1 K H (.ref a) .non false
theorem dJ:∀{x:V},F0 x=true->eE x x=true
 | .non,_=>rfl
 | .bl b,_=>by simp [eE]
 | .int i,_=>by simp [eE]
 | .str x,_=>by simp [eE]
theorem fj:∀{xs:List V},xs.all F0=true->Y0 xs xs=true
 |[],_=>rfl
 |x::xs,h=>by
  rw[HL,Gh] at h;show(eE x x&&Y0 xs xs)=true;rw[dJ h.1,fj h.2];rfl
theorem V2:∀(xs ys:List V),((List.range (min xs.length ys.length)).all (λj=>eE (xs.getD j .non) (ys.getD j .non))&&xs.length==ys.length)=Y0 xs ys
 |[],[]=>rfl
 |[],_::_=>by simp [Y0]
 |_::_,[]=>by simp [Y0]
 |x::xs,y::ys=>by
  have ih:=V2 xs ys;have e:min (x::xs).length (y::ys).length=min xs.length ys.length+1:=by simp
  rw[e,IG,HL,HC];show((eE x y&&(List.range (min xs.length ys.length)).all _)&&(xs.length+1==ys.length+1))=(eE x y&&Y0 xs ys);rw[←ih,Bool.and_assoc];congr 1;congr 1;simp
section
variable {X:Cx} {pins:List (Addr×Obj)} {σ:St} {H:Hp} {s:Shared} {A:Around}
theorem Eq1.at_ {x y:V}{u v:Value}{b:Bool}(I:Inv X pins σ H s)(h:Eq1 X.K H x y b)(rx:RelV x u)(ry:RelV y v)(hu:A.units+8<cLine):SeqAt.EqAt A s u v b:=by
 cases h with
 |flat fx fy=>exact eO rx ry fx fy
 | @tup a c xs ys ha hc fx fy=>
  cases rx
  cases ry
  obtain⟨a_,r1,p1,z1⟩:=I.tuple ha
  obtain⟨its',r2,p2,z2⟩:=I.tuple hc
  by_cases hac:a=c
  .subst hac
   have e:=I.tuple_inj ha hc
   subst e
   rw[fj fx]
   exact IW _
  .have l1:=r1.length
   have l2:=r2.length
   have q:=SeqAt.RcAt.tuples (A:=A) (e:=λj=>eE (xs.getD j .non) (ys.getD j .non)) (show s.heap.IsTuple a a_.toArray from p1) (show s.heap.IsTuple c its'.toArray from p2) (by lia) λj g1 g2=>by
    have MH:j<a_.length:=by simpa using g1
    have MI:j<its'.length:=by simpa using g2
    have x1:xs[j]?=some (xs[j]'(by lia)):=by simp [show j<xs.length by lia]
    have y1:ys[j]?=some (ys[j]'(by lia)):=by simp [show j<ys.length by lia]
    obtain⟨u1,MJ,MK⟩:=r1.get x1;obtain⟨u2,Ln,MM⟩:=r2.get y1;have e1:a_.toArray[j]=u1:=by
     have:=Fw MH;rw[MJ] at this;simpa using(Ga this).symm
    have e2:its'.toArray[j]=u2:=by
     have:=Fw MI;rw[Ln] at this;simpa using(Ga this).symm
    rw[e1,e2];have d1:xs.getD j .non=xs[j]'(by lia):=by rw[Gf,x1];rfl
    have d2:ys.getD j .non=ys[j]'(by lia):=by rw[Gf,y1];rfl
    rw[d1,d2];exact eO MK MM (Gk.mp fx _ (Gd _)) (Gk.mp fy _ (Gd _))
   have e3:a_.toArray.size=xs.length:=by simp [l1]
   have e4:its'.toArray.size=ys.length:=by simp [l2]
   rw[e3,e4,V2] at q
   exact .of_refs hac q
 | @nt a xs ha=>
  cases rx
  cases ry
  obtain⟨a_,r1,p1,z1⟩:=I.tuple ha
  exact SeqAt.EqAt.none_tuple (show s.heap.IsTuple a a_.toArray from p1) (by lia)
 | @tn a xs ha=>
  cases rx
  cases ry
  obtain⟨a_,r1,p1,z1⟩:=I.tuple ha
  exact SeqAt.EqAt.tuple_none (show s.heap.IsTuple a a_.toArray from p1) (by lia)
end
inductive EqH (K:Kd) (H:Hp) (kb:List (j4×V)):List (j4×V)->Bool->Prop
 |nil:EqH K H kb [] true
 |miss {k:j4} {v:V} {r:List (j4×V)}:A2 kb k=none->EqH K H kb ((k,v)::r) false
 |hit {k:j4} {v y:V} {r:List (j4×V)} {e b:Bool}:A2 kb k=some y->Eq1 K H v y e->EqH K H kb r b->EqH K H kb ((k,v)::r) (e&&b)
def EqD (K:Kd)(H:Hp)(a b:Addr)(r:Bool):Prop:=(a=b/\r=true)\/(a≠b/\∃ka kb r0,Rd H a (.dK ka)/\Rd H b (.dK kb)/\EqH K H kb ka r0/\r=(ka.length==kb.length&&r0))
section
variable {X:Cx} {pins:List (Addr×Obj)} {σ:St} {H:Hp} {s:Shared} {A:Around}
theorem EqH.hits {kb:List (j4×V)}{vb:List (j4×Value)}(I:Inv X pins σ H s)(hu:A.units+8<cLine)(rb:KV kb vb){ka:List (j4×V)}{r:Bool}(h:EqH X.K H kb ka r):∀{va:List (j4×Value)},KV ka va->PySem.W.KeqHits A s vb va r:=by
 induction h with
 |nil=>
  intro va t
  cases t
  exact .nil
 | @miss k v r hn=>
  intro va t
  cases t with
  | @cons _ q _ l e t=>
   obtain⟨k',u⟩:=q
   have OP:k=k':=e.1
   subst OP
   refine .miss ?_
   have z:=KV.val rb k
   rw[hn] at z
   cases e:valueAt vb k with
   |none=>rfl
   |some y=>rw[e] at z;exact False.elim z
 | @hit k v y r e b hy h1 hr ih=>
  intro va t
  cases t with
  | @cons _ q _ l e t=>
   obtain⟨k',u⟩:=q
   have OP:k=k':=e.1
   subst OP
   have z:=KV.val rb k
   rw[hy] at z
   cases e5:valueAt vb k with
   |none=>rw[e5] at z;exact False.elim z
   |some y'=>
    rw[e5] at z
    exact .hit e5 (h1.at_ I e.2 z hu) (ih t)
theorem EqD.at_ {a b:Addr}{r:Bool}(I:Inv X pins σ H s)(h:EqD X.K H a b r)(hu:A.units+16<cLine):EqP X.prog X.w A s (.ref a) (.ref b) r:=by
 rcases h with⟨rfl,rfl⟩|⟨l_,ka,kb,r0,h1,h2,h3,rfl⟩
 .exact .of (IW _)
 .obtain⟨z1,d1,va,ra,da⟩:=R0 I.hok h1;obtain⟨z2,d2,vb,rb,db⟩:=R0 I.hok h2;refine .refs l_ λE Q q=>?_;have l1:=KV.length ra;have l2:=KV.length rb;exact PySem.W.keq_eq (knd:=l0 X.prog X.w) d1 d2 da db (by lia) (λ_=>h3.hits (A:=A.in1) I (by show A.units+1+8<_;lia) rb ra) (by rw[←l1,←l2];exact q)
def Cs (K:Kd):R2:=λx y H Q=>∃a b p q p' q' r r',x= .ref a/\y= .ref b/\SqT K H a [.ref p,.ref q]/\SqT K H b [.ref p',.ref q']/\EqD K H p p' r/\EqD K H q q' r'/\Q (.bl (r&&r')) H
theorem AO (hu:X.A.units+64<cLine):OpR X (compareOp .Eq) (Cs X.K):=by
 intro pins s σ H x y v u Q I rx ry h;obtain⟨a,b,p,q,p',q',r,r',rfl,rfl,ha,hb,h1,h2,k⟩:=h;cases rx;cases ry;obtain⟨a_,v1,t1,_⟩:=I.tuple ha;obtain⟨its',v2,t2,_⟩:=I.tuple hb;obtain⟨_,_,rfl,e1,e2⟩:=fY v1;obtain⟨_,_,rfl,e3,e4⟩:=fY v2;cases e1;cases e2;cases e3;cases e4;refine RcP.tup (P:=X.prog) (w:=X.w) (f:=λj=>if j=0 then r else r') (show s.heap.IsTuple a _ from t1) (show s.heap.IsTuple b _ from t2) (by lia) (λj g1 g2=>?_) _ _ ⟨.bl (r&&r'),H,I,by show Value.bool _=Value.bool _;simp [Hx],k⟩;have g:j<2:=by simpa using g1
 match j,g with
 |0,_=>exact h1.at_ I (by show X.A.units+1+16<_;lia)
 |1,_=>exact h2.at_ I (by show X.A.units+1+16<_;lia)
def CJ (K:Kd):R2:=λx y H Q=>∃a b xs ys,x= .ref a/\y= .ref b/\SqL K H a xs/\SqL K H b ys/\xs.all F0=true/\ys.all F0=true/\Q (.bl (Y0 xs ys)) H
theorem iH:∀{xs ys:List V},xs.length≠ys.length->Y0 xs ys=false
 |[],[],h=>absurd rfl h
 |[],_::_,_=>rfl
 |_::_,[],_=>rfl
 |x::xs,y::ys,h=>by
  show(eE x y&&Y0 xs ys)=false;rw[iH (by simpa using h),Bool.and_false]
theorem zg (hu:X.A.units+64<cLine):OpR X (compareOp .Eq) (CJ X.K):=by
 intro pins s σ H x y v u Q I rx ry h;obtain⟨a,b,xs,ys,rfl,rfl,ha,hb,fx,fy,k⟩:=h;cases rx;cases ry;obtain⟨a_,r1,p1,z1⟩:=I.list ha;obtain⟨its',r2,p2,z2⟩:=I.list hb;have l1:=r1.length;have l2:=r2.length;have e3:a_.toArray.size=xs.length:=by simp [l1]
 have e4:its'.toArray.size=ys.length:=by simp [l2]
 by_cases hl:xs.length=ys.length
 .have q:=SeqAt.RcAt.lists (A:=X.A) (e:=λj=>eE (xs.getD j .non) (ys.getD j .non)) p1.isList p2.isList (by rw[e3,e4];exact hl) (by lia) λj g1 g2=>by
   have MH:j<a_.length:=by simpa using g1
   have MI:j<its'.length:=by simpa using g2
   have x1:xs[j]?=some (xs[j]'(by lia)):=by simp [show j<xs.length by lia]
   have y1:ys[j]?=some (ys[j]'(by lia)):=by simp [show j<ys.length by lia]
   obtain⟨u1,MJ,MK⟩:=r1.get x1;obtain⟨u2,Ln,MM⟩:=r2.get y1;have e1:a_.toArray[j]=u1:=by
    have:=Fw MH;rw[MJ] at this;simpa using(Ga this).symm
   have e2:its'.toArray[j]=u2:=by
    have:=Fw MI;rw[Ln] at this;simpa using(Ga this).symm
   rw[e1,e2];have d1:xs.getD j .non=xs[j]'(by lia):=by rw[Gf,x1];rfl
   have d2:ys.getD j .non=ys[j]'(by lia):=by rw[Gf,y1];rfl
   rw[d1,d2];exact eO MK MM (Gk.mp fx _ (Gd _)) (Gk.mp fy _ (Gd _))
  have e5:=V2 xs ys;rw[hl,Nat.min_self,Jv,IV] at e5;rw[e3,hl,e5] at q;exact q X.prog X.w _ _ ⟨.bl _,H,I,rfl,k⟩
 .refine SeqAt.RcAt.lists_lengths (A:=X.A) p1.isList p2.isList (by rw[e3,e4];simpa using hl) (by lia) X.prog X.w _ _ ⟨.bl _,H,I,?_,k⟩;rw[iH hl];rfl
def Bq (K:Kd):R2:=λx y H Q=>(∃a b xs ys,x= .ref a/\y= .ref b/\SqT K H a xs/\SqT K H b ys/\xs.all F0=true/\ys.all F0=true/\Q (.bl (Y0 xs ys)) H)\/(∃a xs,x= .non/\y= .ref a/\SqT K H a xs/\Q (.bl false) H)
theorem AR (hu:X.A.units+64<cLine):OpR X (compareOp .Eq) (Bq X.K):=by
 intro pins s σ H x y v u Q I rx ry h;rcases h with⟨a,b,xs,ys,rfl,rfl,ha,hb,fx,fy,k⟩|⟨a,xs,rfl,rfl,ha,k⟩
 .cases rx;cases ry;obtain⟨a_,r1,p1,z1⟩:=I.tuple ha;obtain⟨its',r2,p2,z2⟩:=I.tuple hb;have l1:=r1.length;have l2:=r2.length;have q:=SeqAt.RcAt.tuples (A:=X.A) (e:=λj=>eE (xs.getD j .non) (ys.getD j .non)) (show s.heap.IsTuple a a_.toArray from p1) (show s.heap.IsTuple b its'.toArray from p2) (by lia) λj g1 g2=>by
   have MH:j<a_.length:=by simpa using g1
   have MI:j<its'.length:=by simpa using g2
   have x1:xs[j]?=some (xs[j]'(by lia)):=by simp [show j<xs.length by lia]
   have y1:ys[j]?=some (ys[j]'(by lia)):=by simp [show j<ys.length by lia]
   obtain⟨u1,MJ,MK⟩:=r1.get x1;obtain⟨u2,Ln,MM⟩:=r2.get y1;have e1:a_.toArray[j]=u1:=by
    have:=Fw MH;rw[MJ] at this;simpa using(Ga this).symm
   have e2:its'.toArray[j]=u2:=by
    have:=Fw MI;rw[Ln] at this;simpa using(Ga this).symm
   rw[e1,e2];have d1:xs.getD j .non=xs[j]'(by lia):=by rw[Gf,x1];rfl
   have d2:ys.getD j .non=ys[j]'(by lia):=by rw[Gf,y1];rfl
   rw[d1,d2];exact eO MK MM (Gk.mp fx _ (Gd _)) (Gk.mp fy _ (Gd _))
  have e3:a_.toArray.size=xs.length:=by simp [l1]
  have e4:its'.toArray.size=ys.length:=by simp [l2]
  rw[e3,e4,V2] at q;exact q X.prog X.w _ _ ⟨.bl _,H,I,rfl,k⟩
 .cases rx;cases ry;obtain⟨a_,r1,p1,z1⟩:=I.tuple ha;exact SeqAt.RcAt.none_tuple (A:=X.A) (show s.heap.IsTuple a a_.toArray from p1) (by lia) X.prog X.w _ _ ⟨.bl false,H,I,rfl,k⟩
def ji (K:Kd):R2:=λx y H Q=>Dt x y H Q\/CJ K x y H Q\/Bq K x y H Q\/Cs K x y H Q
theorem Fj (K:Kd){k:Nat}(hr:Room k X.A)(h:X.K=K:=by rfl):OpR X (compareOp .Eq) (ji K):=h▸op_eq.or ((zg hr.units).or ((AR hr.units).or (AO hr.units)))
end
section
variable {K:Kd} {H:Hp} {Q:VK}
theorem uZ {i j:Int}(q:Q (.bl (decide (i=j))) H):ji K (.int i) (.int j) H Q:= .inl (oU q)
theorem wc {i j:Str}(q:Q (.bl (decide (i=j))) H):ji K (.str i) (.str j) H Q:= .inl (oP q)
theorem oz {a b:Addr}{xs ys:List V}(ha:SqL K H a xs)(hb:SqL K H b ys)(fx:xs.all F0=true)(fy:ys.all F0=true)(q:Q (.bl (Y0 xs ys)) H):ji K (.ref a) (.ref b) H Q:= .inr (.inl ⟨a,b,xs,ys,rfl,rfl,ha,hb,fx,fy,q⟩)
theorem oT {a b:Addr}{xs ys:List V}(ha:SqT K H a xs)(hb:SqT K H b ys)(fx:xs.all F0=true)(fy:ys.all F0=true)(q:Q (.bl (Y0 xs ys)) H):ji K (.ref a) (.ref b) H Q:= .inr (.inr (.inl (.inl ⟨a,b,xs,ys,rfl,rfl,ha,hb,fx,fy,q⟩)))
theorem ph {a b p q p' q':Addr}{r r':Bool}(ha:SqT K H a [.ref p,.ref q])(hb:SqT K H b [.ref p',.ref q'])(h1:EqD K H p p' r)(h2:EqD K H q q' r')(k:Q (.bl (r&&r')) H):ji K (.ref a) (.ref b) H Q:= .inr (.inr (.inr ⟨a,b,p,q,p',q',r,r',rfl,rfl,ha,hb,h1,h2,k⟩))
end
section
variable {K:Kd} {σ:St} {H H' H1:Hp} {Q:VK} {d:Addr} {kvs:List (j4×V)} {o:Obj}
theorem pf {i j:Int}(q:Q (.bl (!decide (i=j))) H):DO (.int i) (.int j) H Q:=⟨rfl,by rw[gG];rw[show(i==j)=decide (i=j) from IM i j];exact q⟩
theorem Eu {r:V->Hp->VK->Prop}{ta:TE}(q:ta σ H λx H1=>r x H1 Q):El r ta σ H Q:=q
theorem CS {i:Int}(q:Q (.int (-i)) H):rU (λi=> .int (-i)) (.int i) H Q:=⟨i,rfl,q⟩
def nf:HO->Bool
 | .frz _ _=>false
 |_=>true
def Le (H H':Hp):Prop:=∀a u,nf u=true->Rd H a u->Rd H' a u
theorem Le.trans (a:Le H H1)(b:Le H1 H'):Le H H':=λx u n h=>b x u n (a x u n h)
theorem Same.le (s:Same H H'):Le H H':=λa u _ h=>s.rd h
theorem K9 (h:H d=some (.dK kvs)):Le H (z8 d o kvs H):=λa u n r=>by
 by_cases e:a=d
 .subst e;rcases r with r|⟨o',r⟩
  .rw[h] at r;cases r;exact .inr ⟨o,d8⟩
  .rw[h] at r;cases r
 .unfold z8 Rd;rw[d0 e];exact r
theorem kY:Le H (thaw d H):=λa u n r=>by
 by_cases e:a=d
 .subst e;rcases r with r|⟨o',r⟩
  .rw[qZ λo v z=>by rw[r] at z;cases z;cases n];exact .inl r
  .exact .inl (lq r)
 .unfold Rd;rw[Q7 e];exact r
theorem Le.tup {a:Addr}{xs:List V}(l:Le H H')(h:SqT K H a xs):SqT K H' a xs:=by
 rcases h with h|h
 .exact .inl (l _ _ rfl h)
 .exact .inr h
theorem Le.lst {a:Addr}{xs:List V}(l:Le H H')(h:SqL K H a xs):SqL K H' a xs:=by
 rcases h with h|h
 .exact .inl (l _ _ rfl h)
 .exact .inr h
theorem Le.dic {a:Addr}(l:Le H H')(h:Rd H a (.dK kvs)):Rd H' a (.dK kvs):=l _ _ rfl h
abbrev N3:=Str×Str×Str
structure C3 where
 pts:List (Str×Str)
 ts:List (Str×N3)
def i6 (pts:List (Str×Str)):List (j4×V):=pts.map λx=>(Sum.inr x.1,.str x.2)
def W0 (t:N3):List V:=[.str t.1,.str t.2.1,.str t.2.2]
def TieAt (K:Kd)(H:Hp)(kv:j4×V)(x:Str×N3):Prop:=kv.1=Sum.inr x.1/\∃a,kv.2= .ref a/\SqT K H a (W0 x.2)
def TiesIs (K:Kd)(H:Hp)(kvs:List (j4×V))(ts:List (Str×N3)):Prop:=Paired (TieAt K H) kvs ts
structure WebAt (K:Kd) (H:Hp) (a p q:Addr) (kvs:List (j4×V)) (W:C3):Prop where
 tup:SqT K H a [.ref p,.ref q]
 pts:Rd H p (.dK (i6 W.pts))
 ties:Rd H q (.dK kvs)
 ts:TiesIs K H kvs W.ts
theorem TieAt.mono {kv:j4×V}{x:Str×N3}(l:Le H H')(h:TieAt K H kv x):TieAt K H' kv x:=let ⟨e,a,ea,s⟩:=h;⟨e,a,ea,l.tup s⟩
theorem TiesIs.mono {ts:List (Str×N3)}(l:Le H H')(h:TiesIs K H kvs ts):TiesIs K H' kvs ts:=Paired.imp' (λ_ _ z=>z.mono l) h
theorem WebAt.mono {a p q:Addr}{W:C3}(l:Le H H')(h:WebAt K H a p q kvs W):WebAt K H' a p q kvs W:=⟨l.tup h.tup,l.dic h.pts,l.dic h.ties,h.ts.mono l⟩
theorem TiesIs.length {ts:List (Str×N3)}(h:TiesIs K H kvs ts):kvs.length=ts.length:=GV h
theorem TiesIs.keys {ts:List (Str×N3)}(h:TiesIs K H kvs ts):kvs.map (·.1)=ts.map λx=>Sum.inr x.1:=by
 unfold TiesIs at h;induction h with
 |nil=>rfl
 |cons r _ ih=>rw[GF,GF,ih,r.1]
theorem TiesIs.get {ts:List (Str×N3)}{i:Nat}{kv:j4×V}(h:TiesIs K H kvs ts)(e:kvs[i]?=some kv):∃x,ts[i]?=some x/\TieAt K H kv x:=aJ h e
theorem TiesIs.val {ts:List (Str×N3)}{n:Str}:∀{kvs:List (j4×V)} {ts:List (Str×N3)},TiesIs K H kvs ts->n∈ts.map (·.1)->∃a x,A2 kvs (Sum.inr n:j4)=some (.ref a)/\(n,x)∈ts/\SqT K H a (W0 x)
 |_,_,.nil,h=>by simp at h
 |kv::r,x::ts,.cons t u,h=>by
  obtain⟨e,a,ea,s⟩:=t;by_cases hn:x.1=n
  .subst hn;refine⟨a,x.2,?_,FU,s⟩;rw[I0 e,ea]
  .have h':n∈ts.map (·.1):=by
    rcases Gn.mp h with z|z
    .exact absurd z.symm hn
    .exact z
   obtain⟨b,y,h1,h2,h3⟩:=TiesIs.val (ts:=ts) u h';refine⟨b,y,?_,Gb _ h2,h3⟩;rw[I9 (by rw[e];intro z;exact hn (HE z))];exact h1
theorem K4 (pts:List (Str×Str)):(i6 pts).map (·.1)=pts.map λx=>Sum.inr x.1:=by
 unfold i6;rw[Gg];rfl
def lt (a b:Str):Bool:=decide (a.cps.toList<b.cps.toList)
def vM (ss:List Str):Bool:=(ss.dropLast.zip ss.tail).all λp=>lt p.1 p.2
theorem rj:∀a b:List Nat,ltCps a b=true\/a=b\/ltCps b a=true
 |[],[]=> .inr (.inl rfl)
 |[],_::_=> .inl rfl
 |_::_,[]=> .inr (.inr rfl)
 |x::r,y::t=>by
  rcases KG x y with h|h|h
  .exact .inl (by simp [ltCps,h])
  .subst h;rcases rj r t with z|z|z
   .exact .inl (by simp [ltCps,z])
   .exact .inr (.inl (by rw[z]))
   .exact .inr (.inr (by simp [ltCps,z]))
  .exact .inr (.inr (by simp [ltCps,h]))
theorem BY {a b:Str}(h:ltCps b.cps.toList a.cps.toList=false)(l_:a≠b):lt a b=true:=by
 unfold lt;rw[←ltCps_eq];rcases rj a.cps.toList b.cps.toList with z|z|z
 .exact z
 .exfalso;apply l_;obtain⟨⟨l⟩⟩:=a;obtain⟨⟨m⟩⟩:=b;have z':l=m:=z;rw[z']
 .rw[z] at h;cases h
theorem jQ (x y:Str)(r:List Str):vM (x::y::r)=(lt x y&&vM (y::r)):=by
 unfold vM;simp [List.dropLast]
theorem lH:∀{ss:List Str},sortedS ss=true->ss.Nodup->vM ss=true
 |[],_,_=>rfl
 |[_],_,_=>rfl
 |x::y::r,h,n=>by
  have h':(!ltCps y.cps.toList x.cps.toList&&risingS y r)=true:=h;rw[Gh] at h';have n':=GK.mp n;rw[jQ,BY (by simpa using h'.1) (λz=>n'.1 (by rw[z];exact FU)),lH (ss:=y::r) h'.2 n'.2];rfl
end
theorem Inv.off {X:Cx}{pins:List (Addr×Obj)}{σ:St}{H:Hp}{s:Shared}{C:Addr}{h':Heap}(I:Inv X pins σ H s)(hH:H C=none)(h0:X.s₀.heap.objs.size<=C)(h1:C≠X.env.locals)(h2:∀x c,X.env.cells.lookup x=some c->c≠C)(h3:∀p∈X.pn++pins,p.1≠C)(sb:Heap.SameBut C s.heap h'):Inv X pins σ H {s with heap:=h'}:=by
 refine I.call' (s':={s with heap:=h'}) (ch:=[C]) rfl ?_ ?_ I.bare λb hb=>?_
 .have same:∀b,b∉[C]->h'.get? b=s.heap.get? b:=λb hb=>sb.2 b λz=>hb (by rw[z];exact FU);refine⟨λb o q n hb hx=>?_,λb o q n hb hx=>?_,λb o q n hx=>n,λb o q hx=>?_,λb xs q=>q,λb o u q=>q,λb ps q=>⟨#[],by rw[Array.append_empty];exact q⟩⟩
  .show h'.get? b=_;rw[same b hx];exact q
  .exact⟨o.slots,(same b hx).trans q⟩
  .exact⟨o,(same b hx).trans q⟩
 .refine λb ob e=>(I.hok b ob e).stay (λc w' hc q=>(sb.2 c ?_).trans q) (λ_ q=>q) λ_ _ q=>q;rintro rfl;rcases hc with rfl|hc
  .rw[hH] at e;cases e
  .rw[hH] at hc;cases hc
 .rw[FH.mp hb];exact⟨.inr h0,h1,h2,h3⟩
theorem qm {X:Cx}{own:List Str}{js:List Nat}{scope:Scope}{tg iter elt:Expr}{ifs:List Expr}{pos LQ py:Pos}{g:TG}{ti:TT}{te:TE}{wi:mZ}{i:Nat}{y:Str}(hN:X.N.Nodup)(hy:X.N[i]?=some y)(hl:yT X.env.scope y)(S:Bn X own js scope=true)(hc:X.calm=true)(hit:uV X tg iter wi)
  (hg:∀C s H fp,PG (cG X own js scope C s H fp) tg g) (hi:∀C s H fp,pG (cG X own js scope C s H fp) ifs ti) (he:∀C s H fp,PE (cG X own js scope C s H fp) elt te)
  (R_:swapsWith (.ListComp elt [⟨tg,iter,ifs,0⟩] scope pos) (some (.Name y py)) LQ.line X.env=pure true)
  (hf:X.fn y=true\/X.env.scope.names.lookup y=some .local)
  (hs:∀x,foldedSetIterable iter X.env x=pure x):
  PS X (.Assign [.Name y py] (.ListComp elt [⟨tg,iter,ifs,0⟩] scope pos) LQ) (pL (ig own js wi g ti te) (O5 i)):=by
 have SB:=vA S
 intro pins s σ H D I h
 rw[exec_Assign_Name_used _ _ _ _ R_]
 refine FQ (Km (FQ ?_))
 show wpAny _ X.A (do let _←comprehension (.ListComp elt [⟨tg,iter,ifs,0⟩] scope pos) scope X.env _ (newList []) false (eval iter X.env) (some (assign (.Name y py) X.env))) _ _ s
 refine FQ (JU (Jm (use:=some (assign (.Name y py) X.env)) (Q:=λ_ s'=>SP X pins D .next s') rfl hs (hV (SB.cells I)) SB.kind SB.names (M8 (hit pins s σ H _ I h) λv s1 h1=>M8 h1 λOE s2 h2=>?_)) (λ_ s' hq=>Gm (Gm hq)) λ_ _ e=>e)
 obtain⟨it,fp,tn,J,H2,e,I2,T,m_,f2,th,Ll,W,⟨m0,w0⟩,turn⟩:=h2
 subst e
 refine HG (wpAny_newFunctionEnv SB.nocell (by intro y hy;simp at hy) (λh₁ hns₁ hsb₁=>?_) SB.kind)
 dsimp only at hns₁ hsb₁⊢
 generalize NA:s2.heap.push {cls:= .type "list",dict:=none,data:= .seq ([]:List Value).toArray}=G2 at hns₁ hsb₁⊢
 have OO:G2.objs.size=s2.heap.objs.size+1:=by rw[←NA,Kb]
 have Lj:s2.heap.objs.size≠G2.objs.size:=by rw[OO];exact FX (GO _)
 have hC:s2.heap.objs.size<=G2.objs.size:=by rw[OO];exact HQ _
 have old:∀b o,s2.heap.get? b=some o->h₁.get? b=some o:=λb o e=>
  hsb₁.extBut b o (FX (FP (FN e) hC)) (FG _ (NA▸FG _ e))
 have off:∀b o,s2.heap.get? b=some o->b≠G2.objs.size:=λb o e=>FX (FP (FN e) hC)
 have Ku:∀b∈fp,∃o,s2.heap.get? b=some o:=λb hb=>let ⟨o,e,_⟩:=T.obj _ _ m_ b hb;⟨o,e⟩
 have t_:h₁.get? s2.heap.objs.size=some {cls:= .type "list",data:= .seq ([]:List Value).toArray}:=
  hsb₁.extBut _ _ Lj (FG _ (NA▸FW _ rfl))
 have loop:∀s3:Shared,s3={s2 with heap:=h₁,toks:=s2.toks+([]:List (Str×Value)).length}->
   codeAny (model X.prog X.w) X.A (.compLoop (.ListComp elt [⟨tg,iter,ifs,0⟩] scope pos) 0 (.ref it) (.ref s2.heap.objs.size) (compEnvC scope (gv scope X.env) G2.objs.size X.env))
    (compPost (model X.prog X.w) X.A X.xe (some (assign (.Name y py) X.env)) (λ_ s'=>SP X pins D .next s') (.ref s2.heap.objs.size) G2.objs.size) s3:=by
  rintro s3 rfl
  refine kz (K:=λout H'=>O5 i (.ref s2.heap.objs.size) σ (th (upd H' s2.heap.objs.size (.lst out))) D.nx) SB hc T I2 f2 (Fz _) hC Lj Ku (hg _ _ _ _) (hi _ _ _ _) (he _ _ _ _) W (λi m out H' w=>?_) (λout H' s' B Mv k=>?_) w0
   ⟨Inv.block SB I2 f2 Ku hC hns₁ old,I2.hok.fresh (Fz _),[],_,.nil,t_⟩ (T.keep _ _ _ m_ λb _ o e=>old b o e) (λb hb=>(f2 b hb).1)
  .rcases turn i m out H' w with⟨a,b⟩|c
   .exact .inl ⟨a,λn=>b _ n⟩
   .exact .inr c
  .obtain⟨mm,hn,_⟩:=B.inv.loc
   have RO:H' G2.objs.size=none:=B.inv.free
   have IJ:=B.out I2 f2 (Fz _) hC Lj Mv (h':=s'.heap) (Heap.SameBut.refl _ _)
   show wpAny _ X.A (assign (.Name y py) X.env (.ref s2.heap.objs.size)) _ _ s'
   refine wpAny_assign_Name (kD IJ hN hy hl (v:= .ref s2.heap.objs.size) rfl (λOF I'' hx=>?_) hf)
   obtain⟨a,sa,ha⟩:=hx
   have WC:G2.objs.size≠a:=by
    rcases ha with rfl|ha
    .exact HX (FX (FP I2.lt hC))
    .obtain⟨_,o,ho,_⟩:=I2.cell _ _ ha;exact HX (off _ _ ho)
   refine⟨mm,hn.sameBut sa WC,λh' sb=>⟨_,_,Ll _ _ _ _ (I''.off (by rw[d0 (HX Lj)];exact RO) (GB I2.sz hC) (HX (FX (FP I2.lt hC))) (λx c e=>?_) (λp hp=>off _ _ (I2.pin p hp).1) sb),k⟩⟩
   obtain⟨_,o,ho,_⟩:=I2.cell _ _ e
   exact off _ _ ho
 exact codeAny_compStart_list (loop _ rfl) (T.self _ 0 _ _ _ (T.keep _ _ _ m_ λb _ o e=>old b o e) (loop _ rfl))
theorem ai {X:Cx}{own:List Str}{js:List Nat}{scope:Scope}{tg iter elt:Expr}{ifs:List Expr}{pos LQ py:Pos}{g:TG}{ti:TT}{te:TE}{wi:mZ}{i:Nat}{y:Str}(hN:X.N.Nodup)(hy:X.N[i]?=some y)(hl:yT X.env.scope y)(S:Bn X own js scope=true)(hc:X.calm=true)(hit:QI X tg iter wi)
  (hg:∀C s H fp,QG (cG X own js scope C s H fp) tg g) (hi:∀C s H fp,Dp (cG X own js scope C s H fp) ifs ti) (he:∀C s H fp,QE (cG X own js scope C s H fp) elt te)
  (R_:swapsWith (.ListComp elt [⟨tg,iter,ifs,0⟩] scope pos) (some (.Name y py)) LQ.line X.env=pure true:=by rfl)
  (hf:X.fn y=true\/X.env.scope.names.lookup y=some .local:=by first|exact .inl rfl|exact .inr rfl)
  (hs:∀x,foldedSetIterable iter X.env x=pure x:=by intro _;rfl):QS X (.Assign [.Name y py] (.ListComp elt [⟨tg,iter,ifs,0⟩] scope pos) LQ) (pL (ig own js wi g ti te) (O5 i)):=
 ⟨qm hN hy hl S hc hit.r (λC s H fp=>(hg C s H fp).r) (λC s H fp=>(hi C s H fp).r) (λC s H fp=>(he C s H fp).r) R_ hf hs⟩
open PySem.AutoSeq1 (wpAny_loadPart')
def NcP (P:Program)(w:World)(A:Around)(s:Shared)(y x:Value)(b:Bool):Prop:=∀(E:Value->Shared->Prop) (Q:Value->Shared->Prop),Q (.bool b) s->wpAny (model P w) A (richCompare .NotEq y x) Q E s
theorem zX {P:Program}{w:World}(l m:Addr)(xs ys:Array Value)(n1 n2:Nat)(d1 d2:Option Addr)(s1 s2:Array (Option Value))(f:Nat->Bool):
  MeetsIn P w (Builtin.«tuple.__ne__» ⟨[.ref l,.ref m],[]⟩) (λA R s=>
   s.heap.get? l=some {cls:= .type "tuple",dict:=d1,data:= .seq xs n1,slots:=s1}/\s.heap.get? m=some {cls:= .type "tuple",dict:=d2,data:= .seq ys n2,slots:=s2}/\
   (∀j (g1:j<xs.size) (g2:j<ys.size),EqP P w A.in1 s xs[j] ys[j] (f j))/\
   R (.ok (.ret (.bool (!((List.range (min xs.size ys.size)).all f&&xs.size==ys.size))))) s):=
 .of_wp λA R s hyp=>by
  obtain⟨hp,gg,dr,tk,os⟩:=s;obtain⟨e1,e2,he,fin⟩:=hyp;have sub:=Jn;have len:(xs.toList.zip ys.toList).length=min xs.size ys.size:=by simp
  wp_walk using wpAny_loadPart' e1,wpAny_loadPart' e2,wpAny_forIn_list _ (λmore acc st=>acc.1=none/\st=⟨hp,gg,dr,tk,os⟩/\∃i,more=(xs.toList.zip ys.toList).drop i/\
   R (.ok (.ret (.bool (!(((List.range (min xs.size ys.size)).drop i).all f&&xs.size==ys.size))))) ⟨hp,gg,dr,tk,os⟩) _
  case turn=>
   rintro⟨y,x⟩ more acc st ⟨ha,rfl,i,hi,hR⟩
   have lt:i<(xs.toList.zip ys.toList).length:=by
    rcases JM i (xs.toList.zip ys.toList).length with z|z
    .exact z
    .rw[HV z] at hi;cases hi
   have lm:i<min xs.size ys.size:=len▸lt
   have lx:i<xs.size:=FP lm (Nat.min_le_left _ _)
   have ly:i<ys.size:=FP lm (Jt _ _)
   rw[Hc lt] at hi
   injection hi with h1 h2
   have q1:y=xs[i]:=by simpa using GY Prod.fst h1
   have q2:x=ys[i]:=by simpa using GY Prod.snd h1
   subst q1 q2
   have RZ:(List.range (min xs.size ys.size)).drop i=i::(List.range (min xs.size ys.size)).drop (i+1):=by simp [Hc,lm]
   rw[RZ,HL] at hR
   refine FQ (he i lx ly _ _ ?_)
   cases hf:f i with
   |true=>
    rw[hf] at hR
    wp_walk
    exact⟨rfl,rfl,i+1,h2,by simpa using hR⟩
   |false=>
    rw[hf] at hR
    wp_walk
    exact⟨_,rfl,by simpa using hR⟩
  case fin=>
   rintro⟨c1,c2⟩ st ⟨ha,rfl,i,hi,hR⟩
   simp only at ha
   subst ha
   have ge:min xs.size ys.size<=i:=by
    rcases JM i (xs.toList.zip ys.toList).length with z|z
    .rw[Hc z] at hi;cases hi
    .exact len▸z
   rw[HV (by simpa using ge)] at hR
   wp_walk
   exact⟨_,rfl,by simpa [Builtin.Tuple.tupleCompareSizes,bne] using hR⟩
  case h=>
   exact⟨rfl,rfl,0,rfl,by simpa using fin⟩
theorem NcP.tup {P:Program}{w:World}{A:Around}{s:Shared}{l m:Addr}{xs ys:Array Value}{f:Nat->Bool}(hl:s.heap.IsTuple l xs)(hm:s.heap.IsTuple m ys)(hu:A.units<cLine)
  (he:∀j (g1:j<xs.size) (g2:j<ys.size),EqP P w A.in1 s xs[j] ys[j] (f j)):NcP P w A s (.ref l) (.ref m) (!((List.range (min xs.size ys.size)).all f&&xs.size==ys.size)):=λE Q q=>by
 obtain⟨⟨c1,d1,a1,s1⟩,o1,k1,n1,t1⟩:=id hl
 obtain⟨⟨c2,d2,a2,s2⟩,o2,k2,n2,t2⟩:=id hm
 simp only at k1 t1 k2 t2
 subst k1 t1 k2 t2
 refine Hl (op:= .NotEq) ⟨_,o1,rfl⟩ ⟨_,o2,rfl⟩ JO (Ho JO ⟨_,o1,rfl⟩ PySem.F.entry_tuple_ne (PySem.F.args_tuple_ne_2 _ _) (zX l m xs ys n1 n2 d1 d2 s1 s2 f) ⟨o1,o2,he,?_⟩) hu
 exact⟨(λz=>nomatch z),q⟩
section
variable {X:Cx} {pins:List (Addr×Obj)} {σ:St} {H:Hp} {s:Shared} {A:Around}
def Cg (K:Kd):R2:=λx y H Q=>∃a b p q p' q' r r',x= .ref a/\y= .ref b/\SqT K H a [.ref p,.ref q]/\SqT K H b [.ref p',.ref q']/\EqD K H p p' r/\EqD K H q q' r'/\Q (.bl (!(r&&r'))) H
theorem zw (hu:X.A.units+64<cLine):OpR X (compareOp .NotEq) (Cg X.K):=by
 intro pins s σ H x y v u Q I rx ry h;obtain⟨a,b,p,q,p',q',r,r',rfl,rfl,ha,hb,h1,h2,k⟩:=h;cases rx;cases ry;obtain⟨a_,v1,t1,_⟩:=I.tuple ha;obtain⟨its',v2,t2,_⟩:=I.tuple hb;obtain⟨_,_,rfl,e1,e2⟩:=fY v1;obtain⟨_,_,rfl,e3,e4⟩:=fY v2;cases e1;cases e2;cases e3;cases e4;refine NcP.tup (P:=X.prog) (w:=X.w) (f:=λj=>if j=0 then r else r') (show s.heap.IsTuple a _ from t1) (show s.heap.IsTuple b _ from t2) (by lia) (λj g1 g2=>?_) _ _ ⟨.bl (!(r&&r')),H,I,by show Value.bool _=Value.bool _;simp [Hx],k⟩;have g:j<2:=by simpa using g1
 match j,g with
 |0,_=>exact h1.at_ I (by show X.A.units+1+16<_;lia)
 |1,_=>exact h2.at_ I (by show X.A.units+1+16<_;lia)
def BZ (K:Kd):R2:=λx y H Q=>∃a b xs ys,x= .ref a/\y= .ref b/\SqL K H a xs/\SqL K H b ys/\xs.all F0=true/\ys.all F0=true/\Q (.bl (!Y0 xs ys)) H
theorem Au (hu:X.A.units+64<cLine):OpR X (compareOp .NotEq) (BZ X.K):=by
 intro pins s σ H x y v u Q I rx ry h;obtain⟨a,b,xs,ys,rfl,rfl,ha,hb,fx,fy,k⟩:=h;cases rx;cases ry;obtain⟨a_,r1,p1,z1⟩:=I.list ha;obtain⟨its',r2,p2,z2⟩:=I.list hb;have l1:=r1.length;have l2:=r2.length;have e3:a_.toArray.size=xs.length:=by simp [l1]
 have e4:its'.toArray.size=ys.length:=by simp [l2]
 by_cases hl:xs.length=ys.length
 .have q:=SeqAt.RcNeAt.lists (A:=X.A) (e:=λj=>eE (xs.getD j .non) (ys.getD j .non)) p1.isList p2.isList (by rw[e3,e4];exact hl) (by lia) λj g1 g2=>by
   have MH:j<a_.length:=by simpa using g1
   have MI:j<its'.length:=by simpa using g2
   have x1:xs[j]?=some (xs[j]'(by lia)):=by simp [show j<xs.length by lia]
   have y1:ys[j]?=some (ys[j]'(by lia)):=by simp [show j<ys.length by lia]
   obtain⟨u1,MJ,MK⟩:=r1.get x1;obtain⟨u2,Ln,MM⟩:=r2.get y1;have e1:a_.toArray[j]=u1:=by
    have:=Fw MH;rw[MJ] at this;simpa using(Ga this).symm
   have e2:its'.toArray[j]=u2:=by
    have:=Fw MI;rw[Ln] at this;simpa using(Ga this).symm
   rw[e1,e2];have d1:xs.getD j .non=xs[j]'(by lia):=by rw[Gf,x1];rfl
   have d2:ys.getD j .non=ys[j]'(by lia):=by rw[Gf,y1];rfl
   rw[d1,d2];exact eO MK MM (Gk.mp fx _ (Gd _)) (Gk.mp fy _ (Gd _))
  have e5:=V2 xs ys;rw[hl,Nat.min_self,Jv,IV] at e5;rw[e3,hl,e5] at q;exact q X.prog X.w _ _ ⟨.bl _,H,I,rfl,k⟩
 .refine SeqAt.RcNeAt.lists_lengths (A:=X.A) p1.isList p2.isList (by rw[e3,e4];simpa using hl) (by lia) X.prog X.w _ _ ⟨.bl _,H,I,?_,k⟩;rw[iH hl];rfl
def Cv (K:Kd):R2:=λ_ _ _ _=>False
theorem Af (hu:X.A.units+64<cLine):OpR X (compareOp .NotEq) (Cv X.K):=by
 intro pins s σ H x y v u Q I rx ry h;exact h.elim
def yS (K:Kd):R2:=λ_ _ _ _=>False
def yV (K:Kd):R2:=λ_ _ _ _=>False
theorem yf (hu:X.A.units+64<cLine):OpR X (compareOp .Eq) (yS X.K):=by
 intro pins s σ H x y v u Q I rx ry h;exact h.elim
theorem xp (hu:X.A.units+64<cLine):OpR X (compareOp .NotEq) (yV X.K):=by
 intro pins s σ H x y v u Q I rx ry h;exact h.elim
def zm (K:Kd):R2:=λx y H Q=>ji K x y H Q\/yS K x y H Q
theorem DJ (K:Kd){k:Nat}(hr:Room k X.A)(h:X.K=K:=by rfl):OpR X (compareOp .Eq) (zm K):=(Fj K hr h).or (h▸yf hr.units)
def tN (K:Kd):R2:=λx y H Q=>DO x y H Q\/BZ K x y H Q\/Cv K x y H Q\/Cg K x y H Q\/yV K x y H Q
theorem Fm (K:Kd){k:Nat}(hr:Room k X.A)(h:X.K=K:=by rfl):OpR X (compareOp .NotEq) (tN K):=h▸op_ne.or ((Au hr.units).or ((Af hr.units).or ((zw hr.units).or (xp hr.units))))
end
section
variable {K:Kd} {H:Hp} {Q:VK}
theorem Ek {x y:V}(q:ji K x y H Q):zm K x y H Q:= .inl q
theorem ni {i j:Int}(q:Q (.bl (!decide (i=j))) H):tN K (.int i) (.int j) H Q:= .inl (pf q)
theorem jn {a b:Addr}{xs ys:List V}(ha:SqL K H a xs)(hb:SqL K H b ys)(fx:xs.all F0=true)(fy:ys.all F0=true)(q:Q (.bl (!Y0 xs ys)) H):tN K (.ref a) (.ref b) H Q:= .inr (.inl ⟨a,b,xs,ys,rfl,rfl,ha,hb,fx,fy,q⟩)
theorem mJ {j:Str}(q:Q (.bl false) H):ji K .non (.str j) H Q:= .inl ⟨rfl,by rw[show decide (V.non=V.str j)=false by simp];exact q⟩
theorem lI {a:Addr}{xs:List V}(ha:SqT K H a xs)(q:Q (.bl false) H):ji K .non (.ref a) H Q:= .inr (.inr (.inl (.inr ⟨a,xs,rfl,rfl,ha,q⟩)))
end
section
variable {X:Cx} {o e f:Expr} {apos b_:Pos} {td ty tx:TE} {name:Str}
theorem Cb (hb:attributeBase o name X.env (eval o X.env)=eval o X.env)(hl:(apos.endLine==b_.line)=true)(h:C5 e=true):M1 X o name apos e b_:=by
 have z:starEach [e] X.env=[(false,eval e X.env)]:=bu (es:=[]) h;have z2:backTo b_ (starEach [e] X.env)=[(false,eval e X.env)]:=by rw[z];rfl
 exact⟨hb,by rw[z2];rfl,hl,z2⟩
theorem qQ (hu:X.A.units+1<cLine)(ho:QE X o td)(he:QE X e ty)(hb:attributeBase o "get" X.env (eval o X.env)=eval o X.env:=by rfl)(hl:(apos.endLine==b_.line)=true:=by rfl)(h:C5 e=true:=by rfl):
  QE X (.Call (.Attribute o "get" apos) [e] [] b_) (pE td ty):=⟨uw hu ho.r he.r (Cb hb hl h)⟩
end
section
variable {σ:St} {H:Hp} {Q:VK} {td ty tx:TE}
theorem BC (q:td σ H λx H1=>∃a,x= .ref a/\Eg H1 a/\ty σ H1 λy H2=>∃o,aQ H2 a y o/\Q (o.getD .non) H2):pE td ty σ H Q:=q
end
open Sem (wp)
section
variable {prog:Program} {w:World} {KT:Type} [DecidableEq KT] {knd:KeyKind prog w KT} {A:Around} {E:Value->Shared->Prop} {s:Shared}
end
section
variable {prog:Program} {w:World} {KT:Type} [DecidableEq KT] {knd:KeyKind prog w KT} {A:Around} {E:Value->Shared->Prop} {s:Shared}
open PySem.AutoSeq1 (wpAny_loadPart')
end
section
variable {X:Cx} {a:Expr} {t:TA} {p pos:Pos}
def pz (K:Kd)(ta:TA):mZ:=λσ H R=>ta σ H λvs H1=>∃v,vs=[v]/\((∃l xs,v= .ref l/\SqL K H1 l xs/\R (DT K l) id H1)\/False)
theorem xa {elts:List Expr}{x1}{k_:Pos}(hg:Gl X "enumerate")(hm:X.mg "enumerate"=none)(ha:PA X [a] t)(hs:starEach [a] X.env=[(false,eval a X.env)]):uV X (.Tuple elts x1 k_) (.Call (.Name "enumerate" p) [a] [] pos) (pz X.K t):=by
 intro pins s σ H R I h;refine Call_ (eV I hg hm Boot.«enumerate» (Hv (M8 (ha pos pins s σ H _ I h) λus s1 ⟨vs,H1,I1,r1,q1⟩=>?_) hs rfl));obtain⟨v,e,q⟩:=q1;subst e;obtain⟨u,rfl,ru⟩:=P0 r1;rcases q with⟨l,xs,rfl,hq,q⟩|q
 .cases ru;obtain⟨a_,rv,pl,hz⟩:=I1.list hq;refine call_enumerate_list pl.isList λh' he hit hsz hk=>?_;have I2:Inv X pins σ H1 {s1 with heap:=h'}:=I1.kept (t':=s1.toks) hk;refine wpAny_pyIter_enum (s:={s1 with heap:=h'}) he ?_;refine⟨s1.heap.objs.size+1,[s1.heap.objs.size+1,s1.heap.objs.size],_,_,H1,rfl,I2,tf (l:=l) (Nat.succ_ne_self _),⟨_,he,hit⟩,λb hb=>?_,id,ei,q⟩;have LN:b=s1.heap.objs.size+1\/b=s1.heap.objs.size:=by simpa using hb
  rcases LN with rfl|rfl
  .exact I1.fpOk (HQ _) (I1.hok.fresh (HQ _))
  .exact I1.fpOk (Fz _) (I1.hok.fresh (Fz _))
 .exact q.elim
theorem ae (K:Kd){elts:List Expr}{x1}{k_:Pos}(hm:X.mg "enumerate"=none)(ha:QA X [a] t)(hg:Gl X "enumerate":=by rfl)(h:C5 a=true:=by rfl)(hK:X.K=K:=by rfl):QI X (.Tuple elts x1 k_) (.Call (.Name "enumerate" p) [a] [] pos) (pz K t):=
 ⟨hK▸xa hg hm ha.r (bu h)⟩
end
section
variable {K:Kd} {σ:St} {H:Hp} {ta:TA} {R:It->(Hp->Hp)->Hp->Prop}
theorem xk (q:ta σ H λvs H1=>∃v,vs=[v]/\((∃l xs,v= .ref l/\SqL K H1 l xs/\R (DT K l) id H1)\/False)):pz K ta σ H R:=q
end
open Sem (wp)
theorem lA:typeLookup (.type "list") "keys"=pure none:=by rw[typeLookup_type,builtinLookup_eq_fast];kernel_rfl
section
variable {prog:Program} {w:World} {A:Around} {E:Value->Shared->Prop} {s:Shared}
theorem rX {a:Addr}{o:Obj}{xs:Array Value}{k:Nat}{Q:Option Value->Shared->Prop}
  (hx:s.heap.get? a=some o) (hc:o.cls= .type "list") (I_:o.data= .seq xs k) (hd:o.dict=none) (hA:A.handled=none)
  (h:∀h' tk,(∀b ob,s.heap.get? b=some ob->h'.get? b=some ob)->Q none {s with heap:=h',toks:=tk}):
  wpAny (model prog w) A (getAttr? (.ref a) "keys") Q E s:=by
 obtain⟨c,Zl,dat,sl⟩:=o
 simp only at hc I_ hd
 subst hc I_ hd
 obtain⟨hp,g,d,tk,os⟩:=s
 have hT:∀tk',(⟨hp,g,d,tk',os⟩:Shared).TypeIs (.ref a) "list":=λ_=>⟨_,hx,rfl⟩
 have f1:=sub_AttributeError
 have f3:=Iv.lookup
 have f4:=Iv.bind (.ref a)
 have f5:=am_list_getattr_none
 unfold getAttr? getAttrBy? getAttrBy
 repeat(any_goals (first|assumption|exact hT _|((with_reducible show wpAny _ _ (call (Value.builtin "list.__getattribute__") _ _) _ _ _);refine call_meets Iv (hT _) am_entry_list_getattribute (F.args_list_getattribute_2 _ _) (meets_getattribute_miss_list a xs k sl "keys" _ lA (by decide+kernel) (by decide+kernel)) ⟨hx,hA,λh' tk' e g_=>?_⟩)|wp_step))
 obtain⟨t',u',he⟩:=g_.there
 show wpAny _ _ (getattributeRaised _ _ _ _ _ _ _) _ _ _
 unfold getattributeRaised
 repeat(any_goals (first|assumption|wp_step))
 exact h _ _ g_.keeps
end
theorem aV:entryFor table "dict.update.loop"=some Builtin.«dict.update.loop»:=entryFor_of_tree (by kernel_rfl)
theorem O7:plainId "dict.update.loop"=true:=by decide+kernel
section
variable {prog:Program} {w:World} {KT:Type} [DecidableEq KT] {knd:KeyKind prog w KT} {A:Around} {E:Value->Shared->Prop}
def PairAt (knd:KeyKind prog w KT)(h:Heap)(d it:Addr)(u:Value)(kv:KT×Value):Prop:=∃t key,u= .ref t/\h.IsTuple t #[key,kv.2]/\knd.is kv.1 key=true/\t≠d/\t≠it
theorem PairAt.keep {h h':Heap}{d it:Addr}{u:Value}{kv:KT×Value}(p:PairAt knd h d it u kv)(k:∀b o,b≠d->b≠it->h.get? b=some o->h'.get? b=some o):PairAt knd h' d it u kv:=by
 obtain⟨t,key,e,⟨o,ho,r⟩,hk,h1,h2⟩:=p;exact⟨t,key,e,⟨o,k t o h1 h2 ho,r⟩,hk,h1,h2⟩
theorem sx {d it l:Addr}{items:List Value}{res:Value}(hh:A.handled=none)(NB:d≠it)(Sa:l≠it)(Sb:l≠d):
  ∀(more:List (KT×Value)) (i:Nat) (s:Shared) (kvs:List (KT×Value)) (R:Result->Shared->Prop),
   s.heap.IsListIter it l i->s.heap.IsList l items.toArray->Paired (PairAt knd s.heap d it) (items.drop i) more->s.heap.DictOf knd d kvs->kvs.length+more.length<=sizeLine->
   (∀h' tk,(∀b o,b≠d->b≠it->s.heap.get? b=some o->h'.get? b=some o)->h'.DictOf knd d (more.foldl (λa x=>stored a x.1 x.2) kvs)->R (.ok (.ret res)) {s with heap:=h',toks:=tk})->
   codeAny (model prog w) A (.builtin "dict.update.loop" ⟨[.ref d,.ref it,rawInt (i:Int),res],[]⟩) R s:=by
 intro more
 induction more with
 |nil=>
  intro i s kvs R hit hl hp hd hz hR
  have hx:items.toArray[i]?=none:=by
   have hn:items.drop i=[]:=by cases F':items.drop i with
    |nil=>rfl
    |cons x r=>rw[F'] at hp;cases hp
   have:=JX.mp hn;simp;lia
  refine Hq aV ?_
  rw[He O7 _]
  show wpAny _ A.in1 (pyNext (.ref it)>>=_) _ _ s
  refine FQ (IK (A:=A.in1) hh hit hl hx λh' eb=>?_)
  show wpAny _ A.in1 (Builtin.Dict.addKeywords d []>>=_) _ _ _
  refine FQ (Gm (Gm ?_))
  exact hR h' s.toks (λb o h1 h2 e=>eb b o h2 e) (hd.extBut eb NB)
 |cons kv more ih=>
  intro i s kvs R hit hl hp hd hz hR
  obtain⟨x,hx,Se,KC⟩:∃x,items.toArray[i]?=some x/\PairAt knd s.heap d it x kv/\Paired (PairAt knd s.heap d it) (items.drop (i+1)) more:=by
   cases F':items.drop i with
   |nil=>rw[F'] at hp;cases hp
   |cons x r=>
    rw[F'] at hp
    cases hp with
    |cons h1 h2=>
     refine⟨x,?_,h1,?_⟩
     .have z:=GY List.head? F'
      simpa using z
     .have z:=GY List.tail F'
      rw[List.tail_drop] at z
      rw[z];exact h2
  obtain⟨t,key,rfl,⟨ot,OQ,WD,nt,WE⟩,Lm,h1,h2⟩:=Se
  refine Hq aV ?_
  rw[He O7 _]
  show wpAny _ A.in1 (pyNext (.ref it)>>=_) _ _ s
  refine FQ (IF hit hl hx λh' hit' F_=>?_)
  have OR:h'.get? t=some ot:=F_.extBut _ _ h2 OQ
  refine FQ (Hs (FQ (wpAny_tryCatch ?_)))
  unfold Builtin.Dict.pairItems
  refine FQ (wpAny_typeOf (s:={s with heap:=h'}) ⟨_,OR,WD⟩ ?_)
  rw[if_pos (by decide)]
  refine FQ (wpAny_seqItems (s:={s with heap:=h'}) OR WE ?_)
  refine Gm ?_
  show wpAny _ A.in1 (holding [key,kv.2] (dictSet d key kv.2)) _ _ _
  refine Hs (wpAny_dictSet_pairs (s:={s with heap:=h'}) (kvs:=kvs) Lm (hd.extBut F_.extBut NB) (λKz dd u_=>?_) (by simp only[GR] at hz;lia))
  have kp:∀b o,b≠d->b≠it->s.heap.get? b=some o->Kz.get? b=some o:=λb o hb1 La e=>u_.extBut b o hb1 (F_.extBut b o La e)
  refine Gm ⟨Ih O7 _,?_⟩
  refine ih (i+1) _ (stored kvs kv.1 kv.2) R ?_ ?_ (Paired.imp' (λ_ _ z=>z.keep kp) KC) dd ?_ (λh3 tk k3 d3=>hR h3 tk (λb o e1 e2 e=>k3 b o e1 e2 (kp b o e1 e2 e)) d3)
  .exact hit'.at λo e=>u_.extBut it o (HX NB) e
  .obtain⟨ol,q_,r⟩:=hl
   exact⟨ol,kp l ol Sb Sa q_,r⟩
  .have z:=stored_length_le kvs kv.1 kv.2
   simp only[GR] at hz
   lia
theorem gB {l:Addr}{items:List Value}{o:Obj}{n:Nat}{more:List (KT×Value)}{s:Shared}{Q:Value->Shared->Prop}(hh:A.handled=none)(ho:s.heap.get? l=some o)(hc:o.cls= .type "list")(I_:o.data= .seq items.toArray n)(WG:o.dict=none)(hz:more.length<=sizeLine)
  (hp:Paired (λu kv=>∃t key,u= .ref t/\s.heap.IsTuple t #[key,kv.2]/\knd.is kv.1 key=true) items more)
  (h:∀h' tk,h'.DictOf knd s.heap.objs.size (more.foldl (λa x=>stored a x.1 x.2) [])->(∀b o,s.heap.get? b=some o->h'.get? b=some o)->Q (.ref s.heap.objs.size) {s with heap:=h',toks:=tk}):
  wpAny (model prog w) A (call (.type "dict") [.ref l]) Q E s:=by
 refine callType_codes (Q₁:=λobj s₁=>obj= .ref s.heap.objs.size/\s₁={s with heap:=s.heap.push {cls:= .type "dict",data:= .dict #[]}}) F.kt_called_dict (F.kt_typeCall_dict_1 _) F.entry_dict_init (kt_code_dict_new _ ⟨rfl,rfl⟩) ?_
 rintro obj s₁ ⟨rfl,rfl⟩
 have KD:(s.heap.push {cls:= .type "dict",data:= .dict #[]}).DictOf knd s.heap.objs.size []:=Heap.DictOf.new s.heap
 have Nz:l≠s.heap.objs.size:=FX (FN ho)
 refine⟨KD.typeIs,F.args_dict_init_2 _ _,?_⟩
 unfold Builtin.«dict.__init__»
 refine FQ ?_
 unfold Builtin.Dict.selfAndRest
 refine FQ (wpAny_notOrdered_dict KD.typeIs ?_)
 show wpAny _ _ (pure (s.heap.objs.size,[Value.ref l])) _ _ _
 refine Gm ?_
 show wpAny _ _ (Builtin.Dict.updateFrom "dict.__init__" s.heap.objs.size (.ref l) [] .none) _ _ _
 unfold Builtin.Dict.updateFrom
 have Lo:(s.heap.push {cls:= .type "dict",data:= .dict #[]}).get? l=some o:=FG _ ho
 refine FQ (wpAny_typeOf (s:={s with heap:=s.heap.push {cls:= .type "dict",data:= .dict #[]}}) ⟨_,Lo,hc⟩ ?_)
 rw[if_pos (by decide)]
 refine FQ (rX (s:={s with heap:=s.heap.push {cls:= .type "dict",data:= .dict #[]}}) Lo hc I_ WG hh λh2 Sf k2=>?_)
 rw[if_pos (show((none:Option Value).isNone)=true from rfl)]
 have KZ:h2.get? l=some o:=k2 l o Lo
 have hd2:h2.DictOf knd s.heap.objs.size []:=let ⟨od,es,ep,e,r⟩:=KD;⟨od,es,ep,k2 _ _ e,r⟩
 have JH:s.heap.objs.size<h2.objs.size:=by obtain⟨od,es,ep,e,r⟩:=hd2;exact FN e
 have up:∀b ob,s.heap.get? b=some ob->(h2.push {cls:= .type "list_iterator",data:= .fields #[.ref l,.int 0 0]}).get? b=some ob:=λb ob e=>FG _ (k2 b ob (FG _ e))
 refine FQ (wpAny_rule (FQ (Ig (l:=l) (items:=items.toArray) ⟨o,KZ,hc,n,I_⟩ ?_)))
 refine Gm ⟨Ih O7 _,?_⟩
 refine sx (knd:=knd) (l:=l) (items:=items) (A:=A.in1) hh (FX JH) (FX (FN KZ)) Nz more 0 _ [] _ ⟨_,FW _ rfl,rfl,rfl⟩ ⟨o,FG _ KZ,hc,n,I_⟩ ?_ (hd2.push _) (by simpa using hz) λh3 tk k3 d3=>⟨rfl,h h3 tk d3 λb ob e=>k3 b ob (FX (FN e)) (FX (KP (FN e) JH)) (up b ob e)⟩
 rw[List.drop_zero]
 refine Paired.imp' (λu kv z=>?_) hp
 obtain⟨t,key,rfl,⟨ot,OQ,r⟩,hk⟩:=z
 exact⟨t,key,rfl,⟨ot,up t ot OQ,r⟩,hk,FX (FN OQ),FX (KP (FN OQ) JH)⟩
end
section
variable {X:Cx}
def PrV (K:Kd)(H:Hp)(x:V)(kv:j4×V):Prop:=∃t,x= .ref t/\SqT K H t [kV kv.1,kv.2]
def gh (kvs:List (j4×V)):List (j4×V):=kvs.foldl (λa x=>E3 a x.1 x.2) []
theorem KV.puts:∀{ps:List (j4×V)} {qs:List (j4×Value)} {a:List (j4×V)} {b:List (j4×Value)},KV ps qs->KV a b->KV (ps.foldl (λa x=>E3 a x.1 x.2) a) (qs.foldl (λa x=>stored a x.1 x.2) b)
 |_,_,_,_,.nil,h=>h
 |_::_,_::_,a,b,.cons r t,h=>by
  obtain⟨e,rv⟩:=r;rw[Ib,Ib];refine KV.puts t ?_;rw[←e];exact KV.put h _ rv
theorem fL:∀(ps:List (j4×V)) (a:List (j4×V)),(ps.foldl (λa x=>E3 a x.1 x.2) a).length<=a.length+ps.length
 |[],a=>Fz _
 |p::r,a=>by
  rw[Ib,GR];have z:=fL r (E3 a p.1 p.2);have z2:=X0 a p.1 p.2;lia
theorem zv {pins : List (Addr × Obj)} {σ : L2.St} {H : Hp} {s : Shared} (I : Inv X pins σ H s) : ∀ {xs : List V} {kvs : List (j4 × V)} {us : List Value}, Paired (PrV X.K H) xs kvs -> Vals xs us -> ∃ more : List (j4 × Value), KV kvs more /\ Paired (λu kv => ∃ t key, u = Value.ref t /\ s.heap.IsTuple t #[key, kv.2] /\ (l0 X.prog X.w).is kv.1 key = true) us more
 := by
  intro xs kvs us hp hv;induction hp generalizing us with
  | nil => cases hv; exact ⟨[], .nil, .nil⟩
  | @cons x kv l m r t ih => cases hv with
    | cons r' t' =>
      obtain ⟨tt, rfl, sq⟩ := r
      cases r'
      obtain ⟨a_, v1, t1, _⟩ := I.tuple sq
      obtain ⟨key, v, rfl, rk, rv⟩ := fY v1
      obtain ⟨more, h1, h2⟩ := ih t'
      exact ⟨(kv.1, v) :: more, .cons ⟨rfl, rv⟩ h1, .cons ⟨tt, key, rfl, t1, jy rk⟩ h2⟩
def vk (K:Kd):List V->Hp->VK->Prop:=λxs H Q=>∃(p:Addr) (ys:List V) (kvs:List (j4×V)),xs=[.ref p]/\SqL K H p ys/\Paired (PrV K H) ys kvs/\kvs.length<=sizeLine/\∀l,H l=none->Q (.ref l) (upd H l (.dK (gh kvs)))
theorem pv (hc:X.calm=true):CallR X (.type "dict") (vk X.K):=by
 intro pins s σ H xs us Q I r h;obtain⟨p,ys,kvs,rfl,hq,hp,hz,q⟩:=h;obtain⟨u,rfl,ru⟩:=P0 r;cases ru;obtain⟨a_,rv,pl,_⟩:=I.list hq;obtain⟨more,kv,pr⟩:=zv I hp rv;obtain⟨o,n,e,c,hd,dt⟩:=pl;have hl:more.length=kvs.length:=(KV.length kv).symm;refine gB (knd:=l0 X.prog X.w) (I.ok.hd hc) e c dt hd (by lia) pr λh' tk dd k=>?_;refine⟨.ref s.heap.objs.size,_,?_,rfl,q _ (I.hok.fresh (Fz _))⟩;refine I.laid (a:=s.heap.objs.size) (o:= .dK (gh kvs)) (t':=tk) k (Fz _) (iS ?_ (Io.mpr (HX (FX I.big))) (KV.puts kv .nil) dd);have z:=fL kvs [];unfold gh;simp only[JL] at z;lia
def mi (K:Kd):List V->Hp->VK->Prop:=λxs H Q=>yG xs H Q\/vk K xs H Q
theorem R4 (K:Kd)(hc:X.calm=true)(h:X.K=K:=by rfl):CallR X (.type "dict") (mi K):=by
 subst h;intro pins s σ H xs us Q I r h;rcases h with h|h
 .exact qu pins s σ H xs us Q I r h
 .exact pv hc pins s σ H xs us Q I r h
end
section
variable {K:Kd} {H:Hp} {Q:VK}
theorem E7 {p:Addr}{kvs:List (j4×V)}(h:Rd H p (.dK kvs))(q:∀l,H l=none->Q (.ref l) (upd H l (.dK kvs))):mi K [.ref p] H Q:= .inl ⟨p,kvs,rfl,h,q⟩
theorem P5 {p:Addr}{xs:List V}{kvs:List (j4×V)}(h:SqL K H p xs)(hp:Paired (PrV K H) xs kvs)(hz:kvs.length<=sizeLine)(q:∀l,H l=none->Q (.ref l) (upd H l (.dK (gh kvs)))):mi K [.ref p] H Q:= .inr ⟨p,xs,kvs,rfl,h,hp,hz,q⟩
end
section
variable {X:Cx}
end
theorem ObjOk.there {P:Program}{w:World}{H:Hp}{h:Heap}{a:Addr}{o:HO}(x:ObjOk P w H h a o):∃u,h.get? a=some u:=by
 induction o with
 |lst xs=>obtain⟨_,_,_,_,e⟩:=x;exact⟨_,e⟩
 |tup xs=>obtain⟨_,_,_,o,e,_⟩:=x;exact⟨_,e⟩
 |dK kvs=>obtain⟨_,_,_,_,o,_,_,e,_⟩:=x;exact⟨_,e⟩
 |dT kvs=>obtain⟨_,_,_,_,o,_,_,e,_⟩:=x;exact⟨_,e⟩
 |set S n=>obtain⟨o,_,_,_,e,_⟩:=x;exact⟨_,e⟩
 |ins C dx fs=>obtain⟨_,_,_,e,_⟩:=x;exact⟨_,e⟩
 |own y=>exact x
 |xd fs=>obtain⟨_,⟨_,_,_,e,_⟩,_⟩:=x;exact⟨_,e⟩
 |rng lo hi=>obtain⟨_,_,_,e⟩:=x;exact⟨_,e⟩
 |frz ob u=>obtain⟨e,_⟩:=x;exact⟨_,e⟩
 |tbl ps=>exact⟨_,show h.get? a=some _ from x⟩
 |met f y=>exact⟨_,show h.get? a=some _ from x⟩
 |ext φ=>obtain⟨_,e,_⟩:=x;exact e
structure ER (P:Program) (w:World) (outer:List Env) (H:Hp) (s:Shared) (a C:Addr) (a0:Value) (B:Heap) (H':Hp) (s':Shared):Prop where
 fl:Heap.FlyingW B outer a (.ref C) a0 s'.heap
 os:s'.os=s.os
 bare:AllBare s'.gens
 un:Un (aS outer) [] H H' s.heap s'.heap
 hok:HOk P w H' s'.heap
 kp:∀b o,s.heap.get? b=some o->H b=none->b∉aS outer->B.get? b=some o
 th:∀b o,s.heap.get? b=some o->b∉aS outer->∃o',B.get? b=some o'
 tr:∀b o,H' b=some o->∃u,B.get? b=some u
 nw:H' a=none
def pq (P:Program)(w:World):mW:=λouter H s E e s'=>∃(a C:Addr) (a0:Value) (B:Heap) (H':Hp),e= .ref a/\ER P w outer H s a C a0 B H' s'/\E (.ref C) (some a) H'
theorem uv {P:Program}{w:World}{H:Hp}{B h h':Heap}(ok:HOk P w H h)(tr:∀b o,H b=some o->∃u,B.get? b=some u)(k1:B.StaysIn h)(k2:B.StaysIn h'):HOk P w H h':=λa o e=>
 (ok a o e).stay (λb u hb q=>by
  have hH:∃o',H b=some o':=by
   rcases hb with rfl|hb
   .exact⟨_,e⟩
   .exact⟨_,hb⟩
  obtain⟨o',Mt⟩:=hH;obtain⟨u',UI⟩:=tr b o' Mt;have z:=k1 b u' UI;rw[q] at z;cases z;exact k2 b _ UI) (λ_ z=>z) λ_ _ z=>z
section
variable {X:Cx} {pins:List (Addr×Obj)} {σ:St} {H:Hp} {s s':Shared}
theorem X7 {base h:Heap}{l:List Env}(F:h.FunFrames base l){b:Addr}{o:Obj}(hb:b∈aS l)(e:h.get? b=some o):∀vs,o.data≠ .fields vs:=by
 obtain⟨_,o',h1,h2⟩:=F.mem hb;rw[e] at h1;cases h1;exact h2
end
section
variable {P:Program} {w:World} {K:Kd} {mg:Str->Option Value} {base:Heap} {N:List Str} {qual:Str} {scope:Scope} {f:Addr} {cd:Value} {A:Around} {outer:List Env} {s0:Shared} {H0:Hp} {E:XK}
theorem dM {b:Addr}(hb:b∈aS outer):b∈aS (envOfC qual scope s0.heap.objs.size f cd::outer):=by
 unfold aS at*;rw[HJ];split
 .exact hb
 .exact Gb _ hb
theorem gL {b:Addr}{o:Obj}(e:s0.heap.get? b=some o)(hb:b∉aS outer):b∉aS (envOfC qual scope s0.heap.objs.size f cd::outer):=λz=>by
 unfold aS at z hb;rw[HJ] at z;have hl:=FN e;rcases Gn.mp z with z|z
 .rw[z] at hl;exact absurd hl (Hf _)
 .exact hb z
theorem lU {pins:List (Addr×Obj)}{σ:St}{H:Hp}{s:Shared}{h1:Heap}{e C:Addr}{vs:List Value}(I:Inv (iP (pq P w) P w K mg base N qual scope f cd A outer s0 H0 E) pins σ H s)
  (hx:Heap.MadeExcOf s.heap h1 e (.ref C) vs) (q:E (.ref C) (some e) H):(iP (pq P w) P w K mg base N qual scope f cd A outer s0 H0 E).xe (.ref e) {s with heap:=h1}:=by
 have OD:∀env∈(envOfC qual scope s0.heap.objs.size f cd::outer),∀b,env.frame=some b->b∈aS (envOfC qual scope s0.heap.objs.size f cd::outer):=λenv he b hb=>Iy.mpr ⟨env,he,hb⟩
 have fr:s.heap.FunFrames base (envOfC qual scope s0.heap.objs.size f cd::outer):=I.stack
 have tr:∀b o,H b=some o->∃u,(PySem.W.hideAll s.heap (aS (envOfC qual scope s0.heap.objs.size f cd::outer))).get? b=some u:=λb o z=>by
  obtain⟨u,hu⟩:=(I.hok b o z).there;refine⟨u,Ip _ hu λhb=>?_⟩;have:=I.stkFree b hb;rw[z] at this;cases this
 have nw:H e=none:=by
  cases z:H e with
  |none=>rfl
  |some o=>
   obtain⟨u,hu⟩:=(I.hok e o z).there
   rw[hx.new] at hu;cases hu
 have B_:Un (aS outer) [] H0 H s0.heap s.heap:=I.base
 refine wpAny_leaves_madeW (base:=PySem.W.hideAll s.heap (aS (envOfC qual scope s0.heap.objs.size f cd::outer))) I.ok.frames rfl (λb o z=>Jd _ z) (PySem.W.funFrames_hide fr OD) hx λh' t x1 x2 x3 x4=>?_
 have kp:∀b o,s0.heap.get? b=some o->H0 b=none->b∉aS outer->(PySem.W.hideAll s.heap (aS (envOfC qual scope s0.heap.objs.size f cd::outer))).get? b=some o:=λb o z n hb=>
  Ip _ (B_.keep b o z n hb (by simp)) (gL z hb)
 have th:∀b o,s0.heap.get? b=some o->b∉aS outer->∃o',(PySem.W.hideAll s.heap (aS (envOfC qual scope s0.heap.objs.size f cd::outer))).get? b=some o':=λb o z hb=>by
  obtain⟨o',z'⟩:=B_.there b o z (by simp);exact⟨o',Ip _ z' (gL z hb)⟩
 have hk:=x1.1
 refine⟨e,C,_,_,H,rfl,⟨x1,I.os,I.bare,⟨λb o z n hb _=>hk b o (kp b o z n hb),λb o z n hb _=>?_,λb o z n _=>B_.free b o z n (by simp),λb o z _=>?_,B_.tups,B_.frzs,B_.tbls⟩,?_,kp,th,tr,nw⟩,q⟩
 .obtain⟨s1,e1⟩:=B_.slot b o z n hb (by simp)
  have nf:=X7 fr (dM hb) e1
  obtain⟨s2,e2⟩:=x4 b _ (hx.keeps _ _ e1) nf
  exact⟨s2,e2⟩
 .by_cases hb:b∈aS outer
  .obtain⟨o',e1⟩:=B_.there b o z (by simp)
   obtain⟨s2,e2⟩:=x4 b _ (hx.keeps _ _ e1) (X7 fr (dM hb) e1)
   exact⟨_,e2⟩
  .obtain⟨o',e1⟩:=th b o z hb
   exact⟨o',hk b o' e1⟩
 .exact uv I.hok tr (λb o z=>Jd _ z) hk
theorem wj:aY (pq P w) (iP (pq P w) P w K mg base N qual scope f cd A outer s0 H0 E) E:=by
 intro pins σ H s e s' I h;obtain⟨a,C,a0,B,H',rfl,F,q⟩:=h;have fr:=F.fl.2.2.1;have B_:Un (aS outer) [] H0 H s0.heap s.heap:=I.base;refine wpAny_leaves_onW I.ok.frames rfl F.fl λh' x1 x2=>?_;have hk:=x1.1;have kp:∀b o,s0.heap.get? b=some o->H0 b=none->b∉aS outer->B.get? b=some o:=λb o z n hb=>
  F.kp b o (B_.keep b o z n hb (by simp)) (B_.free b o z n (by simp)) (gL z hb)
 have th:∀b o,s0.heap.get? b=some o->b∉aS outer->∃o',B.get? b=some o':=λb o z hb=>by
  obtain⟨o',z'⟩:=B_.there b o z (by simp);exact F.th b o' z' (gL z hb)
 have ub:Un (aS (envOfC qual scope s0.heap.objs.size f cd::outer)) [] H H' s.heap s'.heap:=F.un;refine⟨a,C,a0,B,H',rfl,⟨x1,F.os.trans I.os,F.bare,⟨λb o z n hb _=>hk b o (kp b o z n hb),λb o z n hb _=>?_,λb o z n _=>?_,λb o z _=>?_,λb xs z=>ub.tups b xs (B_.tups b xs z),λb o u z=>ub.frzs b o u (B_.frzs b o u z),λb ps z=>?_⟩,uv F.hok F.tr F.fl.1 hk,kp,th,F.tr,F.nw⟩,q⟩
 .obtain⟨s1,e1⟩:=B_.slot b o z n hb (by simp);obtain⟨s2,e2⟩:=ub.slot b _ e1 (B_.free b o z n (by simp)) (dM hb) (by simp);obtain⟨s3,e3⟩:=x2 b _ e2 (X7 fr (dM hb) e2);exact⟨s3,e3⟩
 .obtain⟨o',e1⟩:=B_.there b o z (by simp);exact ub.free b o' e1 (B_.free b o z n (by simp)) (by simp)
 .by_cases hb:b∈aS outer
  .obtain⟨o',e1⟩:=B_.there b o z (by simp);obtain⟨o2,e2⟩:=ub.there b o' e1 (by simp);obtain⟨s3,e3⟩:=x2 b _ e2 (X7 fr (dM hb) e2);exact⟨_,e3⟩
  .obtain⟨o',e1⟩:=th b o z hb;exact⟨o',hk b o' e1⟩
 .obtain⟨m1,e1⟩:=B_.tbls b ps z;obtain⟨m2,e2⟩:=ub.tbls b _ e1;exact⟨m1++m2,by rw[e2,Kl]⟩
end
def Bl:List Value:=[.type "ValueError",.type "Exception",.type "BaseException",.type "object"]
structure ExC (K:Kd) (mg:Str->Option Value) (x:Str) (C:Addr):Prop where
 bound:mg x=some (.ref C)
 exc:PySem.W.excIn K C Bl "ValueError.__new__"=true
theorem ExC.own {K:Kd}{mg:Str->Option Value}{x:Str}{C:Addr}{h:Heap}(O:ExC K mg x C)(X:K.In h):OwnCls x C Bl "ValueError.__new__" mg h:=by
 have q:=O.exc;refine⟨O.bound,?_⟩;unfold PySem.W.excIn at q;split at q
 .rename_i g1 g2 g3 lk
  split at q
  .rename_i c2 l2 i0 i1 i2 i3 nn i5 em es
   simp only[Gh,Mz,Gr] at q;obtain⟨⟨⟨⟨⟨ea,eb⟩,q1⟩,q2⟩,q3⟩,q4⟩:=q;subst ea;subst eb;obtain⟨y1,y2,y3,y4,y5,y6,y7,y8,y9,WH,Zm⟩:=g2;dsimp only at em q1 q3 q4;subst em q1;have e3:g3= #[i0,i1,i2,i3,some (.builtin "ValueError.__new__"),i5]:=by
    cases g3 with
    |mk l=>
     have Mu:l=[i0,i1,i2,i3,some (.builtin "ValueError.__new__"),i5]:=es
     rw[Mu]
   subst e3;exact⟨l2,y4,y1,y5,y2,y6,y7,y8,y9,WH,g1,i0,i1,i2,i3,i5,h.nsMap y4,X _ _ lk,Heap.Ns.of_isNs (PySem.W.isNs_of_in X q3),PySem.W.nsMap_none_of_in X q3 q4,PySem.W.tail_of_in X q2⟩
  .cases q
 .cases q
def qj (X:Cx)(E:XK):Prop:=∀(pins:List (Addr×Obj)) (σ:St) (H:Hp) (s:Shared) (h1:Heap) (e C:Addr) (vs:List Value),Inv X pins σ H s->Heap.MadeExcOf s.heap h1 e (.ref C) vs->E (.ref C) (some e) H->X.xe (.ref e) {s with heap:=h1}
theorem gM {P:Program}{w:World}{K:Kd}{mg:Str->Option Value}{base:Heap}{N:List Str}{qual:Str}{scope:Scope}{f:Addr}{cd:Value}{A:Around}{outer:List Env}{s0:Shared}{H0:Hp}{E:XK}:
  qj (iP (pq P w) P w K mg base N qual scope f cd A outer s0 H0 E) E:=λ_ _ _ _ _ _ _ _ I hx q=>lU I hx q
def pW (C:Addr)(E:XK)(ta:TA):TS:=λ_ σ H=>ta σ H λvs H1=>vs.length<=sizeLine/\∀e,H1 e=none->E (.ref C) (some e) H1
section
variable {X:Cx} {E:XK} {x:Str} {C:Addr} {np b_ pos:Pos} {e:Expr} {es:List Expr} {ta:TA}
theorem tX (R:qj X E)(O:ExC X.K X.mg x C)(hc:X.calm=true)(ha:PA X (e::es) ta)(hg:Gl X x:=by rfl)(w_:(x==("__debug__":Str))=false:=by decide)(h:B0 (e::es)=true:=by rfl):
  PS X (.Raise (some (.Call (.Name x np) (e::es) [] b_)) none pos) (pW C E ta):=by
 intro pins s σ H D I hw
 have h':(C5 e&&B0 es)=true:=h
 rw[Gh] at h'
 have h1:starEach (e::es) X.env=(false,eval e X.env)::starEach es X.env:=bu h'.1
 have h2:(backTo b_ (starEach es X.env)).any (·.1)=false:=dq h'.2
 obtain⟨tl,y0,y1,y2,y3,y4,y5,y6,y7,y8,y9,u0,u1,u2,u3,u5,mN,hC,hN,Lz,T⟩:=(O.own I.ok.mod.kin).obj
 refine wpAny_Raise_call_subT (k5:=u5) (k3:=u3) (k2:=u2) (k1:=u1) (k0:=u0) (dd:=y9) (col:=y8) (ab:=y7) (sub:=y6) (sn:=y5) (hdct:=y4) (bs:=y3) (q:=y2) (nm:=y1) (N:=y0) (C:=C) (bm:=tl) (mN:=mN) PySem.F.excBase_ValueError (T.hasType (by decide)) (I.ok.hd hc) ?_ Lz (lC I hg O.bound ⟨rfl,?_⟩ w_)
 .rw[h1]
  show(false||(backTo b_ (starEach es X.env)).any (·.1))=false
  rw[h2];rfl
 .have UJ:=ha b_ pins s σ H _ I hw
  rw[h1] at UJ⊢
  refine IT (M8 UJ λus s1 ⟨vs,H1,I1,r,q1,q2⟩=>?_)
  refine⟨rfl,by rw[←r.length];exact q1,I1.bk _ _ hC,hN.keeps I1.bk,T.keeps I1.bk,λh2 e2 hm=>?_⟩
  have nw:H1 e2=none:=by
   cases z:H1 e2 with
   |none=>rfl
   |some o=>
    obtain⟨u,hu⟩:=(I1.hok e2 o z).there
    rw[hm.new] at hu;cases hu
  exact R pins σ H1 s1 h2 e2 C us I1 hm (q2 e2 nw)
theorem my (R:qj X E)(O:ExC X.K X.mg x C)(hc:X.calm=true)(ha:QA X (e::es) ta)(hg:Gl X x:=by rfl)(w_:(x==("__debug__":Str))=false:=by decide)(h:B0 (e::es)=true:=by rfl):
  QS X (.Raise (some (.Call (.Name x np) (e::es) [] b_)) none pos) (pW C E ta):=⟨tX R O hc ha.r hg w_ h⟩
def EJ (te:TE)(c:Str):TE:=λσ H Q=>te σ H λv H1=>∃y:Str,v= .str y/\y.length+c.length<=1000/\∀z:Str,Q (.str z) H1
theorem Fd {te:TE}{c:Str}{p1 p2:Pos}{j}(he:QE X e te):QE X (.JoinedStr [.FormattedValue e (-1) none p1,.Constant (.str c) j p2] pos) (EJ te c):=⟨by
 intro pins s σ H Q I h;refine JoinedStr_many (joinParts_cons (FormattedValue_plain (M8 (he.r pins s σ H _ I h) λu s1 ⟨v,H1,I1,r,y,ev,hl,q⟩=>?_)));subst ev;obtain⟨t,rfl⟩:=(show ∃t,u=Value.str y t from r)
 refine formatField_str (λt' tk=>?_) (d9 (by lia));refine⟨d9 (by rw[Kp];show 0+_<=1000;lia),joinParts_cons ?_⟩;have hc:=(jJ (X:=X) (x:=c) (j:=j) (pos:=p2)).r pins {s1 with toks:=tk} σ H1 (λv H2=>v= .str c/\H2=H1) (I1.tok tk) ⟨rfl,rfl⟩;refine M8 hc λu2 s2 ⟨v2,H2,I2,r2,e2,e3⟩=>?_;subst e2 e3;obtain⟨t2,rfl⟩:=(show ∃t,u2=Value.str c t from r2)
 have hz:(Str.empty++y++c).length<=sizeLine:=d9 (by rw[Kp,Kp];show 0+_+_<=1000;lia);refine⟨hz,joinParts_nil ⟨.str (Str.empty++y++c),H2,I2.tok _,⟨_,rfl⟩,q _⟩ hz⟩⟩
end
theorem Fun.okE {P:Program}{w:World}{K:Kd}{mg:Str->Option Value}{base:Heap}{x qual:Str}{st:Stmt}{f:Addr}{fd:FuncData}{N ps:List Str}{k:Nat}{sp:Sp}(F:Fun K x qual st f fd)(S:j0 N ps (g5 st))(len:∀vs H Q E,sp vs H Q E->vs.length=ps.length)
  (JZ:∀(c_:Value) (A:Around) (outer:List Env) (s:Shared) (H:Hp) (vs:List V) (Q:VK) (E:XK),Room k (A.deeper (envOfC qual (g5 st) s.heap.objs.size f c_))->sp vs H Q E->
   ∃t,PSs (iP (pq P w) P w K mg base N qual (g5 st) f c_ A outer s H E) (Q6 st) t/\t {nx:=λ_ H'=>Q .non H',rt:=Q} (dP N vs) H):u9 P w K mg base (pq P w) (k+1) f fd ps sp:=by
 obtain⟨oc,od,kV,doc,pm,an,c_,ct,KY,rfl,lk,KU⟩:=F.ex
 exact yF lk KU S len λA outer s H vs Q E hr Mi=>JZ c_ A outer s H vs Q E hr Mi
abbrev Cx.pinned (X:Cx)(pins:List (Addr×Obj)):Cx:={X with pn:=X.pn++pins}
abbrev Cx.suite (X:Cx)(e:Addr):Cx:={X with A:=X.A.mark (some (.ref e)),calm:=false,xe:=λ_ _=>False}
section
variable {X:Cx} {pins LC:List (Addr×Obj)} {Es:St->XK} {σ:St} {H:Hp} {s:Shared} {e:Addr}
end
section
variable {X:Cx} {pins:List (Addr×Obj)} {Es:St->XK} {k:Nat} {ps:List Str} {v_:List V} {sp:Sp} {x:Str} {p pos:Pos} {e:Expr} {es:List Expr} {t:TA}
end
structure Fu (K:Kd) (mg:Str->Option Value) (x:Str) (T:Addr):Prop where
 bound:mg x=some (.ref T)
 ty:PySem.W.typeIn K (.ref T)=some (.type "type")
 exc:PySem.W.subIn K (.ref T) (.type "BaseException")=some true
 cls:(PySem.W.clsIn K T).isSome=true
section
variable {X:Cx} {x n:Str} {T:Addr} {np LS pos:Pos} {i:Nat} {b₀:Stmt} {body suite:List Stmt} {tb:(St->XK)->TS} {ts:TS}
end
end L2
namespace L2
open PySem PySem.Spec PyProof.Rows PySem.W
section
variable {X:Cx}
end
def cA (K:Frag)(x:Str):Addr:=match nsIn K mainGlobals x with
 |some (some (.ref C))=>C
 |_=>0
theorem yQ {P:Program}{w:World}{X:Cx}:aY (pq P w) X E0:=λ_ _ _ _ _ _ _ ⟨_,_,_,_,_,_,_,z⟩=>z.elim
section
variable {K:Frag} {σ:St} {H:Hp} {Q:VK} {D:qg}
theorem xC {C:Addr}{E:XK}{ta:TA}(q:ta σ H λvs H1=>vs.length<=sizeLine/\∀e,H1 e=none->E (.ref C) (some e) H1):pW C E ta D σ H:=q
theorem Ew {te:TE}{c:Str}(q:te σ H λv H1=>∃y:Str,v= .str y/\y.length+c.length<=1000/\∀z:Str,Q (.str z) H1):EJ te c σ H Q:=q
end
section
variable {X:Cx}
def Cp (K:Frag):R2:=λ_ _ _ _=>False
theorem zo (hu:X.A.units+64<cLine):OpR X (compareOp .NotEq) (Cp X.K):=by
 intro pins s σ H x y v u Q I rx ry h;exact h.elim
def xv (K:Frag):R2:=λx y H Q=>tN K x y H Q\/Cp K x y H Q
theorem Ef (K:Frag){k:Nat}(hr:Room k X.A)(h:X.K=K:=by rfl):OpR X (compareOp .NotEq) (xv K):=(Fm K hr h).or (h▸zo hr.units)
def yC:V->List V->Hp->VK->Prop:=λx vs H Q=>∃a kvs,x= .ref a/\vs=[]/\H a=some (.dK kvs)/\Q .non (upd H a (.dK []))
theorem O2:xW X "dict.clear" yC:=by
 intro pins s σ H x vs v us Q I rx rv h;obtain⟨a,kvs,rfl,rfl,hH,q⟩:=h;cases rx;have Mj:=rv.zero;subst Mj;exact yD I hH λs' I'=>⟨.non,_,I',rfl,q⟩
end
section
variable {K:Frag} {H:Hp} {Q:VK}
theorem Ey {x y:V}(q:tN K x y H Q):xv K x y H Q:= .inl q
theorem wV {i j:Int}(q:Q (.bl (!decide (i=j))) H):xv K (.int i) (.int j) H Q:= .inl (ni q)
end
def N4 (ka kb:List (j4×V)):List (j4×V):=kb.foldl (λa x=>E3 a x.1 x.2) ka
theorem kh:∀{kb ka:List (j4×V)},(N4 ka kb).length<=ka.length+kb.length
 |[],ka=>Fz _
 |p::r,ka=>by
  show(N4 (E3 ka p.1 p.2) r).length<=_;have z:=kh (kb:=r) (ka:=E3 ka p.1 p.2);have z2:=X0 ka p.1 p.2;rw[GR];lia
section
variable {X:Cx}
def xi:V->List V->Hp->VK->Prop:=λx vs H Q=>∃a b ka kb,x= .ref a/\vs=[.ref b]/\H a=some (.dK ka)/\Rd H b (.dK kb)/\a≠b/\ka.length+kb.length<=1000/\Q .non (upd H a (.dK (N4 ka kb)))
theorem N2:xW X "dict.update" xi:=by
 intro pins s σ H x vs v us Q I rx rv h;obtain⟨a,b,ka,kb,rfl,rfl,hA,hB,l_,hl,q⟩:=h;cases rx;obtain⟨u,rfl,ru⟩:=P0 rv;cases ru;obtain⟨z,hd,va,ra,da⟩:=rD I.hok hA;obtain⟨z2,hd2,vb,rb,db⟩:=R0 I.hok hB;have lz:ka.length+kb.length<=sizeLine:=d9 hl;refine Ho Hr da.typeIs PySem.F.entry_dict_update (PySem.F.args_dict_update_2 _ _) (meets_dict_update (l0 X.prog X.w) a b l_ hd2) ⟨va,vb,da,db,by rw[←ra.length,←rb.length];exact lz,λh' dd' _ hs=>?_⟩;have he:∃q,h'.get? a=some q:=let ⟨q,_,_,hq,_⟩:=dd';⟨q,hq⟩
 have Qr:=kh (kb:=kb) (ka:=ka);refine⟨.non,_,eh (t':=s.toks) I (by rw[hA];exact True.intro) hs he (iS (kvs:=N4 ka kb) (GB Qr lz) hd (KV.puts rb ra) dd'),rfl,q⟩
end
section
open PySem.Builtin PySem.Builtin.Str
theorem nF (x:Str)(l u:Option Int):(Txt.slice x l u).length<=(strSliceIndices l u 1 x.length).length:=by
 unfold Txt.slice;split
 .next h=>
  have h':(strSliceIndices l u 1 x.length).length=x.length:=by simpa using h
  lia
 .show(List.filterMap _ (strSliceIndices l u 1 x.length)).toArray.size<=_;rw[FV];exact List.length_filterMap_le _ _
theorem oC (x:Str)(i:Int)(h0:0<=i)(h1:i<=x.length):(Txt.slice x none (some i)).length<=i.toNat:=by
 refine GB (nF x none (some i)) ?_;unfold strSliceIndices sliceRange;simp only[show(1:Int)>0 by decide,JK,Fv,Hj];repeat(first|split|lia)
theorem jx (x:Str)(i:Int)(h0:0<=i)(h1:i<=x.length):(Txt.slice x (some i) none).length<=x.length -i.toNat:=by
 refine GB (nF x (some i) none) ?_;unfold strSliceIndices sliceRange;simp only[show(1:Int)>0 by decide,JK,Fv,Hj];repeat(first|split|lia)
end
def aP (σ:List Str)(x:Str):List Str:=if x∈σ then σ else σ++[x]
def fv (ss:List Str):List Str:=ss.foldl aP []
theorem qW (σ:List Str)(x:Str):(aP σ x).length<=σ.length+1:=by
 unfold aP;split
 .lia
 .rw[FE];simp
theorem vv {σ:List Str}{x y:Str}:y∈aP σ x↔y∈σ\/y=x:=by
 unfold aP;split
 .next h=>exact⟨.inl,λz=>z.elim id λe=>e▸h⟩
 .simp
theorem ia:∀(ss σ:List Str),(ss.foldl aP σ).length<=σ.length+ss.length
 |[],σ=>Fz _
 |x::r,σ=>by
  have z:=ia r (aP σ x);have z2:=qW σ x;rw[Ib,GR];lia
theorem kg:∀(ss σ:List Str),σ.Nodup->((ss.foldl aP σ).length=σ.length+ss.length↔(σ++ss).Nodup)
 |[],σ,nd=>by simp [nd]
 |x::r,σ,nd=>by
  rw[Ib,GR];by_cases h:x∈σ
  .have e:aP σ x=σ:=by unfold aP;rw[if_pos h]
   rw[e];have z:=ia r σ;constructor
   .intro q;lia
   .intro q;exact absurd rfl ((FR.mp q).2.2 x h x (by simp))
  .have e:aP σ x=σ++[x]:=by unfold aP;rw[if_neg h]
   have C':(σ++[x]).Nodup:=FR.mpr ⟨nd,by simp,λa ha b hb e=>h (by
    have WI:b=x:=by simpa using hb
    rw[←WI,←e];exact ha)⟩
   have z:=kg r (σ++[x]) C';rw[e];rw[FE,FT] at z;rw[Gx] at z;show _↔(σ++([x]++r)).Nodup;rw[←z];lia
theorem oy (ss:List Str):(fv ss).length=ss.length↔ss.Nodup:=by
 have z:=kg ss [] GX;simpa [fv] using z
section
variable {prog:Program} {w:World} {A:Around} {E:Value->Shared->Prop}
def StrsAre:List Value->List Str->Prop:=Paired λu x=>∃t,u= .str x t
theorem wC {d it l:Addr}{items:List Value}(hh:A.handled=none)(NB:d≠it)(Sa:l≠it)(Sb:l≠d):
  ∀(more:List Str) (i:Nat) (s:Shared) (σ:List Str) (R:Result->Shared->Prop),
   s.heap.IsListIter it l i->s.heap.IsList l items.toArray->StrsAre (items.drop i) more->s.heap.SetOf (strKind prog w) d (λk=>decide (k∈σ)) σ.length->σ.length+more.length<2000->
   (∀h' tk,(∀b o,b≠d->b≠it->s.heap.get? b=some o->h'.get? b=some o)->h'.SetOf (strKind prog w) d (λk=>decide (k∈more.foldl aP σ)) (more.foldl aP σ).length->R (.ok (.ret .none)) {s with heap:=h',toks:=tk})->
   codeAny (model prog w) A (.builtin "set.update.loop" ⟨[.ref d,.ref it],[]⟩) R s:=by
 intro more
 induction more with
 |nil=>
  intro i s σ R hit hl hp hd hz hR
  have hx:items.toArray[i]?=none:=by
   have hn:items.drop i=[]:=by cases F':items.drop i with
    |nil=>rfl
    |cons x r=>rw[F'] at hp;cases hp
   have:=JX.mp hn;simp;lia
  refine Hq F.entry_set_update_loop ?_
  rw[He ID _]
  show wpAny _ A.in1 (pyNext (.ref it)>>=_) _ _ s
  refine FQ (IK (A:=A.in1) hh hit hl hx λh' eb=>?_)
  show wpAny _ A.in1 (ret Value.none) _ _ _
  refine Gm (hR h' s.toks (λb o h1 h2 e=>eb b o h2 e) ?_)
  obtain⟨o,es,ep,t,ho,r⟩:=hd
  exact⟨o,es,ep,t,eb d o NB ho,r⟩
 |cons x more ih=>
  intro i s σ R hit hl hp hd hz hR
  obtain⟨u,hx,⟨t,rfl⟩,KC⟩:∃u,items.toArray[i]?=some u/\(∃t,u=Value.str x t)/\StrsAre (items.drop (i+1)) more:=by
   cases F':items.drop i with
   |nil=>rw[F'] at hp;cases hp
   |cons u r=>
    rw[F'] at hp
    cases hp with
    |cons h1 h2=>
     refine⟨u,?_,h1,?_⟩
     .have z:=GY List.head? F'
      simpa using z
     .have z:=GY List.tail F'
      rw[List.tail_drop] at z
      rw[z];exact h2
  simp only[GR] at hz
  refine Hq F.entry_set_update_loop ?_
  rw[He ID _]
  show wpAny _ A.in1 (pyNext (.ref it)>>=_) _ _ s
  refine FQ (IF hit hl hx λh' hit' F_=>?_)
  have RB:h'.SetOf (strKind prog w) d (λk=>decide (k∈σ)) σ.length:=by
   obtain⟨o,es,ep,tb,ho,r⟩:=hd;exact⟨o,es,ep,tb,F_.extBut d o NB ho,r⟩
  refine FQ (Hs ?_)
  unfold setAdd
  refine Hs (FQ ((strKind prog w).pyHash (k:=x) (strKind_is _ _ _ _) ?_))
  refine wpAny_setAddHashed_of (knd:=strKind prog w) (s:={s with heap:=h',toks:=s.toks+1}) (strKind_is _ _ _ _) rfl RB (by unfold scanBound;lia) λKz u_ Sg=>?_
  have WJ:Kz.SetOf (strKind prog w) d (λk=>decide (k∈aP σ x)) (aP σ x).length:=by
   refine SetOf_congr Sg (λk=>?_) ?_
   .rw[GC];simp [vv]
   .unfold aP;by_cases h:x∈σ
    .rw[if_pos (by simpa using h),if_pos h]
    .rw[if_neg (by simpa using h),if_neg h,FE];rfl
  have kp:∀b o,b≠d->b≠it->s.heap.get? b=some o->Kz.get? b=some o:=λb o hb1 La e=>(u_.2 b hb1).trans (F_.extBut b o La e)
  have hle:=qW σ x
  refine Gm ⟨Ih ID _,?_⟩
  refine ih (i+1) _ (aP σ x) R ?_ ?_ KC WJ (by lia) (λh3 tk k3 d3=>hR h3 tk (λb o e1 e2 e=>k3 b o e1 e2 (kp b o e1 e2 e)) d3)
  .exact hit'.at λo e=>(u_.2 it (HX NB)).trans e
  .obtain⟨ol,q_,r⟩:=hl
   exact⟨ol,kp l ol Sb Sa q_,r⟩
end
section
variable {prog:Program} {w:World} {A:Around} {E:Value->Shared->Prop}
set_option maxHeartbeats 3200000 in
theorem jO {l:Addr}{items:List Value}{o:Obj}{n:Nat}{ss:List Str}{s:Shared}{Q:Value->Shared->Prop}(hh:A.handled=none)(ho:s.heap.get? l=some o)(hc:o.cls= .type "list")(I_:o.data= .seq items.toArray n)(hz:ss.length<1000)(hp:StrsAre items ss)
  (h:∀h' tk,h'.SetOf (strKind prog w) s.heap.objs.size (λk=>decide (k∈fv ss)) (fv ss).length->(∀b o,s.heap.get? b=some o->h'.get? b=some o)->Q (.ref s.heap.objs.size) {s with heap:=h',toks:=tk}):
  wpAny (model prog w) A (call (.type "set") [.ref l]) Q E s:=by
 obtain⟨c1,c2,c3⟩:=Ic.mro
 have c4:=Ic.made;have c5:=Ic.sub;have c6:=Ic.notType;have c7:=Ic.canCreate;have c8:=F.typeCall_set_1 (.ref l)
 refine wpAny_call (codeAny_of_tree (show wpAny _ _ (callAny (.type "set") _) _ _ _ from Gm ⟨Code.quiet_builtin _ (by decide+kernel),Hq F.entry_type_call ?_⟩))
 rw[Around.under_plain (weight_type_call_type "set" [Value.ref l] []) rfl]
 repeat(any_goals first|assumption|wp_step)
 refine Je (code_set_new_1 (E:=E) (.ref l) (Q₁:=λob st=>∃led:Bool,ob= .ref s.heap.objs.size/\st={s with heap:=s.heap.push {cls:= .type "set",dict:=none,data:= .set #[] 0 (.fresh 0 0 led)}}) λled=>⟨led,rfl,rfl⟩) λr1 G_ hr1=>?_
 match r1,hr1 with
 | .error _,hr1=>exact hr1
 | .ok .next,hr1=>exact hr1.elim
 | .ok .brk,hr1=>exact hr1.elim
 | .ok .cont,hr1=>exact hr1.elim
 | .ok (.ret ob),hr1=>
  obtain⟨led,rfl,rfl⟩:=hr1
  have Qx:(s.heap.push {cls:= .type "set",dict:=none,data:= .set #[] 0 (.fresh 0 0 led)}).get? s.heap.objs.size=some {cls:= .type "set",dict:=none,data:= .set #[] 0 (.fresh 0 0 led)}:=FW _ rfl
  have Lo:(s.heap.push {cls:= .type "set",dict:=none,data:= .set #[] 0 (.fresh 0 0 led)}).get? l=some o:=FG _ ho
  have Nz:l≠s.heap.objs.size:=FX (FN ho)
  generalize hP:s.heap.push {cls:= .type "set",dict:=none,data:= .set #[] 0 (.fresh 0 0 led)}=KC at Qx Lo
  have c9:Shared.TypeIs {s with heap:=KC} (.ref s.heap.objs.size) "set":=⟨_,Qx,rfl⟩
  have Zn:=Ic.init.lookup;have Zo:=Ic.init.bind (.ref s.heap.objs.size)
  repeat(any_goals first|assumption|wp_step)
  refine Je (codeAny_call_builtin (R:=wants (λr st=>r= .none/\∃h2 Sf,st={s with heap:=h2,toks:=Sf}/\h2.SetOf (strKind prog w) s.heap.objs.size (λk=>decide (k∈fv ss)) (fv ss).length/\(∀b o,s.heap.get? b=some o->h2.get? b=some o)) E) Ic.init.plain F.entry_set_init (check_set_init_1 c9 ?_)) λr2 m_ hr2=>?_
  .obtain⟨k1,k2,k3,k4⟩:=o
   dsimp only at hc I_
   subst hc I_
   have d1:=F.sub_list_set;have d2:=F.sub_list_frozenset;have d3:(Value.type "list"==Value.type "dict")=false:=by decide
   have Qy:KC.IsList l items.toArray:=⟨_,Lo,rfl,n,rfl⟩
   unfold Builtin.«set.__init__» noKeywords Builtin.Frozenset.updateFrom
   generalize WK:pyIter=PI
   wp_walk
   subst WK
   refine Ig Qy (FQ (wpAny_runValue ?_))
   have hsz:s.heap.objs.size<KC.objs.size:=FN Qx
   refine wC (l:=l) (items:=items) (A:=A.in1.in1) (by simpa using hh) (FX hsz) (FX (FN Lo)) Nz ss 0 _ [] _ ⟨_,FW _ rfl,rfl,rfl⟩ (Qy.push _) (by rw[List.drop_zero];exact hp) ?_ (by simpa using(show ss.length<2000 by lia)) λh3 tk3 k3' d3'=>?_
   .have hg:(KC.push {cls:= .type "list_iterator",data:= .fields #[.ref l,.int 0 0]}).get? s.heap.objs.size=some {cls:= .type "set",dict:=none,data:= .set #[] 0 (.fresh 0 0 led)}:=FG _ Qx
    exact SetOf_congr ((setObjOf_fresh (knd:=strKind prog w) led).setOf hg (by unfold scanBound;lia)) (λ_=>by simp) rfl
   .show wpAny _ _ _ _ _ _
    refine Gm (show wpAny _ _ (ret Value.none) _ _ _ from Gm ⟨rfl,h3,tk3,rfl,d3',λb ob e=>?_⟩)
    have e1:KC.get? b=some ob:=by rw[←hP];exact FG _ e
    exact k3' b ob (FX (FN e)) (FX (FN e1)) (FG _ e1)
  .match r2,hr2 with
   | .error _,hr2=>exact hr2
   | .ok .next,hr2=>exact hr2.elim
   | .ok .brk,hr2=>exact hr2.elim
   | .ok .cont,hr2=>exact hr2.elim
   | .ok (.ret r),hr2=>
    obtain⟨rfl,h2,Sf,rfl,Sg,WL⟩:=hr2
    repeat(any_goals first|assumption|wp_step)
    exact h _ _ Sg WL
end
def dn (a:Addr)(n:Nat)(h:Heap):Prop:=∃o es ep t,h.get? a=some o/\o.ExactSet/\o.data= .set es ep t/\t.fits es.size=true/\es.size=n
theorem rQ {P:Program}{w:World}{H:Hp}{h:Heap}{a:Addr}{n:Nat}(x:dn a n h):ObjOk P w H h a (.ext (dn a n)):=by
 obtain⟨o,es,ep,t,e,r⟩:=x;exact⟨⟨o,es,ep,t,e,r⟩,⟨o,e⟩,λh1 h2 ⟨o',Mu,Np,t',e',r'⟩ k=>⟨o',Mu,Np,t',k _ e',r'⟩⟩
theorem jU:∀{ss:List Str} {us:List Value},Vals (ss.map V.str) us->StrsAre us ss
 |[],_,.nil=> .nil
 |x::r,_,.cons h t=> .cons h (jU t)
section
variable {X:Cx}
def yP (K:Kd):List V->Hp->VK->Prop:=λxs H Q=>∃(p:Addr) (ss:List Str),xs=[.ref p]/\SqL K H p (ss.map V.str)/\ss.length<1000/\∀l,H l=none->Q (.ref l) (upd H l (.ext (dn l (fv ss).length)))
theorem tH (hc:X.calm=true):CallR X (.type "set") (yP X.K):=by
 intro pins s σ H xs us Q I r h;obtain⟨p,ss,rfl,hq,hz,q⟩:=h;obtain⟨u,rfl,ru⟩:=P0 r;cases ru;obtain⟨a_,rv,⟨o,n,e,c,hd,dt⟩,_⟩:=I.list hq;refine jO (I.ok.hd hc) e c dt hz (jU rv) λh' tk hS k=>?_;refine⟨.ref s.heap.objs.size,_,?_,rfl,q _ (I.hok.fresh (Fz _))⟩;obtain⟨o',es,ep,t,h1,h2,h3,_,_,_,h7,h8⟩:=hS;exact I.laid (a:=s.heap.objs.size) (t':=tk) k (Fz _) (rQ ⟨o',es,ep,t,h1,h2,h3,h7,h8⟩)
def yH (K:Kd):List V->Hp->VK->Prop:=λxs H Q=>pB K xs H Q\/∃p n,xs=[V.ref p]/\H p=some (.ext (dn p n))/\n<=1000/\Q (.int n) H
theorem call_lenS:CallR X (.builtin "len") (yH X.K):=by
 refine call_lenX.or ?_;intro pins s σ H xs us Q I r h;obtain⟨p,n,rfl,hp,hn,q⟩:=h;obtain⟨u,rfl,ru⟩:=P0 r;cases ru;obtain⟨o,es,ep,t,h1,h2,h3,h4,h5⟩:=(I.hok p _ hp).1;exact call_len_set h1 h2 h3 h4 (by lia) ⟨.int n,H,I.tok _,⟨_,by rw[h5]⟩,q⟩
theorem BX (K:Kd)(hc:X.calm=true)(h:X.K=K:=by rfl):CallR X (.type "set") (yP K):=h▸tH hc
end
open PySem.AutoSeq1 (wpAny_loadPart')
open PySem.MeetsSeq PySem.MeetsSeq2 PySem.MeetsSeq3
theorem oE:plainId "list.__eq__.loop"=true:=plain_eq_loop
section
variable {P:Program} {w:World}
theorem ng (l m:Addr)(xs ys:Array Value)(n1 n2:Nat)(d1 d2:Option Addr)(s1 s2:Array (Option Value))(hz:xs.size=ys.size)(f:Nat->Bool)(md:Int)(UK:md=2\/md=3):∀(k i:Nat),xs.size -i=k->
  MeetsIn P w (Builtin.«list.__eq__.loop» ⟨[.ref l,.ref m,rawInt i,rawInt md],[]⟩) (λA R s=>
   s.heap.get? l=some {cls:= .type "list",dict:=d1,data:= .seq xs n1,slots:=s1}/\s.heap.get? m=some {cls:= .type "list",dict:=d2,data:= .seq ys n2,slots:=s2}/\
   (∀j (g1:j<xs.size) (g2:j<ys.size),EqP P w A.in1 s xs[j] ys[j] (f j))/\
   R (.ok (.ret (.bool (if md=2 then((List.range xs.size).drop i).all f else !((List.range xs.size).drop i).all f)))) s):=by
 intro k
 induction k with
 |zero=>
  intro i hk
  intro A R s hyp
  obtain⟨hp,gg,dr,tk,os⟩:=s
  obtain⟨e1,e2,he,fin⟩:=hyp
  have x1:xs[((i:Nat):Int).toNat]?=none:=by simp;lia
  have x2:ys[((i:Nat):Int).toNat]?=none:=by simp;lia
  have x3:(List.range xs.size).drop i=[]:=by simp;lia
  rw[x3] at fin
  rcases UK with rfl|rfl
  .wp_walk using wpAny_loadPart' e1,wpAny_loadPart' e2
   rw[x1,x2]
   wp_walk using wpAny_loadPart' e1,wpAny_loadPart' e2
   show R (.ok (.ret (.bool (xs.size==ys.size)))) _
   rw[hz];simpa using fin
  .wp_walk using wpAny_loadPart' e1,wpAny_loadPart' e2
   rw[x1,x2]
   wp_walk using wpAny_loadPart' e1,wpAny_loadPart' e2
   show R (.ok (.ret (.bool (xs.size !=ys.size)))) _
   rw[hz];simpa using fin
 |succ k ih=>
  intro i hk
  intro A R s hyp
  have ih:=ih (i+1) (by lia)
  obtain⟨hp,gg,dr,tk,os⟩:=s
  obtain⟨e1,e2,he,fin⟩:=hyp
  have l1:i<xs.size:=by lia
  have l2:i<ys.size:=by lia
  have x1:xs[((i:Nat):Int).toNat]?=some xs[i]:=by simp [l1]
  have x2:ys[((i:Nat):Int).toNat]?=some ys[i]:=by simp [l2]
  have x3:(List.range xs.size).drop i=i::(List.range xs.size).drop (i+1):=by simp [Hc,l1]
  have x4:((i:Int)+1)=((i+1:Nat):Int):=by push_cast;rfl
  rw[x3,HL] at fin
  rcases UK with rfl|rfl
  .wp_walk using wpAny_loadPart' e1,wpAny_loadPart' e2
   rw[x1,x2]
   refine FQ (he i l1 l2 _ _ ?_)
   cases hf:f i with
   |true=>
    rw[hf] at fin
    wp_walk
    rw[x4]
    refine⟨Ih oE _,Hq Js ?_⟩
    rw[He oE _]
    exact ih A R _ ⟨e1,e2,he,by simpa using fin⟩
   |false=>
    rw[hf] at fin
    wp_walk using wpAny_loadPart' e1,wpAny_loadPart' e2
    rw[x1,x2]
    wp_walk
    simpa using fin
  .wp_walk using wpAny_loadPart' e1,wpAny_loadPart' e2
   rw[x1,x2]
   refine FQ (he i l1 l2 _ _ ?_)
   cases hf:f i with
   |true=>
    rw[hf] at fin
    wp_walk
    rw[x4]
    refine⟨Ih oE _,Hq Js ?_⟩
    rw[He oE _]
    exact ih A R _ ⟨e1,e2,he,by simpa using fin⟩
   |false=>
    rw[hf] at fin
    wp_walk using wpAny_loadPart' e1,wpAny_loadPart' e2
    rw[x1,x2]
    wp_walk
    simpa using fin
theorem zS (l m:Addr)(xs ys:Array Value)(n1 n2:Nat)(d1 d2:Option Addr)(s1 s2:Array (Option Value))(hz:xs.size=ys.size)(f:Nat->Bool):
  MeetsIn P w (Builtin.«list.__eq__» ⟨[.ref l,.ref m],[]⟩) (λA R s=>
   s.heap.get? l=some {cls:= .type "list",dict:=d1,data:= .seq xs n1,slots:=s1}/\s.heap.get? m=some {cls:= .type "list",dict:=d2,data:= .seq ys n2,slots:=s2}/\
   (∀j (g1:j<xs.size) (g2:j<ys.size),EqP P w A.in1 s xs[j] ys[j] (f j))/\R (.ok (.ret (.bool ((List.range xs.size).all f)))) s):=by
 intro A R s hyp
 obtain⟨hp,gg,dr,tk,os⟩:=s
 obtain⟨e1,e2,he,fin⟩:=hyp
 have q1:=IH;have q2:¬(xs.size !=ys.size)=true:=by simp [hz]
 wp_walk using wpAny_loadPart' e1,wpAny_loadPart' e2
 refine⟨Ih oE _,Hq Js ?_⟩
 rw[He oE _]
 exact ng l m xs ys n1 n2 d1 d2 s1 s2 hz f 2 (.inl rfl) _ 0 rfl A R _ ⟨e1,e2,he,by simpa using fin⟩
theorem zp (l m:Addr)(xs ys:Array Value)(n1 n2:Nat)(d1 d2:Option Addr)(s1 s2:Array (Option Value))(hz:xs.size=ys.size)(f:Nat->Bool):
  MeetsIn P w (Builtin.«list.__ne__» ⟨[.ref l,.ref m],[]⟩) (λA R s=>
   s.heap.get? l=some {cls:= .type "list",dict:=d1,data:= .seq xs n1,slots:=s1}/\s.heap.get? m=some {cls:= .type "list",dict:=d2,data:= .seq ys n2,slots:=s2}/\
   (∀j (g1:j<xs.size) (g2:j<ys.size),EqP P w A.in1 s xs[j] ys[j] (f j))/\R (.ok (.ret (.bool (!(List.range xs.size).all f)))) s):=by
 intro A R s hyp
 obtain⟨hp,gg,dr,tk,os⟩:=s
 obtain⟨e1,e2,he,fin⟩:=hyp
 have q1:=IH;have q2:¬(xs.size !=ys.size)=true:=by simp [hz]
 wp_walk using wpAny_loadPart' e1,wpAny_loadPart' e2
 refine⟨Ih oE _,Hq Js ?_⟩
 rw[He oE _]
 exact ng l m xs ys n1 n2 d1 d2 s1 s2 hz f 3 (.inr rfl) _ 0 rfl A R _ ⟨e1,e2,he,by simpa using fin⟩
theorem RcP.lst {A:Around}{s:Shared}{l m:Addr}{xs ys:Array Value}{f:Nat->Bool}(hl:s.heap.IsList l xs)(hm:s.heap.IsList m ys)(hz:xs.size=ys.size)(hu:A.units<cLine)
  (he:∀j (g1:j<xs.size) (g2:j<ys.size),EqP P w A.in1 s xs[j] ys[j] (f j)):RcP P w A s (.ref l) (.ref m) ((List.range xs.size).all f):=λE Q q=>by
 obtain⟨⟨c1,d1,a1,s1⟩,o1,k1,n1,t1⟩:=id hl
 obtain⟨⟨c2,d2,a2,s2⟩,o2,k2,n2,t2⟩:=id hm
 simp only at k1 t1 k2 t2
 subst k1 t1 k2 t2
 refine Hl (op:= .Eq) ⟨_,o1,rfl⟩ ⟨_,o2,rfl⟩ JY (Ho JY ⟨_,o1,rfl⟩ PySem.F.entry_list_eq (PySem.F.args_list_eq_2 _ _) (zS l m xs ys n1 n2 d1 d2 s1 s2 hz f) ⟨o1,o2,he,?_⟩) hu
 exact⟨(λz=>nomatch z),q⟩
theorem NcP.lst {A:Around}{s:Shared}{l m:Addr}{xs ys:Array Value}{f:Nat->Bool}(hl:s.heap.IsList l xs)(hm:s.heap.IsList m ys)(hz:xs.size=ys.size)(hu:A.units<cLine)
  (he:∀j (g1:j<xs.size) (g2:j<ys.size),EqP P w A.in1 s xs[j] ys[j] (f j)):NcP P w A s (.ref l) (.ref m) (!(List.range xs.size).all f):=λE Q q=>by
 obtain⟨⟨c1,d1,a1,s1⟩,o1,k1,n1,t1⟩:=id hl
 obtain⟨⟨c2,d2,a2,s2⟩,o2,k2,n2,t2⟩:=id hm
 simp only at k1 t1 k2 t2
 subst k1 t1 k2 t2
 refine Hl (op:= .NotEq) ⟨_,o1,rfl⟩ ⟨_,o2,rfl⟩ Il (Ho Il ⟨_,o1,rfl⟩ JP (JG _ _) (zp l m xs ys n1 n2 d1 d2 s1 s2 hz f) ⟨o1,o2,he,?_⟩) hu
 exact⟨(λz=>nomatch z),q⟩
end
def EqN (K:Kd)(H:Hp):Nat->V->V->Bool->Prop
 |0,x,y,b=>Eq1 K H x y b\/∃a c,x= .ref a/\y= .ref c/\EqD K H a c b
 |n+1,x,y,b=>EqN K H n x y b\/∃(a c:Addr) (xs ys:List V) (bs:List Bool),x= .ref a/\y= .ref c/\a≠c/\((SqT K H a xs/\SqT K H c ys)\/(SqL K H a xs/\SqL K H c ys))/\xs.length=ys.length/\bs.length=xs.length/\
   (∀(j:Nat) (x' y':V) (b':Bool),xs[j]?=some x'->ys[j]?=some y'->bs[j]?=some b'->EqN K H n x' y' b')/\b=bs.all id
theorem K2:∀(bs:List Bool),(List.range bs.length).all (λj=>bs.getD j true)=bs.all id
 |[]=>rfl
 |b::r=>by
  rw[GR,IG,HL,HC];show(b&&(List.range r.length).all λj=>r.getD j true)=(b&&r.all id);rw[K2 r]
section
variable {X:Cx} {pins:List (Addr×Obj)} {σ:St} {H:Hp} {s:Shared}
theorem eT {n:Nat}{xs ys:List V}{bs:List Bool}{us vs:List Value}{A:Around}(r1:Vals xs us)(r2:Vals ys vs)(hl:xs.length=ys.length)(hb:bs.length=xs.length)
  (he:∀(j:Nat) (x' y':V) (b':Bool),xs[j]?=some x'->ys[j]?=some y'->bs[j]?=some b'->EqN X.K H n x' y' b')
  (at_:∀{x y:V} {u v:Value} {b:Bool},EqN X.K H n x y b->RelV x u->RelV y v->EqP X.prog X.w A.in1 s u v b):
  ∀j (g1:j<us.toArray.size) (g2:j<vs.toArray.size),EqP X.prog X.w A.in1 s us.toArray[j] vs.toArray[j] (bs.getD j true):=λj g1 g2=>by
 have l1:=r1.length
 have l2:=r2.length
 have MH:j<us.length:=by simpa using g1
 have MI:j<vs.length:=by simpa using g2
 have x1:xs[j]?=some (xs[j]'(by lia)):=Fw _
 have y1:ys[j]?=some (ys[j]'(by lia)):=Fw _
 have b1:bs[j]?=some (bs[j]'(by lia)):=Fw _
 obtain⟨u1,MJ,MK⟩:=r1.get x1
 obtain⟨u2,Ln,MM⟩:=r2.get y1
 have e1:us.toArray[j]=u1:=by
  have:=Fw MH;rw[MJ] at this;simpa using(Ga this).symm
 have e2:vs.toArray[j]=u2:=by
  have:=Fw MI;rw[Ln] at this;simpa using(Ga this).symm
 rw[e1,e2,Gf,b1]
 exact at_ (he j _ _ _ x1 y1 b1) MK MM
theorem EqN.at_ (I:Inv X pins σ H s):∀{n:Nat} {A:Around} {x y:V} {u v:Value} {b:Bool},EqN X.K H n x y b->RelV x u->RelV y v->A.units+32+n<cLine->EqP X.prog X.w A s u v b:=by
 intro n;induction n with
 |zero=>
  intro A x y u v b h rx ry hu
  rcases h with h|⟨a,c,rfl,rfl,h⟩
  .exact .of (h.at_ I rx ry (by lia))
  .cases rx
   cases ry
   exact h.at_ I (by lia)
 |succ n ih=>
  intro A x y u v b h rx ry hu
  rcases h with h|⟨a,c,xs,ys,bs,rfl,rfl,l_,hh,hl,hb,he,rfl⟩
  .exact ih h rx ry (by lia)
  .cases rx
   cases ry
   have n_:A.in1.units=A.units+1:=rfl
   rcases hh with⟨h1,h2⟩|⟨h1,h2⟩
   .obtain⟨us,r1,p1,z1⟩:=I.tuple h1
    obtain⟨vs,r2,p2,z2⟩:=I.tuple h2
    have l1:=r1.length
    have l2:=r2.length
    have q:=RcP.tup (P:=X.prog) (w:=X.w) (A:=A) (f:=λj=>bs.getD j true) (show s.heap.IsTuple a us.toArray from p1) (show s.heap.IsTuple c vs.toArray from p2) (by lia) (eT r1 r2 hl hb he λz q1 q2=>ih z q1 q2 (by lia))
    have e3:min us.toArray.size vs.toArray.size=bs.length:=by simp;lia
    have e4:(us.toArray.size==vs.toArray.size)=true:=by simp;lia
    rw[e3,e4,K2,IV] at q
    exact .refs l_ q
   .obtain⟨us,r1,p1,z1⟩:=I.list h1
    obtain⟨vs,r2,p2,z2⟩:=I.list h2
    have l1:=r1.length
    have l2:=r2.length
    have q:=RcP.lst (P:=X.prog) (w:=X.w) (A:=A) (f:=λj=>bs.getD j true) p1.isList p2.isList (by simp;lia) (by lia) (eT r1 r2 hl hb he λz q1 q2=>ih z q1 q2 (by lia))
    have e3:us.toArray.size=bs.length:=by simp;lia
    rw[e3,K2] at q
    exact .refs l_ q
end
def Eo (K:Kd)(H:Hp)(x y:V)(bs:List Bool):Prop:=∃(a c:Addr) (xs ys:List V),x= .ref a/\y= .ref c/\((SqT K H a xs/\SqT K H c ys)\/(SqL K H a xs/\SqL K H c ys))/\xs.length=ys.length/\bs.length=xs.length/\
 ∀(j:Nat) (x' y':V) (b':Bool),xs[j]?=some x'->ys[j]?=some y'->bs[j]?=some b'->EqN K H 8 x' y' b'
section
variable {X:Cx}
def CV (K:Kd):R2:=λx y H Q=>∃bs,Eo K H x y bs/\Q (.bl (bs.all id)) H
def BD (K:Kd):R2:=λx y H Q=>∃bs,Eo K H x y bs/\Q (.bl (!bs.all id)) H
theorem yZ (hu:X.A.units+64<cLine):OpR X (compareOp .Eq) (CV X.K):=by
 intro pins s σ H x y v u Q I rx ry h;obtain⟨bs,⟨a,c,xs,ys,rfl,rfl,hh,hl,hb,he⟩,k⟩:=h;cases rx;cases ry;have n_:X.A.in1.units=X.A.units+1:=rfl;rcases hh with⟨h1,h2⟩|⟨h1,h2⟩
 .obtain⟨us,r1,p1,z1⟩:=I.tuple h1;obtain⟨vs,r2,p2,z2⟩:=I.tuple h2;have l1:=r1.length;have l2:=r2.length;have q:=RcP.tup (P:=X.prog) (w:=X.w) (A:=X.A) (f:=λj=>bs.getD j true) (show s.heap.IsTuple a us.toArray from p1) (show s.heap.IsTuple c vs.toArray from p2) (by lia) (eT r1 r2 hl hb he λz q1 q2=>EqN.at_ I z q1 q2 (by lia));have e3:min us.toArray.size vs.toArray.size=bs.length:=by simp;lia
  have e4:(us.toArray.size==vs.toArray.size)=true:=by simp;lia
  rw[e3,e4,K2,IV] at q;exact q _ _ ⟨.bl _,H,I,rfl,k⟩
 .obtain⟨us,r1,p1,z1⟩:=I.list h1;obtain⟨vs,r2,p2,z2⟩:=I.list h2;have l1:=r1.length;have l2:=r2.length;have q:=RcP.lst (P:=X.prog) (w:=X.w) (A:=X.A) (f:=λj=>bs.getD j true) p1.isList p2.isList (by simp;lia) (by lia) (eT r1 r2 hl hb he λz q1 q2=>EqN.at_ I z q1 q2 (by lia));have e3:us.toArray.size=bs.length:=by simp;lia
  rw[e3,K2] at q;exact q _ _ ⟨.bl _,H,I,rfl,k⟩
theorem zf (hu:X.A.units+64<cLine):OpR X (compareOp .NotEq) (BD X.K):=by
 intro pins s σ H x y v u Q I rx ry h;obtain⟨bs,⟨a,c,xs,ys,rfl,rfl,hh,hl,hb,he⟩,k⟩:=h;cases rx;cases ry;have n_:X.A.in1.units=X.A.units+1:=rfl;rcases hh with⟨h1,h2⟩|⟨h1,h2⟩
 .obtain⟨us,r1,p1,z1⟩:=I.tuple h1;obtain⟨vs,r2,p2,z2⟩:=I.tuple h2;have l1:=r1.length;have l2:=r2.length;have q:=NcP.tup (P:=X.prog) (w:=X.w) (A:=X.A) (f:=λj=>bs.getD j true) (show s.heap.IsTuple a us.toArray from p1) (show s.heap.IsTuple c vs.toArray from p2) (by lia) (eT r1 r2 hl hb he λz q1 q2=>EqN.at_ I z q1 q2 (by lia));have e3:min us.toArray.size vs.toArray.size=bs.length:=by simp;lia
  have e4:(us.toArray.size==vs.toArray.size)=true:=by simp;lia
  rw[e3,e4,K2,IV] at q;exact q _ _ ⟨.bl _,H,I,rfl,k⟩
 .obtain⟨us,r1,p1,z1⟩:=I.list h1;obtain⟨vs,r2,p2,z2⟩:=I.list h2;have l1:=r1.length;have l2:=r2.length;have q:=NcP.lst (P:=X.prog) (w:=X.w) (A:=X.A) (f:=λj=>bs.getD j true) p1.isList p2.isList (by simp;lia) (by lia) (eT r1 r2 hl hb he λz q1 q2=>EqN.at_ I z q1 q2 (by lia));have e3:us.toArray.size=bs.length:=by simp;lia
  rw[e3,K2] at q;exact q _ _ ⟨.bl _,H,I,rfl,k⟩
def rn (K:Kd):R2:=λx y H Q=>xv K x y H Q\/BD K x y H Q
theorem aX (K:Kd){k:Nat}(hr:Room k X.A)(h:X.K=K:=by rfl):OpR X (compareOp .NotEq) (rn K):=(Ef K hr h).or (h▸zf hr.units)
def ki (K:Kd):R2:=λx y H Q=>zm K x y H Q\/CV K x y H Q
theorem ah (K:Kd){k:Nat}(hr:Room k X.A)(h:X.K=K:=by rfl):OpR X (compareOp .Eq) (ki K):=(DJ K hr h).or (h▸yZ hr.units)
end
def oS (v d:Addr)(h:Heap):Prop:=h.IsValuesView v d
theorem yi {P:Program}{w:World}{H:Hp}{h:Heap}{v d:Addr}(x:oS v d h):ObjOk P w H h v (.ext (oS v d)):=by
 obtain⟨o,e,r⟩:=x;exact⟨⟨o,e,r⟩,⟨o,e⟩,λh1 h2 ⟨o',e',r'⟩ k=>⟨o',k _ e',r'⟩⟩
section
variable {X:Cx}
def xZ:V->List V->Hp->VK->Prop:=λx vs H Q=>∃d kvs,x= .ref d/\vs=[]/\Rd H d (.dK kvs)/\∀v,H v=none->Q (.ref v) (upd H v (.ext (oS v d)))
theorem aM:xW X "dict.values" xZ:=by
 intro pins s σ H x vs v us Q I rx rv h;obtain⟨d,kvs,rfl,rfl,hd,q⟩:=h;cases rx;have Mj:=rv.zero;subst Mj;obtain⟨z,hs,ws,rel,dd⟩:=R0 I.hok hd;refine Ho Iw dd.typeIs PySem.F.entry_dict_values (PySem.F.args_dict_values_1 _) (meets_dict_values (l0 X.prog X.w) d hs) ⟨⟨ws,dd⟩,?_⟩;refine⟨.ref s.heap.objs.size,_,?_,rfl,q _ (I.hok.fresh (Fz _))⟩;exact I.laid (a:=s.heap.objs.size) (t':=s.toks) (λb u e=>FG _ e) (Fz _) (yi ⟨_,FW _ rfl,rfl,rfl⟩)
def qz (K:Kd):List V->Hp->VK->Prop:=λxs H Q=>yN K xs H Q\/∃(v d:Addr) (kvs:List (j4×V)),xs=[.ref v]/\H v=some (.ext (oS v d))/\Rd H d (.dK kvs)/\∀l,H l=none->Q (.ref l) (upd H l (.lst (kvs.map (·.2))))
theorem pD (hc:X.calm=true):CallR X (.type "list") (qz X.K):=by
 refine(qd hc).or ?_;intro pins s σ H xs us Q I r h;obtain⟨v,d,kvs,rfl,hv,hx,q⟩:=h;obtain⟨u,rfl,ru⟩:=P0 r;cases ru;have WN:oS v d s.heap:=(I.hok v _ hv).1;obtain⟨hd,o,vs,ep,ho,D⟩:=dI I.hok hx;have Qw:=KV.length D.kv;have hz:kvs.length<=sizeLine:=(R0 I.hok hx).1;refine PySem.W.kdl_call (PySem.W.kdl_values (knd:=l0 X.prog X.w) (kvs:=vs) (ep:=ep)) (I.ok.hd hc) ⟨WN,D.at_ _ ho⟩ (by lia) λh' tk acc c hkp hS t_=>?_;refine⟨.ref s.heap.objs.size,_,I.newL (tk:=tk) hkp (Fz _) hS (X3 (by have:=t_.1;simp;lia) λi x u e1 e2=>?_) (by rw[Fv];exact hz),rfl,q _ (I.hok.fresh (Fz _))⟩;obtain⟨k,hy⟩:=t_.2 i u (by rw[←IP];exact e2);rw[FD] at e1;obtain⟨kv,e4,rfl⟩:=Gj.mp e1;obtain⟨q1,Nc,q2,q3⟩:=aJ (show Paired _ kvs vs from D.kv) e4;rw[hy] at Nc;cases Nc;exact q3
theorem vc (K:Kd)(hc:X.calm=true)(h:X.K=K:=by rfl):CallR X (.type "list") (qz K):=h▸pD hc
end
section
variable {K:Kd} {H:Hp} {Q:VK}
theorem gr {v d:Addr}{kvs:List (j4×V)}(hv:H v=some (.ext (oS v d)))(hd:Rd H d (.dK kvs))(q:∀l,H l=none->Q (.ref l) (upd H l (.lst (kvs.map (·.2))))):qz K [.ref v] H Q:= .inr ⟨v,d,kvs,rfl,hv,hd,q⟩
end
section
variable {prog:Program} {w:World} {A:Around} {E:Value->Shared->Prop}
end
section
variable {X:Cx}
end
section
variable {prog:Program} {w:World} {A:Around} {E:Value->Shared->Prop} {s:Shared}
theorem tp {Q:Int->Shared->Prop}(h:Q 0xFCA86420 {s with toks:=s.toks+1}):wpAny (model prog w) A (pyHash .none) Q E s:=by
 have hT:s.TypeIs Value.none "NoneType":=rfl;unfold pyHash pyHashByItsType;refine FQ ?_;rw[cRoomFor,if_neg (show ¬([Value.none].any Value.onHeap)=true by decide)];refine Gm (FQ (wpAny_specialOf hT Hz.lookup ?_));refine(show wpAny _ _ (if(some (Value.builtin "NoneType.__hash__")==some Value.none)=true then _ else _) Q E s from ?_);rw[if_neg (by decide)];refine FQ (wpAny_specialOf hT Hz.lookup ?_);refine(show wpAny _ _ (callSpecialIfBoundUnlessNone? Value.none "__hash__" _>>=_) Q E s from ?_);refine FQ (wpAny_callSpecialIfBoundUnlessNone?_slot hT Hz (Ju Hz hT PySem.F.entry_NoneType_hash (show wpAny _ _ (do ret (←mkInt 0xFCA86420)) _ _ s from wpAny_ret_mkInt ?_) (PySem.F.args_NoneType_hash_1 _)));refine(show wpAny _ _ (if(decide (-(2:Int) ^ 63<=0xFCA86420)&&decide ((0xFCA86420:Int)<2 ^ 63))=true then _ else _) Q E _ from ?_);rw[if_pos (by decide)];exact Gm h
end
abbrev jG:=Option j4
def EG:jG->Value->Bool
 |none,.none=>true
 |none,_=>false
 |some k,v=>cI k v
theorem P9:∀{k:jG} {v:Value},EG k v=true->(k=none/\v=Value.none)\/(∃i t,k=some (Sum.inl i)/\v=Value.int i t)\/(∃x t,k=some (Sum.inr x)/\v=Value.str x t)
 |none,v,h=>by cases v<;>first|exact .inl ⟨rfl,rfl⟩|cases h
 |some k,v,h=>by
  rcases B6 (show cI k v=true from h) with⟨i,t,rfl,rfl⟩|⟨x,t,rfl,rfl⟩
  .exact .inr (.inl ⟨i,t,rfl,rfl⟩)
  .exact .inr (.inr ⟨x,t,rfl,rfl⟩)
def CH (w:World):jG->Int
 |none=>0xFCA86420
 |some k=>BB w k
def dH (prog:Program)(w:World):PySem.KeyKind prog w jG where
 is:=EG
 hash:=CH w
 inj:=λv a b ha hb=>by
  rcases P9 ha with⟨rfl,rfl⟩|⟨i,t,rfl,rfl⟩|⟨x,t,rfl,rfl⟩<;>rcases P9 hb with⟨rfl,e⟩|⟨j,u,rfl,e⟩|⟨y,u,rfl,e⟩<;>first|rfl|(cases e<;>rfl)
 byValue:=λk v h=>by
  rcases P9 h with⟨rfl,rfl⟩|⟨i,t,rfl,rfl⟩|⟨x,t,rfl,rfl⟩<;>rfl
 pyHash:=λhv h=>by
  rcases P9 hv with⟨rfl,rfl⟩|⟨i,t,rfl,rfl⟩|⟨x,t,rfl,rfl⟩
  .exact tp h
  .exact wpAny_pyHash_int h
  .exact wpAny_pyHash_str h
 eqBool:=fun{A E s a b u v Q} hu hv h=>by
  have dk:∀{k k':j4},decide ((some k:jG)=some k')=decide (k=k'):=fun{k k'}=>by
   by_cases e:k=k'
   .subst e;simp
   .rw[Ge e,Ge λz=>e (Ga z)]
  rcases P9 hu with⟨rfl,rfl⟩|⟨i,t,rfl,rfl⟩|⟨x,t,rfl,rfl⟩<;>rcases P9 hv with⟨rfl,rfl⟩|⟨j,t',rfl,rfl⟩|⟨y,t',rfl,rfl⟩
  .exact IW _ _ _ _ _ (by simpa using h)
  .exact SeqAt.EqAt.none_int j t' _ _ _ _ (by simpa using h)
  .exact SeqAt.EqAt.none_str y t' _ _ _ _ (by simpa using h)
  .exact SeqAt.EqAt.int_none i t _ _ _ _ (by simpa using h)
  .rw[dk,wW] at h;exact wpAny_eqBool_int h
  .rw[dk,vY] at h;exact Jb i t y t' _ _ _ _ h
  .exact SeqAt.EqAt.str_none x t _ _ _ _ (by simpa using h)
  .rw[dk,vI] at h;exact Jc x t j t' _ _ _ _ h
  .rw[dk,wU] at h;exact wpAny_eqBool_str h
 «strs»:=λk x t v h=>by
  rcases P9 h with⟨rfl,e⟩|⟨i,u,rfl,e⟩|⟨y,u,rfl,e⟩
  .exact nomatch e
  .exact nomatch e
  .injection e with e1 _
   subst e1;cases v<;>rfl
def aA (P:Program)(w:World)(a:Addr)(n:Nat)(h:Heap):Prop:=(a==sysModules)=false/\∃vs,h.DictOf (dH P w) a vs/\vs.length=n
theorem qr {P P':Program}{w w':World}{H:Hp}{h:Heap}{a:Addr}{n:Nat}(x:aA P w a n h):ObjOk P' w' H h a (.ext (aA P w a n)):=by
 obtain⟨hs,vs,⟨o,es,ep,e,r⟩,hl⟩:=x;exact⟨⟨hs,vs,⟨o,es,ep,e,r⟩,hl⟩,⟨o,e⟩,λh1 h2 ⟨F_,vs',⟨o',Mu,Np,e',r'⟩,Mv⟩ k=>⟨F_,vs',⟨o',Mu,Np,k _ e',r'⟩,Mv⟩⟩
theorem iz {P:Program}{w:World}:∀{es:List DictEntry} {vs:List (j4×Value)},Pairs (l0 P w) es vs->Pairs (dH P w) es (vs.map λx=>(some x.1,x.2))
 |_,_,.nil=> .nil
 |_,_,.cons h e t=> .cons h e (iz t)
theorem yx {P:Program}{w:World}{h:Heap}{a:Addr}{vs:List (j4×Value)}(dd:h.DictOf (l0 P w) a vs):h.DictOf (dH P w) a (vs.map λx=>(some x.1,x.2)):=by
 obtain⟨o,es,ep,h1,h2,h3,h4,h5,h6⟩:=dd;refine⟨o,es,ep,h1,h2,h3,λe he=>?_,iz h5,?_⟩
 .obtain⟨k,q1,q2⟩:=h4 e he;exact⟨some k,q1,q2⟩
 .rw[Gg];have e:((λx:jG×Value=>x.1)∘λx:j4×Value=>((some x.1:jG),x.2))=(λk:j4=>(some k:jG))∘λx:j4×Value=>x.1:=rfl;rw[e,←Gg];exact Ii _ (λa b h z=>h (Ga z)) h6
theorem pJ {vs:List (j4×Value)}{v:Value}:stored (vs.map λx=>((some x.1:jG),x.2)) none v=(vs.map λx=>((some x.1:jG),x.2))++[(none,v)]:=by
 unfold stored;rw[if_neg];intro z;obtain⟨x,hx,e⟩:=Hg.mp z;obtain⟨y,_,rfl⟩:=Fx.mp hx;cases Hu e
section
variable {X:Cx}
def rm (P:Program)(w:World):pY:=λo i v H Q=>rJ o i v H Q\/∃a kvs,o= .ref a/\i= .non/\H a=some (.dK kvs)/\kvs.length<1000/\Q (upd H a (.ext (aA P w a (kvs.length+1))))
theorem wu (hu:X.A.units+1<cLine):tI X (rm X.prog X.w):=by
 intro pins s σ H o i v ov iv u Q I ro ri rv h;rcases h with h|⟨a,kvs,rfl,rfl,hA,hl,q⟩
 .exact xK hu pins s σ H o i v ov iv u Q I ro ri rv h
 .cases ro;cases ri;obtain⟨z,hd,vs,rel,dd⟩:=rD I.hok hA;have Qw:=rel.length;refine wpAny_setItem_pairs (knd:=dH X.prog X.w) (k:=none) (hsz:=by rw[Fv];lia) rfl (yx dd) λh' dd' hs=>?_;rw[pJ] at dd';have he:∃q,h'.get? a=some q:=let ⟨q,_,_,hq,_⟩:=dd';⟨q,hq⟩
  exact⟨_,eh I (by rw[hA];exact True.intro) hs he (qr ⟨hd,_,dd',by rw[FE,Fv,Qw];rfl⟩),q⟩
def jY (K:Kd)(P:Program)(w:World):List V->Hp->VK->Prop:=λxs H Q=>yH K xs H Q\/∃p n,xs=[V.ref p]/\H p=some (.ext (aA P w p n))/\n<=1000/\Q (.int n) H
theorem tU:CallR X (.builtin "len") (jY X.K X.prog X.w):=by
 refine call_lenS.or ?_;intro pins s σ H xs us Q I r h;obtain⟨p,n,rfl,hp,hn,q⟩:=h;obtain⟨u,rfl,ru⟩:=P0 r;cases ru;obtain⟨hs,vs,dd,hl⟩:=(I.hok p _ hp).1;refine call_len_dict hs dd (by lia) ?_;rw[hl];exact⟨.int n,H,I.tok _,⟨_,rfl⟩,q⟩
theorem Cd (K:Kd)(h:X.K=K:=by rfl):CallR X (.builtin "len") (jY K X.prog X.w):=h▸tU
def qL (K:Kd)(P:Program)(w:World):List V->Hp->VK->Prop:=λxs H Q=>xE K xs H Q\/∃p n T,xs=[V.ref p,.ty T]/\H p=some (.ext (aA P w p n))/\(T="str"\/T="int"\/T="bool"\/T="list"\/T="tuple"\/T="dict")/\Q (.bl (dY "dict" T)) H
theorem rV:CallR X (.builtin "isinstance") (qL X.K X.prog X.w):=by
 refine call_isi.or ?_;intro pins s σ H xs us Q I r h;obtain⟨p,n,T,rfl,hp,hT,q⟩:=h;obtain⟨u,c,rfl,rx,rc⟩:=fY r;cases rx;cases rc;obtain⟨hs,vs,⟨o,es,ep,h1,h2,r⟩,hl⟩:=(I.hok p _ hp).1;exact Hw Kw I.kIn ⟨o,h1,h2.1⟩ (X1 (by simp) hT) (λz=>nomatch z) λtk=>⟨.bl _,H,I.tok tk,rfl,q⟩
theorem CL (K:Kd)(h:X.K=K:=by rfl):CallR X (.builtin "isinstance") (qL K X.prog X.w):=h▸rV
end
section
variable {K:Kd} {P:Program} {w:World} {H:Hp} {Q:VK}
theorem B7 {xs:List V}(h:pB K xs H Q):jY K P w xs H Q:= .inl (.inl h)
theorem kr {p:Addr}{n:Nat}(h:H p=some (.ext (dn p n)))(hn:n<=1000)(q:Q (.int n) H):jY K P w [.ref p] H Q:= .inl (.inr ⟨p,n,rfl,h,hn,q⟩)
theorem ui {p:Addr}{n:Nat}(h:H p=some (.ext (aA P w p n)))(hn:n<=1000)(q:Q (.int n) H):jY K P w [.ref p] H Q:= .inr ⟨p,n,rfl,h,hn,q⟩
theorem bO {xs:List V}(h:xE K xs H Q):qL K P w xs H Q:= .inl h
theorem O4 {o i v:V}{Qh:Hp->Prop}(h:rJ o i v H Qh):rm P w o i v H Qh:= .inl h
theorem jP {x y:V}(h:ji K x y H Q):ki K x y H Q:= .inl (Ek h)
theorem vX {i j:Int}(q:Q (.bl (decide (i=j))) H):ki K (.int i) (.int j) H Q:=jP (uZ q)
theorem iX {i j:Str}(q:Q (.bl (decide (i=j))) H):ki K (.str i) (.str j) H Q:=jP (wc q)
theorem Al {x y:V}(h:tN K x y H Q):rn K x y H Q:= .inl (Ey h)
theorem wZ {i j:Int}(q:Q (.bl (!decide (i=j))) H):rn K (.int i) (.int j) H Q:= .inl (wV q)
end
theorem dC {X:Cx}(K:Kd)(P:Program)(w:World)(h:X.K=K:=by rfl)(hp:X.prog=P:=by rfl)(hw:X.w=w:=by rfl):CallR X (.builtin "isinstance") (qL K P w):=by subst hp hw;exact CL K h
theorem B8 {X:Cx}(K:Kd)(P:Program)(w:World)(h:X.K=K:=by rfl)(hp:X.prog=P:=by rfl)(hw:X.w=w:=by rfl):CallR X (.builtin "len") (jY K P w):=by subst hp hw;exact Cd K h
theorem z9 {X:Cx}(P:Program)(w:World)(hu:X.A.units+1<cLine)(hp:X.prog=P:=by rfl)(hw:X.w=w:=by rfl):tI X (rm P w):=by subst hp hw;exact wu hu
section
variable {X:Cx} {a b:Expr} {ta:TA} {x y:Str} {pos:Pos}
end
section
variable {σ:St} {H:Hp} {nx:St->Hp->Prop} {rt:VK} {bk ct:St->Hp->Prop} {ta:TA}
end
section
variable {P:Program} {w:World}
theorem tB {K:Kd}{tg:Expr}{d:Addr}{o:Obj}{kvs:List (j4×V)}{vs:List (j4×Value)}{ep:Nat}(D:vn P w d o kvs vs ep)(it:Addr):
  fi P w K tg (DD d o kvs λkv=>kv.2) [it] it (λi h=>h.IsValIter it d i vs.length ep) where
 mem:=by simp
 obj:=λi h st b hb=>by
  have e:b=it:=by simpa using hb
  subst e;obtain⟨o,e,c,dd⟩:=st;exact⟨o,e,λv z=>by rw[dd] at z;cases z⟩
 keep:=λi h h' st k=>let ⟨o,e,r⟩:=st;⟨o,k it (by simp) o e,r⟩
 item:=by
  intro X hP hw hK hc i pins s σ H E I hf st hg;subst hP hw hK;obtain⟨LJ,hi⟩:=hg;obtain⟨f0,f1,f2,f3,f4,f5⟩:=hf it (by simp);have dat:=D.at_ s.heap (I.hok d _ LJ).1;have hl:=KV.length D.kv;obtain⟨kv,d_⟩:∃kv,kvs[i]?=some kv:=⟨kvs[i],by simp [hi]⟩
  obtain⟨⟨k,x⟩,hx⟩:∃p,vs[i]?=some p:=⟨vs[i]'(by lia),by simp [show i<vs.length by lia]⟩
  obtain⟨M_,rx⟩:kv.1=k/\RelV kv.2 x:=by
   have q:=aJ D.kv d_;obtain⟨p,hp,r⟩:=q;rw[hx] at hp;cases hp;exact r
  refine wpAny_pyNext_values_item st dat hx λh' A_ F_=>?_;have I1:Inv X pins σ H {s with heap:=h'}:=I.turned (t':=s.toks) (λb o hb e=>F_.extBut b o hb e) f0 f1 f3 f4 f5;obtain⟨oo,e,c,dd⟩:=id A_;exact⟨x,rfl,oG (s:={s with heap:=h'}) e c dd (by decide) ⟨kv.2,H,I1,rx,⟨rfl,kv,d_,rfl⟩,A_,λb hb=>(hf b hb).1⟩⟩
 done:=by
  intro X hP hw hK hc i pins s σ H E I hf st hg;subst hP hw hK;obtain⟨LJ,hi⟩:=hg;obtain⟨f0,f1,f2,f3,f4,f5⟩:=hf it (by simp);have dat:=D.at_ s.heap (I.hok d _ LJ).1;have hl:=KV.length D.kv;exact wpAny_pyNext_values_end (I.ok.hd hc) st dat (by simp;lia) λh' eb=>⟨rfl,I.turned (t':=s.toks) (λb o hb e=>eb b o hb e) f0 f1 f3 f4 f5⟩
 self:=λ_ _ _ _ _ st h=>wpAny_pyIter_valiter st h
end
section
variable {X:Cx} {tg:Expr}
abbrev EM (d:Addr)(o:Obj)(kvs:List (j4×V)):It:=DD d o kvs λkv=>kv.2
def mw (tl:TE):mZ:=λσ H R=>tl σ H λv H1=>rIterD EM v H1 R
theorem rW {o:Expr}{tl:TE}{apos b_:Pos}(ho:PE X o tl)
  (e_:attributeBase o "values" X.env (eval o X.env)=eval o X.env:=by rfl) (f_:(apos.endLine==b_.line)=true:=by rfl):
  uV X tg (.Call (.Attribute o "values" apos) [] [] b_) (mw tl):=by
 intro pins s σ H R I h
 refine Iz e_ f_ (M8 (ho pins s σ H _ I h) λv s1 ⟨x,H1,I1,r1,q1⟩=>?_)
 obtain⟨d,kvs,ob,vs,ep,th,H',rfl,hd,Ku,D,I2,Ll,q⟩:=rIterD.go I1 r1 q1
 have MF:=(D.at_ _ Ku).dictOf
 refine⟨"dict","dict.values",F.plainAttrs_dict,F.slot_dict_values,F.type_dict_values,MF.typeIs,MF.mapOf.noDict,Hy rfl (IX ?_)⟩
 refine Ho F.slot_dict_values MF.typeIs F.entry_dict_values (F.args_dict_values_1 _) (meets_dict_values (l0 X.prog X.w) d hd) ⟨⟨vs,MF⟩,?_⟩
 have I3:Inv X pins σ H' {s1 with heap:=s1.heap.push {cls:= .type "dict_values",data:= .fields #[.ref d]}}:=I2.kept (t':=s1.toks) λb o e=>FG _ e
 refine wpAny_pyIter_values (s:={s1 with heap:=s1.heap.push {cls:= .type "dict_values",data:= .fields #[.ref d]}}) (knd:=l0 X.prog X.w) ⟨_,FW _ rfl,rfl,rfl⟩ (D.at_ _ (FG _ Ku)) ?_
 generalize hG:s1.heap.push {cls:= .type "dict_values",data:= .fields #[.ref d]}=G at I3⊢
 refine⟨G.objs.size,[G.objs.size],_,_,H',rfl,I3.kept (t':=s1.toks) λb o e=>FG _ e,tB D _,⟨_,FW _ rfl,rfl,rfl⟩,λb hb=>?_,th,Ll,q⟩
 have e:b=G.objs.size:=by simpa using hb
 subst e
 exact I3.fpOk (Fz _) (I3.hok.fresh (Fz _))
theorem uS {tg o:Expr}{to:TE}{apos b_:Pos}(ho:QE X o to)
  (e_:attributeBase o "values" X.env (eval o X.env)=eval o X.env:=by rfl) (f_:(apos.endLine==b_.line)=true:=by rfl):QI X tg (.Call (.Attribute o "values" apos) [] [] b_) (mw to):=⟨rW ho.r e_ f_⟩
theorem sk {tl:TE}{σ:St}{H:Hp}{R:It->(Hp->Hp)->Hp->Prop}(q:tl σ H λv H1=>rIterD EM v H1 R):mw tl σ H R:=q
end
section
variable {J:It} {th:Hp->Hp} {n:Nat} {g:TG} {tb:TS} {nx:L2.St->Hp->Prop} {rt:VK} {σ:L2.St} {H:Hp}
theorem Ah (Pv:Nat->L2.St->Hp->Prop)(h0:Pv 0 σ H)(K_:∀i σ H,i<n->Pv i σ H->J.go i H)
  (hs:∀(bk:L2.St->Hp->Prop) i x σ H H',i<n->Pv i σ H->J.yld i H x H'->g x σ H' λσ2 H2=>tb ⟨Pv (i+1),λv H=>rt v (th H),bk,Pv (i+1)⟩ σ2 H2)
  (hd:∀σ H,Pv n σ H->J.stop n H/\nx σ (th H)):yv J th g tb nx rt σ H:=C8 Pv h0 K_ (hs λσ H=>nx σ (th H)) hd
end
section
variable {prog:Program} {w:World} {A:Around} {E:Value->Shared->Prop} {s:Shared}
end
section
variable {X:Cx}
end
section
variable {K:Kd} {P:Program} {w:World} {H:Hp} {Q:VK} {σ:L2.St}
end
section
variable {X:Cx}
end
def vq (K:Kd)(a:Addr)(xs:List V):It:=
 ⟨λi H=>SqL K H a xs/\i<xs.length,λi H x H'=>H'=H/\xs[xs.length -1 -i]?=some x,λi _=>i=xs.length⟩
theorem uM {P:Program}{w:World}{K:Kd}{tg:Expr}(a it:Addr)(xs:List V):fi P w K tg (vq K a xs) [it] it (λi h=>h.IsRevIter it a ((xs.length:Int) -1 -(i:Int))) where
 mem:=by simp
 obj:=λi h st b hb=>by
  have e:b=it:=by simpa using hb
  subst e;obtain⟨o,e,c,d⟩:=st;exact⟨o,e,λv z=>by rw[d] at z;cases z⟩
 keep:=λi h h' st k=>st.at λo e=>k it (by simp) o e
 item:=by
  intro X hP hw hK hc i pins s σ H E I hf st hg;subst hP hw hK;obtain⟨hq,hi⟩:=hg;obtain⟨a_,rv,p,hz⟩:=I.list hq;have hj:xs.length -1 -i<xs.length:=by lia
  obtain⟨u,hu,ru⟩:=rv.get (Fw hj);obtain⟨f0,f1,f2,f3,f4,f5⟩:=hf it (by simp);have G_:s.heap.IsRevIter it a ((xs.length -1 -i:Nat):Int):=by
   have e:((xs.length -1 -i:Nat):Int)=(xs.length:Int) -1 -(i:Int):=by lia
   rw[e];exact st
  refine wpAny_pyNext_rev_item G_ p.isList (x:=u) (by simpa using hu) λh' A_ sb=>?_;have I1:Inv X pins σ H {s with heap:=h'}:=I.turned (t':=s.toks) (λb o hb e=>(sb.2 b hb).trans e) f0 f1 f3 f4 f5;obtain⟨o,e,c,d⟩:=id A_;have m_:h'.IsRevIter it a ((xs.length:Int) -1 -((i+1:Nat):Int)):=by
   have e:(xs.length:Int) -1 -((i+1:Nat):Int)=((xs.length -1 -i:Nat):Int) -1:=by lia
   rw[e];exact A_
  exact⟨u,rfl,oG (s:={s with heap:=h'}) e c d (by decide) ⟨_,H,I1,ru,⟨rfl,Fw hj⟩,m_,λb hb=>(hf b hb).1⟩⟩
 done:=by
  intro X hP hw hK hc i pins s σ H E I hf st hg;subst hP hw hK;have Qz:i=xs.length:=hg;obtain⟨f0,f1,f2,f3,f4,f5⟩:=hf it (by simp);have G_:s.heap.IsRevIter it a (-1):=by
   have e:(-1:Int)=(xs.length:Int) -1 -(i:Int):=by lia
   rw[e];exact st
  exact wpAny_pyNext_rev_end (I.ok.hd hc) G_ λh' eb=>⟨rfl,I.turned (t':=s.toks) (λb o hb e=>eb b o hb e) f0 f1 f3 f4 f5⟩
 self:=λ_ _ _ _ _ st h=>wpAny_pyIter_revIter st h
section
variable {X:Cx} {a:Expr} {t:TA} {p pos:Pos} {tg:Expr}
def zK (K:Kd)(ta:TA):mZ:=λσ H R=>ta σ H λvs H1=>∃l xs,vs=[.ref l]/\SqL K H1 l xs/\R (vq K l xs) id H1
theorem AN (hg:Gl X "reversed")(hm:X.mg "reversed"=none)(ha:PA X [a] t)(hs:starEach [a] X.env=[(false,eval a X.env)]):uV X tg (.Call (.Name "reversed" p) [a] [] pos) (zK X.K t):=by
 intro pins s σ H R I h;refine Call_ (eV I hg hm Boot.«reversed» (Hv (M8 (ha pos pins s σ H _ I h) λus s1 ⟨vs,H1,I1,r1,q1⟩=>?_) hs rfl));obtain⟨l,xs,e,hq,q⟩:=q1;subst e;obtain⟨u,rfl,ru⟩:=P0 r1;cases ru;obtain⟨a_,rv,pl,hz⟩:=I1.list hq;have hl:=rv.length;refine call_reversed_list pl.isList ?_;have I2:Inv X pins σ H1 {s1 with heap:=s1.heap.push (revObj l ((a_.toArray.size:Int) -1))}:=I1.kept (t':=s1.toks) λb o e=>FG _ e;have st:(s1.heap.push (revObj l ((a_.toArray.size:Int) -1))).IsRevIter s1.heap.objs.size l ((xs.length:Int) -1 -((0:Nat):Int)):=by
  refine⟨_,FW _ rfl,rfl,?_⟩;show Data.fields #[.ref l,rawInt ((a_.toArray.size:Int) -1)]=_;rw[show(a_.toArray.size:Int) -1=(xs.length:Int) -1 -((0:Nat):Int) by rw[FV];lia]
 refine wpAny_pyIter_revIter (s:={s1 with heap:=s1.heap.push (revObj l ((a_.toArray.size:Int) -1))}) st ?_;refine⟨s1.heap.objs.size,[s1.heap.objs.size],_,_,H1,rfl,I2,uM l _ xs,st,λb hb=>?_,id,ei,q⟩;have e:b=s1.heap.objs.size:=by simpa using hb
 subst e;exact I1.fpOk (Fz _) (I1.hok.fresh (Fz _))
theorem nJ (K:Kd)(hm:X.mg "reversed"=none)(ha:QA X [a] t)(hg:Gl X "reversed":=by rfl)(h:C5 a=true:=by rfl)(hK:X.K=K:=by rfl):QI X tg (.Call (.Name "reversed" p) [a] [] pos) (zK K t):=
 ⟨hK▸AN hg hm ha.r (bu h)⟩
end
section
variable {K:Kd} {σ:L2.St} {H:Hp} {ta:TA} {R:It->(Hp->Hp)->Hp->Prop}
theorem CW (q:ta σ H λvs H1=>∃l xs,vs=[V.ref l]/\SqL K H1 l xs/\R (vq K l xs) id H1):zK K ta σ H R:=q
end
abbrev Cf (h:Heap)(z TI TO:Addr)(f0:Value)(b:Bool):Prop:=h.get? z=some {cls:= .type "zip",dict:=none,data:= .fields #[f0,.bool b,.bool false,.ref TI,.ref TO],slots:= #[]}
section
variable {prog:Program} {w:World} {A:Around} {E:Value->Shared->Prop} {s:Shared}
end
section
variable {prog:Program} {w:World} {A:Around} {E:Value->Shared->Prop} {s:Shared}
end
section
variable {prog:Program} {w:World} {A:Around} {E:Value->Shared->Prop} {s:Shared}
structure EK (h:Heap) (d z TI TO i1 i2 l1 l2:Addr) (k:Nat) (xs ys:Array Value):Prop where
 ti:IsPair h TI (.ref i1) (.ref i2)
 a1:h.IsListIter i1 l1 k
 a2:h.IsListIter i2 l2 k
 b1:h.IsList l1 xs
 b2:h.IsList l2 ys
 st:(∃a b,IsZip h z TI TO .none/\IsPair h TO a b)\/∃(T:Addr) (b:Bool) (ot:Obj),Cf h z TI TO (rawInt T) b/\h.get? T=some ot/\T≠z/\T≠i1/\T≠i2/\T≠d
structure DX (d z TI TO i1 i2 l1 l2:Addr):Prop where
 z:z≠d
 TI:TI≠d
 TO:TO≠d
 i1:i1≠d
 i2:i2≠d
 l1:l1≠d
 l2:l2≠d
end
section
variable {prog:Program} {w:World} {KT:Type} [DecidableEq KT] {knd:KeyKind prog w KT} {A:Around} {E:Value->Shared->Prop}
end
section
variable {prog:Program} {w:World} {KT:Type} [DecidableEq KT] {knd:KeyKind prog w KT} {A:Around} {E:Value->Shared->Prop}
end
section
variable {X:Cx} {a b:Expr} {t:TA} {p pos p2 WQ:Pos}
end
open PySem.AutoSeq1 (wpAny_loadPart')
open PySem.MeetsSeq PySem.MeetsSeq2 PySem.MeetsSeq3
section
variable {X:Cx} {pins:List (Addr×Obj)} {σ:St} {H:Hp} {s:Shared} {A:Around}
end
section
variable {X:Cx}
end
section
variable {P:Program} {w:World}
end
section
variable {X:Cx}
end
section
variable {K:Kd} {H:Hp} {Q:VK} {x y:V}
end
end L2
namespace PySem
section
variable {prog:Program} {w:World} {K:Type} [DecidableEq K] {A:Around} {E:Value->Shared->Prop} {s:Shared}
end
end PySem
namespace L2
open PySem PySem.Spec PyProof.Rows
section
variable {X:Cx}
end
section
variable {X:Cx}
end
structure EV (K:Kd) (x qual:Str) (st:Stmt) (T:Addr) (f:Addr) (fd:FuncData):Prop where
 ex:∃(oc:Value) (od:Option Addr) (kV doc pm:Value) (an:Option Addr) (c_ ct:Value) (KY:Array (Option Value)),
  fd=PySem.W.fnOf x qual (X6 st) (Q6 st) (g5 st) (.ref T) kV doc pm an c_ ct/\K.lookup f=some ⟨oc,od,.func fd,KY⟩/\PySem.W.codeIn K c_ qual=true
 kp:PySem.W.keepIn K (.ref f)=true
section
variable {P:Program} {w:World} {K:Kd} {mg:Str->Option Value} {base:Heap}
end
open PySem.AutoSeq1 (wpAny_loadPart')
open PySem.MeetsSeq PySem.MeetsSeq2 PySem.MeetsSeq3
section
variable {P:Program} {w:World}
end
section
variable {X:Cx}
end
section
variable {α β:Type}
end
def Fb (rk:Value->Int)(p:Keyed):Keyed:=(.int (rk p.1) 0,p.2)
def kA (rk:Value->Int)(st:SortSt)(i:Nat):Int:=K ((arrOf st).map (Fb rk)) i
structure TB (kd:SortKind) (base:Array Keyed) (st:SortSt):Prop where
 pm:(arrOf st).Perm base
 kd:kindOf st=kd
 fl:failedOf st=none
 pe:pendingOf st= #[]
section
variable {prog:Program} {w:World} {A:Around} {E:Value->Shared->Prop} {s:Shared} {rk:Value->Int} {kd:SortKind} {base:Array Keyed} {st:SortSt}
def EY (rk:Value->Int)(st:SortSt)(n:Nat):Prop:=∀i j,i<=j->j<n->kA rk st i<=kA rk st j
end
section
variable {prog:Program} {w:World} {A:Around} {E:Value->Shared->Prop} {s:Shared} {rk:Value->Int} {kd:SortKind} {base:Array Keyed} {st:SortSt}
structure TD (rk:Value->Int) (base:Array Keyed) (st:SortSt):Prop where
 pm:(arrOf st).Perm base
 fl:failedOf st=none
 pe:pendingOf st= #[(0,base.size,0)]
 up:EY rk st base.size
end
def DZ:V->List Nat
 | .str a=>a.cps.toList
 | .bl b=>[b.toNat]
 |_=>[]
abbrev DQ (xs:List V):List (List Nat):=xs.map DZ
section
variable {P:Program} {w:World} {A:Around} {E:Value->Shared->Prop} {s:Shared}
end
abbrev Fi:=List (List Nat)
section
variable {P:Program} {w:World} {A:Around} {E:Value->Shared->Prop} {s:Shared}
structure Fg (h:Heap) (kf:Value->Fi) (v:Value):Prop where
 at_:∃(a:Addr) (us:List Value) (xs:List V) (x:Str) (r:List V),v= .ref a/\h.IsTuple a us.toArray/\Vals xs us/\xs= .str x::r/\kf v=DQ xs
end
section
variable {P:Program} {w:World} {A:Around} {E:Value->Shared->Prop} {s:Shared}
end
section
variable {X:Cx}
end
abbrev Lk:=Str×Bool×Bool
def EW (c:Lk):List V:=[.str c.1,.bl c.2.1,.bl c.2.2]
def Dk (K:Kd)(H:Hp)(xs:List V)(cs:List Lk):Prop:=Paired (λv c=>∃t,v=V.ref t/\SqT K H t (EW c)) xs cs
structure Ft (K:Kd) (H:Hp) (u:V) (kd:Str) (cs:List Lk):Prop where
 ex:∃(a l:Addr) (xs:List V),u= .ref a/\SqT K H a [.str kd,.ref l]/\SqL K H l xs/\Dk K H xs cs
section
variable {X:Cx} {pins:List (Addr×Obj)} {σ:St} {H:Hp} {s:Shared}
end
section
variable {X:Cx}
end
open PySem.AutoSeq1 (wpAny_loadPart')
open PySem.MeetsSeq PySem.MeetsSeq2 PySem.MeetsSeq3
section
variable {P:Program} {w:World}
theorem Aj (l m:Addr)(xs ys:Array Value)(n1 n2:Nat)(d1 d2:Option Addr)(s1 s2:Array (Option Value))(hz:xs.size≠ys.size):
  MeetsIn P w (Builtin.«list.__ne__» ⟨[.ref l,.ref m],[]⟩) (λA R s=>
   s.heap.get? l=some {cls:= .type "list",dict:=d1,data:= .seq xs n1,slots:=s1}/\s.heap.get? m=some {cls:= .type "list",dict:=d2,data:= .seq ys n2,slots:=s2}/\
   R (.ok (.ret (.bool true))) s):=by
 intro A R s hyp
 obtain⟨hp,gg,dr,tk,os⟩:=s
 obtain⟨e1,e2,fin⟩:=hyp
 have q1:=IH;have q2:(xs.size !=ys.size)=true:=by simp [hz]
 wp_walk using wpAny_loadPart' e1,wpAny_loadPart' e2
 exact fin
end
section
variable {X:Cx}
def CA (K:Kd):R2:=λx y H Q=>∃(p q:Addr) (xs:List V),x= .ref p/\y= .ref q/\SqL K H p xs/\SqL K H q []/\Q (.bl (!xs.isEmpty)) H
theorem zr (hu:X.A.units+64<cLine):OpR X (compareOp .NotEq) (CA X.K):=by
 intro pins s σ H x y v u Q I rx ry h;obtain⟨p,q,xs,rfl,rfl,hp,hq,k⟩:=h;cases rx;cases ry;obtain⟨us,r1,p1,z1⟩:=I.list hp;obtain⟨vs,r2,p2,z2⟩:=I.list hq;have MN:=r1.length;have Sh:=r2.length;obtain rfl:vs=[]:=IS (by simpa using Sh.symm);cases xs with
 |nil=>
  obtain rfl:us=[]:=IS (by simpa using MN.symm)
  have q:=NcP.lst (P:=X.prog) (w:=X.w) (A:=X.A) (f:=λ_=>true) p1.isList p2.isList rfl (by lia) (λj g1 _=>absurd g1 (by simp))
  exact q _ _ ⟨.bl _,H,I,rfl,k⟩
 |cons x r=>
  obtain⟨⟨c1,d1,a1,s1⟩,o1,k1,n1,w1⟩:=id p1.isList
  obtain⟨⟨c2,d2,a2,s2⟩,o2,k2,n2,w2⟩:=id p2.isList
  simp only at k1 w1 k2 w2
  subst k1 w1 k2 w2
  show wpAny _ X.A (richCompare .NotEq (.ref p) (.ref q)) _ _ s
  refine Hl (op:= .NotEq) ⟨_,o1,rfl⟩ ⟨_,o2,rfl⟩ Il (Ho Il ⟨_,o1,rfl⟩ JP (JG _ _) (Aj p q us.toArray #[] n1 n2 d1 d2 s1 s2 (by simp;intro z;rw[z] at MN;simp at MN)) ⟨o1,o2,?_⟩) (by lia)
  exact⟨(λz=>nomatch z),⟨.bl _,H,I,rfl,k⟩⟩
theorem Co (K:Kd){k:Nat}(hr:Room k X.A)(h:X.K=K:=by rfl):OpR X (compareOp .NotEq) (CA K):=h▸zr hr.units
end
structure FnIn (K:Kd) (n:Str) (st:Stmt) (f:Addr):Prop where
 a:PySem.W.nsIn K mainGlobals n=some (some (.ref f))
 F:∃fd,Fun K n n st f fd
theorem FnIn.mk' {K:Kd}{n:Str}{st:Stmt}{f:Addr}{oc:Value}{od an:Option Addr}{KY:Array (Option Value)}{kV doc pm c_ ct:Value}(a:PySem.W.nsIn K mainGlobals n=some (some (.ref f)))(l:K.lookup f=some ⟨oc,od,.func (PySem.W.fnOf n n (X6 st) (Q6 st) (g5 st) .none kV doc pm an c_ ct),KY⟩)
  (c:PySem.W.codeIn K c_ n=true) (k:PySem.W.keepIn K (.ref f)=true):FnIn K n st f:=⟨a,_,ze l c k⟩
theorem j9 {P:Program}{w:World}{K:Kd}{mg:Str->Option Value}{base h:Heap}{CX:mW}{k:Nat}{n:Str}{st:Stmt}{ps:List Str}{sp:Sp}{f:Addr}(X:K.In h)(G:h.Ns mainGlobals mg)(a:FnIn K n st f)(ok:∀{f fd},Fun K n n st f fd->u9 P w K mg base CX k f fd ps sp)
  (b:∀(kV doc pm:Value) (an:Option Addr) (c_ ct:Value) (us:List Value),us.length=ps.length->bindArgs (PySem.W.fnOf n n (X6 st) (Q6 st) (g5 st) .none kV doc pm an c_ ct) ⟨us,[]⟩=pure (ps.zip us)):N8 P w K mg base CX k n ps [] sp:=by
 obtain⟨fd,F⟩:=a.F
 exact⟨f,_,[],ok F,HD X G a.a,F.kp,F.binds b,.nil⟩
theorem Bd {P:Program}{w:World}{K:Kd}{mg:Str->Option Value}{h:Heap}{CX:mW}{k:Nat}{st:Stmt}{p:Str}{sp:Sp}{f fa:Addr}(X:K.In h)(G:h.Ns mainGlobals mg)(Si:mg "law"=some (.ref fa))(a:FnIn K "law" st f)(ok:∀{base f fd},Fun K "law" "law" st f fd->u9 P w K mg base CX k f fd [p] sp)
  (b:∀(kV doc pm:Value) (an:Option Addr) (c_ ct:Value) (s:Shared) (v:Value),BindsTo s (PySem.W.fnOf "law" "law" (X6 st) (Q6 st) (g5 st) .none kV doc pm an c_ ct) ⟨[v],[]⟩ [(p,v)]):
  ∃fd:FuncData,(∀(s:Shared) (v:Value),BindsTo s fd ⟨[v],[]⟩ [(p,v)])/\∀base:Heap,K.In base->base.Ns mainGlobals mg->u9 P w K mg base CX k fa fd [p] sp:=by
 obtain⟨fd,F⟩:=a.F
 have e:=Si.symm.trans (HD X G a.a)
 cases e
 obtain⟨oc,od,kV,doc,pm,an,c_,ct,KY,rfl,lk,KU⟩:=id F.ex
 exact⟨_,λs v=>b _ _ _ _ _ _ s v,λbase _ _=>ok F⟩
section
variable {fd:FuncData} {ps:List Str} {us:List Value}
theorem uc {us:List Value}{n:Nat}(h:us.length=n+1):∃a r,us=a::r/\r.length=n:=by
 cases us with
 |nil=>cases h
 |cons a r=>exact⟨a,r,rfl,Nat.succ.inj h⟩
theorem Fc (h:us.length=1)(g:∀a:Value,bindArgs fd ⟨[a],[]⟩=pure (ps.zip [a])):bindArgs fd ⟨us,[]⟩=pure (ps.zip us):=by
 obtain⟨a,us,rfl,h1⟩:=uc h;cases us with
 |nil=>exact g a
 |cons _ _=>cases h1
theorem ET (h:us.length=2)(g:∀a b:Value,bindArgs fd ⟨[a,b],[]⟩=pure (ps.zip [a,b])):bindArgs fd ⟨us,[]⟩=pure (ps.zip us):=by
 obtain⟨a,us,rfl,h1⟩:=uc h;obtain⟨b,us,rfl,h2⟩:=uc h1;cases us with
 |nil=>exact g a b
 |cons _ _=>cases h2
theorem Ff (h:us.length=3)(g:∀a b c:Value,bindArgs fd ⟨[a,b,c],[]⟩=pure (ps.zip [a,b,c])):bindArgs fd ⟨us,[]⟩=pure (ps.zip us):=by
 obtain⟨a,us,rfl,h1⟩:=uc h;obtain⟨b,us,rfl,h2⟩:=uc h1;obtain⟨c,us,rfl,h3⟩:=uc h2;cases us with
 |nil=>exact g a b c
 |cons _ _=>cases h3
theorem EN (h:us.length=4)(g:∀a b c d:Value,bindArgs fd ⟨[a,b,c,d],[]⟩=pure (ps.zip [a,b,c,d])):bindArgs fd ⟨us,[]⟩=pure (ps.zip us):=by
 obtain⟨a,us,rfl,h1⟩:=uc h;obtain⟨b,us,rfl,h2⟩:=uc h1;obtain⟨c,us,rfl,h3⟩:=uc h2;obtain⟨d,us,rfl,h4⟩:=uc h3;cases us with
 |nil=>exact g a b c d
 |cons _ _=>cases h4
theorem Fn (h:us.length=5)(g:∀a b c d e:Value,bindArgs fd ⟨[a,b,c,d,e],[]⟩=pure (ps.zip [a,b,c,d,e])):bindArgs fd ⟨us,[]⟩=pure (ps.zip us):=by
 obtain⟨a,us,rfl,h1⟩:=uc h;obtain⟨b,us,rfl,h2⟩:=uc h1;obtain⟨c,us,rfl,h3⟩:=uc h2;obtain⟨d,us,rfl,h4⟩:=uc h3;obtain⟨e,us,rfl,h5⟩:=uc h4;cases us with
 |nil=>exact g a b c d e
 |cons _ _=>cases h5
theorem EU (h:us.length=6)(g:∀a b c d e f:Value,bindArgs fd ⟨[a,b,c,d,e,f],[]⟩=pure (ps.zip [a,b,c,d,e,f])):bindArgs fd ⟨us,[]⟩=pure (ps.zip us):=by
 obtain⟨a,us,rfl,h1⟩:=uc h;obtain⟨b,us,rfl,h2⟩:=uc h1;obtain⟨c,us,rfl,h3⟩:=uc h2;obtain⟨d,us,rfl,h4⟩:=uc h3;obtain⟨e,us,rfl,h5⟩:=uc h4;obtain⟨f,us,rfl,h6⟩:=uc h5;cases us with
 |nil=>exact g a b c d e f
 |cons _ _=>cases h6
end
section
variable {J:It} {th:Hp->Hp} {g:V->St->Hp->(St->Hp->Prop)->Prop} {tb:TS} {nx:St->Hp->Prop} {rt:V->Hp->Prop} {σ:St} {H:Hp} {n:Nat}
end
section
variable {X:Cx} {x:Str} {T:Addr} {np LS pos:Pos} {b₀:Stmt} {body suite:List Stmt} {tb:(St->XK)->TS} {ts:TS}
end
section
variable {X:Cx} {e:Expr} {te:TE} {pos p2 p3 p4:Pos} {j:Nat}
end
section
variable {X:Cx} {pins:List (Addr×Obj)} {σ:St} {H:Hp} {s:Shared} {h':Heap}
end
section
variable {X:Cx}
end
section
variable {K:Kd} {H:Hp} {Q:VK}
end
end L2
set_option maxHeartbeats 1000000
namespace K32
open PySem PySem.Spec PyProof.Rows L2
def O9 (i:Nat):Stmt:=PySem.Challenge.pw_gluework_k32_whole_rows_back.main.body.getD i (.Pass ⟨0,0,0,0⟩)
abbrev aI:Stmt:=O9 10
theorem sc_is_text_of:j0 ["thing","signs","most"] ["thing","signs","most"] (g5 aI):=⟨rfl,rfl,rfl,by decide+kernel,rfl,by decide+kernel,by decide+kernel⟩
abbrev fq:Stmt:=O9 11
theorem sc_is_name:j0 ["thing"] ["thing"] (g5 fq):=⟨rfl,rfl,rfl,by decide+kernel,rfl,by decide+kernel,by decide+kernel⟩
abbrev cY:Stmt:=O9 12
theorem sc_in_order:j0 ["named"] ["named"] (g5 cY):=⟨rfl,rfl,rfl,by decide+kernel,rfl,by decide+kernel,by decide+kernel⟩
abbrev jb:Stmt:=O9 13
theorem sc_copied:j0 ["web"] ["web"] (g5 jb):=⟨rfl,rfl,rfl,by decide+kernel,rfl,by decide+kernel,by decide+kernel⟩
abbrev jr:Stmt:=O9 14
theorem sc_things:j0 ["web"] ["web"] (g5 jr):=⟨rfl,rfl,rfl,by decide+kernel,rfl,by decide+kernel,by decide+kernel⟩
abbrev eY:Stmt:=O9 15
theorem sc_without:j0 ["web","names","points","ties","name"] ["web","names"] (g5 eY):=⟨rfl,rfl,rfl,by decide+kernel,rfl,by decide+kernel,by decide+kernel⟩
abbrev jd:Stmt:=O9 16
theorem sc_united:j0 ["web","more","points","ties"] ["web","more"] (g5 jd):=⟨rfl,rfl,rfl,by decide+kernel,rfl,by decide+kernel,by decide+kernel⟩
abbrev Y2:Stmt:=O9 17
theorem sc_tie_renamed:j0 ["tie","names"] ["tie","names"] (g5 Y2):=⟨rfl,rfl,rfl,by decide+kernel,rfl,by decide+kernel,by decide+kernel⟩
abbrev eX:Stmt:=O9 18
theorem sc_renamed:j0 ["web","names","points","ties"] ["web","names"] (g5 eX):=⟨rfl,rfl,rfl,by decide+kernel,rfl,by decide+kernel,by decide+kernel⟩
abbrev cZ:Stmt:=O9 20
theorem sc_is_match:j0 ["piece","web","match","names"] ["piece","web","match"] (g5 cZ):=⟨rfl,rfl,rfl,by decide+kernel,rfl,by decide+kernel,by decide+kernel⟩
abbrev pP:Stmt:=O9 21
theorem sc_line:j0 ["piece","match"] ["piece","match"] (g5 pP):=⟨rfl,rfl,rfl,by decide+kernel,rfl,by decide+kernel,by decide+kernel⟩
abbrev Y3:Stmt:=O9 22
theorem iW:j0 ["piece","web","fixed"] ["piece","web","fixed"] (g5 Y3):=⟨rfl,rfl,rfl,by decide+kernel,rfl,by decide+kernel,by decide+kernel⟩
abbrev Y9:Stmt:=O9 23
theorem iw:j0 ["piece","web","piece_looks","web_looks","fixed","told"] ["piece","web","piece_looks","web_looks","fixed"] (g5 Y9):=⟨rfl,rfl,rfl,by decide+kernel,rfl,by decide+kernel,by decide+kernel⟩
abbrev mz:Stmt:=O9 24
theorem wK:j0 ["piece","web","piece_looks","web_looks","fixed","most","told","choices","places","names"] ["piece","web","piece_looks","web_looks","fixed","most"] (g5 mz):=⟨rfl,rfl,rfl,by decide+kernel,rfl,by decide+kernel,by decide+kernel⟩
abbrev jv:Stmt:=O9 25
theorem sX:j0 ["name","image","fixed"] ["name","image","fixed"] (g5 jv):=⟨rfl,rfl,rfl,by decide+kernel,rfl,by decide+kernel,by decide+kernel⟩
abbrev U0:Stmt:=O9 26
theorem fe:j0 ["piece_looks","web_looks","fixed","choices","name","look","alike"] ["piece_looks","web_looks","fixed"] (g5 U0):=⟨rfl,rfl,rfl,by decide+kernel,rfl,by decide+kernel,by decide+kernel⟩
abbrev ax:Stmt:=O9 27
theorem jL:j0 ["piece","web","fixed","places","name","tie","there","image","other"] ["piece","web","fixed"] (g5 ax):=⟨rfl,rfl,rfl,by decide+kernel,rfl,by decide+kernel,by decide+kernel⟩
abbrev jm:Stmt:=O9 28
theorem sS:j0 ["lists"] ["lists"] (g5 jm):=⟨rfl,rfl,rfl,by decide+kernel,rfl,by decide+kernel,by decide+kernel⟩
abbrev lO:Stmt:=O9 29
theorem uT:j0 ["piece","choices","places","most","names","told","waiting","begun","image"] ["piece","choices","places","most"] (g5 lO):=⟨rfl,rfl,rfl,by decide+kernel,rfl,by decide+kernel,by decide+kernel⟩
abbrev iB:Stmt:=O9 30
theorem rZ:j0 ["piece","choices","places","begun","names","name","put","unlike"] ["piece","choices","places","begun"] (g5 iB):=⟨rfl,rfl,rfl,by decide+kernel,rfl,by decide+kernel,by decide+kernel⟩
abbrev Y1:Stmt:=O9 31
theorem ic:j0 ["piece","places","put","name","ends"] ["piece","places","put","name"] (g5 Y1):=⟨rfl,rfl,rfl,by decide+kernel,rfl,by decide+kernel,by decide+kernel⟩
abbrev cM:Stmt:=O9 32
theorem oD:j0 ["piece","places","put","name","image","longer","due"] ["piece","places","put","name","image"] (g5 cM):=⟨rfl,rfl,rfl,by decide+kernel,rfl,by decide+kernel,by decide+kernel⟩
abbrev qo:Stmt:=O9 34
theorem sc_both:j0 ["web","other"] ["web","other"] (g5 qo):=⟨rfl,rfl,rfl,by decide+kernel,rfl,by decide+kernel,by decide+kernel⟩
abbrev ml:Stmt:=O9 35
theorem sc_alone:j0 ["web","other"] ["web","other"] (g5 ml):=⟨rfl,rfl,rfl,by decide+kernel,rfl,by decide+kernel,by decide+kernel⟩
abbrev pF:Stmt:=O9 36
theorem sc_kept:j0 ["rule"] ["rule"] (g5 pF):=⟨rfl,rfl,rfl,by decide+kernel,rfl,by decide+kernel,by decide+kernel⟩
abbrev lG:Stmt:=O9 37
theorem sc_taken:j0 ["rule"] ["rule"] (g5 lG):=⟨rfl,rfl,rfl,by decide+kernel,rfl,by decide+kernel,by decide+kernel⟩
abbrev dv:Stmt:=O9 38
theorem sc_fresh_of:j0 ["rule"] ["rule"] (g5 dv):=⟨rfl,rfl,rfl,by decide+kernel,rfl,by decide+kernel,by decide+kernel⟩
abbrev ja:Stmt:=O9 39
theorem sc_turned:j0 ["rule"] ["rule"] (g5 ja):=⟨rfl,rfl,rfl,by decide+kernel,rfl,by decide+kernel,by decide+kernel⟩
abbrev iu:Stmt:=O9 41
theorem sc_picked:j0 ["put","names"] ["put","names"] (g5 iu):=⟨rfl,rfl,rfl,by decide+kernel,rfl,by decide+kernel,by decide+kernel⟩
abbrev iJ:Stmt:=O9 42
theorem sc_barred:j0 ["web","rule","match","number","bar","told"] ["web","rule","match"] (g5 iJ):=⟨rfl,rfl,rfl,by decide+kernel,rfl,by decide+kernel,by decide+kernel⟩
abbrev bo:Stmt:=O9 43
theorem sc_taken_out:j0 ["step"] ["step"] (g5 bo):=⟨rfl,rfl,rfl,by decide+kernel,rfl,by decide+kernel,by decide+kernel⟩
abbrev Y4:Stmt:=O9 44
theorem sc_names_serve:j0 ["web","rule","fresh","names"] ["web","rule","fresh"] (g5 Y4):=⟨rfl,rfl,rfl,by decide+kernel,rfl,by decide+kernel,by decide+kernel⟩
abbrev fh:Stmt:=O9 45
theorem sc_rest_of:j0 ["web","step","rule","rest"] ["web","step"] (g5 fh):=⟨rfl,rfl,rfl,by decide+kernel,rfl,by decide+kernel,by decide+kernel⟩
abbrev pN:Stmt:=O9 46
theorem sc_done:j0 ["web","step","rule","rest"] ["web","step"] (g5 pN):=⟨rfl,rfl,rfl,by decide+kernel,rfl,by decide+kernel,by decide+kernel⟩
abbrev iK:Stmt:=O9 47
theorem sc_behind:j0 ["step","rule","put"] ["step"] (g5 iK):=⟨rfl,rfl,rfl,by decide+kernel,rfl,by decide+kernel,by decide+kernel⟩
abbrev qh:Stmt:=O9 48
theorem sc_back:j0 ["step"] ["step"] (g5 qh):=⟨rfl,rfl,rfl,by decide+kernel,rfl,by decide+kernel,by decide+kernel⟩
abbrev U6:Stmt:=O9 50
theorem sc_gone_through:j0 ["web","row","webs","step"] ["web","row"] (g5 U6):=⟨rfl,rfl,rfl,by decide+kernel,rfl,by decide+kernel,by decide+kernel⟩
abbrev dh:Stmt:=O9 51
theorem sc_back_row:j0 ["row"] ["row"] (g5 dh):=⟨rfl,rfl,rfl,by decide+kernel,rfl,by decide+kernel,by decide+kernel⟩
abbrev V4:Stmt:=O9 53
theorem sc__law_cell_at:j0 ["_law_script","_law_k"] ["_law_script","_law_k"] (g5 V4):=⟨rfl,rfl,rfl,by decide+kernel,rfl,by decide+kernel,by decide+kernel⟩
abbrev aB:Stmt:=O9 54
theorem sc__law_mixed:j0 ["_law_cell","_law_k","_law_number"] ["_law_cell","_law_k"] (g5 aB):=⟨rfl,rfl,rfl,by decide+kernel,rfl,by decide+kernel,by decide+kernel⟩
abbrev Z3:Stmt:=O9 55
theorem sc__law_stream:j0 ["_law_cell","_law_many","_law_number","_law_found","_law_k"] ["_law_cell","_law_many"] (g5 Z3):=⟨rfl,rfl,rfl,by decide+kernel,rfl,by decide+kernel,by decide+kernel⟩
abbrev bK:Stmt:=O9 56
theorem sc__law_name:j0 ["_law_number","_law_k","_law_letters","_law_base","_law_j","_law_at","_law_tag"] ["_law_number","_law_k"] (g5 bK):=⟨rfl,rfl,rfl,by decide+kernel,rfl,by decide+kernel,by decide+kernel⟩
abbrev ao:Stmt:=O9 57
theorem sc__law_words:j0 ["_law_number","_law_many","_law_letters","_law_base","_law_j","_law_at"] ["_law_number","_law_many"] (g5 ao):=⟨rfl,rfl,rfl,by decide+kernel,rfl,by decide+kernel,by decide+kernel⟩
abbrev cW:Stmt:=O9 58
theorem sc__law_web:j0 ["_law_script","_law_number","_law_kinds","_law_points","_law_ties","_law_k","_law_x","_law_names","_law_ends"] ["_law_script","_law_number","_law_kinds"] (g5 cW):=⟨rfl,rfl,rfl,by decide+kernel,rfl,by decide+kernel,by decide+kernel⟩
abbrev Y5:Stmt:=O9 59
theorem sc__law_picked:j0 ["_law_web_here","_law_xs","_law_names","_law_points","_law_j","_law_ties","_law_k","_law_name_here","_law_tie"] ["_law_web_here","_law_xs"] (g5 Y5):=⟨rfl,rfl,rfl,by decide+kernel,rfl,by decide+kernel,by decide+kernel⟩
abbrev du:Stmt:=O9 60
theorem sc__law_out:j0 ["_law_web_here","_law_points","_law_ties","_law_xs","_law_out_here","_law_k","_law_name_here","_law_loose"] ["_law_web_here","_law_points","_law_ties","_law_xs"] (g5 du):=⟨rfl,rfl,rfl,by decide+kernel,rfl,by decide+kernel,by decide+kernel⟩
abbrev aU:Stmt:=O9 61
theorem sc__law_rule:j0 ["_law_web_here","_law_xs","_law_words_here","_law_kinds","_law_points","_law_ties","_law_out_here","_law_word_of","_law_left","_law_right","_law_k","_law_name_here","_law_kind","_law_begin","_law_end","_law_ends","_law_match","_law_word"] ["_law_web_here","_law_xs","_law_words_here","_law_kinds"] (g5 aU):=⟨rfl,rfl,rfl,by decide+kernel,rfl,by decide+kernel,by decide+kernel⟩
abbrev bY:Stmt:=O9 62
theorem sc__law_step:j0 ["_law_web_here","_law_xs","_law_words_here","_law_kinds","_law_names","_law_rule_here","_law_match","_law_fresh","_law_word"] ["_law_web_here","_law_xs","_law_words_here","_law_kinds","_law_names"] (g5 bY):=⟨rfl,rfl,rfl,by decide+kernel,rfl,by decide+kernel,by decide+kernel⟩
abbrev bD:Stmt:=O9 63
theorem sc__law_done:j0 ["_law_web_here","_law_step_here","_law_rule_here","_law_match","_law_fresh","_law_out_here","_law_points","_law_name_here","_law_ties","_law_names","_law_word","_law_kind","_law_begin","_law_end"] ["_law_web_here","_law_step_here"] (g5 bD):=⟨rfl,rfl,rfl,by decide+kernel,rfl,by decide+kernel,by decide+kernel⟩
abbrev bR:Stmt:=O9 64
theorem sc__law_copy:j0 ["_law_step_here","_law_rule_here","_law_match","_law_fresh","_law_pieces"] ["_law_step_here"] (g5 bR):=⟨rfl,rfl,rfl,by decide+kernel,rfl,by decide+kernel,by decide+kernel⟩
abbrev bF:Stmt:=O9 65
theorem sc__law_same:j0 ["_law_found","_law_web_here"] ["_law_found","_law_web_here"] (g5 bF):=⟨rfl,rfl,rfl,by decide+kernel,rfl,by decide+kernel,by decide+kernel⟩
abbrev cO:Stmt:=O9 66
theorem sc__law_met:j0 ["_law_web_here","_law_bar","_law_match","_law_held","_law_word","_law_tie"] ["_law_web_here","_law_bar","_law_match"] (g5 cO):=⟨rfl,rfl,rfl,by decide+kernel,rfl,by decide+kernel,by decide+kernel⟩
abbrev bS:Stmt:=O9 67
theorem sc__law_bars:j0 ["_law_left","_law_xs","_law_words_here","_law_kinds","_law_bars_here","_law_k","_law_x","_law_bar","_law_ends","_law_kind"] ["_law_left","_law_xs","_law_words_here","_law_kinds"] (g5 bS):=⟨rfl,rfl,rfl,by decide+kernel,rfl,by decide+kernel,by decide+kernel⟩
abbrev aK:Stmt:=O9 68
theorem sc__law_drawn:j0 ["_law_web_here","_law_cell","_law_first","_law_kinds","_law_at","_law_xs","_law_words_here","_law_names","_law_rule_here","_law_match","_law_fresh","_law_bars_here"] ["_law_web_here","_law_cell","_law_first","_law_kinds","_law_at"] (g5 aK):=⟨rfl,rfl,rfl,by decide+kernel,rfl,by decide+kernel,by decide+kernel⟩
abbrev dg:Stmt:=O9 69
theorem sc__law_row:j0 ["_law_web_here","_law_cells","_law_first","_law_kinds","_law_row_here","_law_webs","_law_cell"] ["_law_web_here","_law_cells","_law_first","_law_kinds"] (g5 dg):=⟨rfl,rfl,rfl,by decide+kernel,rfl,by decide+kernel,by decide+kernel⟩
abbrev dc:Stmt:=O9 70
theorem sc__law_set:j0 ["_law_script","_law_first","_law_second","_law_kinds"] ["_law_script"] (g5 dc):=⟨rfl,rfl,rfl,by decide+kernel,rfl,by decide+kernel,by decide+kernel⟩
abbrev bW:Stmt:=O9 71
theorem sc__law_bare:j0 ["_law_step_here"] ["_law_step_here"] (g5 bW):=⟨rfl,rfl,rfl,by decide+kernel,rfl,by decide+kernel,by decide+kernel⟩
abbrev uN:Stmt:=O9 72
theorem sc_law:j0 ["_law_script","_law_first","_law_kinds","_law_web_here","_law_row_here","_law_webs","_law_handed","_law_found","_law_last","_law_told","_law_k","_law_step_here","_law_again"] ["_law_script"] (g5 uN):=⟨rfl,rfl,rfl,by decide+kernel,rfl,by decide+kernel,by decide+kernel⟩
abbrev aN:Str:="abcdefghijklmnopqrstuvwxyz"
abbrev eM:Str:="abcdefghijklmnopqrstuvwxyz0123456789."
structure Txt (K:Kd) (mg:Str->Option Value):Prop where
 r_Barred:ExC K mg "Barred" (cA K "Barred")
 r_Loose:ExC K mg "Loose" (cA K "Loose")
 r_NoMatch:ExC K mg "NoMatch" (cA K "NoMatch")
 r_NoNames:ExC K mg "NoNames" (cA K "NoNames")
 b_all:mg "all"=none
 b_any:mg "any"=none
 b_dict:mg "dict"=none
 b_enumerate:mg "enumerate"=none
 b_int:mg "int"=none
 b_isinstance:mg "isinstance"=none
 b_len:mg "len"=none
 b_list:mg "list"=none
 b_min:mg "min"=none
 b_range:mg "range"=none
 b_reversed:mg "reversed"=none
 b_set:mg "set"=none
 b_sorted:mg "sorted"=none
 b_str:mg "str"=none
 b_tuple:mg "tuple"=none
 c_MOST_NAME_SIGNS:BW mg "MOST_NAME_SIGNS" (.int 24)
 c_NAME_SIGNS:BW mg "NAME_SIGNS" (.str eM)
 c_SMALL_LETTERS:BW mg "SMALL_LETTERS" (.str aN)
abbrev kSL:Str:="abcdefghijklmnopqrstuvwxyz"
abbrev kNS:Str:="abcdefghijklmnopqrstuvwxyz0123456789."
def oX (x signs:Str):Bool:=x.cps.toList.all λc=>decide (c∈signs.cps.toList)
def N7 (x signs:Str)(most:Int):Bool:=decide (1<=(x.length:Int))&&decide ((x.length:Int)<=most)&&oX x signs
def Du (x signs:Str):Bool:=decide (x.cps.toList.headD 0∈signs.cps.toList)
def N9 (x:Str):Bool:=N7 x kNS 24&&Du x kSL
def F8 (x:Str):Bool:=N7 x kSL 8
def Dg (K:Kd)(H:Hp)(v:V):Prop:=∃t,TyB K H v t/\t≠"str"
def yO (K:Kd)(f:Str->Bool)(v:V)(H:Hp)(Q:VK):Prop:=
 (∃x,v= .str x/\x.length<=1000/\∀H',Same H H'->Q (.bl (f x)) H')\/(Dg K H v/\∀H',Same H H'->Q (.bl false) H')
def cJ (K:Kd):Sp:=λvs H Q _=>∃v signs most,vs=[v,.str signs,.int most]/\yO K (λx=>N7 x signs most) v H Q
def gZ (K:Kd):Sp:=λvs H Q _=>∃v,vs=[v]/\yO K N9 v H Q
def cK (K:Kd):Sp:=λvs H Q _=>∃c k:Int,vs=[.int c,.int k]/\0<=k/\k<=1000/\∀m:Int,0<=m->Q (.int m) H
def Et (H:Hp)(Q:VK)(P:List Str->Prop):Prop:=∀(p:Addr) (H':Hp) (ss:List Str),H p=none->Same H H'->H' p=some (.lst (ss.map V.str))->P ss->Q (.ref p) H'
def b8 (W:C3):List Str:=W.pts.map (·.1)++W.ts.map (·.1)
structure WebIs (n:Nat) (K:Kd) (H:Hp) (a p q:Addr) (kvs:List (j4×V)) (W:C3):Prop where
 at_:WebAt K H a p q kvs W
 hp:H p=some (.dK (i6 W.pts))
 hq:H q=some (.dK kvs)
 ne:p≠q
 nd:(b8 W).Nodup
 len:(b8 W).length<=n
 ends:∀x∈W.ts,x.2.2.1∈W.pts.map (·.1)/\x.2.2.2∈W.pts.map (·.1)
 nl:∀x∈b8 W,x.length<=100
theorem WebIs.same {n:Nat}{K:Kd}{H H':Hp}{a p q:Addr}{kvs:List (j4×V)}{W:C3}(h:WebIs n K H a p q kvs W)(s:Same H H'):WebIs n K H' a p q kvs W:=⟨h.at_.mono s.le,s _ _ h.hp,s _ _ h.hq,h.ne,h.nd,h.len,h.ends,h.nl⟩
local macro_rules| `(tactic|walk_at "b")=> `(tactic|(intro _ _ _ _ _ _ us hl;first|exact bn0 hl rfl|exact Fc hl λ_=>rfl|exact ET hl λ_ _=>rfl|exact Ff hl λ_ _ _=>rfl|exact EN hl λ_ _ _ _=>rfl|exact Fn hl λ_ _ _ _ _=>rfl|exact EU hl λ_ _ _ _ _ _=>rfl))
local macro_rules| `(tactic|walk_at "E")=> `(tactic|first
 |(with_reducible (first|refine r_par ?_|refine xC ?_|refine Ew ?_|refine r_callE ?_|refine CN ?_|refine AA ?_|refine Fq ?_|refine DL ?_|refine Dh ?_|refine Cy ?_|refine Ak ?_|refine Ba ?_|refine By ?_|refine AH ?_|refine En ?_|refine xx ?_|refine sk ?_|refine CW ?_|refine r_dz ?_|refine zi ?_|refine BS ?_|refine BQ ?_|refine AW ?_|refine Ex ?_|refine Bo ?_|refine Dj ?_|refine Ci ?_|refine Ed ?_|refine Bf ?_|refine Bv ?_|refine yX ?_|refine r_if ?_|refine Ct ?_|refine zC ?_|refine AG ?_|refine Ee ?_|refine DI ?_|refine uL ?_|refine zu ?_|refine CZ ?_|refine r_chain ?_|refine sZ ?_|refine Eh ?_|refine tW ?_|refine r_lt_str ?_|refine oU ?_|refine r_eq_bl ?_|refine oP ?_|refine uB ?_|refine r_notIn_sgn ?_|refine r_is ?_|refine vX ?_|refine w_eq_bl ?_|refine iX ?_|refine pf ?_|refine wZ ?_|refine w_ne_bl ?_|refine w_ne_str ?_|refine ni ?_|refine n_ne_bl ?_|refine n_ne_str ?_|refine BC ?_|refine xk ?_|refine zB ?_|refine r_enum ?_|refine r_zip ?_|refine yb ?_|refine zl ?_|refine Ec ?_|refine Cm ?_|refine Eu ?_|refine CS ?_|refine CI ?_|refine vz ?_|refine Bx ?_|refine Dl ?_|refine Eb ?_|refine DP ?_|refine BR ?_|refine BN ?_))
 |((with_reducible refine' CY ?h ?_);(case h=>rfl))
 |with_reducible refine zH _ ?_
 |((with_reducible refine' tK ?c ?_);(case c=>(unfold CMul;lia)))
 |((with_reducible refine' ED ?c ?_);(case c=>(first|lia|(dsimp only<;>lia)|(unfold CMul;lia)|(unfold CC;lia)|(unfold DR;decide)|exact Int.pow_pos (by decide)))))
local macro_rules| `(tactic|walk_at "R")=> `(tactic|first|with_reducible refine A1 ?_|with_reducible refine r_try ?_|walk_at "E")
local macro_rules| `(tactic|walk_at "r")=> `(tactic|repeat walk_at "R")
local macro_rules| `(tactic|walk_at "e")=> `(tactic|repeat walk_at "E")
local macro_rules| `(tactic|walk_at "l")=> `(tactic|first|exact Or.inl rfl|exact Or.inr rfl)
section
variable {P:Program} {w:World} {K:Kd} {mg:Str->Option Value} {base:Heap}
def aC (i:Int):Nat:=("abcdefghijklmnopqrstuvwxyz":Str).cps.toList.getD i.toNat 0
theorem pZ (i:Int)(h0:0<=i)(h1:i<26):jI ("abcdefghijklmnopqrstuvwxyz":Str).cps.toList i=some (aC i):=by
 have hl:("abcdefghijklmnopqrstuvwxyz":Str).cps.toList.length=26:=by decide+kernel
 obtain⟨v,hv,KH⟩:=fJ (xs:=("abcdefghijklmnopqrstuvwxyz":Str).cps.toList) h0 (by rw[hl];exact h1);rw[hv];unfold aC;rw[Gf,KH];rfl
theorem nG:∀i j:Nat,i<26->j<26->aC i=aC j->i=j:=by
 have h:∀i,i<26->∀j,j<26->aC (i:Nat)=aC (j:Nat)->i=j:=by decide+kernel
 exact λi j hi hj=>h i hi j hj
theorem xr {x y:Str}{c d:Nat}(h:x++(⟨#[c]⟩:Str)++y=x++(⟨#[d]⟩:Str)++y):c=d:=by
 have h':(x.cps++ #[c]++y.cps)=(x.cps++ #[d]++y.cps):=GY Str.cps h;have h2:=GY Array.toList h';simpa using h2
theorem iA {f:Nat->Str}:∀{n:Nat},(∀i j,i<n->j<n->f i=f j->i=j)->((List.range n).map f).Nodup
 |0,_=>GX
 |n+1,h=>by
  rw[Hx,FF];refine B9 (iA λi j hi hj=>h i j (by lia) (by lia)) λm=>?_;obtain⟨i,hi,e⟩:=Fx.mp m;have Ly:=Hn.mp hi;have z:=h i n (by lia) (by lia) e;lia
theorem fu:("abcdefghijklmnopqrstuvwxyz":Str).length<=sizeLine:=by decide+kernel
theorem V0 (ss:List Str):(ss.map V.str).all F0=true:=by
 rw[HC,Gk];intro _ _;rfl
theorem ox {F:j4×V->Prop}{kvs:List (j4×V)}{k:j4}{v:V}(h:∀kv∈kvs,F kv)(h':F (k,v)):∀kv∈E3 kvs k v,F kv:=by
 intro kv d_;unfold E3 at d_;split at d_
 .obtain⟨x,hx,e⟩:=Fx.mp d_;split at e
  .next e'=>rw[←e,e'];exact h'
  .rw[←e];exact h x hx
 .rcases FC.mp d_ with z|z
  .exact h kv z
  .rw[FH.mp z];exact h'
theorem Ac {kvs:List (j4×V)}{k:j4}{v:V}(h:(kvs.map (·.1)).Nodup):((E3 kvs k v).map (·.1)).Nodup:=by
 cases e:A2 kvs k with
 |none=>exact xM v h e
 |some x=>
  unfold E3
  rw[if_pos (by rw[M9,e];rfl),Gg]
  have e2:((λkv:j4×V=>kv.1)∘λkv=>if kv.1=k then(kv.1,v) else kv)=λkv=>kv.1:=by
   funext kv;show(if kv.1=k then(kv.1,v) else kv).1=kv.1;split<;>rfl
  rw[e2];exact h
theorem xO {pts:List (Str×Str)}:∀kv∈i6 pts,∃n s,kv=(Sum.inr n,V.str s):=by
 intro kv h;obtain⟨x,_,e⟩:=Fx.mp h;exact⟨x.1,x.2,e.symm⟩
theorem dZ {K:Kd}{H:Hp}{d:Addr}{k1 k2 kv:_}{x:Str×N3}(h:H d=some (.dK k1))(t:TieAt K H kv x):TieAt K (upd H d (.dK k2)) kv x:=by
 obtain⟨e,a,ea,s⟩:=t;refine⟨e,a,ea,?_⟩;rcases s with s|s
 .refine .inl ?_;by_cases z:a=d
  .subst z;rcases s with s|⟨_,s⟩<;>(rw[h] at s;cases s)
  .unfold Rd;rw[d0 z];exact s
 .exact .inr s
theorem E4 {H H1:Hp}{d:Addr}{o:HO}(s:Same H H1)(h:H d=none):Same H (upd H1 d o):=λb u e=>by
 rw[d0 (b7 e h)];exact s _ _ e
theorem J6 {ss:List Str}{i:Int}(h0:0<=i)(h1:i<ss.length):∃x,jI (ss.map V.str) i=some (.str x)/\x∈ss:=by
 obtain⟨v,hv,KH⟩:=fJ (xs:=ss.map V.str) h0 (by rw[Fv];exact h1);rw[FD] at KH;obtain⟨x,hx,e⟩:=Gj.mp KH;exact⟨x,by rw[hv,e],FI hx⟩
theorem A8 {α:Type}(l:List (Str×α)):(l.map (·.1)).map (Sum.inr:Str->j4)=l.map λx=>Sum.inr x.1:=by rw[Gg];rfl
theorem ay {l:List Str}{n:Str}(h:(Sum.inr n:j4)∈l.map (Sum.inr:Str->j4)):n∈l:=by
 obtain⟨x,hx,e⟩:=Fx.mp h;rw[←HE e];exact hx
theorem Q1 {kvs:List (j4×V)}{k:j4}(h:k∉kvs.map (·.1)):A2 kvs k=none:=by
 cases e:A2 kvs k with
 |none=>rfl
 |some v=>exact absurd (qY e) h
theorem AI {a:List (Str×Str)}{b:List (Str×N3)}{n:Str}{t:N3}(h:(a.map (·.1)++b.map (·.1)).Nodup)(f:n∉a.map (·.1)++b.map (·.1)):(a.map (·.1)++(b++[(n,t)]).map (·.1)).Nodup:=by
 rw[FF,←Gx];exact B9 h f
theorem vS {a:List (Str×Str)}{b:List (Str×N3)}{n s:Str}(h:(a.map (·.1)++b.map (·.1)).Nodup)(f:n∉a.map (·.1)++b.map (·.1)):((a++[(n,s)]).map (·.1)++b.map (·.1)).Nodup:=by
 have z:=B9 h f;refine(List.Perm.nodup_iff ?_).mpr z;rw[FF,Gx,Gx];exact List.Perm.append_left _ JQ
theorem xV {a:List (Str×Str)}{b:List (Str×N3)}{n:Str}{t:N3}{l:List Str}(h:∀x∈a.map (·.1)++b.map (·.1),x∈l)(f:n∈l):∀x∈a.map (·.1)++(b++[(n,t)]).map (·.1),x∈l:=by
 intro x hx;rw[FF,←Gx] at hx;rcases FC.mp hx with h'|h'
 .exact h x h'
 .have:x=n:=by simpa using h'
  rw[this];exact f
theorem qE {a:List (Str×Str)}{b:List (Str×N3)}{n s:Str}{l:List Str}(h:∀x∈a.map (·.1)++b.map (·.1),x∈l)(f:n∈l):∀x∈(a++[(n,s)]).map (·.1)++b.map (·.1),x∈l:=by
 intro x hx;rw[FF,Gx] at hx;rcases FC.mp hx with h'|h'
 .exact h x (Fy _ h')
 .rcases FC.mp h' with h2|h2
  .have:x=n:=by simpa using h2
   rw[this];exact f
  .exact h x (FA _ h2)
theorem E2 {α β:Type}{F:α->β->Prop}:∀{l:List α} {m:List β} {a:α} {b:β},Paired F l m->F a b->Paired F (l++[a]) (m++[b])
 |_,_,_,_,.nil,h=> .cons h .nil
 |_,_,_,_,.cons r t,h=> .cons r (E2 t h)
theorem U2:∀{kvs:List (j4×V)} {kv:j4×V},(kvs.map (·.1)).Nodup->kv∈kvs->A2 kvs kv.1=some kv.2
 |p::r,kv,nd,h=>by
  have C':=GK.mp (show(p.1::r.map (·.1)).Nodup from nd);rcases Gn.mp h with z|z
  .rw[z];exact I0 rfl
  .rw[I9 λe=>C'.1 (by rw[e];exact Fx.mpr ⟨kv,z,rfl⟩)];exact U2 C'.2 z
theorem zU {kvs:List (j4×V)}{ss:List Str}(hk:kvs.map (·.1)=ss.map Sum.inr)(nd:(kvs.map (·.1)).Nodup):kvs=ss.map λs=>(Sum.inr s,(A2 kvs (Sum.inr s:j4)).getD .non):=by
 have h1:kvs=kvs.map λkv=>(kv.1,(A2 kvs kv.1).getD .non):=by
  have:∀kv∈kvs,kv=(kv.1,(A2 kvs kv.1).getD .non):=λkv h=>by rw[U2 nd h];rfl
  exact(Jg kvs).symm.trans (Gz this)
 have h2:(kvs.map λkv=>(kv.1,(A2 kvs kv.1).getD V.non))=(kvs.map (·.1)).map λk=>(k,(A2 kvs k).getD .non):=by rw[Gg];rfl
 rw[hk,Gg] at h2;exact h1.trans h2
theorem iY:∀{r a:List (j4×V)},((a++r).map (·.1)).Nodup->r.foldl (λa x=>E3 a x.1 x.2) a=a++r
 |[],a,_=>by simp
 |p::r,a,nd=>by
  rw[Ib];have C':((a++[p]++r).map (·.1)).Nodup:=by rw[Gx];exact nd
  have hf:p.1∉a.map (·.1):=λm=>by
   rw[FF] at nd;exact(FR.mp nd).2.2 p.1 m p.1 (by simp) rfl
  rw[Q8 p.2 (Q1 hf),iY (r:=r) (a:=a++[(p.1,p.2)]) C',Gx];rfl
theorem aj {kvs:List (j4×V)}(nd:(kvs.map (·.1)).Nodup):gh kvs=kvs:=by
 unfold gh;rw[iY (by simpa using nd)];rfl
theorem PrV.mono {K:Kd}{H H':Hp}{x:V}{kv:j4×V}(l:Le H H')(h:PrV K H x kv):PrV K H' x kv:=let ⟨t,e,s⟩:=h;⟨t,e,l.tup s⟩
theorem W8 {α β:Type}{F:α->β->Prop}{l2 m:List α}(h:l2.Perm m):∀{r:List β},Paired F m r->∃r',Paired F l2 r'/\r'.Perm r:=by
 induction h with
 |nil=>intro r p;cases p;exact⟨[],.nil,.nil⟩
 |cons x _ ih=>
  intro r p
  cases p with
  |cons a b=>
   obtain⟨r',h1,h2⟩:=ih b
   exact⟨_::r',.cons a h1,h2.cons _⟩
 |swap x y l=>
  intro r p
  cases p with
  |cons a b=>
   cases b with
   |cons c d=>exact⟨_::_::_,.cons c (.cons a d),.swap _ _ _⟩
 |trans _ _ ih1 ih2=>
  intro r p
  obtain⟨r',h1,h2⟩:=ih2 p
  obtain⟨WR,h3,h4⟩:=ih1 h1
  exact⟨WR,h3,h4.trans h2⟩
theorem az:∀pts:List (Str×Str),Paired (fun(kv:j4×V) (x:Str×Str)=>kv=(Sum.inr x.1,.str x.2)) (i6 pts) pts
 |[]=> .nil
 |x::r=> .cons rfl (az r)
theorem dw:∀{kvs:List (j4×V)} {pts:List (Str×Str)},Paired (fun(kv:j4×V) (x:Str×Str)=>kv=(Sum.inr x.1,.str x.2)) kvs pts->kvs=i6 pts
 |_,_,.nil=>rfl
 |_,_,.cons e t=>by rw[e,dw t];rfl
theorem we {kvs:List (j4×V)}{pts:List (Str×Str)}(h:kvs.Perm (i6 pts)):∃J_,kvs=i6 J_/\J_.Perm pts:=by
 obtain⟨r,h1,h2⟩:=W8 h (az pts);exact⟨r,dw h1,h2⟩
theorem j8 (pts:List (Str×Str)):(i6 pts).length=pts.length:=by unfold i6;rw[Fv]
theorem Q5 {pts:List (Str×Str)}{i:Nat}{kv:j4×V}(h:(i6 pts)[i]?=some kv):∃x,pts[i]?=some x/\kv=(Sum.inr x.1,.str x.2):=by
 unfold i6 at h;rw[FD] at h;obtain⟨x,hx,e⟩:=Gj.mp h;exact⟨x,hx,e.symm⟩
theorem M0 {D d:Addr}{kvs:List (j4×V)}{o:Obj}{u:HO}{H H1:Hp}(h:H d=some (.dK kvs))(s:Same (z8 d o kvs H) H1)(hD:H1 D=none):Same H (thaw d (upd H1 D u)):=
 Same.thaw h λb v z=>by rw[d0 (b7 (s _ _ z) hD)];exact s _ _ z
theorem U9 {D d:Addr}{kvs:List (j4×V)}{o:Obj}{u:HO}{H H1:Hp}(s:Same (z8 d o kvs H) H1)(hD:H1 D=none):(thaw d (upd H1 D u)) D=some u:=by
 have Sj:D≠d:=λz=>by rw[z,s _ _ d8] at hD;cases hD
 rw[Q7 Sj,d8]
theorem mf {D d:Addr}{u:HO}{H1:Hp}(hD:H1 D=none):Le H1 (thaw d (upd H1 D u)):=by
 have s:Same H1 (upd H1 D u):=λb v z=>by rw[d0 (b7 z hD)];exact z
 exact s.le.trans kY
theorem U4 {pts:List (Str×Str)}(h:(pts.map (·.1)).Nodup):((i6 pts).map (·.1)).Nodup:=by
 rw[K4,←A8];refine Ii _ ?_ h;exact λa b h z=>h (HE z)
theorem u7 {α:Type}:∀{l:List (Str×α)} {n:Str} {x y:α},(l.map (·.1)).Nodup->(n,x)∈l->(n,y)∈l->x=y
 |p::r,n,x,y,nd,hx,hy=>by
  have C':=GK.mp (show(p.1::r.map (·.1)).Nodup from nd);rcases Gn.mp hx with zx|zx
  .rcases Gn.mp hy with zy|zy
   .have:=zx.trans zy.symm;exact(II this).2
   .exact absurd (Fx.mpr ⟨(n,y),zy,by rw[←zx]⟩) C'.1
  .rcases Gn.mp hy with zy|zy
   .exact absurd (Fx.mpr ⟨(n,x),zx,by rw[←zy]⟩) C'.1
   .exact u7 C'.2 zx zy
theorem lS {K:Kd}{H:Hp}{kvs:List (j4×V)}{ts:List (Str×N3)}{n:Str}{t:N3}(w:TiesIs K H kvs ts)(nd:(ts.map (·.1)).Nodup)(h:(n,t)∈ts):∃a,A2 kvs (Sum.inr n:j4)=some (.ref a)/\SqT K H a (W0 t):=by
 obtain⟨a,x,h1,h2,h3⟩:=TiesIs.val (ts:=ts) w (Fx.mpr ⟨(n,t),h,rfl⟩);rw[u7 nd h h2];exact⟨a,h1,h3⟩
theorem K3 {pts:List (Str×Str)}{n k:Str}(nd:(pts.map (·.1)).Nodup)(h:(n,k)∈pts):A2 (i6 pts) (Sum.inr n:j4)=some (.str k):=
 U2 (kv:=(Sum.inr n,.str k)) (U4 nd) (Fx.mpr ⟨(n,k),h,rfl⟩)
theorem jg {n:Str}:∀{gs:List Str},BH (.str n) (gs.map V.str)=decide (n∈gs)
 |[]=>rfl
 |g::r=>by
  show(eE (.str g) (.str n)||BH (.str n) (r.map V.str))=_;rw[jg (gs:=r),show eE (.str g) (.str n)=decide (g=n) by unfold eE;rw[GC];simp];rw[GC];simp;constructor
  .rintro(h|h)
   .exact .inl h.symm
   .exact .inr h
  .rintro(h|h)
   .exact .inl h.symm
   .exact .inr h
theorem J0 {K:Kd}{H:Hp}{Q:VK}{l:Addr}{gs:List Str}{n:Str}(h:SqL K H l (gs.map V.str))(q:Q (.bl (!decide (n∈gs))) H):gI K (.str n) (.ref l) H Q:=
 .inr (.inl ⟨l,_,rfl,.inl h,rfl,V0 _,by rw[if_pos rfl,jg];exact q⟩)
theorem cf {K:Kd}{H:Hp}{Q:VK}{l:Addr}{gs:List Str}{n:Str}(h:SqL K H l (gs.map V.str))(q:Q (.bl (decide (n∈gs))) H):tD K (.str n) (.ref l) H Q:=
 oO (.inl h) rfl (V0 _) (by rw[jg];exact q)
def dy (gs:List Str):j4->Bool
 | .inr n=>decide (n∈gs)
 |_=>false
theorem Q4 {α β:Type}{F:α->β->Prop}{f:α->Bool}{g:β->Bool}(h:∀a b,F a b->f a=g b):∀{l:List α} {m:List β},Paired F l m->Paired F (l.filter f) (m.filter g)
 |_,_,.nil=> .nil
 |a::l,b::m,.cons r t=>by
  have z:=Q4 h t;have e:=h a b r;cases hb:g b with
  |true=>rw[Gu (by rw[e,hb]),Gu hb];exact .cons r z
  |false=>rw[GA (by rw[e,hb];simp),GA (by rw[hb];simp)];exact z
theorem M4 {α β:Type}{f:α->β}{p:α->Bool}{l:List α}(h:(l.map f).Nodup):((l.filter p).map f).Nodup:=h.sublist ((GJ).map f)
theorem ky {ka kb:List (j4×V)}(nd:((ka++kb).map (·.1)).Nodup):N4 ka kb=ka++kb:=iY nd
theorem cT {α β:Type}{F:α->β->Prop}:∀{l1 l2:List α} {m1 m2:List β},Paired F l1 m1->Paired F l2 m2->Paired F (l1++l2) (m1++m2)
 |_,_,_,_,.nil,h=>h
 |_,_,_,_,.cons r t,h=> .cons r (cT t h)
theorem rp {K:Kd}{H:Hp}{kvs:List (j4×V)}{ts:List (Str×N3)}(w:TiesIs K H kvs ts)(h:(ts.map (·.1)).Nodup):(kvs.map (·.1)).Nodup:=by
 rw[w.keys,←A8];refine Ii _ ?_ h;exact λa b h z=>h (HE z)
theorem C9 {K:Kd}{H:Hp}{d:Addr}{k1 k2:List (j4×V)}{kvs:List (j4×V)}{ts:List (Str×N3)}(h:H d=some (.dK k1))(w:TiesIs K H kvs ts):TiesIs K (upd H d (.dK k2)) kvs ts:=Paired.imp' (λ_ _ z=>dZ h z) w
theorem zt {α:Type}{l m:List (Str×α)}(h1:(l.map (·.1)).Nodup)(h2:(m.map (·.1)).Nodup)(h:∀n∈m.map (·.1),n∉l.map (·.1)):((l++m).map (·.1)).Nodup:=by
 rw[FF];exact FR.mpr ⟨h1,h2,λa ha b hb e=>h b hb (e▸ha)⟩
theorem L8 {pts:List (Str×Str)}{n:Str}:(A2 (i6 pts) (Sum.inr n:j4)).isSome=decide (n∈pts.map (·.1)):=by
 rw[←M9,GC,Hg,GI];constructor
 .rintro⟨kv,d_,e⟩;obtain⟨x,hx,rfl⟩:=Fx.mp d_;exact Fx.mpr ⟨x,hx,HE (Hu e)⟩
 .intro m;obtain⟨x,hx,rfl⟩:=Fx.mp m;exact⟨_,Fx.mpr ⟨x,hx,rfl⟩,FZ rfl⟩
theorem U5 {K:Kd}{H:Hp}{kvs:List (j4×V)}{ts:List (Str×N3)}{n:Str}(w:TiesIs K H kvs ts):(A2 kvs (Sum.inr n:j4)).isSome=decide (n∈ts.map (·.1)):=by
 by_cases hn:n∈ts.map (·.1)
 .obtain⟨a,x,h1,_⟩:=TiesIs.val (ts:=ts) w hn;rw[h1,FZ hn];rfl
 .cases e:A2 kvs (Sum.inr n:j4) with
  |none=>simp [hn]
  |some v=>
   have z:=qY e
   rw[w.keys,←A8] at z
   exact absurd (ay z) hn
theorem qx {K:Kd}{H:Hp}{kb:List (j4×V)}:∀{ka:List (j4×V)},(∀kv∈ka,∃y,A2 kb kv.1=some y/\Eq1 K H kv.2 y true)->EqH K H kb ka true
 |[],_=> .nil
 |kv::r,h=>by
  obtain⟨y,h1,h2⟩:=h kv FU;exact EqH.hit (e:=true) (b:=true) h1 h2 (qx λx hx=>h x (Gb _ hx))
theorem yg {K:Kd}{H:Hp}(s:Str):Eq1 K H (.str s) (.str s) true:=by
 have z:=Eq1.flat (K:=K) (H:=H) (x:= .str s) (y:= .str s) rfl rfl;rw[dJ rfl] at z;exact z
theorem vR {K:Kd}{H:Hp}{a b:Addr}{t:N3}(h:SqT K H a (W0 t))(h':SqT K H b (W0 t)):Eq1 K H (.ref a) (.ref b) true:=by
 have z:=Eq1.tup h h' rfl rfl;rw[fj rfl] at z;exact z
theorem gU {K:Kd}{H:Hp}{p p':Addr}{pts J_:List (Str×Str)}(l_:p≠p')(h1:Rd H p (.dK (i6 pts)))(h2:Rd H p' (.dK (i6 J_)))(pm:pts.Perm J_)(nd:(J_.map (·.1)).Nodup):EqD K H p p' true:=
 .inr ⟨l_,_,_,true,h1,h2,qx λkv d_=>by
  obtain⟨x,hx,rfl⟩:=Fx.mp d_;exact⟨_,K3 nd (pm.mem_iff.mp hx),yg _⟩,by rw[j8,j8,pm.length_eq];simp⟩
theorem iM {K:Kd}{H:Hp}{q q':Addr}{kvs h_:List (j4×V)}{ts OS:List (Str×N3)}(l_:q≠q')(h1:Rd H q (.dK kvs))(h2:Rd H q' (.dK h_))(w:TiesIs K H kvs ts)(w':TiesIs K H h_ OS)(pm:ts.Perm OS)(nd:(OS.map (·.1)).Nodup):EqD K H q q' true:=
 .inr ⟨l_,_,_,true,h1,h2,qx λkv d_=>by
  obtain⟨i,hi⟩:=GW d_;obtain⟨x,hx,ex,b,eb,sb⟩:=w.get hi;obtain⟨c,e1,e2⟩:=lS w' nd (pm.mem_iff.mp (FI hx));refine⟨.ref c,by rw[ex];exact e1,?_⟩;rw[eb];exact vR sb e2,by rw[w.length,w'.length,pm.length_eq];simp⟩
theorem F7 {K:Kd}{H:Hp}{a d:Addr}{k1:List (j4×V)}{u:HO}{xs:List V}(h:H d=some (.dK k1))(s:SqT K H a xs):SqT K (upd H d u) a xs:=by
 rcases s with s|s
 .refine .inl ?_;by_cases z:a=d
  .subst z;rcases s with s|⟨_,s⟩<;>(rw[h] at s;cases s)
  .unfold Rd;rw[d0 z];exact s
 .exact .inr s
theorem gR:∀{kvs:List (j4×V)} {k:j4} {v:V},A2 kvs k=some v->(k,v)∈kvs
 |p::r,k,v,h=>by
  by_cases e:p.1=k
  .rw[I0 e] at h;rw[←e,←Ga h];exact FU
  .rw[I9 e] at h;exact Gb _ (gR h)
theorem nv (a b:N3):Y0 (W0 a) (W0 b)=decide (a=b):=by
 obtain⟨a1,a2,a3⟩:=a;obtain⟨b1,b2,b3⟩:=b;show(a1==b1&&(a2==b2&&(a3==b3&&true)))=_;rw[GC];simp
theorem eJ (a:N3):(W0 a).all F0=true:=rfl
theorem mj {pts:List (Str×Str)}{n:Str}{v:V}(h:A2 (i6 pts) (Sum.inr n:j4)=some v):∃k,v= .str k/\(n,k)∈pts:=by
 obtain⟨x,hx,e⟩:=Fx.mp (gR h);obtain⟨x1,x2⟩:=x;have e1:=(II e).1;have e2:=(II e).2;exact⟨x2,e2.symm,by rw[←HE e1];exact hx⟩
theorem BO {H:Hp}{Q:VK}{pts:List (Str×Str)}{m k:Str}(nd:(pts.map (·.1)).Nodup)(q:Q (.bl (decide ((m,k)∈pts))) H):ki K ((A2 (i6 pts) (Sum.inr m:j4)).getD .non) (.str k) H Q:=by
 cases e:A2 (i6 pts) (Sum.inr m:j4) with
 |none=>
  refine jP (mJ ?_)
  rw[Ge (λz=>by rw[K3 nd z] at e;cases e)] at q;exact q
 |some v=>
  obtain⟨k2,rfl,hk⟩:=mj e
  refine iX ?_
  have:decide (k2=k)=decide ((m,k)∈pts):=by
   rw[GC,GI,GI];exact⟨λz=>z▸hk,λz=>u7 nd hk z⟩
  rw[this];exact q
theorem AJ {H:Hp}{Q:VK}{kvs:List (j4×V)}{ts:List (Str×N3)}{m:Str}{y:N3}{l:Addr}(w:TiesIs K H kvs ts)(nd:(ts.map (·.1)).Nodup)(hl:SqT K H l (W0 y))(q:Q (.bl (decide ((m,y)∈ts))) H):ki K ((A2 kvs (Sum.inr m:j4)).getD .non) (.ref l) H Q:=by
 by_cases hm:m∈ts.map (·.1)
 .obtain⟨a,x,h1,h2,h3⟩:=TiesIs.val (ts:=ts) w hm;rw[h1];refine jP (oT h3 hl (eJ _) (eJ _) ?_);rw[nv];have:decide (x=y)=decide ((m,y)∈ts):=by
   rw[GC,GI,GI];exact⟨λz=>z▸h2,λz=>u7 nd h2 z⟩
  rw[this];exact q
 .have e:A2 kvs (Sum.inr m:j4)=none:=by
   have z:=U5 (n:=m) w;rw[Ge hm] at z;cases e:A2 kvs (Sum.inr m:j4) with
   |none=>rfl
   |some v=>rw[e] at z;cases z
  rw[e];refine jP (lI hl ?_);rw[Ge (λz=>hm (Fx.mpr ⟨_,z,rfl⟩))] at q;exact q
theorem E1 {W:C3}(h:(b8 W).Nodup):(W.pts.map (·.1)).Nodup:=(FR.mp h).1
theorem N1 {W:C3}(h:(b8 W).Nodup):(W.ts.map (·.1)).Nodup:=(FR.mp h).2.1
theorem r6 {t u:TS}{nx:L2.St->Hp->Prop}{rt:V->Hp->Prop}{bk ct:L2.St->Hp->Prop}{σ:L2.St}{H:Hp}(h:∀MG:L2.St->Hp->Prop,(∀σ H,u ⟨nx,rt,bk,ct⟩ σ H->MG σ H)->t ⟨MG,rt,bk,ct⟩ σ H):ip t u ⟨nx,rt,bk,ct⟩ σ H:=h _ λ_ _ z=>z
theorem Bi {t:String}(h:t≠"str"):dY t "str"=false:=by
 unfold dY;have e1:(t=="str")=false:=by simpa using h
 rw[e1];simp
abbrev eo (P:Program)(w:World)(K:Kd)(mg:Str->Option Value)(base:Heap):Prop:=N8 P w K mg base C0 1 "is_text_of" ["thing","signs","most"] [] (cJ K)
theorem jE {f:Addr}{fd:FuncData}(T:Txt K mg)(F:Fun K "is_text_of" "is_text_of" aI f fd):u9 P w K mg base C0 1 f fd ["thing","signs","most"] (cJ K):=by
 refine F.ok sc_is_text_of (λvs H Q E h=>?_) (λc_ A outer s H vs Q E hr h=>?_)
 .obtain⟨v,signs,most,rfl,_⟩:=h;rfl
 .obtain⟨v,signs,most,rfl,h⟩:=h;have hN:=sc_is_text_of.nd;have hu:=u6 hr;refine⟨_,QSs.r (z6 (cm (kG (fI (Z5 (Z7 K (qB (dC K P w) T.b_isinstance Boot.«isinstance» (i7 (qV 0) (i7 (yl "str" T.b_str Boot.«str») j5))))) (fI (p0 ie (qB (B8 K P w) T.b_len Boot.«len» (i7 (qV 0) j5)) d6 (r9 _)) (bB (p0 wm (qB (B8 K P w) T.b_len Boot.«len» (i7 (qV 0) j5)) (qV 2) (r9 _)))))) (C4 (A3 rh)) cU)
   (C4 (A3 (qB (wg K rfl) T.b_all Boot.«all» (i7 (N0 (own:=["sign"]) (js:=[1]) (by kernel_rfl) rfl (P8 K (qV 0)) (λ_ _ _ _=>(F4 (i:=0) (show List.Nodup (["sign","signs"]:List Str) by decide+kernel) rfl (by walk_at "l"))) (λ_ _ _ _=>aR) (λ_ _ _ _=>(eG (kIn K hu) (qV 0) (qV 1) (by rfl)))) j5))))),?_⟩
  rcases h with⟨x,rfl,hx,k⟩|⟨⟨t,ty,ht⟩,k⟩
  .walk_at "r";refine bO (bN (t:="str") rfl (by simp) ?_);walk_at "r";rw[if_neg (by decide)];walk_at "r";refine B7 (cc (d9 hx) ?_);walk_at "r";refine L5 (λh1=>?_) (λh1=>?_)
   .walk_at "r";have e:N7 x signs most=false:=by
     unfold N7;rw[Ge (by lia)];rfl
    rw[←e];exact k H (Same.refl H)
   .walk_at "r";refine B7 (cc (d9 hx) ?_);walk_at "r";refine L5 (λh2=>?_) (λh2=>?_)
    .walk_at "r";have e:N7 x signs most=false:=by
      unfold N7;rw[Ge (show ¬((x.length:Int)<=most) by lia)];simp
     rw[←e];exact k H (Same.refl H)
    .walk_at "r";refine z7 (n:=x.cps.size) (λi out H'=>H'=H/\out=(x.cps.toList.take i).map λc=>V.bl (decide (c∈signs.cps.toList))) ⟨rfl,rfl⟩ (λi out H' hi _=>by exact hi) ?_ ?_
     .rintro N i v out H1 H2 hi ⟨rfl,rfl⟩ y hN;obtain⟨rfl,c,hc,rfl⟩:=Its.lt y;walk_at "r";refine⟨rfl,?_⟩;walk_at "r";refine⟨d9 (by rw[Fv,FO,←cS];lia),hN _ _ ⟨rfl,?_⟩⟩;exact K6 (λc=>V.bl (decide (c∈signs.cps.toList))) hc
     .rintro out H1 ⟨rfl,rfl⟩;refine⟨Fz _,λD hD=>⟨d9 (by rw[Fv,FO,←cS];lia),?_⟩⟩;walk_at "r";refine om (bs:=x.cps.toList.map λc=>decide (c∈signs.cps.toList)) (SqL.of ?_) ?_
      .show upd H1 D _ D=_;rw[d8,FL (by simp),Gg];rfl
      .have e:N7 x signs most=(x.cps.toList.map λc=>decide (c∈signs.cps.toList)).all id:=by
        unfold N7 oX;rw[FZ (show 1<=(x.length:Int) by lia),FZ (show(x.length:Int)<=most by lia),HC];rfl
       rw[←e];exact k _ λb o q=>by
        show upd H1 D _ b=_;rw[d0 (b7 q hD)];exact q
  .walk_at "r";refine bO (bN ty (by simp) ?_);rw[Bi ht];walk_at "r";exact k H (Same.refl H)
theorem vw {x:Str}(h:1<=(x.length:Int)):jI x.cps.toList 0=some (x.cps.toList.headD 0):=by
 refine b6 (j:=0) ?_;have hl:=cS x;cases e:x.cps.toList with
 |nil=>rw[e] at hl;simp at hl;lia
 |cons c r=>rfl
abbrev kl (P:Program)(w:World)(K:Kd)(mg:Str->Option Value)(base:Heap):Prop:=N8 P w K mg base C0 2 "is_name" ["thing"] [] (gZ K)
theorem pQ {f:Addr}{fd:FuncData}(T:Txt K mg)(aH:eo P w K mg base)(F:Fun K "is_name" "is_name" fq f fd):u9 P w K mg base C0 2 f fd ["thing"] (gZ K):=by
 refine F.ok sc_is_name (λvs H Q E h=>?_) (λc_ A outer s H vs Q E hr h=>?_)
 .obtain⟨v,rfl,_⟩:=h;rfl
 .obtain⟨v,rfl,h⟩:=h;have hN:=sc_is_name.nd;have hu:=u6 hr;refine⟨_,QSs.r (C4 (A3 (uO (qC aH (hr.mono (by decide)) k7 (i7 (qV 0) (i7 (Ea T.c_NAME_SIGNS) (i7 (Ea T.c_MOST_NAME_SIGNS) j5)))) (yp (eG (kIn K hu) (j6 (j7 K hu) (qV 0) d6 (λ_ _=>rfl)) (Ea T.c_SMALL_LETTERS) (by rfl)))))),?_⟩;walk_at "r";refine⟨v,_,_,rfl,?_⟩;rcases h with⟨x,rfl,hx,k⟩|⟨no,k⟩
  .refine .inl ⟨x,rfl,hx,λH' sm=>?_⟩;walk_at "r";refine mK (λe=>?_) (λe=>?_)
   .walk_at "r";have h1:1<=(x.length:Int):=by
     unfold N7 at e;simp only[Gh,GI] at e;exact e.1.1
    refine Z9 (d9 hx) (vw h1) ?_;walk_at "r";have e2:N9 x=Du x kSL:=by
     unfold N9;rw[show N7 x kNS 24=true from e,Ij]
    have q:=k H' sm;rw[e2] at q;exact q
   .have e2:N9 x=false:=by
     unfold N9;rw[show N7 x kNS 24=false from e,Bool.false_and]
    have q:=k H' sm;rw[e2] at q;exact q
  .refine .inr ⟨no,λH' sm=>?_⟩;walk_at "r";exact k H' sm--SPLIT
def Bm (a b:Str):Prop:=a.cps.toList<b.cps.toList
theorem iG:∀{ss:List Str},vM ss=true->ss.Pairwise Bm
 |[],_=> .nil
 |[_],_=>List.pairwise_singleton _ _
 |x::y::r,h=>by
  rw[jQ,Gh] at h;have ih:=iG h.2;have UL:x.cps.toList<y.cps.toList:=Hu h.1;refine IE.mpr ⟨λz hz=>?_,ih⟩;rcases Gn.mp hz with e|e
  .rw[e];exact UL
  .exact List.lt_trans UL ((IE.mp ih).1 z e)
structure Ordr (W:C3) (s1 s2:List Str):Prop where
 p1:s1.Perm (W.pts.map (·.1))
 p2:s2.Perm (W.ts.map (·.1))
 o1:sortedS s1=true
 o2:sortedS s2=true
theorem Ordr.mem {W:C3}{s1 s2:List Str}(h:Ordr W s1 s2){n:Str}:n∈s1++s2↔n∈b8 W:=by
 unfold b8;rw[FC,FC,h.p1.mem_iff,h.p2.mem_iff]
theorem Ordr.perm {W:C3}{s1 s2:List Str}(h:Ordr W s1 s2):(s1++s2).Perm (b8 W):=h.p1.append h.p2
theorem Ordr.len {W:C3}{s1 s2:List Str}(h:Ordr W s1 s2):(s1++s2).length=(b8 W).length:=h.perm.length_eq
def i9 (kvm:List (j4×V))(n:Str):Str:=match A2 kvm (Sum.inr n:j4) with
 |some (.str s)=>s
 |_=>""
theorem mx {kvm:List (j4×V)}{n s:Str}(h:A2 kvm (Sum.inr n:j4)=some (.str s)):i9 kvm n=s:=by unfold i9;rw[h]
def TxtAt (kvm:List (j4×V))(n:Str):Prop:=∃s,A2 kvm (Sum.inr n:j4)=some (.str s)
theorem TxtAt.at_ {kvm:List (j4×V)}{n:Str}(h:TxtAt kvm n):A2 kvm (Sum.inr n:j4)=some (.str (i9 kvm n)):=by
 obtain⟨s,hs⟩:=h;rw[mx hs];exact hs
theorem vo {H:Hp}{Q:VK}{d:Addr}{kvm:List (j4×V)}{n:Str}(hD:Rd H d (.dK kvm))(h:TxtAt kvm n)(q:Q (.str (i9 kvm n)) H):nQ K (.ref d) (.str n) H Q:=
 k9 (by have z:=F5 (k:=Sum.inr n) hD;rw[h.at_] at z;exact z) q
def kF (K:Kd):Sp:=λvs H Q _=>∃(a p q:Addr) (kvs:List (j4×V)) (W:C3),vs=[.ref a]/\WebAt K H a p q kvs W/\(b8 W).length<=60/\∀(l:Addr) (H':Hp) (s1 s2:List Str),H l=none->Same H H'->H' l=some (.lst ((s1++s2).map V.str))->Ordr W s1 s2->Q (.ref l) H'
theorem A5 (W:C3):(b8 W).length=W.pts.length+W.ts.length:=by unfold b8;rw[FE,Fv,Fv]
abbrev Z8 (P:Program)(w:World)(K:Kd)(mg:Str->Option Value)(base:Heap):Prop:=N8 P w K mg base C0 1 "things" ["web"] [] (kF K)
theorem sd {f:Addr}{fd:FuncData}(T:Txt K mg)(F:Fun K "things" "things" jr f fd):u9 P w K mg base C0 1 f fd ["web"] (kF K):=by
 refine F.ok sc_things (λvs H Q E h=>?_) (λc_ A outer s H vs Q E hr h=>?_)
 .obtain⟨a,p,q,kvs,W,rfl,_⟩:=h;rfl
 .obtain⟨a,p,q,kvs,W,rfl,hW,h1,k⟩:=h;rw[A5] at h1;have hN:=sc_things.nd;have hu:=u6 hr;refine⟨_,QSs.r (C4 (A3 (A7 (F2 K) (qB (O1 K rfl) T.b_sorted Boot.«sorted» (i7 (j6 (j7 K hu) (qV 0) d6 (λ_ _=>rfl)) j5)) (qB (O1 K rfl) T.b_sorted Boot.«sorted» (i7 (j6 (j7 K hu) (qV 0) d6 (λ_ _=>rfl)) j5))))),?_⟩;walk_at "r";refine b5 hW.tup (b6 (j:=0) rfl) ?_;walk_at "r";refine A9 (ss:=W.pts.map (·.1)) hW.pts (by rw[K4,A8]) (by rw[Fv];lia) (λs1 a1 a2 l1 n1=>?_);obtain⟨H1,e1,f1,m1,_⟩:=b9 (o:= .lst _) n1;rw[e1];have W1:=hW.mono m1.le;walk_at "r";refine b5 W1.tup (b6 (j:=1) rfl) ?_;walk_at "r";refine A9 (ss:=W.ts.map (·.1)) W1.ties (by rw[W1.ts.keys,A8]) (by rw[Fv];lia) (λs2 b1 b2 l2 n2=>?_);obtain⟨H2,e2,f2,m2,_⟩:=b9 (o:= .lst _) n2;rw[e2];have g1:=a1.length_eq;have g2:=b1.length_eq;rw[Fv] at g1 g2;refine qJ (m2 _ _ f1) f2 (d9 (by rw[Fv,Fv];lia)) (λl3 n3=>?_);obtain⟨H3,e3,f3,m3,_⟩:=b9 (o:= .lst _) n3;rw[e3];refine k l3 H3 s1 s2 (m1.free (m2.free n3)) (m1.trans (m2.trans m3)) ?_ ⟨a1,b1,a2,b2⟩;rw[f3,FF]
def gf (K:Kd):Sp:=λvs H Q _=>∃(d:Addr) (kvs:List (j4×V)) (ss:List Str),vs=[.ref d]/\Rd H d (.dK kvs)/\kvs.map (·.1)=ss.map Sum.inr/\ss.Nodup/\ss.length<=60/\∀(l:Addr) (H':Hp) (h_:List (j4×V)),H l=none->Same H H'->H' l=some (.dK h_)->h_.Perm kvs->Q (.ref l) H'
def NewP (K:Kd)(H:Hp)(Q:VK)(W:C3):Prop:=∀(a p q:Addr) (kvs:List (j4×V)) (W':C3) (H':Hp),Same H H'->WebAt K H' a p q kvs W'->H' p=some (.dK (i6 W'.pts))->H' q=some (.dK kvs)->p≠q->H p=none->H q=none->W'.pts.Perm W.pts->W'.ts.Perm W.ts->Q (.ref a) H'
def ke (K:Kd):Sp:=λvs H Q _=>∃(a p q:Addr) (kvs:List (j4×V)) (W:C3),vs=[.ref a]/\WebAt K H a p q kvs W/\(W.pts.map (·.1)).Nodup/\(W.ts.map (·.1)).Nodup/\W.pts.length<=60/\W.ts.length<=60/\NewP K H Q W
abbrev jc (P:Program)(w:World)(K:Kd)(mg:Str->Option Value)(base:Heap):Prop:=N8 P w K mg base C0 1 "in_order" ["named"] [] (gf K)
theorem nz {f:Addr}{fd:FuncData}(T:Txt K mg)(F:Fun K "in_order" "in_order" cY f fd):u9 P w K mg base C0 1 f fd ["named"] (gf K):=by
 refine F.ok sc_in_order (λvs H Q E h=>?_) (λc_ A outer s H vs Q E hr h=>?_)
 .obtain⟨d,kvs,ss,rfl,_⟩:=h;rfl
 .obtain⟨d,kvs,ss,rfl,hd,hk,Jr,hl,k⟩:=h;have nd:(kvs.map (·.1)).Nodup:=by
   rw[hk];refine Ii _ ?_ Jr;exact λa b h z=>h (HE z)
  have hN:=sc_in_order.nd;have hu:=u6 hr;refine⟨_,QSs.r (C4 (A3 (gJ (R4 K rfl) T.b_dict Boot.«dict» (i7 (N0 (own:=["name"]) (js:=[0]) (by kernel_rfl) rfl (P8 K (qB (O1 K rfl) T.b_sorted Boot.«sorted» (i7 (qV 0) j5))) (λ_ _ _ _=>(F4 (i:=0) (show List.Nodup (["name","named"]:List Str) by decide+kernel) rfl (by walk_at "l"))) (λ_ _ _ _=>aR) (λ_ _ _ _=>(J3 (i7 (qV 0) (i7 (j6 (j7 K hu) (qV 1) (qV 0) (λ_ _=>rfl)) j5))))) j5)))),?_⟩;walk_at "r";refine A9 (ss:=ss) hd hk (by lia) (λs1 a1 a2 l1 n1=>?_);obtain⟨H1,e1,f1,m1,_⟩:=b9 (o:= .lst _) n1;rw[e1];have WS:=m1.rd hd;have Qy:=a1.length_eq;refine C6 (SqL.of f1) ?_;refine z7 (n:=s1.length) (λi out H'=>Same H1 H'/\Paired (PrV K H') out ((s1.take i).map λs=>(Sum.inr s,(A2 kvs (Sum.inr s:j4)).getD .non))) ⟨Same.refl _,.nil⟩ (λi out H' hi hp=>⟨_,.str (s1[i]),SqL.of (hp.1 _ _ f1),by rw[FD,Fw hi];rfl⟩) ?_ ?_
  .rintro N i v out H2 H3 hi ⟨s2,pr⟩ y hN';obtain⟨rfl,hx⟩:=Itl.get y (SqL.of (s2 _ _ f1));rw[FD] at hx;obtain⟨x,g_,rfl⟩:=Gj.mp hx;have WT:(Sum.inr x:j4)∈kvs.map (·.1):=by
    rw[hk];exact Fx.mpr ⟨x,a1.mem_iff.mp (FI g_),rfl⟩
   obtain⟨kv,d_,WU⟩:=Fx.mp WT;have ev:=U2 nd d_;rw[WU] at ev;have e7:s1.take (i+1)=s1.take i++[x]:=by rw[Gq,g_];rfl
   walk_at "r";refine⟨rfl,?_⟩;walk_at "r";refine k9 (v:=kv.2) (by have z':=F5 (k:=Sum.inr x) (s2.rd WS);rw[ev] at z';exact z') ?_;walk_at "r";refine⟨d9 (by simp),λt nt=>?_⟩;obtain⟨H4,e4,f4,m4,_⟩:=b9 (o:= .tup _) nt;rw[e4];have q_:=GV pr;rw[Fv,FO] at q_;refine⟨d9 (by lia),hN' _ _ ⟨s2.trans m4,?_⟩⟩;rw[e7,FF];refine E2 (Paired.imp' (λ_ _ z=>PrV.mono m4.le z) pr) ⟨t,rfl,?_⟩;show SqT K _ t [V.str x,(A2 kvs (Sum.inr x:j4)).getD V.non];rw[ev];exact SqT.of f4
  .rintro out H2 ⟨s2,pr⟩;have q_:=GV pr;rw[Fv,FO] at q_;refine⟨⟨_,SqL.of (s2 _ _ f1),by rw[Fv];exact Fz _⟩,λD hD=>⟨d9 (by lia),?_⟩⟩;obtain⟨H5,e5,f5,m5,_⟩:=b9 (o:= .lst out) hD;show xu _ (upd _ D _) _;rw[e5];walk_at "r";rw[FL (Fz _)] at pr;refine P5 (SqL.of f5) (Paired.imp' (λ_ _ z=>PrV.mono m5.le z) pr) (d9 (by rw[Fv];lia)) (λl nl=>?_);obtain⟨H6,e6,f6,m6,_⟩:=b9 (o:= .dK _) nl;rw[e6];have mA:=m1.trans (s2.trans (m5.trans m6));have Nd:(s1.map λs=>((Sum.inr s:j4),(A2 kvs (Sum.inr s:j4)).getD V.non)).Perm kvs:=by
    refine List.Perm.trans (a1.map _) ?_;rw[←zU hk nd]
   rw[aj ((Nd.map _).nodup_iff.mpr nd)] at f6;exact k l H6 _ ((m1.trans (s2.trans m5)).free nl) mA f6 Nd
abbrev af (P:Program)(w:World)(K:Kd)(mg:Str->Option Value)(base:Heap):Prop:=N8 P w K mg base C0 2 "copied" ["web"] [] (ke K)
theorem sY {f:Addr}{fd:FuncData}(T:Txt K mg)(aq:jc P w K mg base)(F:Fun K "copied" "copied" jb f fd):u9 P w K mg base C0 2 f fd ["web"] (ke K):=by
 refine F.ok sc_copied (λvs H Q E h=>?_) (λc_ A outer s H vs Q E hr h=>?_)
 .obtain⟨a,p,q,kvs,W,rfl,_⟩:=h;rfl
 .obtain⟨a,p,q,kvs,W,rfl,hW,d1,d2,l1,l2,k⟩:=h;have hN:=sc_copied.nd;have hu:=u6 hr;refine⟨_,QSs.r (C4 (A3 (J3 (i7 (qC aq (hr.mono (by decide)) k7 (i7 (j6 (j7 K hu) (qV 0) d6 (λ_ _=>rfl)) j5)) (i7 (qC aq (hr.mono (by decide)) k7 (i7 (j6 (j7 K hu) (qV 0) d6 (λ_ _=>rfl)) j5)) j5))))),?_⟩;walk_at "r";refine b5 hW.tup (b6 (j:=0) rfl) ?_;walk_at "r";refine⟨p,i6 W.pts,W.pts.map (·.1),rfl,hW.pts,by rw[K4,A8],d1,by rw[Fv];exact l1,λp' H1 kp np' m1 f1 pm1=>?_⟩;have W1:=hW.mono m1.le;walk_at "r";refine b5 W1.tup (b6 (j:=1) rfl) ?_;walk_at "r";refine⟨q,kvs,W.ts.map (·.1),rfl,W1.ties,by rw[W1.ts.keys,A8],d2,by rw[Fv];exact l2,λq' H2 kq nq' m2 f2 pm2=>?_⟩;walk_at "r";refine⟨d9 (by simp),λl9 n9=>?_⟩;obtain⟨H9,e9,f9,m9,_⟩:=b9 (o:= .tup _) n9;rw[e9];obtain⟨J_,rfl,pp⟩:=we pm1;have W2:=hW.mono (m1.trans (m2.trans m9)).le;obtain⟨OS,w',pt⟩:=W8 pm2 W2.ts;have g1:=m9 _ _ (m2 _ _ f1);have g2:=m9 _ _ f2;exact k l9 p' q' kq ⟨J_,OS⟩ H9 (m1.trans (m2.trans m9)) ⟨SqT.of f9,.inl g1,.inl g2,w'⟩ g1 g2 (b7 f1 nq') np' (m1.free nq') pp pt
structure dE (W:C3):Prop where
 nm:∀x∈b8 W,N9 x=true
 kd:∀x∈W.pts,F8 x.2=true
 tk:∀x∈W.ts,F8 x.2.1=true
theorem cg {x s:Str}{m:Int}(h:N7 x s m=true):(x.length:Int)<=m:=by
 unfold N7 at h;simp only[Gh,GI] at h;exact h.1.2
theorem vG {x:Str}(h:N9 x=true):x.length<=1000:=by
 unfold N9 at h;have:=cg (Gh _ _▸h).1;lia
theorem wB:dY "dict" "dict"=true:=rfl--SPLIT
structure mC (m:Nat) (W:C3):Prop where
 good:dE W
 kds:∀n∈b8 W,F8 n=true
 l1:W.pts.length<=m
 l2:W.ts.length<=m
def rq (K:Kd):Sp:=λvs H Q _=>∃(a p q a' p' q':Addr) (kvs h_:List (j4×V)) (W O:C3),vs=[.ref a,.ref a']/\WebIs 60 K H a p q kvs W/\WebIs 60 K H a' p' q' h_ O/\∀(l:Addr) (H':Hp) (s1 s2:List Str),H l=none->Same H H'->Ordr W s1 s2->H' l=some (.lst (((s1++s2).filter λn=>decide (n∈b8 O)).map V.str))->Q (.ref l) H'
def ow (K:Kd):Sp:=λvs H Q _=>∃(a p q a' p' q':Addr) (kvs h_:List (j4×V)) (W O:C3),vs=[.ref a,.ref a']/\WebIs 60 K H a p q kvs W/\WebIs 60 K H a' p' q' h_ O/\∀(l:Addr) (H':Hp) (s1 s2:List Str),H l=none->Same H H'->Ordr W s1 s2->H' l=some (.lst (((s1++s2).filter λn=>!decide (n∈b8 O)).map V.str))->Q (.ref l) H'
theorem mE (n:Nat):(List.replicate n true).all id=true:=by rw[Gk];intro b hb;exact(Jh.mp hb).2--SPLIT
abbrev uI (P:Program)(w:World)(K:Kd)(mg:Str->Option Value)(base:Heap):Prop:=N8 P w K mg base C0 2 "both" ["web","other"] [] (rq K)
theorem xH {f:Addr}{fd:FuncData}(T:Txt K mg)(E6:Z8 P w K mg base)(F:Fun K "both" "both" qo f fd):u9 P w K mg base C0 2 f fd ["web","other"] (rq K):=by
 refine F.ok sc_both (λvs H Q E h=>?_) (λc_ A outer s H vs Q E hr h=>?_)
 .obtain⟨a,p,q,a',p',q',kvs,h_,W,O,rfl,_⟩:=h;rfl
 .obtain⟨a,p,q,a',p',q',kvs,h_,W,O,rfl,hW,hO,k⟩:=h;have Sk:=hW.len;have hN:=sc_both.nd;have hu:=u6 hr;refine⟨_,QSs.r (C4 (A3 (N0 (own:=["name"]) (js:=[1]) (by kernel_rfl) rfl (P8 K (qC E6 (hr.mono (by decide)) k7 (i7 (qV 0) j5))) (λ_ _ _ _=>(F4 (i:=0) (show List.Nodup (["name","other"]:List Str) by decide+kernel) rfl (by walk_at "l"))) (λ_ _ _ _=>(mU (kG (fI (p0 (kIn K hu) (qV 0) (j6 (j7 K hu) (qV 1) d6 (λ_ _=>rfl)) (by rfl)) (bB (p0 (kIn K hu) (qV 0) (j6 (j7 K hu) (qV 1) d6 (λ_ _=>rfl)) (by rfl))))))) (λ_ _ _ _=>(qV 0))))),?_⟩;walk_at "r";refine⟨a,p,q,kvs,W,rfl,hW.at_,by lia,λl1 H1 s1 s2 n1 m1 f1 or=>?_⟩;have hlen:=or.len;refine C6 (SqL.of f1) ?_;refine z7 (n:=(s1++s2).length) (λi out H'=>Same H1 H'/\out=(((s1++s2).take i).filter λn=>decide (n∈b8 O)).map V.str) ⟨Same.refl _,rfl⟩ (λi out H' hi hp=>⟨_,.str ((s1++s2)[i]),SqL.of (hp.1 _ _ f1),by rw[FD,Fw hi];rfl⟩) ?_ ?_
  .rintro N i v out Ml H3 hi ⟨s3,rfl⟩ y hN';obtain⟨rfl,hx⟩:=Itl.get y (SqL.of (s3 _ _ f1));rw[FD,Fw hi] at hx;cases hx;have O3:=hO.at_.mono (m1.trans s3).le;have e7:(s1++s2).take (i+1)=(s1++s2).take i++[(s1++s2)[i]]:=by rw[Gq,Fw hi];rfl
   have x_:=FK (λn=>decide (n∈b8 O)) ((s1++s2).take i);rw[FO] at x_;have yes:(decide ((s1++s2)[i]∈b8 O))=true->((((s1++s2).take i).filter λn=>decide (n∈b8 O)).map V.str).length<=sizeLine/\N ((((s1++s2).take i).filter λn=>decide (n∈b8 O)).map V.str++[V.str (s1++s2)[i]]) H3:=λhb=>by
    refine⟨d9 (by rw[Fv];lia),hN' _ _ ⟨s3,?_⟩⟩;rw[e7,Gv,Gu (p:=λn=>decide (n∈b8 O)) hb,GL,FF];rfl
   have no:(decide ((s1++s2)[i]∈b8 O))=false->N ((((s1++s2).take i).filter λn=>decide (n∈b8 O)).map V.str) H3:=λhb=>by
    refine hN' _ _ ⟨s3,?_⟩;rw[e7,Gv,GA (p:=λn=>decide (n∈b8 O)) (by rw[hb];simp),GL,Gw]
   walk_at "r";refine⟨rfl,?_⟩;walk_at "r";refine b5 O3.tup (b6 (j:=0) rfl) ?_;refine bJ (F5 (k:=Sum.inr (s1++s2)[i]) O3.pts) ?_;rw[L8];walk_at "r";refine L5 (λb1=>?_) (λb1=>?_)
   .walk_at "r";refine yes (by rw[FZ (show(s1++s2)[i]∈b8 O from Fy _ b1)])
   .walk_at "r";refine b5 O3.tup (b6 (j:=1) rfl) ?_;refine bJ (F5 (k:=Sum.inr (s1++s2)[i]) O3.ties) ?_;rw[U5 O3.ts];walk_at "r";refine L5 (λb2=>?_) (λb2=>?_)
    .walk_at "r";refine yes (by rw[FZ (show(s1++s2)[i]∈b8 O from FA _ b2)])
    .exact no (by rw[Ge (show(s1++s2)[i]∉b8 O from λz=>(FC.mp z).elim b1 b2)])
  .rintro out H3 ⟨s3,rfl⟩;have x_:=FK (λn=>decide (n∈b8 O)) ((s1++s2).take (s1++s2).length);rw[FO] at x_;refine⟨⟨_,SqL.of (s3 _ _ f1),by rw[Fv];exact Fz _⟩,λD hD=>⟨d9 (by rw[Fv];lia),?_⟩⟩;rw[FL (Fz _)];obtain⟨H4,e4,f4,m4,_⟩:=b9 (H:=H3) (o:= .lst (((s1++s2).filter λn=>decide (n∈b8 O)).map V.str)) hD;refine k D _ s1 s2 ((m1.trans s3).free hD) ?_ or ?_
   .show Same _ (upd _ D _);rw[e4];exact m1.trans (s3.trans m4)
   .show upd _ D _ D=_;rw[d8]
abbrev la (P:Program)(w:World)(K:Kd)(mg:Str->Option Value)(base:Heap):Prop:=N8 P w K mg base C0 2 "alone" ["web","other"] [] (ow K)
theorem uA {f:Addr}{fd:FuncData}(T:Txt K mg)(E6:Z8 P w K mg base)(F:Fun K "alone" "alone" ml f fd):u9 P w K mg base C0 2 f fd ["web","other"] (ow K):=by
 refine F.ok sc_alone (λvs H Q E h=>?_) (λc_ A outer s H vs Q E hr h=>?_)
 .obtain⟨a,p,q,a',p',q',kvs,h_,W,O,rfl,_⟩:=h;rfl
 .obtain⟨a,p,q,a',p',q',kvs,h_,W,O,rfl,hW,hO,k⟩:=h;have Sk:=hW.len;have hN:=sc_alone.nd;have hu:=u6 hr;refine⟨_,QSs.r (C4 (A3 (N0 (own:=["name"]) (js:=[1]) (by kernel_rfl) rfl (P8 K (qC E6 (hr.mono (by decide)) k7 (i7 (qV 0) j5))) (λ_ _ _ _=>(F4 (i:=0) (show List.Nodup (["name","other"]:List Str) by decide+kernel) rfl (by walk_at "l"))) (λ_ _ _ _=>(mU (kG (bc (p0 (K8 K hu) (qV 0) (j6 (j7 K hu) (qV 1) d6 (λ_ _=>rfl)) (by rfl)) (aE (p0 (K8 K hu) (qV 0) (j6 (j7 K hu) (qV 1) d6 (λ_ _=>rfl)) (by rfl))))))) (λ_ _ _ _=>(qV 0))))),?_⟩;walk_at "r";refine⟨a,p,q,kvs,W,rfl,hW.at_,by lia,λl1 H1 s1 s2 n1 m1 f1 or=>?_⟩;have hlen:=or.len;refine C6 (SqL.of f1) ?_;refine z7 (n:=(s1++s2).length) (λi out H'=>Same H1 H'/\out=(((s1++s2).take i).filter λn=>!decide (n∈b8 O)).map V.str) ⟨Same.refl _,rfl⟩ (λi out H' hi hp=>⟨_,.str ((s1++s2)[i]),SqL.of (hp.1 _ _ f1),by rw[FD,Fw hi];rfl⟩) ?_ ?_
  .rintro N i v out Ml H3 hi ⟨s3,rfl⟩ y hN';obtain⟨rfl,hx⟩:=Itl.get y (SqL.of (s3 _ _ f1));rw[FD,Fw hi] at hx;cases hx;have O3:=hO.at_.mono (m1.trans s3).le;have e7:(s1++s2).take (i+1)=(s1++s2).take i++[(s1++s2)[i]]:=by rw[Gq,Fw hi];rfl
   have x_:=FK (λn=>!decide (n∈b8 O)) ((s1++s2).take i);rw[FO] at x_;have yes:(!decide ((s1++s2)[i]∈b8 O))=true->((((s1++s2).take i).filter λn=>!decide (n∈b8 O)).map V.str).length<=sizeLine/\N ((((s1++s2).take i).filter λn=>!decide (n∈b8 O)).map V.str++[V.str (s1++s2)[i]]) H3:=λhb=>by
    refine⟨d9 (by rw[Fv];lia),hN' _ _ ⟨s3,?_⟩⟩;rw[e7,Gv,Gu (p:=λn=>!decide (n∈b8 O)) hb,GL,FF];rfl
   have no:(!decide ((s1++s2)[i]∈b8 O))=false->N ((((s1++s2).take i).filter λn=>!decide (n∈b8 O)).map V.str) H3:=λhb=>by
    refine hN' _ _ ⟨s3,?_⟩;rw[e7,Gv,GA (p:=λn=>!decide (n∈b8 O)) (by rw[hb];simp),GL,Gw]
   walk_at "r";refine⟨rfl,?_⟩;walk_at "r";refine b5 O3.tup (b6 (j:=0) rfl) ?_;refine K0 (F5 (k:=Sum.inr (s1++s2)[i]) O3.pts) ?_;rw[L8];walk_at "r";refine J5 (λb1=>?_) (λb1=>?_)
   .walk_at "r";refine b5 O3.tup (b6 (j:=1) rfl) ?_;refine K0 (F5 (k:=Sum.inr (s1++s2)[i]) O3.ties) ?_;rw[U5 O3.ts];walk_at "r";refine J5 (λb2=>?_) (λb2=>?_)
    .walk_at "r";refine yes (by rw[Ge (show(s1++s2)[i]∉b8 O from λz=>(FC.mp z).elim b1 b2)];rfl)
    .exact no (by rw[FZ (show(s1++s2)[i]∈b8 O from FA _ b2)];rfl)
   .exact no (by rw[FZ (show(s1++s2)[i]∈b8 O from Fy _ b1)];rfl)
  .rintro out H3 ⟨s3,rfl⟩;have x_:=FK (λn=>!decide (n∈b8 O)) ((s1++s2).take (s1++s2).length);rw[FO] at x_;refine⟨⟨_,SqL.of (s3 _ _ f1),by rw[Fv];exact Fz _⟩,λD hD=>⟨d9 (by rw[Fv];lia),?_⟩⟩;rw[FL (Fz _)];obtain⟨H4,e4,f4,m4,_⟩:=b9 (H:=H3) (o:= .lst (((s1++s2).filter λn=>!decide (n∈b8 O)).map V.str)) hD;refine k D _ s1 s2 ((m1.trans s3).free hD) ?_ or ?_
   .show Same _ (upd _ D _);rw[e4];exact m1.trans (s3.trans m4)
   .show upd _ D _ D=_;rw[d8]
structure Sd where
 a:Addr
 p:Addr
 q:Addr
 kvs:List (j4×V)
 W:C3
def SdIs (K:Kd)(H:Hp)(s:Sd):Prop:=WebIs 60 K H s.a s.p s.q s.kvs s.W
theorem SdIs.same {H H':Hp}{s:Sd}(h:SdIs K H s)(m:Same H H'):SdIs K H' s:=WebIs.same h m
structure RuleIs (K:Kd) (H:Hp) (r bl:Addr) (L R:Sd) (bs:List Sd):Prop where
 tup:SqT K H r [.ref L.a,.ref R.a,.ref bl]
 l:SdIs K H L
 r:SdIs K H R
 bl:SqL K H bl (bs.map λs=>V.ref s.a)
 bars:∀b∈bs,SdIs K H b
theorem RuleIs.same {H H':Hp}{r bl:Addr}{L R:Sd}{bs:List Sd}(h:RuleIs K H r bl L R bs)(m:Same H H'):RuleIs K H' r bl L R bs:=⟨m.tup h.tup,h.l.same m,h.r.same m,m.seq h.bl,λb hb=>(h.bars b hb).same m⟩
structure Agree (n:Str) (L R:C3):Prop where
 p:∀k,(n,k)∈L.pts↔(n,k)∈R.pts
 t:∀t,(n,t)∈L.ts↔(n,t)∈R.ts
structure fk (L R:C3) (bs:List Sd):Prop where
 l:mC 4 L
 r:mC 4 R
 ag:∀n∈b8 L,n∈b8 R->Agree n L R
 len:bs.length<=3
 bars:∀b∈bs,mC 6 b.W/\(∀x∈L.pts,x∈b.W.pts)/\∀x∈L.ts,x∈b.W.ts
def rC (K:Kd):Sp:=λvs H Q _=>∃(r bl:Addr) (L R:Sd) (bs:List Sd),vs=[.ref r]/\RuleIs K H r bl L R bs/\∀(l:Addr) (H':Hp) (s1 s2:List Str),H l=none->Same H H'->Ordr L.W s1 s2->H' l=some (.lst (((s1++s2).filter λn=>decide (n∈b8 R.W)).map V.str))->Q (.ref l) H'
def nN (K:Kd):Sp:=λvs H Q _=>∃(r bl:Addr) (L R:Sd) (bs:List Sd),vs=[.ref r]/\RuleIs K H r bl L R bs/\∀(l:Addr) (H':Hp) (s1 s2:List Str),H l=none->Same H H'->Ordr L.W s1 s2->H' l=some (.lst (((s1++s2).filter λn=>!decide (n∈b8 R.W)).map V.str))->Q (.ref l) H'
def fR (K:Kd):Sp:=λvs H Q _=>∃(r bl:Addr) (L R:Sd) (bs:List Sd),vs=[.ref r]/\RuleIs K H r bl L R bs/\∀(l:Addr) (H':Hp) (s1 s2:List Str),H l=none->Same H H'->Ordr R.W s1 s2->H' l=some (.lst (((s1++s2).filter λn=>!decide (n∈b8 L.W)).map V.str))->Q (.ref l) H'
abbrev uW (P:Program)(w:World)(K:Kd)(mg:Str->Option Value)(base:Heap):Prop:=N8 P w K mg base C0 3 "kept" ["rule"] [] (rC K)
theorem ya {f:Addr}{fd:FuncData}(T:Txt K mg)(qp:uI P w K mg base)(F:Fun K "kept" "kept" pF f fd):u9 P w K mg base C0 3 f fd ["rule"] (rC K):=by
 refine F.ok sc_kept (λvs H Q E h=>?_) (λc_ A outer s H vs Q E hr h=>?_)
 .obtain⟨r,bl,L,R,bs,rfl,_⟩:=h;rfl
 .obtain⟨r,bl,L,R,bs,rfl,hr',k⟩:=h;have hN:=sc_kept.nd;have hu:=u6 hr;refine⟨_,QSs.r (C4 (A3 (qC qp (hr.mono (by decide)) k7 (i7 (j6 (j7 K hu) (qV 0) d6 (λ_ _=>rfl)) (i7 (j6 (j7 K hu) (qV 0) d6 (λ_ _=>rfl)) j5))))),?_⟩;walk_at "r";refine b5 hr'.tup (b6 (j:=0) rfl) ?_;walk_at "r";refine b5 hr'.tup (b6 (j:=1) rfl) ?_;walk_at "r";exact⟨_,_,_,_,_,_,_,_,_,_,rfl,hr'.l,hr'.r,λl H' s1 s2 n m o f=>k l H' s1 s2 n m o f⟩
abbrev mI (P:Program)(w:World)(K:Kd)(mg:Str->Option Value)(base:Heap):Prop:=N8 P w K mg base C0 3 "taken" ["rule"] [] (nN K)
theorem wJ {f:Addr}{fd:FuncData}(T:Txt K mg)(cj:la P w K mg base)(F:Fun K "taken" "taken" lG f fd):u9 P w K mg base C0 3 f fd ["rule"] (nN K):=by
 refine F.ok sc_taken (λvs H Q E h=>?_) (λc_ A outer s H vs Q E hr h=>?_)
 .obtain⟨r,bl,L,R,bs,rfl,_⟩:=h;rfl
 .obtain⟨r,bl,L,R,bs,rfl,hr',k⟩:=h;have hN:=sc_taken.nd;have hu:=u6 hr;refine⟨_,QSs.r (C4 (A3 (qC cj (hr.mono (by decide)) k7 (i7 (j6 (j7 K hu) (qV 0) d6 (λ_ _=>rfl)) (i7 (j6 (j7 K hu) (qV 0) d6 (λ_ _=>rfl)) j5))))),?_⟩;walk_at "r";refine b5 hr'.tup (b6 (j:=0) rfl) ?_;walk_at "r";refine b5 hr'.tup (b6 (j:=1) rfl) ?_;walk_at "r";exact⟨_,_,_,_,_,_,_,_,_,_,rfl,hr'.l,hr'.r,λl H' s1 s2 n m o f=>k l H' s1 s2 n m o f⟩
abbrev di (P:Program)(w:World)(K:Kd)(mg:Str->Option Value)(base:Heap):Prop:=N8 P w K mg base C0 3 "fresh_of" ["rule"] [] (fR K)
theorem pj {f:Addr}{fd:FuncData}(T:Txt K mg)(cj:la P w K mg base)(F:Fun K "fresh_of" "fresh_of" dv f fd):u9 P w K mg base C0 3 f fd ["rule"] (fR K):=by
 refine F.ok sc_fresh_of (λvs H Q E h=>?_) (λc_ A outer s H vs Q E hr h=>?_)
 .obtain⟨r,bl,L,R,bs,rfl,_⟩:=h;rfl
 .obtain⟨r,bl,L,R,bs,rfl,hr',k⟩:=h;have hN:=sc_fresh_of.nd;have hu:=u6 hr;refine⟨_,QSs.r (C4 (A3 (qC cj (hr.mono (by decide)) k7 (i7 (j6 (j7 K hu) (qV 0) d6 (λ_ _=>rfl)) (i7 (j6 (j7 K hu) (qV 0) d6 (λ_ _=>rfl)) j5))))),?_⟩;walk_at "r";refine b5 hr'.tup (b6 (j:=1) rfl) ?_;walk_at "r";refine b5 hr'.tup (b6 (j:=0) rfl) ?_;walk_at "r";exact⟨_,_,_,_,_,_,_,_,_,_,rfl,hr'.r,hr'.l,λl H' s1 s2 n m o f=>k l H' s1 s2 n m o f⟩
theorem cn {x:Str}{l u:Option Int}{c:Nat}(h:c∈(Txt.slice x l u).cps.toList):c∈x.cps.toList:=by
 unfold Txt.slice at h;split at h
 .exact h
 .simp only[Iy] at h;obtain⟨i,_,hi⟩:=h;exact Array.mem_toList_iff.mpr (Array.mem_of_getElem? hi)
theorem lQ (i:Int)(h0:0<=i)(h1:i<26):aC i∈kSL.cps.toList:=by
 have hl:kSL.cps.toList.length=26:=by decide+kernel
 unfold aC;rw[Gf,Fw (show i.toNat<kSL.cps.toList.length by lia)];exact Gd _
def kH (b:Str)(at_ c:Int)(k:Nat):Str:=Txt.slice b none (some at_)++(⟨#[aC ((c+(0+(k:Int))) % 26)]⟩:Str)++Txt.slice b (some at_) none
theorem yq (b:Str)(at_ c:Int)(n:Nat)(hn:n<=26):((List.range n).map (kH b at_ c)).Nodup:=iA λi j hi hj e=>by
 have z:=xr e;have e1:(c+(0+(i:Int))) % 26=(((c+(0+(i:Int))) % 26).toNat:Int):=by lia
 have e2:(c+(0+(j:Int))) % 26=(((c+(0+(j:Int))) % 26).toNat:Int):=by lia
 rw[e1,e2] at z;have z2:=nG _ _ (by lia) (by lia) z;lia
theorem sD {b:Str}{at_ c:Int}{k:Nat}(h:∀x∈b.cps.toList,x∈kSL.cps.toList)(hb:b.length<=7)(h0:0<=at_)(h1:at_<=b.length):F8 (kH b at_ c k)=true:=by
 have g1:=oC b at_ h0 h1;have g2:=jx b at_ h0 h1;have hl:(kH b at_ c k).length=(Txt.slice b none (some at_)).length+1+(Txt.slice b (some at_) none).length:=by
  unfold kH;rw[dG,dG,X5]
 unfold F8 N7;rw[hl,FZ (by lia),FZ (by lia),Ij,Ij];unfold oX;rw[Gk];intro x hx;refine FZ ?_;have g_:x∈((Txt.slice b none (some at_)).cps++ #[aC ((c+(0+(k:Int))) % 26)]++(Txt.slice b (some at_) none).cps).toList:=hx;simp only[Kj,FC] at g_;rcases g_ with(z|z)|z
 .exact h x (cn z)
 .have:x=aC ((c+(0+(k:Int))) % 26):=by simpa using z
  rw[this];exact lQ _ (by lia) (by lia)
 .exact h x (cn z)
def aO (K:Kd):Sp:=λvs H Q _=>∃(a:Addr) (ns:List Int) (k:Int),vs=[.ref a,.int k]/\SqL K H a (ns.map V.int)/\ns.length<=63/\0<=k/\∀m:Int,Q (.int m) H
def bA (K:Kd):Sp:=λvs H Q _=>∃c:Int,vs=[.int c,.int 16]/\∀(p:Addr) (H':Hp) (xs:List Int),H p=none->Same H H'->H' p=some (.lst (xs.map V.int))->xs.length=16->(∀x∈xs,0<=x)->Q (.ref p) H'
def cz (K:Kd):Sp:=λvs H Q _=>∃c n:Int,vs=[.int c,.int n]/\0<=n/\n<=26/\Et H Q λss=>ss.length=n.toNat/\ss.Nodup/\∀s∈ss,F8 s=true
abbrev aG (P:Program)(w:World)(K:Kd)(mg:Str->Option Value)(base:Heap):Prop:=N8 P w K mg base C0 1 "_law_mixed" ["_law_cell","_law_k"] [] (cK K)
theorem jH {f:Addr}{fd:FuncData}(T:Txt K mg)(F:Fun K "_law_mixed" "_law_mixed" aB f fd):u9 P w K mg base C0 1 f fd ["_law_cell","_law_k"] (cK K):=by
 refine F.ok sc__law_mixed (λvs H Q E h=>?_) (λc_ A outer s H vs Q E hr h=>?_)
 .obtain⟨c,k,rfl,_⟩:=h;rfl
 .obtain⟨c,k,rfl,h0,h1,q⟩:=h;have hN:=sc__law_mixed.nd;have hu:=u6 hr;refine⟨_,QSs.r (z6 (z0 (i:=2) hN rfl (by walk_at "l") (A7 p5 (A7 (F2 K) (A7 p5 (qV 0) d6) (A7 Q3 d6 (A7 (F2 K) (qV 1) d6))) d6))
   (z6 (z0 (i:=2) hN rfl (by walk_at "l") (A7 p5 (A7 (F2 K) (A7 (F2 K) (A7 Q3 (qV 2) (qV 2)) (A7 Q3 d6 (qV 1))) d6) d6))
   (C4 (A3 (A7 p5 (A7 Q3 (qV 2) (qV 2)) d6))))),?_⟩
  walk_at "r";exact q _ (by lia)
abbrev U7 (P:Program)(w:World)(K:Kd)(mg:Str->Option Value)(base:Heap):Prop:=N8 P w K mg base C0 1 "_law_cell_at" ["_law_script","_law_k"] [] (aO K)
theorem gw {f:Addr}{fd:FuncData}(T:Txt K mg)(F:Fun K "_law_cell_at" "_law_cell_at" V4 f fd):u9 P w K mg base C0 1 f fd ["_law_script","_law_k"] (aO K):=by
 refine F.ok sc__law_cell_at (λvs H Q E h=>?_) (λc_ A outer s H vs Q E hr h=>?_)
 .obtain⟨a,ns,k',rfl,_⟩:=h;rfl
 .obtain⟨a,ns,k',rfl,hA,hl,h0,k⟩:=h;have hN:=sc__law_cell_at.nd;have hu:=u6 hr;refine⟨_,QSs.r (z6 (cm (p0 ie (qV 1) (qB (B8 K P w) T.b_len Boot.«len» (i7 (qV 0) j5)) (r9 _)) (C4 (A3 (j6 (j7 K hu) (qV 0) (qV 1) (λ_ _=>rfl)))) cU)
   (C4 (A3 d6))),?_⟩
  walk_at "r";refine B7 (k8 hA ?_);rw[Fv];walk_at "r";refine L5 (λh1=>?_) (λh1=>?_)
  .walk_at "r";obtain⟨v,hv,KH⟩:=fJ (xs:=ns.map V.int) h0 (by rw[Fv];exact h1);rw[FD] at KH;obtain⟨x,hx,rfl⟩:=Gj.mp KH;exact i8 hA hv (k _)
  .walk_at "r";exact k 0
abbrev cE (P:Program)(w:World)(K:Kd)(mg:Str->Option Value)(base:Heap):Prop:=N8 P w K mg base C0 1 "_law_stream" ["_law_cell","_law_many"] [] (bA K)
theorem iy {f:Addr}{fd:FuncData}(T:Txt K mg)(F:Fun K "_law_stream" "_law_stream" Z3 f fd):u9 P w K mg base C0 1 f fd ["_law_cell","_law_many"] (bA K):=by
 refine F.ok sc__law_stream (λvs H Q E h=>?_) (λc_ A outer s H vs Q E hr h=>?_)
 .obtain⟨c,rfl,_⟩:=h;rfl
 .obtain⟨c,rfl,k⟩:=h;have hN:=sc__law_stream.nd;have hu:=u6 hr;refine⟨_,QSs.r (z6 (z0 (i:=2) hN rfl (by walk_at "l") (A7 (F2 K) (A7 p5 (qV 0) d6) d6))
   (z6 (z0 (i:=3) hN rfl (by walk_at "l") (U3 j5))
   (z6 (Q9 Gp rfl (iE T.b_range (i7 (qV 1) j5)) (F4 (i:=4) hN rfl (by walk_at "l"))
    (z6 (z0 (i:=2) hN rfl (by walk_at "l") (A7 p5 (A7 (F2 K) (A7 (F2 K) (A7 Q3 (qV 2) (qV 2)) (A7 Q3 d6 (qV 4))) d6) d6))
   (C4 (mX (qM GN GP GQ A4 K (qV 3) (i7 (A7 p5 (A7 Q3 (qV 2) (qV 2)) d6) j5))))))
   (C4 (A3 (qV 3)))))),?_⟩
  walk_at "r";refine⟨d9 (by simp),λlo no=>?_⟩;obtain⟨H1,e1,f1,m1,_⟩:=b9 (o:= .lst _) no;rw[e1];walk_at "r";refine O0 (by lia) (by lia) ?_;refine C8 (n:=16) (λi σ H'=>(∃(m:Int) (v:Option V),σ=[some (.int c),some (.int 16),some (.int m),some (.ref lo),v]/\0<=m/\m<=2200000000)/\Same H H'/\∃xs:List Int,H' lo=some (.lst (xs.map V.int))/\xs.length=i/\∀x∈xs,0<=x)
   ⟨⟨_,_,rfl,by lia,by lia⟩,m1,[],f1,rfl,λ_ h=>nomatch h⟩ (λi σ H' hi _=>by exact hi) ?_ ?_
  .rintro i v σ H2' H2 hi ⟨⟨m,v',rfl,h0,h1⟩,s2,xs,g2,hl,hx⟩ ⟨rfl,rfl⟩;walk_at "r";have b0:0<=(m*m+69621*(0+(i:Int))+11) % 2147483647:=by lia
   have b1:(m*m+69621*(0+(i:Int))+11) % 2147483647<2147483647:=by lia
   generalize (m*m+69621*(0+(i:Int))+11) % 2147483647=m' at b0 b1⊢;refine⟨.inl ⟨rfl,_,SqL.of g2⟩,?_⟩;walk_at "r";refine⟨lo,_,_,rfl,rfl,g2,N5 (by rw[Fv];lia),?_⟩;refine⟨⟨m',_,rfl,b0,by lia⟩,E4 s2 no,xs++[m'*m' % 2147483587],?_,by rw[FE,hl];rfl,λx g_=>?_⟩
   .rw[d8,FF];rfl
   .rcases FC.mp g_ with z|z
    .exact hx x z
    .rw[FH.mp z];lia
  .rintro σ H2 ⟨⟨m,v',rfl,h0,h1⟩,s2,xs,g2,hl,hx⟩;refine⟨Fz _,?_⟩;walk_at "r";exact k lo H2 xs no s2 g2 hl hx
abbrev av (P:Program)(w:World)(K:Kd)(mg:Str->Option Value)(base:Heap):Prop:=N8 P w K mg base C0 1 "_law_words" ["_law_number","_law_many"] [] (cz K)
theorem jC {f:Addr}{fd:FuncData}(T:Txt K mg)(F:Fun K "_law_words" "_law_words" ao f fd):u9 P w K mg base C0 1 f fd ["_law_number","_law_many"] (cz K):=by
 refine F.ok sc__law_words (λvs H Q E h=>?_) (λc_ A outer s H vs Q E hr h=>?_)
 .obtain⟨c,n,rfl,_⟩:=h;rfl
 .obtain⟨c,n,rfl,h0,h1,k⟩:=h;have hN:=sc__law_words.nd;have hu:=u6 hr;refine⟨_,QSs.r (z6 (z0 (i:=2) hN rfl (by walk_at "l") jJ)
   (z6 (z0 (i:=3) hN rfl (by walk_at "l") jJ)
   (z6 (Q9 Gp rfl (iE T.b_range (i7 (j6 (j7 K hu) (U3 (i7 d6 (i7 d6 (i7 d6 (i7 d6 (i7 d6 j5)))))) (A7 p5 (qV 0) d6) (λ_ _=>rfl)) j5)) (F4 (i:=4) hN rfl (by walk_at "l"))
    (C4 (z0 (i:=3) hN rfl (by walk_at "l") (A7 (F2 K) (qV 3) (j6 (j7 K hu) (qV 2) (A7 p5 (A7 D0 (qV 0) (A7 (F2 K) (qV 4) d6)) d6) (λ_ _=>rfl))))))
   (z6 (z0 (i:=5) hN rfl (by walk_at "l") (A7 p5 (A7 D0 (qV 0) d6) (A7 (F2 K) (qB (B8 K P w) T.b_len Boot.«len» (i7 (qV 3) j5)) d6)))
   (C4 (A3 (N0 (own:=["_law_k"]) (js:=[3,2,5,0]) (by kernel_rfl) rfl (iE T.b_range (i7 (qV 1) j5)) (λ_ _ _ _=>(F4 (i:=0) (show List.Nodup (["_law_k","_law_base","_law_letters","_law_at","_law_number"]:List Str) by decide+kernel) rfl (by walk_at "l"))) (λ_ _ _ _=>aR) (λ_ _ _ _=>(A7 (F2 K) (A7 (F2 K) (zI (AE K) (qV 1) Bk (yI (qV 3))) (j6 (j7 K hu) (qV 2) (A7 p5 (A7 (F2 K) (qV 4) (qV 0)) d6) (λ_ _=>rfl))) (zI (AE K) (qV 1) (yI (qV 3)) Bk)))))))))),?_⟩
  walk_at "r";refine⟨d9 (by simp),λl1 n1=>?_⟩;obtain⟨H1,e1,f1,m1,_⟩:=b9 (o:= .lst ([0,0,2,5,7].map V.int)) n1;rw[show([V.int 0,V.int 0,V.int 2,V.int 5,V.int 7]:List V)=[0,0,2,5,7].map V.int from rfl,e1];walk_at "r";obtain⟨v,hv,KH⟩:=fJ (xs:=([0,0,2,5,7]:List Int).map V.int) (i:=c % 5) (by lia) (by show _<((5:Nat):Int);lia);rw[FD] at KH;obtain⟨z,hz,rfl⟩:=Gj.mp KH;have QB:0<=z/\z<=7:=by
   have hm:=FI hz;simp only[Gn,List.not_mem_nil,or_false] at hm;lia
  refine i8 (SqL.of f1) hv ?_;refine O0 (by lia) (by lia) ?_;refine C8 (n:=z.toNat) (λi σ H'=>H'=H1/\∃(b:Str) (v:Option V),σ=[some (.int c),some (.int n),some (.str kSL),some (.str b),v,none]/\b.length=i/\∀x∈b.cps.toList,x∈kSL.cps.toList) ⟨rfl,_,none,rfl,rfl,λx hx=>by cases hx⟩ (λi σ H' hi _=>by exact hi) ?_ ?_
  .rintro i v σ H2' H2 hi ⟨rfl,b,v',rfl,hb,hbi⟩ ⟨rfl,rfl⟩;walk_at "r";refine Z9 fu (pZ (c/(0+(i:Int)+3) % 26) (by lia) (by lia)) ?_;refine N6 (j:=⟨#[aC (c/(0+(i:Int)+3) % 26)]⟩) (d9 (by rw[X5];lia)) ?_;walk_at "r";refine⟨rfl,_,_,rfl,by rw[dG,X5];lia,λx hx=>?_⟩;have g_:x∈(b.cps++ #[aC (c/(0+(i:Int)+3) % 26)]).toList:=hx;simp only[Kj,FC] at g_;rcases g_ with z|z
   .exact hbi x z
   .have:x=aC (c/(0+(i:Int)+3) % 26):=by simpa using z
    rw[this];exact lQ _ (by lia) (by lia)
  .rintro σ H2 ⟨rfl,b,v',rfl,hb,hbi⟩;refine⟨Fz _,?_⟩;walk_at "r";refine B7 (cc (d9 (by lia)) ?_);walk_at "r";have q0:0<=c/5 % ((b.length:Int)+1):=GH _ (by lia);have q1:c/5 % ((b.length:Int)+1)<(b.length:Int)+1:=Gs _ (by lia);generalize c/5 % ((b.length:Int)+1)=at_ at q0 q1⊢;refine O0 h0 (by lia) ?_;refine z7 (n:=n.toNat) (λi out H'=>H'=H2/\out=(List.range i).map λk=>V.str (kH b at_ c k)) ⟨rfl,rfl⟩ (λi out H' hi _=>by exact hi) ?_ ?_
   .rintro N i v out Ml H3 hi ⟨rfl,rfl⟩ ⟨rfl,rfl⟩ hN';walk_at "r";refine⟨rfl,?_⟩;walk_at "r";refine dS (d9 (by lia)) ?_;walk_at "r";have UM:=pZ ((c+(0+(i:Int))) % 26) (by lia) (by lia);refine Z9 fu UM ?_;have g1:=Ia b Option.none (some at_);have g2:=Ia b (some at_) Option.none;refine N6 (j:=⟨#[aC ((c+(0+(i:Int))) % 26)]⟩) (d9 (by rw[X5];lia)) ?_;walk_at "r";refine dS (d9 (by lia)) ?_;refine N6 (d9 (by rw[dG,X5];lia)) ?_;refine⟨d9 (by rw[Fv,Hj];lia),hN' _ _ ⟨rfl,?_⟩⟩;rw[Hx,FF];rfl
   .rintro out H3 ⟨rfl,rfl⟩;refine⟨Fz _,λD hD=>⟨d9 (by rw[Fv,Hj];lia),?_⟩⟩;obtain⟨H5,e5,f5,m5,_⟩:=b9 (o:= .lst _) hD;refine k D _ ((List.range n.toNat).map (kH b at_ c)) (m1.free hD) ?_ ?_ ⟨by rw[Fv,Hj],yq _ _ _ _ (by lia),λs hs=>?_⟩
    .show Same _ (upd _ D _);rw[e5];exact m1.trans m5
    .show upd _ D _ D=_;rw[d8,Gg];rfl
    .obtain⟨i,_,rfl⟩:=Fx.mp hs;exact sD hbi (by lia) q0 (by lia)
section
open PySem.Builtin PySem.Builtin.Str
theorem qR (l:List Nat):∀n,(List.range n).filterMap (λk=>l[k]?)=l.take n
 |0=>by simp
 |n+1=>by
  rw[Hx,List.filterMap_append,qR l n,Gq];congr 1
theorem Cu (n:Nat)(i:Int)(h0:0<=i)(h1:i<=n):strSliceIndices none (some i) 1 n=List.range i.toNat:=by
 unfold strSliceIndices sliceRange;simp only[show(1:Int)>0 by decide,JK];rw[if_neg (show ¬i<0 by lia),show max 0 (min i (n:Int))=i by lia];have e:(if(0:Int)<i then(i -0+1 -1)/1 else 0)=i:=by split<;>lia
 rw[e];refine(Gz λk _=>?_).trans (Kk _);show(0+1*(k:Int)).toNat=k;lia
theorem qw (x:Str)(i:Int)(h0:0<=i)(h1:i<=x.length):(Txt.slice x none (some i)).cps.toList=x.cps.toList.take i.toNat:=by
 unfold Txt.slice;rw[Cu x.length i h0 h1];split
 .next h=>
  have h':i.toNat=x.length:=by simpa using h
  have hl:x.cps.toList.length=x.length:=by show _=x.cps.size;simp
  rw[FL (by lia)]
 .have e:(λk:Nat=>x.cps[k]?)=λk=>x.cps.toList[k]?:=by funext k;simp
  show(List.filterMap (λk=>x.cps[k]?) (List.range i.toNat)).toArray.toList=_;rw[e,qR]
end
def lK (l:List Nat):Str:=⟨l.toArray⟩
theorem sr (l:List Nat)(c:Nat):lK l++(⟨#[c]⟩:Str)=lK (l++[c]):=by
 unfold lK;show(⟨l.toArray++ #[c]⟩:Str)=_;congr 1;simp
theorem et (l:List Nat):(lK l).length=l.length:=by
 show l.toArray.size=_;simp
def cw (s:Str)(i:Int):Nat:=s.cps.toList.getD i.toNat 0
theorem ud (s:Str)(i:Int)(h0:0<=i)(h1:i<s.cps.toList.length):jI s.cps.toList i=some (cw s i):=by
 obtain⟨v,hv,KH⟩:=fJ (xs:=s.cps.toList) h0 h1;rw[hv];unfold cw;rw[Gf,KH];rfl
abbrev kSM:Str:=kSL++("0123456789.":Str)
def vB (c:Int):Int:=([0,0,3,9,22]:List Int).getD (c % 5).toNat 0
def V8 (j:Nat):Int:=if 0<j then 37 else 26
def gF (c:Int)(i:Nat):List Nat:=(List.range i).map λj:Nat=>cw kSM (c/((j:Int)+3) % V8 j)
def K5 (c:Int):Str:=lK (gF c (vB c).toNat)
def zc (c:Int)(k:Nat):Str:=(⟨#[aC ((c+(k:Int)) % 26)]⟩:Str)++(⟨#[cw "0123456789." ((k:Int) % 11)]⟩:Str)
def ar (c:Int)(k:Nat):Str:=Txt.slice (K5 c) none (some (c/5 % (((K5 c).length:Int)+1)))++zc c k++Txt.slice (K5 c) (some (c/5 % (((K5 c).length:Int)+1))) none
theorem tq (c:Int)(i:Nat):gF c (i+1)=gF c i++[cw kSM (c/((i:Int)+3) % V8 i)]:=by
 unfold gF;rw[Hx,FF];rfl
theorem eN (c:Int)(i:Nat):(gF c i).length=i:=by unfold gF;rw[Fv,Hj]
theorem vC (c:Int):0<=vB c/\vB c<=22:=by
 have h0:(c % 5).toNat=0\/(c % 5).toNat=1\/(c % 5).toNat=2\/(c % 5).toNat=3\/(c % 5).toNat=4:=by lia
 unfold vB;rcases h0 with h|h|h|h|h<;>rw[h]<;>decide
def dW (K:Kd):Sp:=λvs H Q _=>∃(c:Int) (k:Nat),vs=[.int c,.int k]/\k<=300/\∀H',Same H H'->Q (.str (ar c k)) H'
abbrev bE (P:Program)(w:World)(K:Kd)(mg:Str->Option Value)(base:Heap):Prop:=N8 P w K mg base C0 1 "_law_name" ["_law_number","_law_k"] [] (dW K)
theorem kZ {f:Addr}{fd:FuncData}(T:Txt K mg)(F:Fun K "_law_name" "_law_name" bK f fd):u9 P w K mg base C0 1 f fd ["_law_number","_law_k"] (dW K):=by
 refine F.ok sc__law_name (λvs H Q E h=>?_) (λc_ A outer s H vs Q E hr h=>?_)
 .obtain⟨c,k',rfl,_⟩:=h;rfl
 .obtain⟨c,k',rfl,hk,k⟩:=h;have hN:=sc__law_name.nd;have hu:=u6 hr;refine⟨_,QSs.r (z6 (z0 (i:=2) hN rfl (by walk_at "l") jJ)
   (z6 (z0 (i:=3) hN rfl (by walk_at "l") jJ)
   (z6 (Q9 Gp rfl (iE T.b_range (i7 (j6 (j7 K hu) (U3 (i7 d6 (i7 d6 (i7 d6 (i7 d6 (i7 d6 j5)))))) (A7 p5 (qV 0) d6) (λ_ _=>rfl)) j5)) (F4 (i:=4) hN rfl (by walk_at "l"))
    (C4 (z0 (i:=3) hN rfl (by walk_at "l") (A7 (F2 K) (qV 3) (j6 (j7 K hu) (A7 (F2 K) (qV 2) jJ) (A7 p5 (A7 D0 (qV 0) (A7 (F2 K) (qV 4) d6)) (j6 (j7 K hu) (U3 (i7 d6 (i7 d6 j5))) (gJ fE T.b_int Boot.«int» (i7 (eG wm (qV 4) d6 (r9 _)) j5)) (λ_ _=>rfl))) (λ_ _=>rfl))))))
   (z6 (z0 (i:=5) hN rfl (by walk_at "l") (A7 p5 (A7 D0 (qV 0) d6) (A7 (F2 K) (qB (B8 K P w) T.b_len Boot.«len» (i7 (qV 3) j5)) d6)))
   (z6 (z0 (i:=6) hN rfl (by walk_at "l") (A7 (F2 K) (j6 (j7 K hu) (qV 2) (A7 p5 (A7 (F2 K) (qV 0) (qV 1)) d6) (λ_ _=>rfl)) (j6 (j7 K hu) jJ (A7 p5 (qV 1) d6) (λ_ _=>rfl))))
   (C4 (A3 (A7 (F2 K) (A7 (F2 K) (zI (AE K) (qV 3) Bk (yI (qV 5))) (qV 6)) (zI (AE K) (qV 3) (yI (qV 5)) Bk))))))))),?_⟩
  walk_at "r";refine⟨d9 (by simp),λl1 n1=>?_⟩;obtain⟨H1,e1,f1,m1,_⟩:=b9 (o:= .lst (([0,0,3,9,22]:List Int).map V.int)) n1;rw[show([V.int 0,V.int 0,V.int 3,V.int 9,V.int 22]:List V)=([0,0,3,9,22]:List Int).map V.int from rfl,e1];walk_at "r";obtain⟨v,hv,KH⟩:=fJ (xs:=([0,0,3,9,22]:List Int).map V.int) (i:=c % 5) (by lia) (by show _<((5:Nat):Int);lia);rw[FD] at KH;obtain⟨z,hz,rfl⟩:=Gj.mp KH;have ez:vB c=z:=by unfold vB;rw[Gf,hz];rfl
  have QB:=vC c;rw[ez] at QB;refine i8 (SqL.of f1) hv ?_;refine O0 (by lia) (by lia) ?_;refine C8 (n:=z.toNat) (λi σ H'=>Same H H'/\∃(v:Option V),σ=[some (.int c),some (.int k'),some (.str kSL),some (.str (lK (gF c i))),v,none,none]) ⟨m1,none,rfl⟩ (λi σ H' hi _=>by exact hi) ?_ ?_
  .rintro i v σ H2' H2 hi ⟨s2,v',rfl⟩ ⟨rfl,rfl⟩;have NC:=et (gF c i);rw[eN] at NC;walk_at "r";refine N6 (by decide+kernel) ?_;walk_at "r";refine⟨d9 (by simp),λl3 n3=>?_⟩;obtain⟨H3,e3,f3,m3,_⟩:=b9 (o:= .lst [.int 26,.int 37]) n3;rw[e3];walk_at "r";refine .inr ⟨_,rfl,?_⟩;have WV:V8 i=26\/V8 i=37:=by unfold V8;split<;>simp
   have WW:jI [V.int 26,V.int 37] (if decide (0<0+(i:Int))=true then(1:Int) else 0)=some (.int (V8 i)):=by
    unfold V8;by_cases h:0<i
    .rw[if_pos (FZ (by lia)),if_pos h];rfl
    .rw[if_neg (by rw[Ge (by lia)];simp),if_neg h];rfl
   refine i8 (SqL.of f3) WW ?_;have UN:0<V8 i:=by lia
   refine ED UN ?_;have q0:0<=c/(0+(i:Int)+3) % V8 i:=GH _ (by lia);have q1:c/(0+(i:Int)+3) % V8 i<V8 i:=Gs _ UN;have Lp:kSM.cps.toList.length=37:=by decide+kernel
   refine Z9 (by decide+kernel) (ud kSM _ q0 (by rw[Lp];lia)) ?_;refine N6 (j:=⟨#[cw kSM (c/(0+(i:Int)+3) % V8 i)]⟩) (d9 (by rw[X5];lia)) ?_;walk_at "r";refine⟨s2.trans m3,some (.int (0+(i:Int))),?_⟩;rw[tq,←sr,Ji (i:Int)];rfl
  .rintro σ H2 ⟨s2,v',rfl⟩;refine⟨Fz _,?_⟩;have eb:lK (gF c z.toNat)=K5 c:=by unfold K5;rw[ez]
   rw[eb];have NC:(K5 c).length<=22:=by rw[←eb,et,eN];lia
   walk_at "r";refine B7 (cc (d9 (by lia)) ?_);walk_at "r";refine Z9 fu (pZ ((c+(k':Int)) % 26) (by lia) (by lia)) ?_;walk_at "r";have C_:("0123456789.":Str).cps.toList.length=11:=by decide+kernel
   refine Z9 (by decide+kernel) (ud "0123456789." ((k':Int) % 11) (by lia) (by rw[C_];lia)) ?_;refine N6 (i:=⟨#[aC ((c+(k':Int)) % 26)]⟩) (j:=⟨#[cw "0123456789." ((k':Int) % 11)]⟩) (d9 (by rw[X5,X5];lia)) ?_;walk_at "r";have g1:=Ia (K5 c) Option.none (some (c/5 % (((K5 c).length:Int)+1)));have g2:=Ia (K5 c) (some (c/5 % (((K5 c).length:Int)+1))) Option.none;have gt:(zc c k').length=2:=rfl;refine dS (d9 (by lia)) ?_;walk_at "r";refine N6 (j:=zc c k') (d9 (by lia)) ?_;walk_at "r";refine dS (d9 (by lia)) ?_;refine N6 (d9 (by rw[dG];lia)) ?_;exact k _ s2
theorem nX (c:Int)(k:Nat):(ar c k).cps.toList=(Txt.slice (K5 c) none (some (c/5 % (((K5 c).length:Int)+1)))).cps.toList++[aC ((c+(k:Int)) % 26),cw "0123456789." ((k:Int) % 11)]++(Txt.slice (K5 c) (some (c/5 % (((K5 c).length:Int)+1))) none).cps.toList:=by
 show((Txt.slice (K5 c) none (some (c/5 % (((K5 c).length:Int)+1)))).cps++(#[aC ((c+(k:Int)) % 26)]++ #[cw "0123456789." ((k:Int) % 11)])++(Txt.slice (K5 c) (some (c/5 % (((K5 c).length:Int)+1))) none).cps).toList=_;simp
theorem tO:∀i j:Nat,i<11->j<11->cw "0123456789." i=cw "0123456789." j->i=j:=by
 have h:∀i,i<11->∀j,j<11->cw "0123456789." (i:Nat)=cw "0123456789." (j:Nat)->i=j:=by decide+kernel
 exact λi j hi hj=>h i hi j hj
theorem lV {c:Int}{i j:Nat}(hi:i<286)(hj:j<286)(h:ar c i=ar c j):i=j:=by
 have z:=GY (λs:Str=>s.cps.toList) h;simp only[nX,Gx,List.append_cancel_left_eq,HS,List.cons.injEq] at z;have z1:=z.1;have e1:(c+(i:Int)) % 26=(((c+(i:Int)) % 26).toNat:Int):=by lia
 have e2:(c+(j:Int)) % 26=(((c+(j:Int)) % 26).toNat:Int):=by lia
 rw[e1,e2] at z1;have z2:=nG _ _ (by lia) (by lia) z1;have z3:=z.2.1;have e3:(i:Int) % 11=(((i:Int) % 11).toNat:Int):=by lia
 have e4:(j:Int) % 11=(((j:Int) % 11).toNat:Int):=by lia
 rw[e3,e4] at z3;have z4:=tO _ _ (by lia) (by lia) z3;lia
theorem uJ (s:Str)(i:Int)(h0:0<=i)(h1:i<s.cps.toList.length):cw s i∈s.cps.toList:=by
 unfold cw;rw[Gf,Fw (show i.toNat<s.cps.toList.length by lia)];exact Gd _
theorem Cr:kSM.cps.toList=kNS.cps.toList:=by decide+kernel
theorem yM:∀x∈kSL.cps.toList,x∈kNS.cps.toList:=by decide+kernel
theorem CU:∀x∈("0123456789.":Str).cps.toList,x∈kNS.cps.toList:=by decide+kernel
theorem yc:∀i:Nat,i<26->cw kSM (i:Nat)∈kSL.cps.toList:=by decide+kernel
theorem uU {c:Int}{x:Nat}(h:x∈(K5 c).cps.toList):x∈kNS.cps.toList:=by
 have h':x∈gF c (vB c).toNat:=by simpa [K5,lK] using h
 obtain⟨j,_,rfl⟩:=Fx.mp h';rw[←Cr];have hl:kSM.cps.toList.length=37:=by decide+kernel
 have hm:V8 j=26\/V8 j=37:=by unfold V8;split<;>simp
 have q0:0<=c/((j:Int)+3) % V8 j:=GH _ (by lia);have q1:c/((j:Int)+3) % V8 j<V8 j:=Gs _ (by lia);exact uJ _ _ q0 (by rw[hl];lia)
theorem yh (c:Int):(K5 c).length<=22:=by
 have:=vC c;unfold K5;rw[et,eN];lia
theorem oI (c:Int)(k:Nat):N9 (ar c k)=true:=by
 have hb:=yh c;have q0:0<=c/5 % (((K5 c).length:Int)+1):=GH _ (by lia);have q1:c/5 % (((K5 c).length:Int)+1)<((K5 c).length:Int)+1:=Gs _ (by lia);have Lb:=nX c k;have g1:=oC (K5 c) _ q0 (by lia);have g2:=jx (K5 c) _ q0 (by lia);have Nr:=qw (K5 c) _ q0 (by lia);generalize c/5 % (((K5 c).length:Int)+1)=at_ at q0 q1 Lb g1 g2 Nr;have hl:(ar c k).length=(ar c k).cps.toList.length:=cS _;have e1:=cS (Txt.slice (K5 c) none (some at_));have e2:=cS (Txt.slice (K5 c) (some at_) none);have hlen:(ar c k).length=(Txt.slice (K5 c) none (some at_)).length+2+(Txt.slice (K5 c) (some at_) none).length:=by
  rw[hl,Lb,FE,FE,e1,e2];rfl
 have dl:("0123456789.":Str).cps.toList.length=11:=by decide+kernel
 unfold N9;rw[Gh];constructor
 .unfold N7;rw[hlen,FZ (by lia),FZ (by lia),Ij,Ij];unfold oX;rw[Gk,Lb];intro x hx;refine FZ ?_;rcases FC.mp hx with z|z
  .rcases FC.mp z with z|z
   .exact uU (cn z)
   .simp only[Gn,List.not_mem_nil,or_false] at z;rcases z with rfl|rfl
    .exact yM _ (lQ _ (by lia) (by lia))
    .exact CU _ (uJ _ _ (by lia) (by rw[dl];lia))
  .exact uU (cn z)
 .unfold Du;refine FZ ?_;rw[Lb,Nr];by_cases h0:at_=0
  .rw[h0];exact lQ _ (by lia) (by lia)
  .have Lq:(K5 c).cps.toList=gF c (vB c).toNat:=by simp [K5,lK]
   have NC:(K5 c).length=(vB c).toNat:=by unfold K5;rw[et,eN]
   obtain⟨m,hm⟩:∃m,(vB c).toNat=m+1:=⟨(vB c).toNat -1,by lia⟩
   obtain⟨t,ht⟩:∃t,at_.toNat=t+1:=⟨at_.toNat -1,by lia⟩
   rw[Lq,hm,ht];unfold gF;rw[IG,GF,List.take_succ_cons,HS,HS,List.headD_cons];have q2:(c/(((0:Nat):Int)+3) % V8 0)=(((c/(((0:Nat):Int)+3) % V8 0).toNat:Nat):Int):=by
    have:V8 0=26:=rfl;rw[this];lia
   rw[q2];exact yc _ (by have:V8 0=26:=rfl;rw[this];lia)
def fU (K:Kd):Sp:=λvs H Q _=>∃(a b:Addr) (c:Int) (ns:List Int) (ks:List Str),vs=[.ref a,.int c,.ref b]/\SqL K H a (ns.map V.int)/\ns.length<=63/\SqL K H b (ks.map V.str)/\0<ks.length/\ks.length<=3/\(∀s∈ks,F8 s=true)/\∀(a p q:Addr) (kvs:List (j4×V)) (W:C3) (H':Hp),Same H H'->WebIs 60 K H' a p q kvs W->dE W->W.pts.length+W.ts.length<=12->(∀x∈b8 W,∃j,j<13/\x=ar c j)->Q (.ref a) H'
abbrev iO (P:Program)(w:World)(K:Kd)(mg:Str->Option Value)(base:Heap):Prop:=N8 P w K mg base C0 2 "_law_web" ["_law_script","_law_number","_law_kinds"] [] (fU K)
theorem oV {f:Addr}{fd:FuncData}(T:Txt K mg)(K1:aG P w K mg base)(E5:U7 P w K mg base)(L9:bE P w K mg base)(F:Fun K "_law_web" "_law_web" cW f fd):u9 P w K mg base C0 2 f fd ["_law_script","_law_number","_law_kinds"] (fU K):=by
 refine F.ok sc__law_web (λvs H Q E h=>?_) (λc_ A outer s H vs Q E hr h=>?_)
 .obtain⟨a,b,c,ns,ks,rfl,_⟩:=h;rfl
 .obtain⟨a,b,c,ns,ks,rfl,hA,hl,hC,UC,hk3,M_,k⟩:=h;have hN:=sc__law_web.nd;have hu:=u6 hr;refine⟨_,QSs.r (z6 (z0 (i:=3) hN rfl (by walk_at "l") uo)
   (z6 (z0 (i:=4) hN rfl (by walk_at "l") uo)
   (z6 (Q9 Gp rfl (iE T.b_range (i7 (A7 (F2 K) d6 (A7 p5 (A7 D0 (qV 1) d6) d6)) j5)) (F4 (i:=5) hN rfl (by walk_at "l"))
    (z6 (z0 (i:=6) hN rfl (by walk_at "l") (qC K1 (hr.mono (by decide)) k7 (i7 (qC E5 (hr.mono (by decide)) k7 (i7 (qV 0) (i7 (A7 (F2 K) d6 (qV 5)) j5))) (i7 (qV 5) j5))))
   (z6 (z0 (i:=7) hN rfl (by walk_at "l") (qB (O1 K rfl) T.b_sorted Boot.«sorted» (i7 (qV 3) j5)))
   (C4 (cm (kG (fI (p0 (ah K hr) (qV 7) (U3 j5) (r9 _)) (bB (p0 (ah K hr) (A7 p5 (qV 6) d6) d6 (r9 _))))) (C4 (P6 (j6 (j7 K hu) (qV 2) (A7 p5 (A7 D0 (qV 6) d6) (qB (B8 K P w) T.b_len Boot.«len» (i7 (qV 2) j5))) (λ_ _=>rfl)) (mY (qV 3) (qC L9 (hr.mono (by decide)) k7 (i7 (qV 1) (i7 (qV 5) j5))) (z9 P w hu)))) (z6 (z0 (i:=8) hN rfl (by walk_at "l") (J3 (i7 (j6 (j7 K hu) (qV 7) (A7 p5 (A7 D0 (qV 6) d6) (qB (B8 K P w) T.b_len Boot.«len» (i7 (qV 7) j5))) (λ_ _=>rfl)) (i7 (j6 (j7 K hu) (qV 7) (A7 p5 (A7 D0 (qV 6) d6) (qB (B8 K P w) T.b_len Boot.«len» (i7 (qV 7) j5))) (λ_ _=>rfl)) j5))))
   (C4 (P6 (A7 (F2 K) (J3 (i7 (j6 (j7 K hu) (qV 2) (A7 p5 (A7 D0 (qV 6) d6) (qB (B8 K P w) T.b_len Boot.«len» (i7 (qV 2) j5))) (λ_ _=>rfl)) j5)) (qV 8)) (mY (qV 4) (qC L9 (hr.mono (by decide)) k7 (i7 (qV 1) (i7 (qV 5) j5))) (z9 P w hu))))))))))
   (C4 (A3 (J3 (i7 (qV 3) (i7 (qV 4) j5)))))))),?_⟩
  walk_at "r";intro p np;obtain⟨H1,e1,f1,m1,o1⟩:=b9 (o:= .dK []) np;rw[e1];walk_at "r";intro q nq;obtain⟨H2,e2,f2,m2,o2⟩:=b9 (o:= .dK []) nq;rw[e2];have QC:p≠q:=λz=>by rw[←z,f1] at nq;cases nq
  have WX:H q=none:=m1.free nq;walk_at "r";refine O0 (by lia) (by lia) ?_;refine C8 (n:=(3+c/7 % 10).toNat) (λi σ H'=>∃(pts:List (Str×Str)) (kvs:List (j4×V)) (ts:List (Str×N3)) (v1 v2 v3 v4:Option V),σ=[some (.ref a),some (.int c),some (.ref b),some (.ref p),some (.ref q),v1,v2,v3,v4]/\Same H H'/\H' p=some (.dK (i6 pts))/\H' q=some (.dK kvs)/\TiesIs K H' kvs ts/\(pts.map (·.1)++ts.map (·.1)).Nodup/\(∀x∈pts.map (·.1)++ts.map (·.1),x∈(List.range i).map (ar c))/\pts.length+ts.length=i/\(∀x∈ts,x.2.2.1∈pts.map (·.1)/\x.2.2.2∈pts.map (·.1))/\(∀x∈pts,F8 x.2=true)/\∀x∈ts,F8 x.2.1=true)
   ⟨[],[],[],_,_,_,_,rfl,m1.trans m2,m2 _ _ f1,f2,.nil,GX,(λ_ h=>nomatch h),rfl,(λ_ h=>nomatch h),(λ_ h=>nomatch h),λ_ h=>nomatch h⟩ (λi σ H' hi _=>by exact hi) ?_ ?_
  .rintro i v σ Ml H3 hi ⟨pts,kvs,ts,v1,v2,v3,v4,rfl,s3,g3,t3,w3,d1,d2,l1,l2,k1,k2⟩ ⟨rfl,rfl⟩;have e7:(List.range (i+1)).map (ar c)=(List.range i).map (ar c)++[ar c i]:=by rw[Hx,FF];rfl
   have Sl:ar c i∉(List.range i).map (ar c):=λm=>by
    obtain⟨j,hj,e⟩:=Fx.mp m;have WY:=Hn.mp hj;have:=lV (by lia) (by lia) e;lia
   have fresh:ar c i∉pts.map (·.1)++ts.map (·.1):=λm=>Sl (d2 _ m);have ND:∀x∈pts.map (·.1)++ts.map (·.1),x∈(List.range (i+1)).map (ar c):=λx hx=>by rw[e7];exact Fy _ (d2 x hx)
   have here:ar c i∈(List.range (i+1)).map (ar c):=by rw[e7];simp
   walk_at "r";refine⟨a,ns,_,rfl,s3.seq hA,hl,by lia,λm=>?_⟩;walk_at "r";refine⟨_,_,rfl,by lia,by lia,λx hx0=>?_⟩;walk_at "r";refine A9 (ss:=pts.map (·.1)) (.inl g3) (by rw[K4,A8]) (by rw[Fv];lia) (λs1 a1 a2 l5 n5=>?_);obtain⟨H5,e5,f5,m5,_⟩:=b9 (o:= .lst _) n5;rw[e5];have LU:=a1.length_eq;rw[Fv] at LU;walk_at "r";refine⟨d9 (by simp),λl6 n6=>?_⟩;obtain⟨H6,e6,f6,m6,_⟩:=b9 (o:= .lst _) n6;rw[e6];have h6:=m6 _ _ f5;have s6:=s3.trans (m5.trans m6);have g6:=m6 _ _ (m5 _ _ g3);have t6:=m6 _ _ (m5 _ _ t3);have w6:=w3.mono (m5.trans m6).le;refine jP (oz (SqL.of h6) (SqL.of f6) (V0 _) rfl ?_);walk_at "r";refine mK (λhz=>?_) (λhz=>?_)
   .walk_at "r";refine B7 (k8 (s6.seq hC) ?_);rw[Fv];walk_at "r";obtain⟨kd,Ke,LV⟩:=J6 (ss:=ks) (i:=x/3 % (ks.length:Int)) (GH _ (by lia)) (Gs _ (by lia));refine i8 (s6.seq hC) Ke ?_;walk_at "r";refine⟨c,i,by rw[Ji];rfl,by lia,λH7 m7=>?_⟩;have s7:=s6.trans m7;have g7:=m7 _ _ g6;have t7:=m7 _ _ t6;have w7:=w6.mono m7.le;refine O4 (z5 (k:=Sum.inr (ar c i)) g7 (d9 (by unfold i6;rw[Fv];lia)) ?_);have ep:E3 (i6 pts) (Sum.inr (ar c i):j4) (.str kd)=i6 (pts++[(ar c i,kd)]):=by
     rw[Q8 _ (Q1 (by rw[K4,←A8];exact λm=>fresh (Fy _ (ay m))))];unfold i6;rw[FF];rfl
    refine⟨pts++[(ar c i,kd)],kvs,ts,_,_,_,_,rfl,E4 s7 np,by rw[d8,ep],by rw[d0 (HX QC)];exact t7,Paired.imp' (λ_ _ z=>dZ g7 z) w7,vS d1 fresh,qE ND here,?_,?_,?_,λy hy=>k2 y hy⟩
    .rw[FE,FT];lia
    .intro x hx;rw[FF];exact⟨Fy _ (l2 x hx).1,Fy _ (l2 x hx).2⟩
    .intro y hy;rcases FC.mp hy with h'|h'
     .exact k1 y h'
     .rw[FH.mp h'];exact M_ _ LV
   .walk_at "r";refine L5 (λh3=>?_) (λh3=>?_)
    .walk_at "r";refine B7 (k8 (s6.seq hC) ?_);rw[Fv];walk_at "r";obtain⟨kd,Ke,LV⟩:=J6 (ss:=ks) (i:=x/3 % (ks.length:Int)) (GH _ (by lia)) (Gs _ (by lia));refine i8 (s6.seq hC) Ke ?_;walk_at "r";refine⟨c,i,by rw[Ji];rfl,by lia,λH7 m7=>?_⟩;have s7:=s6.trans m7;have g7:=m7 _ _ g6;have t7:=m7 _ _ t6;have w7:=w6.mono m7.le;refine O4 (z5 (k:=Sum.inr (ar c i)) g7 (d9 (by unfold i6;rw[Fv];lia)) ?_);have ep:E3 (i6 pts) (Sum.inr (ar c i):j4) (.str kd)=i6 (pts++[(ar c i,kd)]):=by
      rw[Q8 _ (Q1 (by rw[K4,←A8];exact λm=>fresh (Fy _ (ay m))))];unfold i6;rw[FF];rfl
     refine⟨pts++[(ar c i,kd)],kvs,ts,_,_,_,_,rfl,E4 s7 np,by rw[d8,ep],by rw[d0 (HX QC)];exact t7,Paired.imp' (λ_ _ z=>dZ g7 z) w7,vS d1 fresh,qE ND here,?_,?_,?_,λy hy=>k2 y hy⟩
     .rw[FE,FT];lia
     .intro x hx;rw[FF];exact⟨Fy _ (l2 x hx).1,Fy _ (l2 x hx).2⟩
     .intro y hy;rcases FC.mp hy with h'|h'
      .exact k1 y h'
      .rw[FH.mp h'];exact M_ _ LV
    .have LS:0<pts.length:=by
      cases pts with
      |nil=>exact absurd hz (by rw[List.Perm.eq_nil a1];decide)
      |cons _ _=>simp
     walk_at "r";refine B7 (k8 (SqL.of h6) ?_);rw[Fv,LU];walk_at "r";obtain⟨o1,Lo,QD⟩:=J6 (ss:=s1) (i:=x/9 % (pts.length:Int)) (GH _ (by lia)) (by rw[LU];exact Gs _ (by lia));refine i8 (SqL.of h6) Lo ?_;walk_at "r";refine B7 (k8 (SqL.of h6) ?_);rw[Fv,LU];walk_at "r";obtain⟨o2,KZ,Sm⟩:=J6 (ss:=s1) (i:=x/101 % (pts.length:Int)) (GH _ (by lia)) (by rw[LU];exact Gs _ (by lia));refine i8 (SqL.of h6) KZ ?_;walk_at "r";refine⟨d9 (by simp),λl8 n8=>?_⟩;obtain⟨H8,e8,f8,m8,_⟩:=b9 (o:= .tup _) n8;rw[e8];have s8:=s6.trans m8;walk_at "r";refine B7 (k8 (s8.seq hC) ?_);rw[Fv];walk_at "r";obtain⟨kd,Ke,LV⟩:=J6 (ss:=ks) (i:=x/3 % (ks.length:Int)) (GH _ (by lia)) (Gs _ (by lia));refine i8 (s8.seq hC) Ke ?_;walk_at "r";refine⟨d9 (by simp),λl9 n9=>?_⟩;obtain⟨H9,e9,f9,m9,_⟩:=b9 (o:= .tup _) n9;rw[e9];walk_at "r";refine .inr (.inr (.inr ⟨l9,l8,_,_,rfl,rfl,SqT.of f9,SqT.of (m9 _ _ f8),by simp,d9 (by simp),(λz=>by cases z),λ_ l10 n10=>?_⟩));obtain⟨Lc,OT,OU,NF,_⟩:=b9 (o:= .tup (W0 (kd,o1,o2))) n10;rw[show([V.str kd]++[V.str o1,V.str o2]:List V)=W0 (kd,o1,o2) from rfl,OT];walk_at "r";refine⟨c,i,by rw[Ji];rfl,by lia,λLA Ld=>?_⟩;have M:=m8.trans (m9.trans (NF.trans Ld));have LW:=s6.trans M;have WZ:=M _ _ g6;have Sn:=M _ _ t6;have So:=w6.mono M.le;refine O4 (z5 (k:=Sum.inr (ar c i)) Sn (d9 (by have z:=So.length;lia)) ?_);have ek:E3 kvs (Sum.inr (ar c i):j4) (.ref l10)=kvs++[(Sum.inr (ar c i),.ref l10)]:=Q8 _ (Q1 (by rw[So.keys,←A8];exact λm=>fresh (FA _ (ay m))));refine⟨pts,_,ts++[(ar c i,(kd,o1,o2))],_,_,_,_,rfl,E4 LW WX,by rw[d0 QC];exact WZ,d8,?_,AI d1 fresh,xV ND here,?_,?_,k1,?_⟩
     .rw[ek];exact E2 (Paired.imp' (λ_ _ z=>dZ Sn z) So) (dZ Sn ⟨rfl,l10,rfl,SqT.of (Ld _ _ OU)⟩)
     .rw[FE,FT];lia
     .intro x hx;rcases FC.mp hx with h'|h'
      .exact l2 x h'
      .rw[FH.mp h'];exact⟨a1.mem_iff.mp QD,a1.mem_iff.mp Sm⟩
     .intro y hy;rcases FC.mp hy with h'|h'
      .exact k2 y h'
      .rw[FH.mp h'];exact M_ _ LV
  .rintro σ H3 ⟨pts,kvs,ts,v1,v2,v3,v4,rfl,s3,g3,t3,w3,d1,d2,l1,l2,k1,k2⟩;refine⟨Fz _,?_⟩;walk_at "r";refine⟨d9 (by simp),λl9 n9=>?_⟩;obtain⟨H9,e9,f9,m9,_⟩:=b9 (H:=H3) (o:= .tup [.ref p,.ref q]) n9;change Q _ (upd H3 l9 _);rw[e9];have UO:∀x∈pts.map (·.1)++ts.map (·.1),N9 x=true:=λx hx=>by
    obtain⟨j,_,rfl⟩:=Fx.mp (d2 x hx);exact oI c j
   have Sq:∀x∈pts.map (·.1)++ts.map (·.1),x.length<=100:=λx hx=>by
    have z:=UO x hx;unfold N9 at z;have:=cg (Gh _ _▸z).1;lia
   exact k l9 p q kvs ⟨pts,ts⟩ H9 (s3.trans m9) ⟨⟨SqT.of f9,.inl (m9 _ _ g3),.inl (m9 _ _ t3),w3.mono m9.le⟩,m9 _ _ g3,m9 _ _ t3,QC,d1,by show(pts.map (·.1)++ts.map (·.1)).length<=60;rw[FE,Fv,Fv];lia,l2,Sq⟩ ⟨UO,k1,k2⟩ (by show pts.length+ts.length<=12;lia) (λx hx=>by
    obtain⟨j,hj,rfl⟩:=Fx.mp (d2 x hx);have:=Hn.mp hj;exact⟨j,by lia,rfl⟩)
def fS (K:Kd):Sp:=λvs H Q _=>∃(a:Addr) (ns:List Int),vs=[.ref a]/\SqL K H a (ns.map V.int)/\ns.length<=63/\∀(t lk b p q:Addr) (kvs:List (j4×V)) (W:C3) (c:Int) (ks:List Str) (H':Hp),Same H H'->H' t=some (.tup [.int c,.ref lk,.ref b])->H' lk=some (.lst (ks.map V.str))->0<ks.length->ks.length<=3->(∀s∈ks,F8 s=true)->0<=c->WebIs 60 K H' b p q kvs W->dE W->W.pts.length+W.ts.length<=12->(∀x∈b8 W,∃j,j<13/\x=ar c j)->Q (.ref t) H'
abbrev iI (P:Program)(w:World)(K:Kd)(mg:Str->Option Value)(base:Heap):Prop:=N8 P w K mg base C0 3 "_law_set" ["_law_script"] [] (fS K)
theorem oJ {f:Addr}{fd:FuncData}(T:Txt K mg)(K1:aG P w K mg base)(E5:U7 P w K mg base)(M7:av P w K mg base)(cQ:iO P w K mg base)(F:Fun K "_law_set" "_law_set" dc f fd):u9 P w K mg base C0 3 f fd ["_law_script"] (fS K):=by
 refine F.ok sc__law_set (λvs H Q E h=>?_) (λc_ A outer s H vs Q E hr h=>?_)
 .obtain⟨a,ns,rfl,_⟩:=h;rfl
 .obtain⟨a,ns,rfl,hA,hl,k⟩:=h;have hN:=sc__law_set.nd;have hu:=u6 hr;refine⟨_,QSs.r (z6 (z0 (i:=1) hN rfl (by walk_at "l") (qC K1 (hr.mono (by decide)) k7 (i7 (qC E5 (hr.mono (by decide)) k7 (i7 (qV 0) (i7 d6 j5))) (i7 d6 j5))))
   (z6 (z0 (i:=2) hN rfl (by walk_at "l") (qC K1 (hr.mono (by decide)) k7 (i7 (qC E5 (hr.mono (by decide)) k7 (i7 (qV 0) (i7 d6 j5))) (i7 d6 j5))))
   (z6 (z0 (i:=3) hN rfl (by walk_at "l") (qC M7 (hr.mono (by decide)) k7 (i7 (A7 D0 (qV 2) d6) (i7 (A7 (F2 K) d6 (A7 p5 (qV 2) d6)) j5))))
   (C4 (A3 (J3 (i7 (qV 1) (i7 (qV 3) (i7 (qC cQ (hr.mono (by decide)) k7 (i7 (qV 0) (i7 (qV 1) (i7 (qV 3) j5)))) j5))))))))),?_⟩
  walk_at "r";refine⟨a,ns,0,rfl,hA,hl,by lia,λc0=>?_⟩;walk_at "r";refine⟨c0,20,rfl,by lia,by lia,λm0 hm0=>?_⟩;walk_at "r";refine⟨a,ns,1,rfl,hA,hl,by lia,λc1=>?_⟩;walk_at "r";refine⟨c1,21,rfl,by lia,by lia,λm1 QD=>?_⟩;walk_at "r";refine⟨_,_,rfl,by lia,by lia,λlk H1 ks n1 s1 f1 ⟨h1,h2,h3⟩=>?_⟩;walk_at "r";refine⟨a,lk,m0,ns,ks,rfl,s1.seq hA,hl,SqL.of f1,by lia,by lia,h3,λb p q kvs W H2 s2 hW hG hz Kv=>?_⟩;walk_at "r";refine⟨d9 (by simp),λt nt=>?_⟩;obtain⟨H3,e3,f3,s3,_⟩:=b9 (o:= .tup _) nt;rw[e3];exact k t lk b p q kvs W m0 ks H3 (s1.trans (s2.trans s3)) f3 (s3 _ _ (s2 _ _ f1)) (by lia) (by lia) h3 hm0 (hW.same s3) hG hz Kv--SPLIT
structure Di (W:C3) (ps ts:List Str):Prop where
 n1:ps.Nodup
 n2:ts.Nodup
 l1:ps.length<=4
 l2:ts.length<=4
 p:∀n∈ps,n∈W.pts.map (·.1)
 t:∀n∈ts,∃x,(n,x)∈W.ts/\x.2.1∈ps/\x.2.2∈ps
def bX (K:Kd):Sp:=λvs H Q _=>∃(S:Sd) (lx:Addr) (xs:List Int),vs=[.ref S.a,.ref lx]/\SdIs K H S/\SqL K H lx (xs.map V.int)/\xs.length=16/\(∀x∈xs,0<=x)/\∀(t lp lt:Addr) (ps ts:List Str) (H':Hp),Same H H'->H' t=some (.tup [.ref lp,.ref lt])->H' lp=some (.lst (ps.map V.str))->H' lt=some (.lst (ts.map V.str))->Di S.W ps ts->Q (.ref t) H'
theorem X8 {xs:List Int}(hl:xs.length=16)(h0:∀x∈xs,0<=x)(i:Nat)(hi:i<16):∃x,jI (xs.map V.int) (i:Int)=some (.int x)/\0<=x:=
 ⟨xs[i]'(by lia),b6 (j:=i) (by rw[FD,Fw (by lia)];rfl),h0 _ (Gd _)⟩
abbrev cH (P:Program)(w:World)(K:Kd)(mg:Str->Option Value)(base:Heap):Prop:=N8 P w K mg base C0 1 "_law_picked" ["_law_web_here","_law_xs"] [] (bX K)
theorem jw {f:Addr}{fd:FuncData}(T:Txt K mg)(F:Fun K "_law_picked" "_law_picked" Y5 f fd):u9 P w K mg base C0 1 f fd ["_law_web_here","_law_xs"] (bX K):=by
 refine F.ok sc__law_picked (λvs H Q E h=>?_) (λc_ A outer s H vs Q E hr h=>?_)
 .obtain⟨S,lx,xs,rfl,_⟩:=h;rfl
 .obtain⟨S,lx,xs,rfl,hS,hX,j_,hx0,k⟩:=h;have Lp:=hS.len;rw[A5] at Lp;have hN:=sc__law_picked.nd;have hu:=u6 hr;refine⟨_,QSs.r (z6 (z0 (i:=2) hN rfl (by walk_at "l") (qB (O1 K rfl) T.b_sorted Boot.«sorted» (i7 (j6 (j7 K hu) (qV 0) d6 (λ_ _=>rfl)) j5)))
   (z6 (z0 (i:=3) hN rfl (by walk_at "l") (U3 j5))
   (z6 (Q9 Gp rfl (iE T.b_range (i7 (A7 Q3 (A7 p5 (j6 (j7 K hu) (qV 1) d6 (λ_ _=>rfl)) d6) (gJ fE T.b_int Boot.«int» (i7 (eG (aX K hr) (qV 2) (U3 j5) (r9 _)) j5))) j5)) (F4 (i:=4) hN rfl (by walk_at "l"))
    (C4 (cm (p0 (K8 K hu) (j6 (j7 K hu) (qV 2) (A7 p5 (j6 (j7 K hu) (qV 1) (A7 (F2 K) d6 (qV 4)) (λ_ _=>rfl)) (qB (B8 K P w) T.b_len Boot.«len» (i7 (qV 2) j5))) (λ_ _=>rfl)) (qV 3) (by rfl)) (C4 (mX (qM GN GP GQ A4 K (qV 3) (i7 (j6 (j7 K hu) (qV 2) (A7 p5 (j6 (j7 K hu) (qV 1) (A7 (F2 K) d6 (qV 4)) (λ_ _=>rfl)) (qB (B8 K P w) T.b_len Boot.«len» (i7 (qV 2) j5))) (λ_ _=>rfl)) j5)))) cU)))
   (z6 (z0 (i:=5) hN rfl (by walk_at "l") (U3 j5))
   (z6 (Q9 Gp rfl (ae K T.b_enumerate (i7 (qB (O1 K rfl) T.b_sorted Boot.«sorted» (i7 (j6 (j7 K hu) (qV 0) d6 (λ_ _=>rfl)) j5)) j5)) (jz K rfl (U1 (F4 (i:=6) hN rfl (by walk_at "l")) (U1 (F4 (i:=7) hN rfl (by walk_at "l")) jA)))
    (z6 (z0 (i:=8) hN rfl (by walk_at "l") (j6 (j7 K hu) (j6 (j7 K hu) (qV 0) d6 (λ_ _=>rfl)) (qV 7) (λ_ _=>rfl)))
   (C4 (cm (kG (bc (p0 (kIn K hu) (j6 (j7 K hu) (qV 8) d6 (λ_ _=>rfl)) (qV 3) (by rfl)) (bc (p0 (kIn K hu) (j6 (j7 K hu) (qV 8) d6 (λ_ _=>rfl)) (qV 3) (by rfl)) (bc (p0 ie (qB (B8 K P w) T.b_len Boot.«len» (i7 (qV 5) j5)) d6 (r9 _)) (aE (p0 wm (A7 p5 (A7 D0 (j6 (j7 K hu) (qV 1) d6 (λ_ _=>rfl)) (A7 (F2 K) (qV 6) d6)) d6) d6 (r9 _))))))) (C4 (mX (qM GN GP GQ A4 K (qV 5) (i7 (qV 7) j5)))) cU))))
   (C4 (A3 (J3 (i7 (qV 3) (i7 (qV 5) j5)))))))))),?_⟩
  refine A1 ?_;walk_at "e";refine b5 hS.at_.tup (b6 (j:=0) rfl) ?_;walk_at "e";refine A9 (ss:=S.W.pts.map (·.1)) hS.at_.pts (by rw[K4,A8]) (by rw[Fv];lia) (λs1 a1 a2 l1 n1=>?_);obtain⟨H1,e1,f1,m1,_⟩:=b9 (o:= .lst _) n1;rw[e1];have g1:=a1.length_eq;rw[Fv] at g1;walk_at "e";refine A1 ?_;walk_at "e";refine⟨d9 (by simp),λlp np=>?_⟩;obtain⟨H2,e2,f2,m2,_⟩:=b9 (o:= .lst []) np;rw[e2];walk_at "e";refine A1 ?_;walk_at "e";obtain⟨x0,hx,g_⟩:=X8 j_ hx0 0 (by lia);refine i8 ((m1.trans m2).seq hX) hx ?_;walk_at "e";refine⟨d9 (by simp),λl3 n3=>?_⟩;obtain⟨H3,e3,f3,m3,_⟩:=b9 (o:= .lst []) n3;rw[e3];refine Al (jn (SqL.of (m3 _ _ (m2 _ _ f1))) (SqL.of f3) (V0 _) rfl ?_);refine .inr ⟨_,rfl,?_⟩;have OW:Y0 (s1.map V.str) []=decide (s1=[]):=by cases s1<;>rfl
  rw[OW];generalize hn:(if(!decide (s1=[]))=true then(1:Int) else 0)=n;have LX:(n=0\/n=1)/\(n=1->0<s1.length):=by
   subst hn;cases s1 with
   |nil=>simp
   |cons _ _=>simp
  have Se:lp≠l1:=b7 f1 np|>.symm;walk_at "e";have hmul:0<=x0 % 5*n/\x0 % 5*n<=4/\(0<x0 % 5*n->n=1):=by
   rcases LX.1 with rfl|rfl<;>lia
  generalize x0 % 5*n=cnt at hmul⊢;refine O0 (by lia) (by lia) ?_;have M3:=m1.trans (m2.trans m3);refine C8 (n:=cnt.toNat) (λi σ H'=>Same H H'/\H' l1=some (.lst (s1.map V.str))/\(∃v4,σ=[some (.ref S.a),some (.ref lx),some (.ref l1),some (.ref lp),v4,none,none,none,none])/\∃ps:List Str,H' lp=some (.lst (ps.map V.str))/\ps.Nodup/\ps.length<=i/\∀n∈ps,n∈s1)
   ⟨M3,m3 _ _ (m2 _ _ f1),⟨_,rfl⟩,[],m3 _ _ f2,GX,Fz _,λ_ h=>nomatch h⟩ (λi σ H' hi _=>by exact hi) ?_ ?_
  .rintro i v σ H4' H4 hi ⟨s4,h4,⟨v4,rfl⟩,ps,g4,nd4,hl4,in4⟩ ⟨rfl,rfl⟩;have LS:0<s1.length:=LX.2 (hmul.2.2 (by lia));obtain⟨xj,Sr,W_⟩:=X8 j_ hx0 (1+i) (by lia);have QF:((1+i:Nat):Int)=1+(0+(i:Int)):=by lia
   rw[QF] at Sr;obtain⟨nm,Kv,Ss⟩:=J6 (ss:=s1) (i:=xj % (s1.length:Int)) (GH _ (by lia)) (Gs _ (by lia));walk_at "e";refine i8 (s4.seq hX) Sr ?_;walk_at "e";refine B7 (k8 (SqL.of h4) ?_);rw[Fv];walk_at "e";refine i8 (SqL.of h4) Kv ?_;walk_at "e";refine J0 (SqL.of g4) ?_;walk_at "e";refine J5 (λhb=>?_) (λhb=>?_)
   .walk_at "e";refine⟨.inl ⟨rfl,_,SqL.of g4⟩,?_⟩;walk_at "e";refine i8 (s4.seq hX) Sr ?_;walk_at "e";refine B7 (k8 (SqL.of h4) ?_);rw[Fv];walk_at "e";refine i8 (SqL.of h4) Kv ?_;walk_at "e";refine⟨lp,_,_,rfl,rfl,g4,N5 (by rw[Fv];lia),?_⟩;refine⟨E4 s4 (m1.free np),by rw[d0 Se.symm];exact h4,⟨_,rfl⟩,ps++[nm],?_,B9 nd4 hb,by rw[FE,FT];lia,λn hn=>?_⟩
    .rw[d8,FF];rfl
    .rcases FC.mp hn with z|z
     .exact in4 n z
     .rw[FH.mp z];exact Ss
   .walk_at "e";exact⟨s4,h4,⟨_,rfl⟩,ps,g4,nd4,by lia,in4⟩
  .rintro σ H4 ⟨s4,h4,⟨v4,rfl⟩,ps,g4,nd4,hl4,in4⟩;refine⟨Fz _,?_⟩;have S4:=hS.same s4;refine A1 ?_;walk_at "e";refine⟨d9 (by simp),λlt nt=>?_⟩;obtain⟨H5,e5,f5,m5,_⟩:=b9 (H:=H4) (o:= .lst []) nt;change O5 _ _ _ (upd H4 lt _) _;rw[e5];walk_at "e";refine A1 ?_;walk_at "e";have S5:=S4.same m5;refine b5 S5.at_.tup (b6 (j:=1) rfl) ?_;walk_at "e";refine A9 (ss:=S.W.ts.map (·.1)) S5.at_.ties (by rw[S5.at_.ts.keys,A8]) (by rw[Fv];lia) (λs2 b1 b2 l6 n6=>?_);obtain⟨H6,e6,f6,m6,_⟩:=b9 (o:= .lst _) n6;rw[e6];have g2:=b1.length_eq;rw[Fv] at g2;have Nf:s2.Nodup:=b1.nodup_iff.mpr (N1 hS.nd);have Su:lt≠l6:=b7 f5 n6;have Xa:lp≠lt:=b7 g4 nt;walk_at "e";refine⟨_,rfl,.inl ⟨l6,_,rfl,SqL.of f6,?_⟩⟩;have M6:=m5.trans m6;refine C8 (n:=s2.length) (λi σ H'=>Same H4 H'/\H' l6=some (.lst (s2.map V.str))/\(∃v4 v6 v7 v8,σ=[some (.ref S.a),some (.ref lx),some (.ref l1),some (.ref lp),v4,some (.ref lt),v6,v7,v8])/\∃ts:List Str,H' lt=some (.lst (ts.map V.str))/\ts.Nodup/\ts.length<=4/\(∀n∈ts,n∈s2.take i)/\∀n∈ts,∃x,(n,x)∈S.W.ts/\x.2.1∈ps/\x.2.2∈ps)
    ⟨M6,f6,⟨_,_,_,_,rfl⟩,[],m6 _ _ f5,GX,Hk _,(λ_ h=>nomatch h),λ_ h=>nomatch h⟩ (λi σ H' hi hp=>⟨_,.str (s2[i]),SqL.of hp.2.1,by rw[FD,Fw hi];rfl⟩) ?_ ?_
   .rintro i v σ H7 H8 hi ⟨s7,h7,⟨v4,v6,v7,v8,rfl⟩,ts,g7,nd7,hl7,in7,ok7⟩ ⟨t,x,hx,nt',rfl,rfl⟩;have g_:=hx _ (SqL.of h7);rw[FD,Fw hi] at g_;cases g_;obtain⟨H9,e9,f9,m9,_⟩:=b9 (o:= .tup _) nt';rw[e9];have e7:s2.take (i+1)=s2.take i++[s2[i]]:=by rw[Gq,Fw hi];rfl
    have Sl:s2[i]∉ts:=λm=>by
     have z:(s2.take (i+1)).Nodup:=Nf.sublist (GZ _ _);rw[e7] at z;exact(FR.mp z).2.2 _ (in7 _ m) _ (by simp) rfl
    have n_:s2[i]∈S.W.ts.map (·.1):=b1.mem_iff.mp (Gd hi);have s9:=s7.trans m9;have S9:=S4.same s9;have p9:=s9 _ _ g4;have g9:=m9 _ _ g7;have h9:=m9 _ _ h7;obtain⟨aa,⟨y1,y2,y3⟩,q1,q2,q3⟩:=TiesIs.val (ts:=S.W.ts) S9.at_.ts n_;refine J1 (SqT.of f9) rfl ?_;walk_at "r";refine b5 S9.at_.tup (b6 (j:=1) rfl) ?_;walk_at "r";refine k9 (v:= .ref aa) (by have z:=F5 (k:=Sum.inr s2[i]) S9.at_.ties;rw[q1] at z;exact z) ?_;have stay:Same H4 H9/\H9 l6=some (.lst (s2.map V.str))/\(∃v4' v6 v7 v8,[some (V.ref S.a),some (.ref lx),some (.ref l1),some (.ref lp),v4,some (.ref lt),some (.int (i:Int)),some (.str s2[i]),some (.ref aa)]=[some (.ref S.a),some (.ref lx),some (.ref l1),some (.ref lp),v4',some (.ref lt),v6,v7,v8])/\∃ts:List Str,H9 lt=some (.lst (ts.map V.str))/\ts.Nodup/\ts.length<=4/\(∀n∈ts,n∈s2.take (i+1))/\∀n∈ts,∃x,(n,x)∈S.W.ts/\x.2.1∈ps/\x.2.2∈ps:=
     ⟨s9,h9,⟨_,_,_,_,rfl⟩,ts,g9,nd7,hl7,λn hn=>by rw[e7];exact Fy _ (in7 n hn),ok7⟩
    walk_at "r";refine b5 q3 (b6 (j:=1) rfl) ?_;walk_at "r";refine cf (SqL.of p9) ?_;walk_at "r";refine L5 (λc1=>?_) (λc1=>?_)
    .walk_at "r";refine b5 q3 (b6 (j:=2) rfl) ?_;walk_at "r";refine cf (SqL.of p9) ?_;walk_at "r";refine L5 (λc2=>?_) (λc2=>?_)
     .walk_at "r";refine B7 (k8 (SqL.of g9) ?_);rw[Fv];walk_at "r";refine L5 (λc3=>?_) (λc3=>?_)
      .obtain⟨x5,hx5,hx5'⟩:=X8 j_ hx0 5 (by lia);walk_at "r";refine i8 ((s4.trans s9).seq hX) hx5 ?_;walk_at "r";refine L5 (λc4=>?_) (λc4=>?_)
       .walk_at "r";refine⟨.inl ⟨rfl,_,SqL.of g9⟩,?_⟩;walk_at "r";refine⟨lt,_,_,rfl,rfl,g9,N5 (by rw[Fv];lia),?_⟩;refine⟨E4 s9 nt,by rw[d0 Su.symm];exact h9,⟨_,_,_,_,rfl⟩,ts++[s2[i]],?_,B9 nd7 Sl,by rw[FE,FT];lia,λn hn=>?_,λn hn=>?_⟩
        .rw[d8,FF];rfl
        .rw[e7];rcases FC.mp hn with z|z
         .exact Fy _ (in7 n z)
         .exact FA _ z
        .rcases FC.mp hn with z|z
         .exact ok7 n z
         .rw[FH.mp z];exact⟨_,q2,c1,c2⟩
       .walk_at "r";exact stay
      .walk_at "r";exact stay
     .walk_at "r";exact stay
    .walk_at "r";exact stay
   .rintro σ H7 ⟨s7,h7,⟨v4,v6,v7,v8,rfl⟩,ts,g7,nd7,hl7,in7,ok7⟩;refine⟨⟨_,SqL.of h7,by rw[Fv];exact Fz _⟩,?_⟩;walk_at "r";refine⟨d9 (by simp),λt nt'=>?_⟩;obtain⟨H9,e9,f9,m9,_⟩:=b9 (H:=H7) (o:= .tup [.ref lp,.ref lt]) nt';change Q _ (upd H7 t _);rw[e9];exact k t lp lt ps ts H9 (s4.trans (s7.trans m9)) f9 (m9 _ _ (s7 _ _ g4)) (m9 _ _ g7) ⟨nd4,nd7,by lia,hl7,λn hn=>a1.mem_iff.mp (in4 n hn),ok7⟩
structure BK (W:C3) (ps ts os:List Str):Prop where
 sub:∀n∈os,n∈ps++ts
 len:os.length<=8
 ok:∀n∈ts,n∉os->∀x,(n,x)∈W.ts->x.2.1∉os/\x.2.2∉os
 lo:∀n x,(n,x)∈W.ts->(x.2.1∈os\/x.2.2∈os)->n∈os
def gn (K:Kd):Sp:=λvs H Q _=>∃(S:Sd) (lp lt lx:Addr) (ps ts:List Str) (xs:List Int),vs=[.ref S.a,.ref lp,.ref lt,.ref lx]/\SdIs K H S/\SqL K H lp (ps.map V.str)/\SqL K H lt (ts.map V.str)/\Di S.W ps ts/\SqL K H lx (xs.map V.int)/\xs.length=16/\(∀x∈xs,0<=x)/\∀(l:Addr) (os:List Str) (H':Hp),H l=none->Same H H'->H' l=some (.lst (os.map V.str))->BK S.W ps ts os->Q (.ref l) H'
abbrev iD (P:Program)(w:World)(K:Kd)(mg:Str->Option Value)(base:Heap):Prop:=N8 P w K mg base C0 1 "_law_out" ["_law_web_here","_law_points","_law_ties","_law_xs"] [] (gn K)
theorem nE {f:Addr}{fd:FuncData}(T:Txt K mg)(F:Fun K "_law_out" "_law_out" du f fd):u9 P w K mg base C0 1 f fd ["_law_web_here","_law_points","_law_ties","_law_xs"] (gn K):=by
 refine F.ok sc__law_out (λvs H Q E h=>?_) (λc_ A outer s H vs Q E hr h=>?_)
 .obtain⟨S,lp,lt,lx,ps,ts,xs,rfl,_⟩:=h;rfl
 .obtain⟨S,lp,lt,lx,ps,ts,xs,rfl,hS,hP,hT,pk,hX,j_,hx0,k⟩:=h;have Lp:=hS.len;rw[A5] at Lp;have KI:=hS.at_.ts.length;have UQ:=pk.l1;have UR:=pk.l2;have hN:=sc__law_out.nd;have hu:=u6 hr;refine⟨_,QSs.r (z6 (z0 (i:=4) hN rfl (by walk_at "l") (U3 j5))
   (z6 (Q9 Gp rfl (ae K T.b_enumerate (i7 (qV 1) j5)) (jz K rfl (U1 (F4 (i:=5) hN rfl (by walk_at "l")) (U1 (F4 (i:=6) hN rfl (by walk_at "l")) jA)))
    (z6 (ai (i:=7) hN rfl (by walk_at "l") (own:=["_law_tie"]) (js:=[6,2,0]) (by kernel_rfl) rfl (P8 K (j6 (j7 K hu) (qV 0) d6 (λ_ _=>rfl))) (λ_ _ _ _=>(F4 (i:=0) (show List.Nodup (["_law_tie","_law_name_here","_law_ties","_law_web_here"]:List Str) by decide+kernel) rfl (by walk_at "l"))) (λ_ _ _ _=>(mU (kG (bc (p0 (kIn K hu) (qV 1) (zI (AE K) (j6 (j7 K hu) (j6 (j7 K hu) (qV 3) d6 (λ_ _=>rfl)) (qV 0) (λ_ _=>rfl)) (yI d6) Bk) (by rfl)) (aE (p0 (K8 K hu) (qV 0) (qV 2) (by rfl))))))) (λ_ _ _ _=>(qV 0)))
   (C4 (cm (kG (bc (p0 (ah K hr) (A7 vg (A7 tY (j6 (j7 K hu) (qV 3) d6 (λ_ _=>rfl)) (qV 5)) d6) d6 (r9 _)) (aE (p0 (ah K hr) (qV 7) (U3 j5) (r9 _))))) (C4 (mX (qM GN GP GQ A4 K (qV 4) (i7 (qV 6) j5)))) cU))))
   (z6 (Q9 Gp rfl (ae K T.b_enumerate (i7 (qV 2) j5)) (jz K rfl (U1 (F4 (i:=5) hN rfl (by walk_at "l")) (U1 (F4 (i:=6) hN rfl (by walk_at "l")) jA)))
    (C4 (cm (kG (fI (p0 (kIn K hu) (j6 (j7 K hu) (j6 (j7 K hu) (j6 (j7 K hu) (qV 0) d6 (λ_ _=>rfl)) (qV 6) (λ_ _=>rfl)) d6 (λ_ _=>rfl)) (qV 4) (by rfl)) (fI (p0 (kIn K hu) (j6 (j7 K hu) (j6 (j7 K hu) (j6 (j7 K hu) (qV 0) d6 (λ_ _=>rfl)) (qV 6) (λ_ _=>rfl)) d6 (λ_ _=>rfl)) (qV 4) (by rfl)) (bB (p0 (ah K hr) (A7 vg (A7 tY (j6 (j7 K hu) (qV 3) d6 (λ_ _=>rfl)) (qV 5)) d6) d6 (r9 _)))))) (C4 (mX (qM GN GP GQ A4 K (qV 4) (i7 (qV 6) j5)))) cU)))
   (C4 (A3 (qV 4)))))),?_⟩
  refine A1 ?_;walk_at "e";refine⟨d9 (by simp),λlo no=>?_⟩;obtain⟨H1,e1,f1,m1,_⟩:=b9 (o:= .lst []) no;rw[e1];walk_at "e";refine A1 ?_;walk_at "e";refine⟨_,rfl,.inl ⟨lp,_,rfl,m1.seq hP,?_⟩⟩;refine C8 (n:=ps.length) (λi σ H'=>Same H H'/\(∃v5 v6 v7,σ=[some (.ref S.a),some (.ref lp),some (.ref lt),some (.ref lx),some (.ref lo),v5,v6,v7])/\∃os:List Str,H' lo=some (.lst (os.map V.str))/\os.length<=i/\(∀n∈os,n∈ps)/\∀n∈os,∀y∈S.W.ts,(n=y.2.2.1\/n=y.2.2.2)->y.1∈ts)
   ⟨m1,⟨_,_,_,rfl⟩,[],f1,Fz _,(λ_ h=>nomatch h),λ_ h=>nomatch h⟩ (λi σ H' hi hp=>⟨_,.str (ps[i]),hp.1.seq hP,by rw[FD,Fw hi];rfl⟩) ?_ ?_
  .rintro i v σ H2 H2' hi ⟨s2,⟨v5,v6,v7,rfl⟩,os,g2,Qr,in2,lo2⟩ ⟨t,x,hx,nt,rfl,rfl⟩;have g_:=hx _ (s2.seq hP);rw[FD,Fw hi] at g_;cases g_;obtain⟨H3,e3,f3,m3,_⟩:=b9 (o:= .tup _) nt;rw[e3];have s3:=s2.trans m3;have S3:=hS.same s3;refine J1 (SqT.of f3) rfl ?_;walk_at "r";refine b5 S3.at_.tup (b6 (j:=1) rfl) ?_;refine O8 S3.hq (λMO o4=>?_);refine z7 (n:=S.kvs.length) (λj out H'=>Same (z8 S.q o4 S.kvs H3) H'/\∃ls:List Str,out=ls.map V.str/\ls.length<=j/\∀y∈S.W.ts.take j,(ps[i]=y.2.2.1\/ps[i]=y.2.2.2)->y.1∉ts->y.1∈ls) ⟨Same.refl _,[],rfl,Fz _,λ_ h=>by simp at h⟩ (λj out H' hj hp=>⟨hp.1 _ _ d8,hj⟩) ?_ ?_
   .rintro N j v out H5' H5 hj ⟨s5,ls,rfl,hls,loo⟩ ⟨rfl,kv,d_,rfl⟩ hN';have Mm:=(K9 (o:=o4) S3.hq).trans s5.le;have S5:=S3.at_.mono Mm;obtain⟨x,hx,ex,bb,eb,sb⟩:=S5.ts.get d_;have Kx:=FI d_;obtain⟨kk,MQ⟩:=kv;have Lx:kk=Sum.inr x.1:=ex;have MR:MQ= .ref bb:=eb;subst Lx MR;obtain⟨x0,x1,x2,x3⟩:=x;have e9:S.W.ts.take (j+1)=S.W.ts.take j++[(x0,x1,x2,x3)]:=by rw[Gq,hx];rfl
    have no:∀{HZ:Hp},((ps[i]=x2\/ps[i]=x3)->x0∉ts->False)->Same H5 HZ->N (ls.map V.str) HZ:=λhf sz=>hN' _ _ ⟨s5.trans sz,ls,rfl,by lia,λy hy h1 h2=>by
     rw[e9] at hy;rcases FC.mp hy with z|z
     .exact loo y z h1 h2
     .have ez:=FH.mp z;subst ez;exact(hf h1 h2).elim⟩
    walk_at "r";refine⟨rfl,?_⟩;walk_at "r";refine b5 S5.tup (b6 (j:=1) rfl) ?_;walk_at "r";refine k9 (v:= .ref bb) (by have z:=F5 (k:=Sum.inr x0) S5.ties;rw[U2 (kv:=(Sum.inr x0,.ref bb)) MO Kx] at z;exact z) ?_;walk_at "r";refine vZ sb (by rintro⟨z,_⟩;exact absurd (show(1:Nat)=0 from z) (by decide)) (λl6 n6=>?_);obtain⟨H6,e6,f6,m6,_⟩:=b9 (o:= .tup [.str x2,.str x3]) n6;rw[show dO (W0 (x1,x2,x3)) (some 1) none=[V.str x2,.str x3] from rfl,e6];refine oO (.inr (SqT.of f6)) rfl rfl ?_;walk_at "r";refine mK (λb1=>?_) (λb1=>?_)
    .walk_at "r";refine J0 ((((Same.le s3).trans Mm).trans m6.le).lst hT) ?_;walk_at "r";refine J5 (λb2=>?_) (λb2=>?_)
     .walk_at "r";refine⟨d9 (by rw[Fv];lia),hN' _ _ ⟨s5.trans m6,ls++[x0],by rw[FF];rfl,by rw[FE,FT];lia,λy hy h1 h2=>by
       rw[e9] at hy;rcases FC.mp hy with z|z
       .exact Fy _ (loo y z h1 h2)
       .have ez:=FH.mp z;subst ez;exact FA _ FU⟩⟩
     .exact no (λ_ h=>h b2) m6
    .refine no (λh _=>?_) m6;have Oh:(eE (.str x2) (.str ps[i])||(eE (.str x3) (.str ps[i])||false))=false:=b1;rcases h with h|h
     .rw[h] at Oh;rw[dJ rfl] at Oh;cases Oh
     .rw[h] at Oh;rw[show eE (.str x3) (.str x3)=true from dJ rfl] at Oh;simp at Oh
   .rintro out H5 ⟨s5,ls,rfl,hls,loo⟩;rw[KI,FL (Fz _)] at loo;refine⟨⟨s5 _ _ d8,Fz _⟩,λD hD=>⟨d9 (by rw[Fv];lia),?_⟩⟩;have sM:=M0 S3.hq s5 hD (u:= .lst (ls.map V.str));have fM:=U9 s5 hD (u:= .lst (ls.map V.str));generalize thaw S.q (upd H5 D (.lst (ls.map V.str)))=HM at sM fM⊢;have s6:=s3.trans sM;have g6:=sM _ _ (m3 _ _ g2);have stay:∀{HZ:Hp} {v:Option V},Same HM HZ->Same H HZ/\(∃v5 v6 v7,[some (V.ref S.a),some (.ref lp),some (.ref lt),some (.ref lx),some (.ref lo),some (.int (i:Int)),some (.str ps[i]),v]=[some (.ref S.a),some (.ref lp),some (.ref lt),some (.ref lx),some (.ref lo),v5,v6,v7])/\∃os:List Str,HZ lo=some (.lst (os.map V.str))/\os.length<=i+1/\(∀n∈os,n∈ps)/\∀n∈os,∀y∈S.W.ts,(n=y.2.2.1\/n=y.2.2.2)->y.1∈ts:=λsz=>⟨s6.trans sz,⟨_,_,_,rfl⟩,os,sz _ _ g6,by lia,in2,lo2⟩
    obtain⟨x6,Xb,Xc⟩:=X8 j_ hx0 6 (by lia);walk_at "r";refine i8 (s6.seq hX) Xb ?_;walk_at "r";refine L5 (λc1=>?_) (λc1=>?_)
    .walk_at "r";refine⟨d9 (by simp),λl8 n8=>?_⟩;obtain⟨H8,e8,f8,m8,_⟩:=b9 (o:= .lst []) n8;rw[e8];refine jP (oz (SqL.of (m8 _ _ fM)) (SqL.of f8) (V0 _) rfl ?_);walk_at "r";refine mK (λc2=>?_) (λc2=>?_)
     .have g8:=m8 _ _ g6;walk_at "r";refine⟨.inl ⟨rfl,_,SqL.of g8⟩,?_⟩;walk_at "r";refine⟨lo,_,_,rfl,rfl,g8,N5 (by rw[Fv];lia),?_⟩;refine⟨E4 (s6.trans m8) no,⟨_,_,_,rfl⟩,os++[ps[i]],by rw[d8,FF];rfl,by rw[FE,FT];lia,λn hn=>?_,λn hn y hy he=>?_⟩
      .rcases FC.mp hn with z|z
       .exact in2 n z
       .rw[FH.mp z];exact Gd hi
      .rcases FC.mp hn with z|z
       .exact lo2 n z y hy he
       .rw[FH.mp z] at he;have Sv:ls=[]:=by
         cases ls with
         |nil=>rfl
         |cons _ _=>exact absurd c2 (by simp [Y0])
        refine GU λs_=>?_;have:=loo y hy he s_;rw[Sv] at this;cases this
     .walk_at "r";exact stay m8
    .walk_at "r";exact stay (Same.refl _)
  .rintro σ H2 ⟨s2,⟨v5,v6,v7,rfl⟩,os,g2,Qr,in2,lo2⟩;refine⟨⟨_,s2.seq hP,by rw[Fv];exact Fz _⟩,?_⟩;refine A1 ?_;walk_at "e";refine⟨_,rfl,.inl ⟨lt,_,rfl,s2.seq hT,?_⟩⟩;refine C8 (n:=ts.length) (λi σ H'=>Same H H'/\(∃v5 v6 v7,σ=[some (.ref S.a),some (.ref lp),some (.ref lt),some (.ref lx),some (.ref lo),v5,v6,v7])/\∃os:List Str,H' lo=some (.lst (os.map V.str))/\os.length<=ps.length+i/\(∀n∈os,n∈ps++ts)/\(∀n∈ts.take i,n∉os->∀x,(n,x)∈S.W.ts->x.2.1∉os/\x.2.2∉os)/\∀n∈os,n∈S.W.pts.map (·.1)->∀y∈S.W.ts,(n=y.2.2.1\/n=y.2.2.2)->y.1∈ts)
    ⟨s2,⟨_,_,_,rfl⟩,os,g2,by lia,λn hn=>Fy _ (in2 n hn),(λ_ h=>by simp at h),λn hn _=>lo2 n hn⟩ (λi σ H' hi hp=>⟨_,.str (ts[i]),hp.1.seq hT,by rw[FD,Fw hi];rfl⟩) ?_ ?_
   .rintro i v σ H3 Ml hi ⟨s3,⟨v5,v6,v7,rfl⟩,os,g3',US,in3,ok3,lo3⟩ ⟨t,x,hx,nt,rfl,rfl⟩;have g_:=hx _ (s3.seq hT);rw[FD,Fw hi] at g_;cases g_;obtain⟨H4,e4,f4,m4,_⟩:=b9 (o:= .tup _) nt;rw[e4];have s4:=s3.trans m4;have S4:=hS.same s4;have g3:=m4 _ _ g3';have Kv:=pk.t _ (Gd hi);have n_:ts[i]∈S.W.ts.map (·.1):=by
     obtain⟨x,hx,_⟩:=Kv;exact Fx.mpr ⟨_,hx,rfl⟩
    obtain⟨aa,⟨y1,y2,y3⟩,q1,q2,q3⟩:=TiesIs.val (ts:=S.W.ts) S4.at_.ts n_;have ix:∀{Q:VK},Q (.ref aa) H4->nQ K (.ref S.q) (.str ts[i]) H4 Q:=λz=>k9 (v:= .ref aa) (by have z:=F5 (k:=Sum.inr ts[i]) S4.at_.ties;rw[q1] at z;exact z) z;have e7:ts.take (i+1)=ts.take i++[ts[i]]:=by rw[Gq,Fw hi];rfl
    have NG:∀m∈S.W.pts.map (·.1),m≠ts[i]:=λm hm e=>(FR.mp hS.nd).2.2 m hm ts[i] n_ e;have fin:Same H (upd H4 lo (.lst (os.map V.str++[V.str ts[i]])))/\(∃v5 v6 v7',[some (V.ref S.a),some (.ref lp),some (.ref lt),some (.ref lx),some (.ref lo),some (.int (i:Int)),some (.str ts[i]),v7]=[some (.ref S.a),some (.ref lp),some (.ref lt),some (.ref lx),some (.ref lo),v5,v6,v7'])/\∃Kt:List Str,(upd H4 lo (.lst (os.map V.str++[V.str ts[i]]))) lo=some (.lst (Kt.map V.str))/\Kt.length<=ps.length+(i+1)/\(∀n∈Kt,n∈ps++ts)/\(∀n∈ts.take (i+1),n∉Kt->∀x,(n,x)∈S.W.ts->x.2.1∉Kt/\x.2.2∉Kt)/\∀n∈Kt,n∈S.W.pts.map (·.1)->∀y∈S.W.ts,(n=y.2.2.1\/n=y.2.2.2)->y.1∈ts:=by
     refine⟨E4 s4 no,⟨_,_,_,rfl⟩,os++[ts[i]],by rw[d8,FF];rfl,by rw[FE,FT];lia,λn hn=>?_,λn hn s_ x hx=>?_,λn hn hp y hy he=>?_⟩
     .rcases FC.mp hn with z|z
      .exact in3 n z
      .rw[FH.mp z];exact FA _ (Gd hi)
     .rw[e7] at hn;rcases FC.mp hn with z|z
      .have h':=ok3 n z (λm=>s_ (Fy _ m)) x hx;have he:=hS.ends (n,x) hx;exact⟨λm=>(FC.mp m).elim h'.1 (λm=>NG _ he.1 (FH.mp m)),λm=>(FC.mp m).elim h'.2 (λm=>NG _ he.2 (FH.mp m))⟩
      .exact absurd (FA _ z) s_
     .rcases FC.mp hn with z|z
      .exact lo3 n z hp y hy he
      .exact absurd (FH.mp z) (NG n hp)
    refine J1 (SqT.of f4) rfl ?_;walk_at "r";refine b5 S4.at_.tup (b6 (j:=1) rfl) ?_;walk_at "r";refine ix ?_;refine b5 q3 (b6 (j:=1) rfl) ?_;walk_at "r";refine cf (SqL.of g3) ?_;walk_at "r";refine L5 (λc1=>?_) (λc1=>?_)
    .walk_at "r";refine⟨.inl ⟨rfl,_,SqL.of g3⟩,?_⟩;walk_at "r";refine⟨lo,_,_,rfl,rfl,g3,N5 (by rw[Fv];lia),?_⟩;exact fin
    walk_at "r";refine b5 S4.at_.tup (b6 (j:=1) rfl) ?_;walk_at "r";refine ix ?_;refine b5 q3 (b6 (j:=2) rfl) ?_;walk_at "r";refine cf (SqL.of g3) ?_;walk_at "r";refine L5 (λc2=>?_) (λc2=>?_)
    .walk_at "r";refine⟨.inl ⟨rfl,_,SqL.of g3⟩,?_⟩;walk_at "r";refine⟨lo,_,_,rfl,rfl,g3,N5 (by rw[Fv];lia),?_⟩;exact fin
    walk_at "r";obtain⟨x7,Xd,Xe⟩:=X8 j_ hx0 7 (by lia);refine i8 (s4.seq hX) Xd ?_;walk_at "r";refine L5 (λc3=>?_) (λc3=>?_)
    .walk_at "r";refine⟨.inl ⟨rfl,_,SqL.of g3⟩,?_⟩;walk_at "r";refine⟨lo,_,_,rfl,rfl,g3,N5 (by rw[Fv];lia),?_⟩;exact fin
    walk_at "r";refine⟨s4,⟨_,_,_,rfl⟩,os,g3,by lia,in3,λn hn s_ x hx=>?_,lo3⟩;rw[e7] at hn;rcases FC.mp hn with z|z
    .exact ok3 n z s_ x hx
    .have Xf:n=ts[i]:=FH.mp z;subst Xf;have:x=(y1,y2,y3):=u7 (N1 hS.nd) hx q2;subst this;exact⟨c1,c2⟩
   .rintro σ H3 ⟨s3,⟨v5,v6,v7,rfl⟩,os,g3,US,in3,ok3,lo3⟩;refine⟨⟨_,s3.seq hT,by rw[Fv];exact Fz _⟩,?_⟩;rw[FL (Fz _)] at ok3;walk_at "r";exact k lo os H3 no s3 g3 ⟨in3,by lia,ok3,λn x hx he=>GU λs_=>by
     have LO:=hS.ends (n,x) hx;have Xg:n∈ts:=by
      rcases he with he|he
      .exact lo3 _ he LO.1 (n,x) hx (.inl rfl)
      .exact lo3 _ he LO.2 (n,x) hx (.inr rfl)
     have z:=ok3 n Xg s_ x hx;exact he.elim z.1 z.2⟩
def Wd (ws:List Str)(lo hi:Nat)(n:Str):Prop:=∃j,lo<=j/\j<hi/\ws[j]?=some n
theorem wM {ws:List Str}(nd:ws.Nodup){i j:Nat}{n:Str}(h1:ws[i]?=some n)(h2:ws[j]?=some n):i=j:=by
 obtain⟨hi,e1⟩:=Gy.mp h1;obtain⟨hj,e2⟩:=Gy.mp h2;have z:=List.pairwise_iff_getElem.mp nd;rcases KG i j with h|h|h
 .exact absurd (e1.trans e2.symm) (z i j hi hj h)
 .exact h
 .exact absurd (e2.trans e1.symm) (z j i hj hi h)
theorem Wd.no {ws:List Str}{a b c d:Nat}{n:Str}(nd:ws.Nodup)(h1:Wd ws a b n)(h2:Wd ws c d n)(h:b<=c\/d<=a):False:=by
 obtain⟨i,i1,i2,i3⟩:=h1;obtain⟨j,j1,j2,j3⟩:=h2;have:=wM nd i3 j3;lia
theorem Wd.up {ws:List Str}{a b c d:Nat}{n:Str}(h:Wd ws a b n)(h1:c<=a)(h2:b<=d):Wd ws c d n:=by
 obtain⟨i,i1,i2,i3⟩:=h;exact⟨i,by lia,by lia,i3⟩
theorem Wd.in_ {ws:List Str}{a b:Nat}{n:Str}(h:Wd ws a b n):n∈ws:=by
 obtain⟨i,_,_,h⟩:=h;exact FI h
structure LR (ws:List Str) (i1 i2 i3 i4:Nat) (PL:List (Str×Str)) (TL:List (Str×N3)) (PR:List (Str×Str)) (TR:List (Str×N3)):Prop where
 pl:∀x∈PL,Wd ws 0 i1 x.1/\F8 x.2=true
 tl:∀x∈TL,Wd ws 4 (4+i2) x.1/\F8 x.2.1=true/\x.2.2.1∈PL.map (·.1)/\x.2.2.2∈PL.map (·.1)
 ndl:(PL.map (·.1)).Nodup
 ndt:(TL.map (·.1)).Nodup
 ll:PL.length<=i1
 lt:TL.length<=i2
 pr:∀x∈PR,(x∈PL\/Wd ws 8 (8+i3) x.1)/\F8 x.2=true
 tr:∀x∈TR,(x∈TL\/Wd ws 10 (10+i4) x.1)/\F8 x.2.1=true/\x.2.2.1∈PR.map (·.1)/\x.2.2.2∈PR.map (·.1)
 ndr:(PR.map (·.1)).Nodup
 ndu:(TR.map (·.1)).Nodup
 lr:PR.length<=i1+i3
 lu:TR.length<=i2+i4
theorem LR.new:LR ws 0 0 0 0 [] [] [] []:=
 ⟨(λ_ h=>nomatch h),(λ_ h=>nomatch h),GX,GX,Fz _,Fz _,(λ_ h=>nomatch h),(λ_ h=>nomatch h),GX,GX,Fz _,Fz _⟩
theorem o9 {α:Type}(l:List (Str×α))(x:Str×α):(l++[x]).map (·.1)=l.map (·.1)++[x.1]:=by rw[FF];rfl
theorem LR.f1 {ws:List Str}{i:Nat}{PL PR:List (Str×Str)}{n:Str}(h:LR ws i 0 0 0 PL [] PR [])(nd:ws.Nodup)(hn:ws[i]?=some n):n∉PL.map (·.1)/\n∉PR.map (·.1):=by
 have a:n∉PL.map (·.1):=λz=>by
  obtain⟨x,hx,rfl⟩:=Fx.mp z;exact Wd.no nd (h.pl x hx).1 ⟨i,Fz _,GO _,hn⟩ (.inl (Fz _))
 refine⟨a,λz=>?_⟩;obtain⟨x,hx,rfl⟩:=Fx.mp z;rcases(h.pr x hx).1 with z|z
 .exact a (Fx.mpr ⟨x,z,rfl⟩)
 .obtain⟨j,j1,j2,_⟩:=z;lia
theorem LR.s1 {ws:List Str}{i:Nat}{PL PR:List (Str×Str)}{n kd:Str}(h:LR ws i 0 0 0 PL [] PR [])(nd:ws.Nodup)(hn:ws[i]?=some n)(hk:F8 kd=true)(b:Bool):LR ws (i+1) 0 0 0 (PL++[(n,kd)]) [] (if b then PR++[(n,kd)] else PR) []:=by
 obtain⟨f1,f2⟩:=h.f1 nd hn;refine⟨λx hx=>?_,(λ_ h=>nomatch h),?_,GX,?_,Fz _,λx hx=>?_,(λ_ h=>nomatch h),?_,GX,?_,Fz _⟩
 .rcases FC.mp hx with z|z
  .exact⟨(h.pl x z).1.up (Fz _) (HQ _),(h.pl x z).2⟩
  .rw[FH.mp z];exact⟨⟨i,Hk _,GO _,hn⟩,hk⟩
 .rw[o9];exact B9 h.ndl f1
 .rw[FE,FT];have:=h.ll;lia
 .have old:∀x∈PR,(x∈PL++[(n,kd)]\/Wd ws 8 (8+0) x.1)/\F8 x.2=true:=λx hx=>⟨(h.pr x hx).1.elim (λz=> .inl (Fy _ z)) .inr,(h.pr x hx).2⟩
  cases b with
  |false=>exact old x hx
  |true=>
   rcases FC.mp (show x∈PR++[(n,kd)] from hx) with z|z
   .exact old x z
   .rw[FH.mp z];exact⟨.inl (FA _ FU),hk⟩
 .cases b with
  |false=>exact h.ndr
  |true=>show((PR++[(n,kd)]).map (·.1)).Nodup;rw[o9];exact B9 h.ndr f2
 .cases b with
  |false=>show PR.length<=_;have:=h.lr;lia
  |true=>show(PR++[(n,kd)]).length<=_;rw[FE,FT];have:=h.lr;lia
theorem LR.f2 {ws:List Str}{i1 i:Nat}{PL PR:List (Str×Str)}{TL TR:List (Str×N3)}{n:Str}(h:LR ws i1 i 0 0 PL TL PR TR)(nd:ws.Nodup)(hn:ws[4+i]?=some n):n∉TL.map (·.1)/\n∉TR.map (·.1):=by
 have a:n∉TL.map (·.1):=λz=>by
  obtain⟨x,hx,rfl⟩:=Fx.mp z;exact Wd.no nd (h.tl x hx).1 ⟨4+i,Fz _,GO _,hn⟩ (.inl (Fz _))
 refine⟨a,λz=>?_⟩;obtain⟨x,hx,rfl⟩:=Fx.mp z;rcases(h.tr x hx).1 with z|z
 .exact a (Fx.mpr ⟨x,z,rfl⟩)
 .obtain⟨j,j1,j2,_⟩:=z;lia
theorem LR.s2 {ws:List Str}{i1 i:Nat}{PL PR:List (Str×Str)}{TL TR:List (Str×N3)}{n kd o1 o2:Str}(h:LR ws i1 i 0 0 PL TL PR TR)(nd:ws.Nodup)(hn:ws[4+i]?=some n)(hk:F8 kd=true)(h1:o1∈PL.map (·.1))(h2:o2∈PL.map (·.1))(b:Bool)(hb:b=true->o1∈PR.map (·.1)/\o2∈PR.map (·.1)):
  LR ws i1 (i+1) 0 0 PL (TL++[(n,(kd,o1,o2))]) PR (if b then TR++[(n,(kd,o1,o2))] else TR):=by
 obtain⟨f1,f2⟩:=h.f2 nd hn
 refine⟨h.pl,λx hx=>?_,h.ndl,?_,h.ll,?_,h.pr,λx hx=>?_,h.ndr,?_,h.lr,?_⟩
 .rcases FC.mp hx with z|z
  .exact⟨(h.tl x z).1.up (Fz _) (HQ _),(h.tl x z).2⟩
  .rw[FH.mp z];exact⟨⟨4+i,Jx _ _,GO _,hn⟩,hk,h1,h2⟩
 .rw[o9];exact B9 h.ndt f1
 .rw[FE,FT];have:=h.lt;lia
 .have old:∀x∈TR,(x∈TL++[(n,(kd,o1,o2))]\/Wd ws 10 (10+0) x.1)/\F8 x.2.1=true/\x.2.2.1∈PR.map (·.1)/\x.2.2.2∈PR.map (·.1):=λx hx=>⟨(h.tr x hx).1.elim (λz=> .inl (Fy _ z)) .inr,(h.tr x hx).2⟩
  cases b with
  |false=>exact old x hx
  |true=>
   rcases FC.mp (show x∈TR++[(n,(kd,o1,o2))] from hx) with z|z
   .exact old x z
   .rw[FH.mp z];exact⟨.inl (FA _ FU),hk,hb rfl⟩
 .cases b with
  |false=>exact h.ndu
  |true=>show((TR++[(n,(kd,o1,o2))]).map (·.1)).Nodup;rw[o9];exact B9 h.ndu f2
 .cases b with
  |false=>show TR.length<=_;have:=h.lu;lia
  |true=>show(TR++[(n,(kd,o1,o2))]).length<=_;rw[FE,FT];have:=h.lu;lia
theorem LR.f3 {ws:List Str}{i1 i2 i:Nat}{PL PR:List (Str×Str)}{TL TR:List (Str×N3)}{n:Str}(h:LR ws i1 i2 i 0 PL TL PR TR)(nd:ws.Nodup)(h4:i1<=4)(hn:ws[8+i]?=some n):n∉PR.map (·.1):=λz=>by
 obtain⟨x,hx,rfl⟩:=Fx.mp z;have w:Wd ws (8+i) (8+i+1) x.1:=⟨8+i,Fz _,GO _,hn⟩
 rcases(h.pr x hx).1 with z|z
 .exact Wd.no nd (h.pl x z).1 w (.inl (by lia))
 .exact Wd.no nd z w (.inl (Fz _))
theorem LR.s3 {ws:List Str}{i1 i2 i:Nat}{PL PR:List (Str×Str)}{TL TR:List (Str×N3)}{n kd:Str}(h:LR ws i1 i2 i 0 PL TL PR TR)(nd:ws.Nodup)(h4:i1<=4)(hn:ws[8+i]?=some n)(hk:F8 kd=true):LR ws i1 i2 (i+1) 0 PL TL (PR++[(n,kd)]) TR:=by
 refine⟨h.pl,h.tl,h.ndl,h.ndt,h.ll,h.lt,λx hx=>?_,λx hx=>?_,?_,h.ndu,?_,h.lu⟩
 .rcases FC.mp hx with z|z
  .exact⟨(h.pr x z).1.imp id λw=>w.up (Fz _) (HQ _),(h.pr x z).2⟩
  .rw[FH.mp z];exact⟨.inr ⟨8+i,Jx _ _,GO _,hn⟩,hk⟩
 .have z:=h.tr x hx;refine⟨z.1,z.2.1,?_,?_⟩<;>rw[o9]
  .exact Fy _ z.2.2.1
  .exact Fy _ z.2.2.2
 .rw[o9];exact B9 h.ndr (h.f3 nd h4 hn)
 .rw[FE,FT];have:=h.lr;lia
theorem LR.f4 {ws:List Str}{i1 i2 i3 i:Nat}{PL PR:List (Str×Str)}{TL TR:List (Str×N3)}{n:Str}(h:LR ws i1 i2 i3 i PL TL PR TR)(nd:ws.Nodup)(h4:i2<=4)(hn:ws[10+i]?=some n):n∉TR.map (·.1):=λz=>by
 obtain⟨x,hx,rfl⟩:=Fx.mp z;have w:Wd ws (10+i) (10+i+1) x.1:=⟨10+i,Fz _,GO _,hn⟩
 rcases(h.tr x hx).1 with z|z
 .exact Wd.no nd (h.tl x z).1 w (.inl (by lia))
 .exact Wd.no nd z w (.inl (Fz _))
theorem LR.s4 {ws:List Str}{i1 i2 i3 i:Nat}{PL PR:List (Str×Str)}{TL TR:List (Str×N3)}{n kd o1 o2:Str}(h:LR ws i1 i2 i3 i PL TL PR TR)(nd:ws.Nodup)(h4:i2<=4)(hn:ws[10+i]?=some n)(hk:F8 kd=true)(h1:o1∈PR.map (·.1))(h2:o2∈PR.map (·.1)):LR ws i1 i2 i3 (i+1) PL TL PR (TR++[(n,(kd,o1,o2))]):=by
 refine⟨h.pl,h.tl,h.ndl,h.ndt,h.ll,h.lt,h.pr,λx hx=>?_,h.ndr,?_,h.lr,?_⟩
 .rcases FC.mp hx with z|z
  .exact⟨(h.tr x z).1.imp id λw=>w.up (Fz _) (HQ _),(h.tr x z).2⟩
  .rw[FH.mp z];exact⟨.inr ⟨10+i,Jx _ _,GO _,hn⟩,hk,h1,h2⟩
 .rw[o9];exact B9 h.ndu (h.f4 nd h4 hn)
 .rw[FE,FT];have:=h.lu;lia
theorem kn {x:Str}(h:F8 x=true):x.length<=8:=by
 have:=cg (show N7 x kSL 8=true from h);lia
theorem tF {x:Str}(h:F8 x=true):N9 x=true:=by
 have h':N7 x kSL 8=true:=h;unfold N7 at h';simp only[Gh,GI] at h';unfold N9;rw[Gh];have ha:∀c∈x.cps.toList,c∈kSL.cps.toList:=λc hc=>Hu (Gk.mp (show oX x kSL=true from h'.2) c hc);constructor
 .unfold N7;rw[FZ h'.1.1,FZ (show(x.length:Int)<=24 by lia),Ij,Ij];exact Gk.mpr λc hc=>FZ (yM _ (ha c hc))
 .unfold Du;refine FZ (ha _ ?_);have hl:=cS x;cases e:x.cps.toList with
  |nil=>rw[e] at hl;simp at hl;lia
  |cons c r=>exact FU
theorem nc {W:C3}{m:Nat}(h1:∀n∈b8 W,F8 n=true)(h2:∀x∈W.pts,F8 x.2=true)(h3:∀x∈W.ts,F8 x.2.1=true)(l1:W.pts.length<=m)(l2:W.ts.length<=m):mC m W:=
 ⟨⟨λn hn=>tF (h1 n hn),h2,h3⟩,h1,l1,l2⟩
theorem LR.nmL {ws:List Str}{i1 i2 i3 i4:Nat}{PL PR:List (Str×Str)}{TL TR:List (Str×N3)}(h:LR ws i1 i2 i3 i4 PL TL PR TR)(h1:i1<=4)(h2:i2<=4):∀n∈b8 ⟨PL,TL⟩,Wd ws 0 8 n:=λn hn=>by
 rcases FC.mp (show n∈PL.map (·.1)++TL.map (·.1) from hn) with z|z
 .obtain⟨x,hx,rfl⟩:=Fx.mp z;exact(h.pl x hx).1.up (Hk _) (by lia)
 .obtain⟨x,hx,rfl⟩:=Fx.mp z;exact(h.tl x hx).1.up (Hk _) (by lia)
theorem LR.nmP {ws:List Str}{i1 i2 i3 i4:Nat}{PL PR:List (Str×Str)}{TL TR:List (Str×N3)}(h:LR ws i1 i2 i3 i4 PL TL PR TR)(h1:i1<=4)(h3:i3<=2){n:Str}(hn:n∈PR.map (·.1)):Wd ws 0 4 n\/Wd ws 8 10 n:=by
 obtain⟨x,hx,rfl⟩:=Fx.mp hn;rcases(h.pr x hx).1 with z|z
 .exact .inl ((h.pl x z).1.up (Hk _) (by lia))
 .exact .inr (z.up (by lia) (by lia))
theorem LR.nmT {ws:List Str}{i1 i2 i3 i4:Nat}{PL PR:List (Str×Str)}{TL TR:List (Str×N3)}(h:LR ws i1 i2 i3 i4 PL TL PR TR)(h2:i2<=4)(h4:i4<=2){n:Str}(hn:n∈TR.map (·.1)):Wd ws 4 8 n\/Wd ws 10 12 n:=by
 obtain⟨x,hx,rfl⟩:=Fx.mp hn;rcases(h.tr x hx).1 with z|z
 .exact .inl ((h.tl x z).1.up (by lia) (by lia))
 .exact .inr (z.up (by lia) (by lia))
theorem LR.ndL {ws:List Str}{i1 i2 i3 i4:Nat}{PL PR:List (Str×Str)}{TL TR:List (Str×N3)}(h:LR ws i1 i2 i3 i4 PL TL PR TR)(nd:ws.Nodup)(h1:i1<=4):(b8 ⟨PL,TL⟩).Nodup:=
 FR.mpr ⟨h.ndl,h.ndt,λa ha b hb e=>by
  subst e;obtain⟨x,hx,rfl⟩:=Fx.mp ha;obtain⟨y,hy,ey⟩:=Fx.mp hb;have Lr:y.1=x.1:=ey;have w:=(h.tl y hy).1;rw[Lr] at w;exact Wd.no nd (h.pl x hx).1 w (.inl h1)⟩
theorem LR.ndR {ws:List Str}{i1 i2 i3 i4:Nat}{PL PR:List (Str×Str)}{TL TR:List (Str×N3)}(h:LR ws i1 i2 i3 i4 PL TL PR TR)(nd:ws.Nodup)(h1:i1<=4)(h2:i2<=4)(h3:i3<=2)(h4:i4<=2):(b8 ⟨PR,TR⟩).Nodup:=
 FR.mpr ⟨h.ndr,h.ndu,λa ha b hb e=>by
  subst e;rcases h.nmP h1 h3 ha with z|z<;>rcases h.nmT h2 h4 hb with w|w<;>exact Wd.no nd z w (by lia)⟩
theorem LR.rule {ws:List Str}{i1 i2 i3 i4:Nat}{PL PR:List (Str×Str)}{TL TR:List (Str×N3)}(h:LR ws i1 i2 i3 i4 PL TL PR TR)(nd:ws.Nodup)(hk:∀s∈ws,F8 s=true)(h1:i1<=4)(h2:i2<=4)(h3:i3<=2)(h4:i4<=2)(l1:PR.length<=4)(l2:TR.length<=4):fk ⟨PL,TL⟩ ⟨PR,TR⟩ []:=by
 have Lh:PL.length<=4:=by have:=h.ll;lia
 have Xh:TL.length<=4:=by have:=h.lt;lia
 refine⟨nc (λn hn=>hk n (h.nmL h1 h2 n hn).in_) (λx hx=>(h.pl x hx).2) (λx hx=>(h.tl x hx).2.1) Lh Xh,nc (λn hn=>hk n ?_) (λx hx=>(h.pr x hx).2) (λx hx=>(h.tr x hx).2.1) l1 l2,λn hL hR=>?_,Hk _,λ_ h=>nomatch h⟩
 .rcases FC.mp (show n∈PR.map (·.1)++TR.map (·.1) from hn) with z|z
  .exact(h.nmP h1 h3 z).elim (λw=>w.in_) λw=>w.in_
  .exact(h.nmT h2 h4 z).elim (λw=>w.in_) λw=>w.in_
 .rcases FC.mp (show n∈PL.map (·.1)++TL.map (·.1) from hL) with zL|zL
  .have wL:Wd ws 0 4 n:=by
    obtain⟨x,hx,rfl⟩:=Fx.mp zL;exact(h.pl x hx).1.up (Hk _) (by lia)
   have Xi:∀t,(n,t)∉TL:=λt z=>Wd.no nd wL (h.tl _ z).1 (.inl (Fz _));have UU:n∉TR.map (·.1):=λz=>by rcases h.nmT h2 h4 z with w|w<;>exact Wd.no nd wL w (by lia)
   have zR:n∈PR.map (·.1):=by
    rcases FC.mp (show n∈PR.map (·.1)++TR.map (·.1) from hR) with z|z
    .exact z
    .exact absurd z UU
   have sub:∀k,(n,k)∈PR->(n,k)∈PL:=λk z=>by
    rcases(h.pr _ z).1 with w|w
    .exact w
    .exact(Wd.no nd wL w (.inl (by lia))).elim
   obtain⟨⟨n',k'⟩,hx,e⟩:=Fx.mp zR;have e':n'=n:=e;subst e';exact⟨λk=>⟨λz=>by rw[u7 h.ndl z (sub k' hx)];exact hx,sub k⟩,λt=>⟨λz=>(Xi t z).elim,λz=>(UU (Fx.mpr ⟨_,z,rfl⟩)).elim⟩⟩
  .have wL:Wd ws 4 8 n:=by
    obtain⟨x,hx,rfl⟩:=Fx.mp zL;exact(h.tl x hx).1.up (Fz _) (by lia)
   have Xj:∀t,(n,t)∉PL:=λt z=>Wd.no nd wL (h.pl _ z).1 (.inr h1);have UW:n∉PR.map (·.1):=λz=>by rcases h.nmP h1 h3 z with w|w<;>exact Wd.no nd wL w (by lia)
   have zR:n∈TR.map (·.1):=by
    rcases FC.mp (show n∈PR.map (·.1)++TR.map (·.1) from hR) with z|z
    .exact absurd z UW
    .exact z
   have sub:∀k,(n,k)∈TR->(n,k)∈TL:=λk z=>by
    rcases(h.tr _ z).1 with w|w
    .exact w
    .exact(Wd.no nd wL w (.inl (by lia))).elim
   obtain⟨⟨n',k'⟩,hx,e⟩:=Fx.mp zR;have e':n'=n:=e;subst e';exact⟨λt=>⟨λz=>(Xj t z).elim,λz=>(UW (Fx.mpr ⟨_,z,rfl⟩)).elim⟩,λk=>⟨λz=>by rw[u7 h.ndt z (sub k' hx)];exact hx,sub k⟩⟩
structure NE (B:Hp) (wd d1 d2 d3 d4:Addr):Prop where
 b0:B wd=none
 b1:B d1=none
 b2:B d2=none
 b3:B d3=none
 b4:B d4=none
 n01:wd≠d1
 n02:wd≠d2
 n03:wd≠d3
 n04:wd≠d4
 n12:d1≠d2
 n13:d1≠d3
 n14:d1≠d4
 n23:d2≠d3
 n24:d2≠d4
 n34:d3≠d4
structure RS (K:Kd) (B H:Hp) (wd d1 d2 d3 d4 a1 a2:Addr) (kw kL kR:List (j4×V)) (PL PR:List (Str×Str)) (TL TR:List (Str×N3)):Prop where
 sm:Same B H
 t1:SqT K H a1 [.ref d1,.ref d2]
 t2:SqT K H a2 [.ref d3,.ref d4]
 w:H wd=some (.dK kw)
 h1:H d1=some (.dK (i6 PL))
 h2:H d2=some (.dK kL)
 h3:H d3=some (.dK (i6 PR))
 h4:H d4=some (.dK kR)
 tl:TiesIs K H kL TL
 tr:TiesIs K H kR TR
section
variable {B H H':Hp} {wd d1 d2 d3 d4 a1 a2 l:Addr} {kw kL kR kw':List (j4×V)} {PL PR:List (Str×Str)} {TL TR:List (Str×N3)} {n kd o1 o2:Str}
theorem RS.mono (r:RS K B H wd d1 d2 d3 d4 a1 a2 kw kL kR PL PR TL TR)(s:Same H H'):RS K B H' wd d1 d2 d3 d4 a1 a2 kw kL kR PL PR TL TR:=
 ⟨r.sm.trans s,s.tup r.t1,s.tup r.t2,s _ _ r.w,s _ _ r.h1,s _ _ r.h2,s _ _ r.h3,s _ _ r.h4,r.tl.mono s.le,r.tr.mono s.le⟩
theorem RS.setW (e:NE B wd d1 d2 d3 d4)(r:RS K B H wd d1 d2 d3 d4 a1 a2 kw kL kR PL PR TL TR):RS K B (upd H wd (.dK kw')) wd d1 d2 d3 d4 a1 a2 kw' kL kR PL PR TL TR:=
 ⟨E4 r.sm e.b0,F7 r.w r.t1,F7 r.w r.t2,d8,by rw[d0 e.n01.symm];exact r.h1,by rw[d0 e.n02.symm];exact r.h2,by rw[d0 e.n03.symm];exact r.h3,by rw[d0 e.n04.symm];exact r.h4,C9 r.w r.tl,C9 r.w r.tr⟩
theorem V3 (h:n∉PL.map (·.1)):E3 (i6 PL) (Sum.inr n:j4) (.str kd)=i6 (PL++[(n,kd)]):=by
 rw[Q8 _ (Q1 (by rw[K4,←A8];exact λm=>h (ay m)))];unfold i6;rw[FF];rfl
theorem RS.set1 (e:NE B wd d1 d2 d3 d4)(r:RS K B H wd d1 d2 d3 d4 a1 a2 kw kL kR PL PR TL TR)(h:n∉PL.map (·.1)):RS K B (upd H d1 (.dK (E3 (i6 PL) (Sum.inr n:j4) (.str kd)))) wd d1 d2 d3 d4 a1 a2 kw kL kR (PL++[(n,kd)]) PR TL TR:=by
 rw[V3 h];exact⟨E4 r.sm e.b1,F7 r.h1 r.t1,F7 r.h1 r.t2,by rw[d0 e.n01];exact r.w,d8,by rw[d0 e.n12.symm];exact r.h2,by rw[d0 e.n13.symm];exact r.h3,by rw[d0 e.n14.symm];exact r.h4,C9 r.h1 r.tl,C9 r.h1 r.tr⟩
theorem RS.set3 (e:NE B wd d1 d2 d3 d4)(r:RS K B H wd d1 d2 d3 d4 a1 a2 kw kL kR PL PR TL TR)(h:n∉PR.map (·.1)):RS K B (upd H d3 (.dK (E3 (i6 PR) (Sum.inr n:j4) (.str kd)))) wd d1 d2 d3 d4 a1 a2 kw kL kR PL (PR++[(n,kd)]) TL TR:=by
 rw[V3 h];exact⟨E4 r.sm e.b3,F7 r.h3 r.t1,F7 r.h3 r.t2,by rw[d0 e.n03];exact r.w,by rw[d0 e.n13];exact r.h1,by rw[d0 e.n23];exact r.h2,d8,by rw[d0 e.n34.symm];exact r.h4,C9 r.h3 r.tl,C9 r.h3 r.tr⟩
theorem iV (w:TiesIs K H kL TL)(h:n∉TL.map (·.1))(hl:SqT K H l (W0 (kd,o1,o2))):TiesIs K H (E3 kL (Sum.inr n:j4) (.ref l)) (TL++[(n,(kd,o1,o2))]):=by
 rw[Q8 _ (Q1 (by rw[w.keys,←A8];exact λm=>h (ay m)))];exact E2 w ⟨rfl,l,rfl,hl⟩
theorem RS.set2 (e:NE B wd d1 d2 d3 d4)(r:RS K B H wd d1 d2 d3 d4 a1 a2 kw kL kR PL PR TL TR)(h:n∉TL.map (·.1))(hl:SqT K H l (W0 (kd,o1,o2))):RS K B (upd H d2 (.dK (E3 kL (Sum.inr n:j4) (.ref l)))) wd d1 d2 d3 d4 a1 a2 kw (E3 kL (Sum.inr n:j4) (.ref l)) kR PL PR (TL++[(n,(kd,o1,o2))]) TR:=
 ⟨E4 r.sm e.b2,F7 r.h2 r.t1,F7 r.h2 r.t2,by rw[d0 e.n02];exact r.w,by rw[d0 e.n12];exact r.h1,d8,by rw[d0 e.n23.symm];exact r.h3,by rw[d0 e.n24.symm];exact r.h4,C9 r.h2 (iV r.tl h hl),C9 r.h2 r.tr⟩
theorem RS.set4 (e:NE B wd d1 d2 d3 d4)(r:RS K B H wd d1 d2 d3 d4 a1 a2 kw kL kR PL PR TL TR)(h:n∉TR.map (·.1))(hl:SqT K H l (W0 (kd,o1,o2))):RS K B (upd H d4 (.dK (E3 kR (Sum.inr n:j4) (.ref l)))) wd d1 d2 d3 d4 a1 a2 kw kL (E3 kR (Sum.inr n:j4) (.ref l)) PL PR TL (TR++[(n,(kd,o1,o2))]):=
 ⟨E4 r.sm e.b4,F7 r.h4 r.t1,F7 r.h4 r.t2,by rw[d0 e.n04];exact r.w,by rw[d0 e.n14];exact r.h1,by rw[d0 e.n24];exact r.h2,by rw[d0 e.n34];exact r.h3,d8,C9 r.h4 r.tl,C9 r.h4 (iV r.tr h hl)⟩
end
structure WO (ps ws os:List Str) (i:Nat) (kw:List (j4×V)) (PL PR:List (Str×Str)):Prop where
 ok:∀kv∈kw,∃n s,kv=(Sum.inr n,V.str s)
 at_:∀j n w,j<i->ps[j]?=some n->ws[j]?=some w->A2 kw (Sum.inr n:j4)=some (.str w)
 inL:∀j w,j<i->ws[j]?=some w->w∈PL.map (·.1)
 inR:∀j n w,j<i->ps[j]?=some n->n∉os->ws[j]?=some w->w∈PR.map (·.1)
theorem WO.s1 {ps ws os:List Str}{i:Nat}{kw:List (j4×V)}{PL PR:List (Str×Str)}{n w kd:Str}(h:WO ps ws os i kw PL PR)(nd:ps.Nodup)(hn:ps[i]?=some n)(hw:ws[i]?=some w)(b:Bool)(hb:n∉os->b=true):
  WO ps ws os (i+1) (E3 kw (Sum.inr n:j4) (.str w)) (PL++[(w,kd)]) (if b then PR++[(w,kd)] else PR):=by
 refine⟨ox h.ok ⟨_,_,rfl⟩,λj m v hj h1 h2=>?_,λj v hj h2=>?_,λj m v hj h1 h3 h2=>?_⟩
 .rw[nO]
  by_cases e:j=i
  .subst e
   rw[h1] at hn;cases hn
   rw[h2] at hw;cases hw
   rw[if_pos rfl]
  .have l_:m≠n:=λz=>e (wM nd (z▸h1) hn)
   rw[if_neg (λz=>l_ (HE z))]
   exact h.at_ j m v (by lia) h1 h2
 .rw[o9]
  by_cases e:j=i
  .subst e
   rw[h2] at hw;cases hw
   exact FA _ FU
  .exact Fy _ (h.inL j v (by lia) h2)
 .by_cases e:j=i
  .subst e
   rw[h1] at hn;cases hn
   rw[h2] at hw;cases hw
   rw[hb h3,if_pos rfl,o9]
   exact FA _ FU
  .have z:=h.inR j m v (by lia) h1 h3 h2
   cases b with
   |false=>exact z
   |true=>show v∈(PR++[(w,kd)]).map (·.1);rw[o9];exact Fy _ z
theorem WO.s2 {ps ws os:List Str}{i:Nat}{kw:List (j4×V)}{PL PR:List (Str×Str)}{m w:Str}(h:WO ps ws os i kw PL PR)(hm:m∉ps):WO ps ws os i (E3 kw (Sum.inr m:j4) (.str w)) PL PR:=by
 refine⟨ox h.ok ⟨_,_,rfl⟩,λj n v hj h1 h2=>?_,h.inL,h.inR⟩;rw[nO,if_neg (λz:(Sum.inr n:j4)=Sum.inr m=>hm (by rw[←HE z];exact FI h1))];exact h.at_ j n v hj h1 h2
def yB (ws:List Str):Prop:=ws.length=16/\ws.Nodup/\∀s∈ws,F8 s=true
def uG (ks:List Str):Prop:=0<ks.length/\ks.length<=3/\∀s∈ks,F8 s=true
theorem oF {ws:List Str}(h:ws.length=16)(i:Nat)(hi:i<16):∃w,ws[i]?=some w/\∀j:Int,j=(i:Int)->jI (ws.map V.str) j=some (.str w):=
 ⟨ws[i]'(by lia),Fw (by lia),λj hj=>by rw[hj];exact b6 (j:=i) (by rw[FD,Fw (by lia)];rfl)⟩
theorem WO.get {ps ws os:List Str}{kw:List (j4×V)}{PL PR:List (Str×Str)}{n:Str}(h:WO ps ws os ps.length kw PL PR)(hl:ws.length=16)(h4:ps.length<=4)(hn:n∈ps):∃w,A2 kw (Sum.inr n:j4)=some (.str w)/\w∈PL.map (·.1)/\(n∉os->w∈PR.map (·.1)):=by
 obtain⟨j,hj⟩:=GW hn;obtain⟨Sw,_⟩:=Gy.mp hj;obtain⟨w,hw,_⟩:=oF hl j (by lia);exact⟨w,h.at_ j n w Sw hj hw,h.inL j w Sw hw,λho=>h.inR j n w Sw hj ho hw⟩
def J2 (x:Str×Str):Str×Str:=(x.2,x.1)
structure MP (W:C3) (os:List Str) (pr PL:List (Str×Str)) (TL:List (Str×N3)) (Rn:List Str):Prop where
 n1:(pr.map (·.1)).Nodup
 n2:(pr.map (·.2)).Nodup
 wd:pr.map (·.2)=PL.map (·.1)++TL.map (·.1)
 pt:∀x∈PL,∃n,(n,x.1)∈pr/\(n,x.2)∈W.pts
 ti:∀x∈TL,∃n b e,(n,x.1)∈pr/\(b,x.2.2.1)∈pr/\(e,x.2.2.2)∈pr/\(n,(x.2.1,b,e))∈W.ts
 ko:∀x∈pr,x.2∈Rn↔x.1∉os
section
variable {W:C3} {os:List Str} {pr PL:List (Str×Str)} {TL:List (Str×N3)} {Rn Rn':List Str} {n w kd b e u2 u3:Str}
theorem Q0 (l:List (Str×Str))(x:Str×Str):(l++[x]).map (·.2)=l.map (·.2)++[x.2]:=by rw[FF];rfl
theorem MP.ko' (h:MP W os pr PL TL Rn)(hw:w∉pr.map (·.2))(h1:∀y,y≠w->(y∈Rn'↔y∈Rn))(h2:w∈Rn'↔n∉os):∀x∈pr++[(n,w)],x.2∈Rn'↔x.1∉os:=λx hx=>by
 rcases FC.mp hx with z|z
 .rw[h1 x.2 λq=>hw (Fx.mpr ⟨x,z,q⟩)];exact h.ko x z
 .rw[FH.mp z];exact h2
theorem MP.sP (h:MP W os pr PL [] Rn)(hn:n∉pr.map (·.1))(hw:w∉pr.map (·.2))(hp:(n,kd)∈W.pts)(h1:∀y,y≠w->(y∈Rn'↔y∈Rn))(h2:w∈Rn'↔n∉os):MP W os (pr++[(n,w)]) (PL++[(w,kd)]) [] Rn':=by
 refine⟨by rw[o9];exact B9 h.n1 hn,by rw[Q0];exact B9 h.n2 hw,?_,λx hx=>?_,(λ_ h=>nomatch h),h.ko' hw h1 h2⟩
 .have z:=h.wd;rw[Iu,Gw] at z;rw[Q0,o9,Iu,Gw,z]
 .rcases FC.mp hx with z|z
  .obtain⟨n',NH,NI⟩:=h.pt x z;exact⟨n',Fy _ NH,NI⟩
  .rw[FH.mp z];exact⟨n,FA _ FU,hp⟩
theorem MP.sT (h:MP W os pr PL TL Rn)(hn:n∉pr.map (·.1))(hw:w∉pr.map (·.2))(hp:(n,(kd,b,e))∈W.ts)(hb:(b,u2)∈pr)(he:(e,u3)∈pr)(h1:∀y,y≠w->(y∈Rn'↔y∈Rn))(h2:w∈Rn'↔n∉os):MP W os (pr++[(n,w)]) PL (TL++[(w,(kd,u2,u3))]) Rn':=by
 refine⟨by rw[o9];exact B9 h.n1 hn,by rw[Q0];exact B9 h.n2 hw,?_,λx hx=>?_,λx hx=>?_,h.ko' hw h1 h2⟩
 .rw[Q0,o9,h.wd,Gx]
 .obtain⟨n',NH,NI⟩:=h.pt x hx;exact⟨n',Fy _ NH,NI⟩
 .rcases FC.mp hx with z|z
  .obtain⟨n',b',e',q1,q2,q3,q4⟩:=h.ti x z;exact⟨n',b',e',Fy _ q1,Fy _ q2,Fy _ q3,q4⟩
  .rw[FH.mp z];exact⟨n,b,e,FA _ FU,Fy _ hb,Fy _ he,hp⟩
theorem MP.sR (h:MP W os pr PL TL Rn)(h1:∀y∈pr.map (·.2),(y∈Rn'↔y∈Rn)):MP W os pr PL TL Rn':=
 ⟨h.n1,h.n2,h.wd,h.pt,h.ti,λx hx=>by rw[h1 _ (Fx.mpr ⟨x,hx,rfl⟩)];exact h.ko x hx⟩
end
def dA (K:Kd):Sp:=λvs H Q _=>∃(S:Sd) (lx lw lk:Addr) (xs:List Int) (ws ks:List Str),vs=[.ref S.a,.ref lx,.ref lw,.ref lk]/\SdIs K H S/\dE S.W/\SqL K H lx (xs.map V.int)/\xs.length=16/\(∀x∈xs,0<=x)/\SqL K H lw (ws.map V.str)/\yB ws/\SqL K H lk (ks.map V.str)/\uG ks/\
 ∀(t r m bl:Addr) (L R:Sd) (pr:List (Str×Str)) (os:List Str) (H':Hp),Same H H'->H' t=some (.tup [.ref r,.ref m])->H' m=some (.dK (i6 (pr.map J2)))->H' bl=some (.lst [])->RuleIs K H' r bl L R []->fk L.W R.W []->MP S.W os pr L.W.pts L.W.ts (b8 R.W)->(∀n x,(n,x)∈S.W.ts->(x.2.1∈os\/x.2.2∈os)->n∈os)->(∀n∈os,n∈pr.map (·.1))->(∀n∈b8 R.W,n∉b8 L.W->Wd ws 8 12 n)->(∀n∈b8 L.W,Wd ws 0 8 n)->Q (.ref t) H'
abbrev fT (P:Program)(w:World)(K:Kd)(mg:Str->Option Value)(base:Heap):Prop:=N8 P w K mg base C0 2 "_law_rule" ["_law_web_here","_law_xs","_law_words_here","_law_kinds"] [] (dA K)
theorem lM {f:Addr}{fd:FuncData}(T:Txt K mg)(Z2:cH P w K mg base)(cN:iD P w K mg base)(F:Fun K "_law_rule" "_law_rule" aU f fd):u9 P w K mg base C0 2 f fd ["_law_web_here","_law_xs","_law_words_here","_law_kinds"] (dA K):=by
 refine F.ok sc__law_rule (λvs H Q E h=>?_) (λc_ A outer s H vs Q E hr h=>?_)
 .obtain⟨S,lx,lw,lk,xs,ws,ks,rfl,_⟩:=h;rfl
 .obtain⟨S,lx,lw,lk,xs,ws,ks,rfl,hS,hG,hX,j_,hx0,hW,⟨wl,wnd,wk⟩,hK,⟨kl0,kl3,kk⟩,k⟩:=h;have Lp:=hS.len;rw[A5] at Lp;have hN:=sc__law_rule.nd;have hu:=u6 hr;refine⟨_,QSs.r (z6 (P6 (qC Z2 (hr.mono (by decide)) k7 (i7 (qV 0) (i7 (qV 1) j5))) (jz K rfl (U1 (F4 (i:=4) hN rfl (by walk_at "l")) (U1 (F4 (i:=5) hN rfl (by walk_at "l")) jA))))
   (z6 (z0 (i:=6) hN rfl (by walk_at "l") (qC cN (hr.mono (by decide)) k7 (i7 (qV 0) (i7 (qV 4) (i7 (qV 5) (i7 (qV 1) j5))))))
   (z6 (z0 (i:=7) hN rfl (by walk_at "l") uo)
   (z6 (z0 (i:=8) hN rfl (by walk_at "l") (J3 (i7 uo (i7 uo j5))))
   (z6 (z0 (i:=9) hN rfl (by walk_at "l") (J3 (i7 uo (i7 uo j5))))
   (z6 (Q9 Gp rfl (ae K T.b_enumerate (i7 (qV 4) j5)) (jz K rfl (U1 (F4 (i:=10) hN rfl (by walk_at "l")) (U1 (F4 (i:=11) hN rfl (by walk_at "l")) jA)))
    (z6 (P6 (j6 (j7 K hu) (qV 2) (qV 10) (λ_ _=>rfl)) (mY (qV 7) (qV 11) (z9 P w hu)))
   (z6 (P6 (j6 (j7 K hu) (j6 (j7 K hu) (qV 0) d6 (λ_ _=>rfl)) (qV 11) (λ_ _=>rfl)) (mY (j6 (j7 K hu) (qV 8) d6 (λ_ _=>rfl)) (j6 (j7 K hu) (qV 2) (qV 10) (λ_ _=>rfl)) (z9 P w hu)))
   (C4 (cm (p0 (K8 K hu) (qV 11) (qV 6) (by rfl)) (C4 (P6 (j6 (j7 K hu) (j6 (j7 K hu) (qV 0) d6 (λ_ _=>rfl)) (qV 11) (λ_ _=>rfl)) (mY (j6 (j7 K hu) (qV 9) d6 (λ_ _=>rfl)) (j6 (j7 K hu) (qV 2) (qV 10) (λ_ _=>rfl)) (z9 P w hu)))) cU)))))
   (z6 (Q9 Gp rfl (ae K T.b_enumerate (i7 (qV 5) j5)) (jz K rfl (U1 (F4 (i:=10) hN rfl (by walk_at "l")) (U1 (F4 (i:=11) hN rfl (by walk_at "l")) jA)))
    (z6 (P6 (j6 (j7 K hu) (j6 (j7 K hu) (qV 0) d6 (λ_ _=>rfl)) (qV 11) (λ_ _=>rfl)) (jz K rfl (U1 (F4 (i:=12) hN rfl (by walk_at "l")) (U1 (F4 (i:=13) hN rfl (by walk_at "l")) (U1 (F4 (i:=14) hN rfl (by walk_at "l")) jA)))))
   (z6 (P6 (j6 (j7 K hu) (qV 2) (A7 (F2 K) d6 (qV 10)) (λ_ _=>rfl)) (mY (qV 7) (qV 11) (z9 P w hu)))
   (z6 (P6 (J3 (i7 (qV 12) (i7 (j6 (j7 K hu) (qV 7) (qV 13) (λ_ _=>rfl)) (i7 (j6 (j7 K hu) (qV 7) (qV 14) (λ_ _=>rfl)) j5)))) (mY (j6 (j7 K hu) (qV 8) d6 (λ_ _=>rfl)) (j6 (j7 K hu) (qV 2) (A7 (F2 K) d6 (qV 10)) (λ_ _=>rfl)) (z9 P w hu)))
   (C4 (cm (p0 (K8 K hu) (qV 11) (qV 6) (by rfl)) (C4 (P6 (J3 (i7 (qV 12) (i7 (j6 (j7 K hu) (qV 7) (qV 13) (λ_ _=>rfl)) (i7 (j6 (j7 K hu) (qV 7) (qV 14) (λ_ _=>rfl)) j5)))) (mY (j6 (j7 K hu) (qV 9) d6 (λ_ _=>rfl)) (j6 (j7 K hu) (qV 2) (A7 (F2 K) d6 (qV 10)) (λ_ _=>rfl)) (z9 P w hu)))) cU))))))
   (z6 (Q9 Gp rfl (iE T.b_range (i7 (qB (jZ rfl) T.b_min Boot.«min» (i7 (A7 p5 (j6 (j7 K hu) (qV 1) d6 (λ_ _=>rfl)) d6) (i7 (A7 kX d6 (qB (B8 K P w) T.b_len Boot.«len» (i7 (j6 (j7 K hu) (qV 9) d6 (λ_ _=>rfl)) j5))) j5))) j5)) (F4 (i:=10) hN rfl (by walk_at "l"))
    (C4 (P6 (j6 (j7 K hu) (qV 3) (A7 p5 (A7 D0 (j6 (j7 K hu) (qV 1) d6 (λ_ _=>rfl)) (A7 (F2 K) (qV 10) d6)) (qB (B8 K P w) T.b_len Boot.«len» (i7 (qV 3) j5))) (λ_ _=>rfl)) (mY (j6 (j7 K hu) (qV 9) d6 (λ_ _=>rfl)) (j6 (j7 K hu) (qV 2) (A7 (F2 K) d6 (qV 10)) (λ_ _=>rfl)) (z9 P w hu)))))
   (z6 (z0 (i:=15) hN rfl (by walk_at "l") (qB (O1 K rfl) T.b_sorted Boot.«sorted» (i7 (j6 (j7 K hu) (qV 9) d6 (λ_ _=>rfl)) j5)))
   (z6 (Q9 Gp rfl (iE T.b_range (i7 (A7 Q3 (qB (jZ rfl) T.b_min Boot.«min» (i7 (A7 p5 (j6 (j7 K hu) (qV 1) d6 (λ_ _=>rfl)) d6) (i7 (A7 kX d6 (qB (B8 K P w) T.b_len Boot.«len» (i7 (j6 (j7 K hu) (qV 9) d6 (λ_ _=>rfl)) j5))) j5))) (gJ fE T.b_int Boot.«int» (i7 (eG (aX K hr) (qV 15) (U3 j5) (r9 _)) j5))) j5)) (F4 (i:=10) hN rfl (by walk_at "l"))
    (z6 (z0 (i:=12) hN rfl (by walk_at "l") (j6 (j7 K hu) (qV 3) (A7 p5 (A7 D0 (j6 (j7 K hu) (qV 1) d6 (λ_ _=>rfl)) (A7 (F2 K) (qV 10) d6)) (qB (B8 K P w) T.b_len Boot.«len» (i7 (qV 3) j5))) (λ_ _=>rfl)))
   (z6 (z0 (i:=13) hN rfl (by walk_at "l") (j6 (j7 K hu) (qV 15) (A7 p5 (A7 D0 (j6 (j7 K hu) (qV 1) d6 (λ_ _=>rfl)) (A7 (F2 K) (qV 10) d6)) (qB (B8 K P w) T.b_len Boot.«len» (i7 (qV 15) j5))) (λ_ _=>rfl)))
   (C4 (P6 (J3 (i7 (qV 12) (i7 (qV 13) (i7 (j6 (j7 K hu) (qV 15) (A7 p5 (A7 D0 (j6 (j7 K hu) (qV 1) d6 (λ_ _=>rfl)) (A7 (F2 K) (qV 10) d6)) (qB (B8 K P w) T.b_len Boot.«len» (i7 (qV 15) j5))) (λ_ _=>rfl)) j5)))) (mY (j6 (j7 K hu) (qV 9) d6 (λ_ _=>rfl)) (j6 (j7 K hu) (qV 2) (A7 (F2 K) d6 (qV 10)) (λ_ _=>rfl)) (z9 P w hu)))))))
   (z6 (z0 (i:=16) hN rfl (by walk_at "l") uo)
   (z6 (Q9 Gp rfl (aL (qV 7)) (jz K rfl (U1 (F4 (i:=11) hN rfl (by walk_at "l")) (U1 (F4 (i:=17) hN rfl (by walk_at "l")) jA)))
    (C4 (P6 (qV 11) (mY (qV 16) (qV 17) (z9 P w hu)))))
   (C4 (A3 (J3 (i7 (J3 (i7 (qV 8) (i7 (qV 9) (i7 (U3 j5) j5)))) (i7 (qV 16) j5))))))))))))))))),?_⟩
  refine A1 ?_;walk_at "e";refine⟨S,lx,xs,rfl,hS,hX,j_,hx0,λt0 lp lt ps ts H1 s1 f1 g1 g2 pk=>?_⟩;refine J1 (SqT.of f1) rfl ?_;walk_at "e";refine A1 ?_;walk_at "e";refine⟨S,lp,lt,lx,ps,ts,xs,rfl,hS.same s1,SqL.of g1,SqL.of g2,pk,s1.seq hX,j_,hx0,λlo os B nlo s2 fo ok=>?_⟩;have Ng:=s1.trans s2;have SB:=hS.same Ng;have XB:=Ng.seq hX;have WB:=Ng.seq hW;have KB:=Ng.seq hK;have PB:=s2 _ _ g1;have TB:=s2 _ _ g2;walk_at "e";refine A1 ?_;walk_at "e";intro wd n0;obtain⟨H3,e3,f3,m3,_⟩:=b9 (o:= .dK []) n0;rw[e3];walk_at "e";refine A1 ?_;walk_at "e";intro d1 n1;obtain⟨H4,e4,f4,m4,_⟩:=b9 (o:= .dK []) n1;rw[e4];walk_at "e";intro d2 n2;obtain⟨H5,e5,f5,m5,_⟩:=b9 (o:= .dK []) n2;rw[e5];walk_at "e";refine⟨d9 (by simp),λa1 na1=>?_⟩;obtain⟨H6,e6,f6,m6,_⟩:=b9 (o:= .tup _) na1;rw[e6];walk_at "e";refine A1 ?_;walk_at "e";intro d3 n3;obtain⟨H7,e7,f7,m7,_⟩:=b9 (o:= .dK []) n3;rw[e7];walk_at "e";intro d4 n4;obtain⟨H8,e8,f8,m8,_⟩:=b9 (o:= .dK []) n4;rw[e8];walk_at "e";refine⟨d9 (by simp),λa2 na2=>?_⟩;obtain⟨H9,e9,f9,m9,_⟩:=b9 (o:= .tup _) na2;rw[e9];have Ls:=m4.trans (m5.trans m6);have ne:NE B wd d1 d2 d3 d4:=⟨n0,m3.free n1,m3.free (m4.free n2),m3.free (Ls.free n3),m3.free (Ls.free (m7.free n4)),b7 f3 n1,b7 (m4 _ _ f3) n2,b7 (Ls _ _ f3) n3,b7 (m7 _ _ (Ls _ _ f3)) n4,
   b7 f4 n2,b7 (m6 _ _ (m5 _ _ f4)) n3,b7 (m7 _ _ (m6 _ _ (m5 _ _ f4))) n4,b7 (m6 _ _ f5) n3,b7 (m7 _ _ (m6 _ _ f5)) n4,b7 f7 n4⟩
  have OX:=m7.trans (m8.trans m9);have UX:RS K B H9 wd d1 d2 d3 d4 a1 a2 [] [] [] [] [] [] []:=⟨m3.trans (Ls.trans OX),SqT.of (OX _ _ f6),SqT.of f9,OX _ _ (Ls _ _ f3),OX _ _ (m6 _ _ (m5 _ _ f4)),OX _ _ (m6 _ _ f5),m9 _ _ (m8 _ _ f7),m9 _ _ f8,.nil,.nil⟩
  have LY:=pk.l1;have Oi:=pk.l2;walk_at "e";refine A1 ?_;walk_at "e";refine⟨_,rfl,.inl ⟨lp,_,rfl,SqL.of (UX.sm _ _ PB),?_⟩⟩;refine C8 (n:=ps.length) (λi σ H'=>(∃v10 v11 y_ z_ JC KN KO JD,σ=[some (V.ref S.a),some (.ref lx),some (.ref lw),some (.ref lk),some (.ref lp),some (.ref lt),some (.ref lo),some (.ref wd),some (.ref a1),some (.ref a2),v10,v11,y_,z_,JC,KN,KO,JD])/\∃pr PL PR,RS K B H' wd d1 d2 d3 d4 a1 a2 (i6 pr) [] [] PL PR [] []/\LR ws i 0 0 0 PL [] PR []/\WO ps ws os i (i6 pr) PL PR/\pr.length<=i/\MP S.W os pr PL [] (PR.map (·.1))/\pr.map (·.1)=ps.take i)
   ⟨⟨_,_,_,_,_,_,_,_,rfl⟩,[],[],[],UX,LR.new,⟨(λ_ h=>nomatch h),(λj _ _ h=>absurd h (Ie _)),(λj _ h=>absurd h (Ie _)),λj _ _ h=>absurd h (Ie _)⟩,Fz _,⟨GX,GX,rfl,(λ_ h=>nomatch h),(λ_ h=>nomatch h),λ_ h=>nomatch h⟩,rfl⟩ (λi σ H' hi hp=>⟨_,.str (ps[i]),SqL.of (hp.2.choose_spec.choose_spec.choose_spec.1.sm _ _ PB),by rw[FD,Fw hi];rfl⟩) ?_ ?_
  .rintro i v σ Lc MS hi ⟨⟨v10,v11,y_,z_,JC,KN,KO,JD,rfl⟩,pr,PL,PR,rs,lr,wo,KI,mp,Lu⟩ ⟨t,x,hx,nt,rfl,rfl⟩;have g_:=hx _ (SqL.of (rs.sm _ _ PB));rw[FD,Fw hi] at g_;cases g_;have QH:ps[i]?=some ps[i]:=Fw hi;obtain⟨wi,JF,LZ⟩:=oF wl i (by lia);obtain⟨⟨x0,kd⟩,r_,ex⟩:=Fx.mp (pk.p _ (Gd hi));have Lx:x0=ps[i]:=ex;subst Lx;have Ke:=hG.kd _ r_;obtain⟨nL,nR⟩:=lr.f1 wnd JF;obtain⟨LA,Nh,L_,Ld,_⟩:=b9 (o:= .tup _) nt;rw[Nh];have KQ:=rs.mono Ld;refine J1 (SqT.of L_) rfl ?_;walk_at "e";refine A1 ?_;walk_at "e";refine i8 (KQ.sm.seq WB) (LZ _ rfl) ?_;walk_at "e";refine O4 (z5 (k:=Sum.inr ps[i]) KQ.w (d9 (by rw[j8];lia)) ?_);have Lz:ps[i]∉pr.map (·.1):=λz=>by
    rw[Lu] at z;have z2:(ps.take (i+1)).Nodup:=pk.n1.sublist (GZ _ _);rw[Gq,QH] at z2;exact(FR.mp z2).2.2 _ z _ (by simp) rfl
   have OY:wi∉pr.map (·.2):=λz=>by
    rw[mp.wd,Iu,Gw] at z;exact nL z
   have Ma:(pr++[(ps[i],wi)]).map (·.1)=ps.take (i+1):=by rw[o9,Lu,Gq,QH];rfl
   have Mb:(pr++[(ps[i],wi)]).length<=i+1:=by rw[FE,FT];lia
   rw[V3 Lz];have KR:=KQ.setW (kw':=i6 (pr++[(ps[i],wi)])) ne;generalize upd LA wd (.dK (i6 (pr++[(ps[i],wi)])))=Oj at KR⊢;have UY:=SB.same KR.sm;refine A1 ?_;walk_at "e";refine b5 UY.at_.tup (b6 (j:=0) rfl) ?_;walk_at "e";refine k9 (v:= .str kd) (by have z:=F5 (k:=Sum.inr ps[i]) UY.at_.pts;rw[K3 (E1 hS.nd) r_] at z;exact z) ?_;walk_at "e";refine b5 KR.t1 (b6 (j:=0) rfl) ?_;walk_at "e";refine i8 (KR.sm.seq WB) (LZ _ rfl) ?_;walk_at "e";refine O4 (z5 (k:=Sum.inr wi) KR.h1 (d9 (by rw[j8];have:=lr.ll;lia)) ?_);have H_:=KR.set1 (kd:=kd) ne nL;generalize upd Oj d1 (.dK (E3 (i6 PL) (Sum.inr wi) (.str kd)))=QJ at H_⊢;have UZ:=SB.same H_.sm;walk_at "e";refine J0 (SqL.of (H_.sm _ _ fo)) ?_;walk_at "e";refine J5 (λhb=>?_) (λhb=>?_)
   .walk_at "e";refine b5 UZ.at_.tup (b6 (j:=0) rfl) ?_;walk_at "e";refine k9 (v:= .str kd) (by have z:=F5 (k:=Sum.inr ps[i]) UZ.at_.pts;rw[K3 (E1 hS.nd) r_] at z;exact z) ?_;walk_at "e";refine b5 H_.t2 (b6 (j:=0) rfl) ?_;walk_at "e";refine i8 (H_.sm.seq WB) (LZ _ rfl) ?_;walk_at "e";refine O4 (z5 (k:=Sum.inr wi) H_.h3 (d9 (by rw[j8];have:=lr.lr;lia)) ?_);exact⟨⟨_,_,_,_,_,_,_,_,rfl⟩,_,_,_,H_.set3 (kd:=kd) ne nR,lr.s1 wnd JF Ke true,by have z:=wo.s1 (kd:=kd) pk.n1 QH JF true (λ_=>rfl);rw[V3 Lz] at z;exact z,Mb,mp.sP Lz OY r_ (λy hy=>by show y∈(PR++[(wi,kd)]).map (·.1)↔_;rw[o9,FC,FH];exact⟨λz=>z.elim id λq=>absurd q hy,.inl⟩) ⟨λ_=>hb,λ_=>by show wi∈(PR++[(wi,kd)]).map (·.1);rw[o9];simp⟩,Ma⟩
   .walk_at "e";exact⟨⟨_,_,_,_,_,_,_,_,rfl⟩,_,_,_,H_,lr.s1 wnd JF Ke false,by have z:=wo.s1 (kd:=kd) pk.n1 QH JF false (λz=>absurd hb z);rw[V3 Lz] at z;exact z,Mb,mp.sP Lz OY r_ (λy hy=>OV) ⟨λz=>absurd z nR,λz=>absurd hb z⟩,Ma⟩
  .rintro σ Lc ⟨⟨v10,v11,y_,z_,JC,KN,KO,JD,rfl⟩,pr,PL,PR,rs,lr,wo,KI,mp,Lu⟩;rw[FL (Fz _)] at Lu;refine⟨⟨_,SqL.of (rs.sm _ _ PB),by rw[Fv];exact Fz _⟩,?_⟩;change ip _ _ _ _ Lc;refine A1 ?_;walk_at "e";refine⟨_,rfl,.inl ⟨lt,_,rfl,SqL.of (rs.sm _ _ TB),?_⟩⟩;refine C8 (n:=ts.length) (λi σ H'=>(∃v10 v11 y_ z_ JC KN KO JD,σ=[some (V.ref S.a),some (.ref lx),some (.ref lw),some (.ref lk),some (.ref lp),some (.ref lt),some (.ref lo),some (.ref wd),some (.ref a1),some (.ref a2),v10,v11,y_,z_,JC,KN,KO,JD])/\∃pr kL kR TL TR,RS K B H' wd d1 d2 d3 d4 a1 a2 (i6 pr) kL kR PL PR TL TR/\LR ws ps.length i 0 0 PL TL PR TR/\WO ps ws os ps.length (i6 pr) PL PR/\pr.length<=ps.length+i/\MP S.W os pr PL TL (PR.map (·.1)++TR.map (·.1))/\pr.map (·.1)=ps++ts.take i)
    ⟨⟨_,_,_,_,_,_,_,_,rfl⟩,_,_,_,_,_,rs,lr,wo,KI,by rw[Iu,Gw];exact mp,by rw[List.take_zero,Gw];exact Lu⟩ (λi σ H' hi hp=>⟨_,.str (ts[i]),SqL.of (hp.2.choose_spec.choose_spec.choose_spec.choose_spec.choose_spec.1.sm _ _ TB),by rw[FD,Fw hi];rfl⟩) ?_ ?_
   .clear rs lr wo KI mp Lu;rintro i v σ Lc MS hi ⟨⟨v10,v11,y_,z_,JC,KN,KO,JD,rfl⟩,pr,kL,kR,TL,TR,rs,lr,wo,KI,mp,Lu⟩ ⟨t,x,hx,nt,rfl,rfl⟩;have g_:=hx _ (SqL.of (rs.sm _ _ TB));rw[FD,Fw hi] at g_;cases g_;have Sx:=Gd hi;have Nr:ts.take (i+1)=ts.take i++[ts[i]]:=by rw[Gq,Fw hi];rfl
    have U':ts[i]∉ts.take i:=λz=>by
     have z2:(ts.take (i+1)).Nodup:=pk.n2.sublist (GZ _ _);rw[Nr] at z2;exact(FR.mp z2).2.2 _ z _ (by simp) rfl
    generalize ts[i]=nm at Sx Nr U';obtain⟨wi,JF,LZ⟩:=oF wl (4+i) (by lia);obtain⟨⟨y1,y2,y3⟩,Kf,U_,Va⟩:=pk.t _ Sx;have Ke:=hG.tk _ Kf;obtain⟨nL,nR⟩:=lr.f2 wnd JF;have Vb:nm∉ps:=λz=>(FR.mp hS.nd).2.2 nm (pk.p _ z) nm (Fx.mpr ⟨_,Kf,rfl⟩) rfl;obtain⟨LA,Nh,L_,Ld,_⟩:=b9 (o:= .tup _) nt;rw[Nh];have KQ:=rs.mono Ld;have Sy:=SB.same KQ.sm;obtain⟨aa,q1,q3⟩:=lS Sy.at_.ts (N1 hS.nd) Kf;refine J1 (SqT.of L_) rfl ?_;walk_at "e";refine A1 ?_;walk_at "e";refine b5 Sy.at_.tup (b6 (j:=1) rfl) ?_;walk_at "e";refine k9 (v:= .ref aa) (by have z:=F5 (k:=Sum.inr nm) Sy.at_.ties;rw[q1] at z;exact z) ?_;refine J1 (xs:=[.str y1,.str y2,.str y3]) q3 rfl ?_;walk_at "e";refine A1 ?_;walk_at "e";refine i8 (KQ.sm.seq WB) (LZ _ rfl) ?_;walk_at "e";refine O4 (z5 (k:=Sum.inr nm) KQ.w (d9 (by rw[j8];lia)) ?_);have Lz:nm∉pr.map (·.1):=λz=>by
     rw[Lu] at z;exact(FC.mp z).elim Vb U'
    have OY:wi∉pr.map (·.2):=λz=>by
     rw[mp.wd] at z;rcases FC.mp z with z|z
     .obtain⟨y,hy,ey⟩:=Fx.mp z;have:=(lr.pl y hy).1;rw[show y.1=wi from ey] at this;exact Wd.no wnd this ⟨4+i,Fz _,GO _,JF⟩ (.inl (by lia))
     .exact nL z
    have Sz:wi∉PR.map (·.1)++TR.map (·.1):=λz=>by
     rcases FC.mp z with z|z
     .obtain⟨y,hy,ey⟩:=Fx.mp z;rcases(lr.pr y hy).1 with q|q
      .have:=(lr.pl y q).1;rw[show y.1=wi from ey] at this;exact Wd.no wnd this ⟨4+i,Fz _,GO _,JF⟩ (.inl (by lia))
      .obtain⟨j,j1,j2,_⟩:=q;lia
     .exact nR z
    have Ma:(pr++[(nm,wi)]).map (·.1)=ps++ts.take (i+1):=by rw[o9,Lu,Nr,Gx]
    have Mb:(pr++[(nm,wi)]).length<=ps.length+(i+1):=by rw[FE,FT];lia
    have OZ:=wo.s2 (w:=wi) Vb;obtain⟨Xk,SA,_,_⟩:=wo.get wl LY U_;obtain⟨Xl,SD,_,_⟩:=wo.get wl LY Va;obtain⟨_,Vc,La⟩:=mj SA;obtain⟨_,Vd,MT⟩:=mj SD;rw[V3 Lz] at OZ⊢;have KR:=KQ.setW (kw':=i6 (pr++[(nm,wi)])) ne;generalize upd LA wd (.dK (i6 (pr++[(nm,wi)])))=Oj at KR⊢;obtain⟨u2,Ln,Ve,Xm⟩:=OZ.get wl LY U_;obtain⟨u3,SE,Vf,Xn⟩:=OZ.get wl LY Va;have Vg:((pr++[(nm,wi)]).map (·.1)).Nodup:=by rw[o9];exact B9 mp.n1 Lz
    have O':(y2,u2)∈pr:=by
     have z:=K3 (k:=Xk) Vg (Fy _ (by rw[V.str.inj Vc];exact La));rw[Ln] at z;rw[V.str.inj (Ga z),V.str.inj Vc];exact La
    have O_:(y3,u3)∈pr:=by
     have z:=K3 (k:=Xl) Vg (Fy _ (by rw[V.str.inj Vd];exact MT));rw[SE] at z;rw[V.str.inj (Ga z),V.str.inj Vd];exact MT
    refine A1 ?_;walk_at "e";refine k9 (v:= .str u2) (by have z:=F5 (k:=Sum.inr y2) (show Rd Oj wd _ from .inl KR.w);rw[Ln] at z;exact z) ?_;walk_at "e";refine k9 (v:= .str u3) (by have z:=F5 (k:=Sum.inr y3) (show Rd Oj wd _ from .inl KR.w);rw[SE] at z;exact z) ?_;walk_at "e";refine⟨d9 (by simp),λSF n13=>?_⟩;obtain⟨QJ,Pa,NJ,Mn,_⟩:=b9 (o:= .tup _) n13;rw[Pa];have H_:=KR.mono Mn;walk_at "e";refine b5 H_.t1 (b6 (j:=1) rfl) ?_;walk_at "e";refine i8 (H_.sm.seq WB) (LZ _ rfl) ?_;walk_at "e";refine O4 (z5 (k:=Sum.inr wi) H_.h2 (d9 (by have:=lr.lt;have:=H_.tl.length;lia)) ?_);have Ol:=H_.set2 (kd:=y1) (o1:=u2) (o2:=u3) ne nL (SqT.of NJ);generalize upd QJ d2 (.dK (E3 kL (Sum.inr wi) (.ref SF)))=H14 at Ol⊢;walk_at "e";refine J0 (SqL.of (Ol.sm _ _ fo)) ?_;walk_at "e";refine J5 (λhb=>?_) (λhb=>?_)
    .obtain⟨RW,ob3⟩:=ok.ok _ Sx hb _ Kf;walk_at "e";refine k9 (v:= .str u2) (by have z:=F5 (k:=Sum.inr y2) (show Rd H14 wd _ from .inl Ol.w);rw[Ln] at z;exact z) ?_;walk_at "e";refine k9 (v:= .str u3) (by have z:=F5 (k:=Sum.inr y3) (show Rd H14 wd _ from .inl Ol.w);rw[SE] at z;exact z) ?_;walk_at "e";refine⟨d9 (by simp),λZp n15=>?_⟩;obtain⟨Zq,Xo,SH,Xp,_⟩:=b9 (o:= .tup _) n15;rw[Xo];have Pb:=Ol.mono Xp;walk_at "e";refine b5 Pb.t2 (b6 (j:=1) rfl) ?_;walk_at "e";refine i8 (Pb.sm.seq WB) (LZ _ rfl) ?_;walk_at "e";refine O4 (z5 (k:=Sum.inr wi) Pb.h4 (d9 (by have:=lr.lu;have:=Pb.tr.length;lia)) ?_);exact⟨⟨_,_,_,_,_,_,_,_,rfl⟩,_,_,_,_,_,Pb.set4 (kd:=y1) (o1:=u2) (o2:=u3) ne nR (SqT.of SH),lr.s2 wnd JF Ke Ve Vf true (λ_=>⟨Xm RW,Xn ob3⟩),OZ,Mb,mp.sT Lz OY Kf O' O_ (λy hy=>by show y∈PR.map (·.1)++(TR++[(wi,(y1,u2,u3))]).map (·.1)↔_;rw[o9,←Gx,FC,FH];exact⟨λz=>z.elim id λq=>absurd q hy,.inl⟩) ⟨λ_=>hb,λ_=>by show wi∈PR.map (·.1)++(TR++[(wi,(y1,u2,u3))]).map (·.1);rw[o9];simp⟩,Ma⟩
    .walk_at "e";exact⟨⟨_,_,_,_,_,_,_,_,rfl⟩,_,_,_,_,_,Ol,lr.s2 wnd JF Ke Ve Vf false (λz=>nomatch z),OZ,Mb,mp.sT Lz OY Kf O' O_ (λy hy=>OV) ⟨λz=>absurd z Sz,λz=>absurd hb z⟩,Ma⟩
   .clear rs lr wo KI mp Lu;rintro σ Lc ⟨⟨v10,v11,y_,z_,JC,KN,KO,JD,rfl⟩,pr,kL,kR,TL,TR,rs,lr,wo,KI,mp,Lu⟩;rw[FL (Fz _)] at Lu;refine⟨⟨_,SqL.of (rs.sm _ _ TB),by rw[Fv];exact Fz _⟩,?_⟩;change ip _ _ _ _ Lc;have Zr:=lr.lr;have MU:=lr.lu;have Zs:=rs.tr.length;obtain⟨x8,Xq,Xr⟩:=X8 j_ hx0 8 (by lia);obtain⟨x9,Pd,Xs⟩:=X8 j_ hx0 9 (by lia);obtain⟨Vh,SI,Vi⟩:=X8 j_ hx0 10 (by lia);obtain⟨Vj,NK,Pe⟩:=X8 j_ hx0 11 (by lia);obtain⟨Xt,SJ,Vk⟩:=X8 j_ hx0 12 (by lia);obtain⟨Xu,SK,Vl⟩:=X8 j_ hx0 13 (by lia);refine A1 ?_;walk_at "e";refine i8 (rs.sm.seq XB) Xq ?_;walk_at "e";refine b5 rs.t2 (b6 (j:=0) rfl) ?_;walk_at "e";refine B7 (Z4 (.inl rs.h3) ?_);rw[j8];walk_at "e";refine⟨_,_,rfl,?_⟩;generalize NL:(if 4 -(PR.length:Int)<x8 % 3 then 4 -(PR.length:Int) else x8 % 3)=cnt;have hc:0<=cnt/\cnt<=2/\PR.length+cnt.toNat<=4:=by subst NL;split<;>lia
    walk_at "e";refine O0 (by lia) (by lia) ?_;refine C8 (n:=cnt.toNat) (λi σ H'=>(∃v10 v11 y_ z_ JC KN KO JD,σ=[some (V.ref S.a),some (.ref lx),some (.ref lw),some (.ref lk),some (.ref lp),some (.ref lt),some (.ref lo),some (.ref wd),some (.ref a1),some (.ref a2),v10,v11,y_,z_,JC,KN,KO,JD])/\∃Kg,RS K B H' wd d1 d2 d3 d4 a1 a2 (i6 pr) kL kR PL Kg TL TR/\LR ws ps.length ts.length i 0 PL TL Kg TR/\Kg.length=PR.length+i/\∀y,(Wd ws 0 8 y\/False)->(y∈Kg.map (·.1)↔y∈PR.map (·.1)))
     ⟨⟨_,_,_,_,_,_,_,_,rfl⟩,_,rs,lr,rfl,λ_ _=>OV⟩ (λi σ H' hi _=>by exact hi) ?_ ?_
    .clear rs lr;rintro i v σ MS Lc hi ⟨⟨v10,v11,y_,z_,JC,KN,KO,JD,rfl⟩,Kg,rs,lr,SM,bP⟩ ⟨rfl,rfl⟩;obtain⟨wi,JF,LZ⟩:=oF wl (8+i) (by lia);have NM:=LZ (8+(0+(i:Int))) (by lia);obtain⟨kd,Ke,Kx⟩:=J6 (ss:=ks) (i:=x9/(0+(i:Int)+1) % (ks.length:Int)) (GH _ (by lia)) (Gs _ (by lia));walk_at "e";refine i8 (rs.sm.seq XB) Pd ?_;walk_at "e";refine B7 (k8 (rs.sm.seq KB) ?_);rw[Fv];walk_at "e";refine i8 (rs.sm.seq KB) Ke ?_;walk_at "e";refine b5 rs.t2 (b6 (j:=0) rfl) ?_;walk_at "e";refine i8 (rs.sm.seq WB) NM ?_;walk_at "e";refine O4 (z5 (k:=Sum.inr wi) rs.h3 (d9 (by rw[j8];lia)) ?_);exact⟨⟨_,_,_,_,_,_,_,_,rfl⟩,_,rs.set3 (kd:=kd) ne (lr.f3 wnd LY JF),lr.s3 wnd LY JF (kk _ Kx),by rw[FE,FT];lia,λy hy=>by
      rw[o9,FC,FH,←bP y hy];refine⟨λz=>z.elim id λq=>?_,.inl⟩;subst q;exact(Wd.no wnd (hy.elim id False.elim) ⟨8+i,Fz _,GO _,JF⟩ (.inl (by lia))).elim⟩
    .clear rs lr;rintro σ Lc ⟨⟨v10,v11,y_,z_,JC,KN,KO,JD,rfl⟩,Kg,rs,lr,SM,bP⟩;refine⟨Fz _,?_⟩;change ip _ _ _ _ Lc;refine A1 ?_;walk_at "e";refine b5 rs.t2 (b6 (j:=0) rfl) ?_;walk_at "e";refine A9 (ss:=Kg.map (·.1)) (.inl rs.h3) (by rw[K4,A8]) (by rw[Fv];lia) (λLB b1 b2 le nle=>?_);have ble:B le=none:=rs.sm.free nle;obtain⟨LA,Nh,L_,Ld,_⟩:=b9 (o:= .lst _) nle;rw[Nh];have KQ:=rs.mono Ld;have gl:=b1.length_eq;rw[Fv] at gl;walk_at "e";refine A1 ?_;walk_at "e";refine i8 (KQ.sm.seq XB) SI ?_;walk_at "e";refine b5 KQ.t2 (b6 (j:=1) rfl) ?_;walk_at "e";refine B7 (Z4 (.inl KQ.h4) ?_);walk_at "e";refine⟨_,_,rfl,?_⟩;generalize Pf:(if 4 -(kR.length:Int)<Vh % 3 then 4 -(kR.length:Int) else Vh % 3)=Kh;have RE:0<=Kh/\Kh<=2/\TR.length+Kh.toNat<=4:=by subst Pf;split<;>lia
     walk_at "e";refine⟨d9 (by simp),λl3 n3=>?_⟩;obtain⟨Oj,SN,NN,Ky,_⟩:=b9 (o:= .lst []) n3;rw[SN];refine Al (jn (SqL.of (Ky _ _ L_)) (SqL.of NN) (V0 _) rfl ?_);refine .inr ⟨_,rfl,?_⟩;have OW:Y0 (LB.map V.str) []=decide (LB=[]):=by cases LB<;>rfl
     rw[OW];generalize hn:(if(!decide (LB=[]))=true then(1:Int) else 0)=nn;have LX:(nn=0\/nn=1)/\(nn=1->0<LB.length):=by
      subst hn;cases LB with
      |nil=>simp
      |cons _ _=>simp
     have SO:d4≠le:=b7 rs.h4 nle;walk_at "e";have hmul:0<=Kh*nn/\Kh*nn<=Kh/\(0<Kh*nn->nn=1):=by
      rcases LX.1 with rfl|rfl<;>lia
     generalize Kh*nn=cnt3 at hmul⊢;refine O0 (by lia) (by lia) ?_;have KR:=KQ.mono Ky;refine C8 (n:=cnt3.toNat) (λi σ H'=>(∃v10 v11 y_ z_ JC KO JD,σ=[some (V.ref S.a),some (.ref lx),some (.ref lw),some (.ref lk),some (.ref lp),some (.ref lt),some (.ref lo),some (.ref wd),some (.ref a1),some (.ref a2),v10,v11,y_,z_,JC,some (.ref le),KO,JD])/\H' le=some (.lst (LB.map V.str))/\∃QK Lf,RS K B H' wd d1 d2 d3 d4 a1 a2 (i6 pr) kL QK PL Kg TL Lf/\LR ws ps.length ts.length cnt.toNat i PL TL Kg Lf/\Lf.length=TR.length+i/\∀y,(Wd ws 0 8 y\/False)->(y∈Lf.map (·.1)↔y∈TR.map (·.1)))
      ⟨⟨_,_,_,_,_,_,_,rfl⟩,Ky _ _ L_,_,_,KR,lr,rfl,λ_ _=>OV⟩ (λi σ H' hi _=>by exact hi) ?_ ?_
     .clear rs KQ KR lr;rintro i v σ MS Lc hi ⟨⟨v10,v11,y_,z_,JC,KO,JD,rfl⟩,hle,QK,Lf,rs,lr,SQ,bT⟩ ⟨rfl,rfl⟩;have LS:0<LB.length:=LX.2 (hmul.2.2 (by lia));obtain⟨wi,JF,LZ⟩:=oF wl (10+i) (by lia);have NM:=LZ (10+(0+(i:Int))) (by lia);obtain⟨kd,Ke,Kx⟩:=J6 (ss:=ks) (i:=Vj/(0+(i:Int)+1) % (ks.length:Int)) (GH _ (by lia)) (Gs _ (by lia));obtain⟨o1,Lo,QD⟩:=J6 (ss:=LB) (i:=Xt/(0+(i:Int)+1) % (LB.length:Int)) (GH _ (by lia)) (Gs _ (by lia));obtain⟨o2,KZ,Sm⟩:=J6 (ss:=LB) (i:=Xu/(0+(i:Int)+1) % (LB.length:Int)) (GH _ (by lia)) (Gs _ (by lia));refine A1 ?_;walk_at "e";refine i8 (rs.sm.seq XB) NK ?_;walk_at "e";refine B7 (k8 (rs.sm.seq KB) ?_);rw[Fv];walk_at "e";refine i8 (rs.sm.seq KB) Ke ?_;walk_at "e";refine A1 ?_;walk_at "e";refine i8 (rs.sm.seq XB) SJ ?_;walk_at "e";refine B7 (k8 (SqL.of hle) ?_);rw[Fv];walk_at "e";refine i8 (SqL.of hle) Lo ?_;walk_at "e";refine i8 (rs.sm.seq XB) SK ?_;walk_at "e";refine B7 (k8 (SqL.of hle) ?_);rw[Fv];walk_at "e";refine i8 (SqL.of hle) KZ ?_;walk_at "e";refine⟨d9 (by simp),λSF n13=>?_⟩;obtain⟨QJ,Pa,NJ,Mn,_⟩:=b9 (o:= .tup _) n13;rw[Pa];have H_:=rs.mono Mn;have Pg:=Mn _ _ hle;walk_at "e";refine b5 H_.t2 (b6 (j:=1) rfl) ?_;walk_at "e";refine i8 (H_.sm.seq WB) NM ?_;walk_at "e";refine O4 (z5 (k:=Sum.inr wi) H_.h4 (d9 (by have:=H_.tr.length;lia)) ?_);exact⟨⟨_,_,_,_,_,_,_,rfl⟩,by rw[d0 SO.symm];exact Pg,_,_,H_.set4 (kd:=kd) (o1:=o1) (o2:=o2) ne (lr.f4 wnd Oi JF) (SqT.of NJ),lr.s4 wnd Oi JF (kk _ Kx) (b1.mem_iff.mp QD) (b1.mem_iff.mp Sm),by rw[FE,FT];lia,λy hy=>by
       rw[o9,FC,FH,←bT y hy];refine⟨λz=>z.elim id λq=>?_,.inl⟩;subst q;exact(Wd.no wnd (hy.elim id False.elim) ⟨10+i,Fz _,GO _,JF⟩ (.inl (by lia))).elim⟩
     .clear rs KQ KR lr;rintro σ G ⟨⟨v10,v11,y_,z_,JC,KO,JD,rfl⟩,hle,QK,Lf,rs,lr,SQ,bT⟩;refine⟨Fz _,?_⟩;change ip _ _ _ _ G;refine A1 ?_;walk_at "e";intro md nmd;obtain⟨G1,SR,SS,Om,_⟩:=b9 (o:= .dK []) nmd;rw[SR];walk_at "e";refine A1 ?_;walk_at "e";have SU:md≠wd:=(b7 rs.w nmd).symm;refine L7 (Om _ _ rs.w) (λSV o=>?_);have gm:z8 wd o (i6 pr) G md=none:=by unfold z8;rw[d0 SU];exact nmd
      have sG:Same (z8 wd o (i6 pr) G) (z8 wd o (i6 pr) G1):=λb u e=>by
       unfold z8 at e⊢;by_cases hb:b=wd
       .subst hb;rw[d8] at e⊢;exact e
       .rw[d0 hb] at e⊢;exact Om _ _ e
      refine C8 (n:=(i6 pr).length) (λi σ H'=>(∃v10 v11 y_ z_ JC KN JD,σ=[some (V.ref S.a),some (.ref lx),some (.ref lw),some (.ref lk),some (.ref lp),some (.ref lt),some (.ref lo),some (.ref wd),some (.ref a1),some (.ref a2),v10,v11,y_,z_,JC,KN,some (.ref md),JD])/\Same (z8 wd o (i6 pr) G) H'/\H' md=some (.dK (i6 ((pr.take i).map J2))))
       ⟨⟨_,_,_,_,_,_,_,rfl⟩,sG,by unfold z8;rw[d0 SU];exact SS⟩ (λi σ H' hi hp=>⟨hp.2.1 _ _ d8,hi⟩) ?_ ?_
      .rintro i v σ G2 G2' hi ⟨⟨v10,v11,y_,z_,JC,KN,JD,rfl⟩,s2',Kx⟩ ⟨t,kv,d_,nt,rfl,rfl⟩;obtain⟨⟨n,s⟩,QL,rfl⟩:=Q5 d_;have e7:pr.take (i+1)=pr.take i++[(n,s)]:=by rw[Gq,QL];rfl
       have NO:s∉((pr.take i).map J2).map (·.1):=λz=>by
        rw[Gg] at z;have z2:((pr.take (i+1)).map (·.2)).Nodup:=mp.n2.sublist ((GZ _ _).map _);rw[e7,Q0] at z2;exact(FR.mp z2).2.2 s z s (by simp) rfl
       obtain⟨G3,SW,SX,Oo,_⟩:=b9 (o:= .tup _) nt;rw[SW];refine J1 (SqT.of SX) rfl ?_;walk_at "e";refine O4 (z5 (k:=Sum.inr s) (Oo _ _ Kx) (d9 (by rw[j8,Fv,FO];lia)) ?_);refine⟨⟨_,_,_,_,_,_,_,rfl⟩,E4 (s2'.trans Oo) gm,?_⟩;rw[d8,e7,FF];exact GY (λz=>some (HO.dK z)) ((V3 (kd:=n) NO).trans rfl)
      .rintro σ G2 ⟨⟨v10,v11,y_,z_,JC,KN,JD,rfl⟩,s2',Kx⟩;rw[j8,FL (Fz _)] at Kx;refine⟨⟨s2' _ _ d8,Fz _⟩,?_⟩;have Vm:=s2'.thaw rs.w;have Ph:thaw wd G2 md=some (.dK (i6 (pr.map J2))):=by rw[Q7 SU];exact Kx
       have Vn:=rs.mono Vm;change uq _ _ _ (thaw wd G2);generalize thaw wd G2=G3 at Vm Vn Ph⊢;walk_at "e";refine⟨d9 (by simp),λbl Ni=>?_⟩;obtain⟨G4,Xv,Pj,QM,_⟩:=b9 (o:= .lst []) Ni;rw[Xv];walk_at "e";refine⟨d9 (by simp),λr nr=>?_⟩;obtain⟨G5,Xw,SY,QN,_⟩:=b9 (o:= .tup _) nr;rw[Xw];walk_at "e";refine⟨d9 (by simp),λt nt=>?_⟩;obtain⟨G6,Xx,Xy,Pk,_⟩:=b9 (o:= .tup _) nt;rw[Xx];have Lv:=Vn.mono (QM.trans (QN.trans Pk));have Vo:cnt.toNat<=2:=by lia
       have Vp:cnt3.toNat<=2:=by lia
       have Xz:Lf.length<=4:=by lia
       have XA:Kg.length<=4:=by lia
       have Pl:=lr.rule wnd wk LY Oi Vo Vp XA Xz;have hold:∀y∈pr.map (·.2),Wd ws 0 8 y:=λy hy=>by rw[mp.wd] at hy;exact lr.nmL LY Oi y hy
       have XC:∀y∈pr.map (·.2),(y∈b8 ⟨Kg,Lf⟩↔y∈PR.map (·.1)++TR.map (·.1)):=λy hy=>by
        have wy:=hold y hy;show y∈Kg.map (·.1)++Lf.map (·.1)↔_;rw[FC,FC];exact⟨λz=>z.elim (λz=> .inl ((bP y (.inl wy)).mp z)) λz=> .inr ((bT y (.inl wy)).mp z),λz=>z.elim (λz=> .inl ((bP y (.inl wy)).mpr z)) λz=> .inr ((bT y (.inl wy)).mpr z)⟩
       have KD:∀n∈b8 ⟨Kg,Lf⟩,n∉b8 ⟨PL,TL⟩->Wd ws 8 12 n:=λn hn s_=>by
        rcases FC.mp (show n∈Kg.map (·.1)++Lf.map (·.1) from hn) with z|z
        .obtain⟨y,hy,rfl⟩:=Fx.mp z;rcases(lr.pr y hy).1 with q|q
         .exact absurd (Fy _ (Fx.mpr ⟨y,q,rfl⟩)) s_
         .exact q.up (Fz _) (by lia)
        .obtain⟨y,hy,rfl⟩:=Fx.mp z;rcases(lr.tr y hy).1 with q|q
         .exact absurd (FA _ (Fx.mpr ⟨y,q,rfl⟩)) s_
         .exact q.up (by lia) (by lia)
       have Vq:∀{x:Str},F8 x=true->x.length<=100:=λh=>by have:=kn h;lia
       refine k t r md bl ⟨a1,d1,d2,kL,⟨PL,TL⟩⟩ ⟨a2,d3,d4,QK,⟨Kg,Lf⟩⟩ pr os G6 (Ng.trans Lv.sm) Xy (Pk _ _ (QN _ _ (QM _ _ Ph))) (Pk _ _ (QN _ _ Pj)) ⟨SqT.of (Pk _ _ SY),?_,?_,SqL.of (Pk _ _ (QN _ _ Pj)),λ_ h=>nomatch h⟩ Pl (mp.sR (Rn':=b8 ⟨Kg,Lf⟩) XC) ok.lo (λn hn=>by rw[Lu];exact ok.sub n hn) KD (lr.nmL LY Oi)
       .exact⟨⟨Lv.t1,.inl Lv.h1,.inl Lv.h2,Lv.tl⟩,Lv.h1,Lv.h2,ne.n12,lr.ndL wnd LY,by rw[A5];have q1:PL.length<=4:=Pl.l.l1;have q2:TL.length<=4:=Pl.l.l2;show PL.length+TL.length<=60;lia,λx hx=>(lr.tl x hx).2.2,λx hx=>Vq (Pl.l.kds x hx)⟩
       .exact⟨⟨Lv.t2,.inl Lv.h3,.inl Lv.h4,Lv.tr⟩,Lv.h3,Lv.h4,ne.n34,lr.ndR wnd LY Oi Vo Vp,by rw[A5];show Kg.length+Lf.length<=60;lia,λx hx=>(lr.tr x hx).2.2,λx hx=>Vq (Pl.r.kds x hx)⟩
theorem EqN.of0 {H:Hp}{x y:V}{b:Bool}(h:EqN K H 0 x y b):∀n,EqN K H n x y b
 |0=>h
 |n+1=> .inl (EqN.of0 h n)
theorem iR {H:Hp}{A C:Sd}{n:Nat}(h:SdIs K H A)(h':SdIs K H C)(p1:A.W.pts.Perm C.W.pts)(p2:A.W.ts.Perm C.W.ts)(hp:A.p≠C.p)(hq:A.q≠C.q):EqN K H (n+1) (.ref A.a) (.ref C.a) true:=by
 by_cases e:A.a=C.a
 .exact EqN.of0 (.inr ⟨A.a,C.a,rfl,rfl,.inl ⟨e,rfl⟩⟩) _
 .refine .inr ⟨A.a,C.a,[.ref A.p,.ref A.q],[.ref C.p,.ref C.q],[true,true],rfl,rfl,e,.inl ⟨h.at_.tup,h'.at_.tup⟩,rfl,rfl,λj x y b hx hy hb=>?_,rfl⟩;match j,hx,hy,hb with
  |0,hx,hy,hb=>
   cases hx;cases hy;cases hb
   exact EqN.of0 (.inr ⟨A.p,C.p,rfl,rfl,gU hp h.at_.pts h'.at_.pts p1 (E1 h'.nd)⟩) _
  |1,hx,hy,hb=>
   cases hx;cases hy;cases hb
   exact EqN.of0 (.inr ⟨A.q,C.q,rfl,rfl,iM hq h.at_.ties h'.at_.ties h.at_.ts h'.at_.ts p2 (N1 h'.nd)⟩) _
  |j+2,hx,_,_=>cases hx
theorem tZ {W W':C3}(p1:W'.pts.Perm W.pts)(p2:W'.ts.Perm W.ts):(b8 W').Perm (b8 W):=(p1.map _).append (p2.map _)
theorem mh:∀{a b:List Str},a.Pairwise Bm->b.Pairwise Bm->(∀x,x∈a↔x∈b)->a=b
 |[],[],_,_,_=>rfl
 |[],y::t,_,_,h=>absurd ((h y).mpr FU) (by simp)
 |x::r,[],_,_,h=>absurd ((h x).mp FU) (by simp)
 |x::r,y::t,h1,h2,h=>by
  have NH:=IE.mp h1;have NI:=IE.mp h2;have Vr:∀z:Str,¬Bm z z:=λz=>List.lt_irrefl _;have e:x=y:=GU λne=>by
   rcases Gn.mp ((h x).mp FU) with z|z
   .exact ne z
   .rcases Gn.mp ((h y).mpr FU) with z'|z'
    .exact ne z'.symm
    .have q1:y.cps.toList<x.cps.toList:=NI.1 x z;have q2:x.cps.toList<y.cps.toList:=NH.1 y z';exact List.lt_asymm q1 q2
  subst e;rw[mh NH.2 NI.2 λz=>⟨λhz=>?_,λhz=>?_⟩]
  .rcases Gn.mp ((h z).mp (Gb _ hz)) with e|e
   .exact absurd (NH.1 z hz) (by rw[e];exact Vr _)
   .exact e
  .rcases Gn.mp ((h z).mpr (Gb _ hz)) with e|e
   .exact absurd (NI.1 z hz) (by rw[e];exact Vr _)
   .exact e
theorem Ordr.r1 {W:C3}{s1 s2:List Str}(h:Ordr W s1 s2)(nd:(b8 W).Nodup):s1.Pairwise Bm:=iG (lH h.o1 (h.p1.nodup_iff.mpr (E1 nd)))
theorem Ordr.r2 {W:C3}{s1 s2:List Str}(h:Ordr W s1 s2)(nd:(b8 W).Nodup):s2.Pairwise Bm:=iG (lH h.o2 (h.p2.nodup_iff.mpr (N1 nd)))
theorem Ordr.uniq {W W':C3}{s1 s2 t1 t2:List Str}(h:Ordr W s1 s2)(h':Ordr W' t1 t2)(p1:W'.pts.Perm W.pts)(p2:W'.ts.Perm W.ts)(nd:(b8 W).Nodup):t1=s1/\t2=s2:=by
 have C':(b8 W').Nodup:=(tZ p1 p2).nodup_iff.mpr nd;exact⟨mh (h'.r1 C') (h.r1 nd) λx=>by rw[h'.p1.mem_iff,h.p1.mem_iff,(p1.map _).mem_iff],mh (h'.r2 C') (h.r2 nd) λx=>by rw[h'.p2.mem_iff,h.p2.mem_iff,(p2.map _).mem_iff]⟩
def DK (H:Hp)(a:Addr):Prop:=∃k,H a=some (.dK k)
structure Wb (K:Kd) (H:Hp) (s:Sd):Prop where
 t:SqT K H s.a [.ref s.p,.ref s.q]
 p:DK H s.p
 q:DK H s.q
def V5 (gs:List Str)(W:C3):C3:=⟨W.pts.filter λx=>!decide (x.1∈gs),W.ts.filter λx=>!decide (x.1∈gs)⟩
def lF (gs:List Str)(W:C3):Bool:=(V5 gs W).ts.any λx=>decide (x.2.2.1∈gs)||decide (x.2.2.2∈gs)
def ir (K:Kd):Sp:=λvs H Q E=>∃(a l p q:Addr) (kvs:List (j4×V)) (W:C3) (gs:List Str),vs=[.ref a,.ref l]/\WebAt K H a p q kvs W/\H p=some (.dK (i6 W.pts))/\H q=some (.dK kvs)/\SqL K H l (gs.map V.str)/\(W.pts.map (·.1)).Nodup/\(W.ts.map (·.1)).Nodup/\W.pts.length<=60/\W.ts.length<=60/\(∀x∈W.ts,x.1.length<=100)/\
 if lF gs W=true then ∀H' e,Same H H'->H' e=none->E (.ref (cA K "Loose")) (some e) H' else NewP K H Q (V5 gs W)
theorem NewP.mono {K:Kd}{H H1:Hp}{Q:VK}{W:C3}(s:Same H H1)(k:NewP K H Q W):NewP K H1 Q W:=λa p q kvs W' H' s' h1 h2 h3 h4 h5 h6 h7 h8=>k a p q kvs W' H' (s.trans s') h1 h2 h3 h4 (s.free h5) (s.free h6) h7 h8
abbrev kC (P:Program)(w:World)(K:Kd)(mg:Str->Option Value)(base:Heap):Prop:=N8 P w K mg base (pq P w) 3 "without" ["web","names"] [] (ir K)
theorem pX {f:Addr}{fd:FuncData}(T:Txt K mg)(D5:af P w K mg base)(F:Fun K "without" "without" eY f fd):u9 P w K mg base (pq P w) 3 f fd ["web","names"] (ir K):=by
 refine F.okE sc_without (λvs H Q E h=>?_) (λc_ A outer s H vs Q E hr h=>?_)
 .obtain⟨a,l,p,q,kvs,W,gs,rfl,_⟩:=h;rfl
 .obtain⟨a,l,p,q,kvs,W,gs,rfl,hW,hp,hq,hL,nd1,Nf,l1,l2,Sq,k⟩:=h;have Lh:=j8 W.pts;have KI:=hW.ts.length;have hN:=sc_without.nd;have hu:=u6 hr;refine⟨_,QSs.r (z6 (z0 (i:=2) hN rfl (by walk_at "l") (gJ (R4 K rfl) T.b_dict Boot.«dict» (i7 (N0 (own:=["name","kind"]) (js:=[1]) (by kernel_rfl) rfl (aL (j6 (j7 K hu) (qV 0) d6 (λ_ _=>rfl))) (λ_ _ _ _=>(jz K rfl (U1 (F4 (i:=0) (show List.Nodup (["name","kind","names"]:List Str) by decide+kernel) rfl (by walk_at "l")) (U1 (F4 (i:=1) (show List.Nodup (["name","kind","names"]:List Str) by decide+kernel) rfl (by walk_at "l")) jA)))) (λ_ _ _ _=>(mU (p0 (K8 K hu) (qV 0) (qV 2) (by rfl)))) (λ_ _ _ _=>(J3 (i7 (qV 0) (i7 (qV 1) j5))))) j5)))
   (z6 (z0 (i:=3) hN rfl (by walk_at "l") (gJ (R4 K rfl) T.b_dict Boot.«dict» (i7 (N0 (own:=["name","tie"]) (js:=[1]) (by kernel_rfl) rfl (aL (j6 (j7 K hu) (qV 0) d6 (λ_ _=>rfl))) (λ_ _ _ _=>(jz K rfl (U1 (F4 (i:=0) (show List.Nodup (["name","tie","names"]:List Str) by decide+kernel) rfl (by walk_at "l")) (U1 (F4 (i:=1) (show List.Nodup (["name","tie","names"]:List Str) by decide+kernel) rfl (by walk_at "l")) jA)))) (λ_ _ _ _=>(mU (p0 (K8 K hu) (qV 0) (qV 2) (by rfl)))) (λ_ _ _ _=>(J3 (i7 (qV 0) (i7 (qV 1) j5))))) j5)))
   (z6 (Q9 PassesOwn.leaving rfl (P8 K (qB (O1 K rfl) T.b_sorted Boot.«sorted» (i7 (qV 3) j5))) (F4 (i:=4) hN rfl (by walk_at "l"))
    (C4 (cm (kG (fI (p0 (kIn K hu) (j6 (j7 K hu) (j6 (j7 K hu) (qV 3) (qV 4) (λ_ _=>rfl)) d6 (λ_ _=>rfl)) (qV 1) (by rfl)) (bB (p0 (kIn K hu) (j6 (j7 K hu) (j6 (j7 K hu) (qV 3) (qV 4) (λ_ _=>rfl)) d6 (λ_ _=>rfl)) (qV 1) (by rfl))))) (C4 (my gM T.r_Loose rfl (i7 (Fd (qV 4)) j5))) cU)))
   (C4 (A3 (qC D5 (hr.mono (by decide)) k7 (i7 (J3 (i7 (qV 2) (i7 (qV 3) j5))) j5))))))),?_⟩
  walk_at "r";refine b5 hW.tup (b6 (j:=0) rfl) ?_;refine L7 hp (λQQ o1=>?_);refine z7 (n:=(i6 W.pts).length) (λi out H'=>Same (z8 p o1 (i6 W.pts) H) H'/\Paired (PrV K H') out (i6 ((W.pts.take i).filter λx=>!decide (x.1∈gs)))) ⟨Same.refl _,.nil⟩ (λi out H' hi hp=>⟨hp.1 _ _ d8,hi⟩) ?_ ?_
  .rintro N i v out H1 H2 hi ⟨s1,pr⟩ ⟨t,kv,d_,nt,rfl,rfl⟩ hN';obtain⟨x,hx,rfl⟩:=Q5 d_;obtain⟨H3,e3,f3,m3,_⟩:=b9 (o:= .tup _) nt;rw[e3];have L3:=((K9 (o:=o1) hp).trans (s1.trans m3).le).lst hL;have e7:W.pts.take (i+1)=W.pts.take i++[x]:=by rw[Gq,hx];rfl
   have q_:=GV pr;have x_:=FK (λx:Str×Str=>!decide (x.1∈gs)) (W.pts.take i);rw[j8] at q_;rw[FO] at x_;refine J1 (SqT.of f3) rfl ?_;walk_at "r";refine⟨rfl,?_⟩;walk_at "r";refine J0 L3 ?_;walk_at "r";refine gW (λhb=>?_) (λhb=>?_)
   .walk_at "r";refine⟨d9 (by simp),λt4 n4=>?_⟩;obtain⟨H4,e4,f4,m4,_⟩:=b9 (o:= .tup _) n4;rw[e4];refine⟨d9 (by lia),hN' _ _ ⟨s1.trans (m3.trans m4),?_⟩⟩;rw[e7,Gv,Gu (by rw[hb];rfl),GL];unfold i6 at pr⊢;rw[FF];exact E2 (Paired.imp' (λ_ _ z=>PrV.mono (m3.trans m4).le z) pr) ⟨t4,rfl,SqT.of f4⟩
   .refine hN' _ _ ⟨s1.trans m3,?_⟩;rw[e7,Gv,GA (by rw[hb];simp),GL,Gw];exact Paired.imp' (λ_ _ z=>PrV.mono m3.le z) pr
  .rintro out H1 ⟨s1,pr⟩;have q_:=GV pr;have x_:=FK (λx:Str×Str=>!decide (x.1∈gs)) (W.pts.take (i6 W.pts).length);rw[j8] at q_;rw[FO] at x_;refine⟨⟨s1 _ _ d8,Fz _⟩,λD hD=>⟨d9 (by lia),?_⟩⟩;have sM:=M0 hp s1 hD (u:= .lst out);have fM:=U9 s1 hD (u:= .lst out);have NP:=Paired.imp' (λ_ _ z=>PrV.mono (mf (d:=p) (u:= .lst out) hD) z) pr;generalize thaw p (upd H1 D (.lst out))=HM at sM fM NP⊢;rw[FL (by lia)] at NP;walk_at "r";refine P5 (SqL.of fM) NP (d9 (by rw[j8];refine GB (FK _ _) ?_;lia)) (λpp npp=>?_);have eP:gh (i6 (W.pts.filter λx=>!decide (x.1∈gs)))=i6 (V5 gs W).pts:=aj (U4 (M4 nd1));rw[eP];obtain⟨H2,e2,f2,m2,_⟩:=b9 (o:= .dK (i6 (V5 gs W).pts)) npp;show O5 _ _ _ (upd HM pp (.dK (i6 (V5 gs W).pts))) _;rw[e2];have s2:=sM.trans m2;have W2:=hW.mono s2.le;have MV:=s2 _ _ hq;have XD:=s2.seq hL;walk_at "r";refine b5 W2.tup (b6 (j:=1) rfl) ?_;refine L7 MV (λMO o2=>?_);refine z7 (n:=kvs.length) (λi out H'=>Same (z8 q o2 kvs H2) H'/\Paired (PrV K H') out ((kvs.take i).filter λkv=>!dy gs kv.1)) ⟨Same.refl _,.nil⟩ (λi out H' hi hp=>⟨hp.1 _ _ d8,hi⟩) ?_ ?_
   .rintro N i v out H3 Ml hi ⟨s3,pr3⟩ ⟨t,kv,d_,nt,rfl,rfl⟩ hN';obtain⟨H4,e4,f4,m4,_⟩:=b9 (o:= .tup _) nt;rw[e4];have Mc:=(K9 (o:=o2) MV).trans (s3.trans m4).le;have L4:=Mc.lst XD;obtain⟨x,hx,ex,b,eb,sb⟩:=(W2.ts.mono Mc).get d_;obtain⟨kk,MQ⟩:=kv;have Lx:kk=Sum.inr x.1:=ex;have MR:MQ= .ref b:=eb;subst Lx MR;have e7:kvs.take (i+1)=kvs.take i++[(Sum.inr x.1,.ref b)]:=by rw[Gq,d_];rfl
    have S':=GV pr3;have KS:=FK (λkv:j4×V=>!dy gs kv.1) (kvs.take i);rw[FO] at KS;refine J1 (SqT.of f4) rfl ?_;walk_at "r";refine⟨rfl,?_⟩;walk_at "r";refine J0 L4 ?_;walk_at "r";refine gW (λhb=>?_) (λhb=>?_)
    .walk_at "r";refine⟨d9 (by simp),λt5 n5=>?_⟩;obtain⟨H5,e5,f5,m5,_⟩:=b9 (o:= .tup _) n5;rw[e5];refine⟨d9 (by lia),hN' _ _ ⟨s3.trans (m4.trans m5),?_⟩⟩;rw[e7,Gv,Gu (p:=λkv:j4×V=>!dy gs kv.1) (by show(!decide (x.1∈gs))=true;rw[hb];rfl),GL];exact E2 (Paired.imp' (λ_ _ z=>PrV.mono (m4.trans m5).le z) pr3) ⟨t5,rfl,SqT.of f5⟩
    .refine hN' _ _ ⟨s3.trans m4,?_⟩;rw[e7,Gv,GA (p:=λkv:j4×V=>!dy gs kv.1) (by show ¬(!decide (x.1∈gs))=true;rw[hb];simp),GL,Gw];exact Paired.imp' (λ_ _ z=>PrV.mono m4.le z) pr3
   .rintro MW H3 ⟨s3,pr3⟩;have S':=GV pr3;have KS:=FK (λkv:j4×V=>!dy gs kv.1) (kvs.take kvs.length);rw[FO] at KS;refine⟨⟨s3 _ _ d8,Fz _⟩,λD3 hD3=>⟨d9 (by lia),?_⟩⟩;have S_:=M0 MV s3 hD3 (u:= .lst MW);have Vs:=U9 s3 hD3 (u:= .lst MW);have NQ:=Paired.imp' (λ_ _ z=>PrV.mono (mf (d:=q) (u:= .lst MW) hD3) z) pr3;generalize thaw q (upd H3 D3 (.lst MW))=HM3 at S_ Vs NQ⊢;rw[FL (Fz _)] at NQ;have QR:((kvs.filter λkv=>!dy gs kv.1).map (·.1)).Nodup:=M4 MO;walk_at "r";refine P5 (SqL.of Vs) NQ (d9 (by refine GB (FK _ _) ?_;lia)) (λqq nqq=>?_);rw[aj QR];obtain⟨H4,e4,f4,m4,_⟩:=b9 (o:= .dK (kvs.filter λkv=>!dy gs kv.1)) nqq;show O5 _ _ _ (upd HM3 qq _) _;rw[e4];have s4:=s2.trans (S_.trans m4);have W4:=hW.mono s4.le;have TT:TiesIs K H4 (kvs.filter λkv=>!dy gs kv.1) (V5 gs W).ts:=Q4 (λkv x z=>by rw[z.1];rfl) W4.ts;have Pm:=(S_.trans m4) _ _ f2;generalize XE:(kvs.filter λkv=>!dy gs kv.1)=kvf at TT f4 QR;have Zt:kvf.length<=60:=by rw[←XE];refine GB (FK _ _) ?_;lia
    have L4:=s4.seq hL;walk_at "r";refine A9 (ss:=(V5 gs W).ts.map (·.1)) (.inl f4) (by rw[TT.keys,A8]) (by rw[Fv,←TT.length];lia) (λs1 a1 a2 ls1 n1=>?_);obtain⟨H5,e5,f5,m5,_⟩:=b9 (o:= .lst _) n1;rw[e5];have ndt:((V5 gs W).ts.map (·.1)).Nodup:=M4 Nf;refine C6 (SqL.of f5) ?_;refine C8 (n:=s1.length) (λi σ H'=>Same H5 H'/\(∃v4,σ=[some (.ref a),some (.ref l),some (.ref pp),some (.ref qq),v4])/\∀n∈s1.take i,∀t:N3,(n,t)∈(V5 gs W).ts->(decide (t.2.1∈gs)||decide (t.2.2∈gs))=false) ⟨Same.refl _,⟨_,rfl⟩,by simp⟩ (λi σ H' hi hp=>⟨_,.str (s1[i]),SqL.of (hp.1 _ _ f5),by rw[FD,Fw hi];rfl⟩) ?_ ?_
    .rintro i v σ H6' H6 hi ⟨s6,⟨v4,rfl⟩,ha⟩ y;obtain⟨rfl,hx⟩:=Itl.get y (SqL.of (s6 _ _ f5));rw[FD] at hx;obtain⟨nm,g_,rfl⟩:=Gj.mp hx;have Li:=a1.mem_iff.mp (FI g_);obtain⟨⟨Oq,tt⟩,n_,rfl⟩:=Fx.mp Li;have Ot:=m5.trans s6;obtain⟨c,ev,sc⟩:=lS (TT.mono Ot.le) ndt n_;have L6:=Ot.seq L4;have F6:Rd H6 qq (.dK kvf):= .inl (Ot _ _ f4);have loud:(decide (tt.2.1∈gs)||decide (tt.2.2∈gs))=true->∀e,H6 e=none->E (.ref (cA K "Loose")) (some e) H6:=λhb e he=>by
      have hl:lF gs W=true:=Hg.mpr ⟨_,n_,hb⟩;rw[if_pos hl] at k;exact k H6 e (s4.trans Ot) he
     have Vt:Oq.length<=100:=Sq _ (FJ.mp n_).1;have Vu:(" is not taken out, but an end of it is":Str).length<=100:=by decide+kernel
     walk_at "r";refine k9 (v:= .ref c) (by have z':=F5 (k:=Sum.inr Oq) F6;rw[ev] at z';exact z') ?_;walk_at "r";refine b5 sc (b6 (j:=1) rfl) ?_;walk_at "r";refine cf L6 ?_;walk_at "r";refine L5 (λh1=>?_) (λh1=>?_)
     .walk_at "r";refine⟨Oq,rfl,by lia,λz=>?_⟩;walk_at "r";exact⟨d9 (by simp),loud (by rw[FZ h1];rfl)⟩
     .walk_at "r";refine k9 (v:= .ref c) (by have z':=F5 (k:=Sum.inr Oq) F6;rw[ev] at z';exact z') ?_;walk_at "r";refine b5 sc (b6 (j:=2) rfl) ?_;walk_at "r";refine cf L6 ?_;walk_at "r";refine L5 (λh2=>?_) (λh2=>?_)
      .walk_at "r";refine⟨Oq,rfl,by lia,λz=>?_⟩;walk_at "r";exact⟨d9 (by simp),loud (by rw[FZ h2,Bool.or_true])⟩
      .walk_at "r";refine⟨s6,⟨_,rfl⟩,λn hn t ht=>?_⟩;rw[Gq,g_] at hn;rcases FC.mp hn with h'|h'
       .exact ha n h' t ht
       .have Mw:n=Oq:=by simpa using h'
        subst Mw;rw[u7 ndt ht n_,Ge h1,Ge h2];rfl
    .rintro σ H6 ⟨s6,⟨v4,rfl⟩,ha⟩;refine⟨⟨_,SqL.of (s6 _ _ f5),by rw[Fv];exact Fz _⟩,?_⟩;rw[FL (Fz _)] at ha;have hl:¬lF gs W=true:=λz=>by
      obtain⟨x,hx,hb⟩:=Hg.mp z;rw[ha x.1 (a1.mem_iff.mpr (Fx.mpr ⟨x,hx,rfl⟩)) x.2 hx] at hb;cases hb
     rw[if_neg hl] at k;have Ot:=m5.trans s6;walk_at "r";refine⟨d9 (by simp),λt9 n9=>?_⟩;obtain⟨H9,e9,f9,m9,_⟩:=b9 (o:= .tup _) n9;rw[e9];have QU:=Ot.trans m9;walk_at "r";exact⟨t9,pp,qq,kvf,V5 gs W,rfl,⟨SqT.of f9,.inl (QU _ _ Pm),.inl (QU _ _ f4),TT.mono QU.le⟩,M4 nd1,ndt,GB (FK _ _) l1,GB (FK _ _) l2,NewP.mono (s4.trans QU) k⟩
def bz (K:Kd):Sp:=λvs H Q _=>∃(t d:Addr) (x:N3) (kvm:List (j4×V)),vs=[.ref t,.ref d]/\SqT K H t (W0 x)/\Rd H d (.dK kvm)/\TxtAt kvm x.2.1/\TxtAt kvm x.2.2/\∀(l:Addr) (H':Hp),H l=none->Same H H'->H' l=some (.tup (W0 (x.1,i9 kvm x.2.1,i9 kvm x.2.2)))->Q (.ref l) H'
def qN (K:Kd):Sp:=λvs H Q _=>∃(a p q d:Addr) (kvs:List (j4×V)) (W:C3) (kvm:List (j4×V)),vs=[.ref a,.ref d]/\WebAt K H a p q kvs W/\(b8 W).length<=60/\Rd H d (.dK kvm)/\(∀n∈b8 W,TxtAt kvm n)/\∀(l:Addr) (H':Hp) (s1 s2:List Str),H l=none->Same H H'->H' l=some (.lst (((s1++s2).map (i9 kvm)).map V.str))->Ordr W s1 s2->Q (.ref l) H'
abbrev Z1 (P:Program)(w:World)(K:Kd)(mg:Str->Option Value)(base:Heap):Prop:=N8 P w K mg base C0 1 "tie_renamed" ["tie","names"] [] (bz K)
theorem ju {f:Addr}{fd:FuncData}(T:Txt K mg)(F:Fun K "tie_renamed" "tie_renamed" Y2 f fd):u9 P w K mg base C0 1 f fd ["tie","names"] (bz K):=by
 refine F.ok sc_tie_renamed (λvs H Q E h=>?_) (λc_ A outer s H vs Q E hr h=>?_)
 .obtain⟨t,d,x,kvm,rfl,_⟩:=h;rfl
 .obtain⟨t,d,⟨x1,x2,x3⟩,kvm,rfl,hT,hD,k1,k2,k⟩:=h;have hN:=sc_tie_renamed.nd;have hu:=u6 hr;refine⟨_,QSs.r (C4 (A3 (J3 (i7 (j6 (j7 K hu) (qV 0) d6 (λ_ _=>rfl)) (i7 (j6 (j7 K hu) (qV 1) (j6 (j7 K hu) (qV 0) d6 (λ_ _=>rfl)) (λ_ _=>rfl)) (i7 (j6 (j7 K hu) (qV 1) (j6 (j7 K hu) (qV 0) d6 (λ_ _=>rfl)) (λ_ _=>rfl)) j5)))))),?_⟩;walk_at "r";refine b5 hT (b6 (j:=0) rfl) ?_;walk_at "r";refine b5 hT (b6 (j:=1) rfl) ?_;refine vo hD k1 ?_;walk_at "r";refine b5 hT (b6 (j:=2) rfl) ?_;refine vo hD k2 ?_;walk_at "r";refine⟨d9 (by simp),λl9 n9=>?_⟩;obtain⟨H9,e9,f9,m9,_⟩:=b9 (o:= .tup _) n9;rw[e9];exact k l9 H9 n9 m9 f9
abbrev vT (P:Program)(w:World)(K:Kd)(mg:Str->Option Value)(base:Heap):Prop:=N8 P w K mg base C0 2 "line" ["piece","match"] [] (qN K)
theorem xF {f:Addr}{fd:FuncData}(T:Txt K mg)(E6:Z8 P w K mg base)(F:Fun K "line" "line" pP f fd):u9 P w K mg base C0 2 f fd ["piece","match"] (qN K):=by
 refine F.ok sc_line (λvs H Q E h=>?_) (λc_ A outer s H vs Q E hr h=>?_)
 .obtain⟨a,p,q,d,kvs,W,kvm,rfl,_⟩:=h;rfl
 .obtain⟨a,p,q,d,kvs,W,kvm,rfl,hW,hl,hD,hT,k⟩:=h;have hN:=sc_line.nd;have hu:=u6 hr;refine⟨_,QSs.r (C4 (A3 (N0 (own:=["name"]) (js:=[1]) (by kernel_rfl) rfl (P8 K (qC E6 (hr.mono (by decide)) k7 (i7 (qV 0) j5))) (λ_ _ _ _=>(F4 (i:=0) (show List.Nodup (["name","match"]:List Str) by decide+kernel) rfl (by walk_at "l"))) (λ_ _ _ _=>aR) (λ_ _ _ _=>(j6 (j7 K hu) (qV 1) (qV 0) (λ_ _=>rfl)))))),?_⟩;walk_at "r";refine⟨a,p,q,kvs,W,rfl,hW,hl,λl1 H1 s1 s2 n1 m1 f1 or=>?_⟩;have hlen:=or.len;refine C6 (SqL.of f1) ?_;refine z7 (n:=(s1++s2).length) (λi out H'=>Same H1 H'/\out=((s1++s2).take i).map λn=>V.str (i9 kvm n)) ⟨Same.refl _,rfl⟩ (λi out H' hi hp=>⟨_,.str ((s1++s2)[i]),SqL.of (hp.1 _ _ f1),by rw[FD,Fw hi];rfl⟩) ?_ ?_
  .rintro N i v out H2 H3 hi ⟨s3,rfl⟩ y hN';obtain⟨rfl,hx⟩:=Itl.get y (SqL.of (s3 _ _ f1));rw[FD,Fw hi] at hx;cases hx;walk_at "r";refine⟨rfl,?_⟩;walk_at "r";refine vo ((m1.trans s3).rd hD) (hT _ (or.mem.mp (Gd hi))) ?_;refine⟨d9 (by rw[Fv,FO];lia),hN' _ _ ⟨s3,?_⟩⟩;exact K6 (λn:Str=>V.str (i9 kvm n)) (Fw hi)
  .rintro out H2 ⟨s3,rfl⟩;refine⟨⟨_,SqL.of (s3 _ _ f1),by rw[Fv];exact Fz _⟩,λD hD'=>⟨d9 (by rw[Fv,FO];lia),?_⟩⟩;rw[FL (Fz _)];obtain⟨H3,e3,f3,m3,_⟩:=b9 (o:= .lst ((s1++s2).map λn=>V.str (i9 kvm n))) hD';refine k D _ s1 s2 ((m1.trans s3).free hD') ?_ ?_ or
   .show Same _ (upd _ D _);rw[e3];exact m1.trans (s3.trans m3)
   .show upd _ D _ D=_;rw[d8,Gg];rfl
structure pT (P W:C3) (kvm:List (j4×V)):Prop where
 len:kvm.length=(b8 P).length
 txt:∀n∈b8 P,TxtAt kvm n
 nd:((b8 P).map (i9 kvm)).Nodup
 pts:∀x∈P.pts,(i9 kvm x.1,x.2)∈W.pts
 ts:∀x∈P.ts,(i9 kvm x.1,(x.2.1,i9 kvm x.2.2.1,i9 kvm x.2.2.2))∈W.ts
open Classical in
noncomputable def so (P W:C3)(kvm:List (j4×V)):Bool:=decide (pT P W kvm)
open Classical in
theorem hJ {P W:C3}{kvm:List (j4×V)}(h:¬pT P W kvm):so P W kvm=false:=by unfold so;exact Ge h
open Classical in
theorem qP {P W:C3}{kvm:List (j4×V)}(h:pT P W kvm):so P W kvm=true:=by unfold so;exact FZ h
def Ej (K:Kd)(PG:Program)(w:World)(H:Hp)(mv:V)(P W:C3)(b:Bool):Prop:=
 (∃t,TyB K H mv t/\t≠"dict"/\b=false)\/
 (∃d n,mv= .ref d/\H d=some (.ext (aA PG w d n))/\n<=1000/\n≠(b8 P).length/\b=false)\/
 (∃d kvm,mv= .ref d/\H d=some (.dK kvm)/\(kvm.map (·.1)).Nodup/\kvm.length<=100/\(∀kv∈kvm,∃t,TyB K H kv.2 t)/\b=so P W kvm)
theorem Ax {t:String}(h:t≠"dict"):dY t "dict"=false:=by
 unfold dY;rw[show(t=="dict")=false by simpa using h];simp
def xb (kvm:List (j4×V))(n:Str):Bool:=match A2 kvm (Sum.inr n:j4) with
 |some (.str _)=>true
 |_=>false
theorem txB_iff {kvm:List (j4×V)}{n:Str}:xb kvm n=true↔TxtAt kvm n:=by
 unfold xb TxtAt;constructor
 .intro h;split at h
  .next s e=>exact⟨s,e⟩
  .cases h
 .rintro⟨s,e⟩;rw[e]
theorem zb {H:Hp}{v:V}{t:String}(h:TyB K H v t):dY t "str"=(match v with| .str _=>true|_=>false):=by
 cases v with
 |non=>cases h;rfl
 |bl _=>cases h;rfl
 |int _=>cases h;rfl
 |str _=>cases h;rfl
 |ref a=>rcases h with⟨rfl,_⟩|⟨rfl,_⟩|⟨rfl,_⟩<;>rfl
 |_=>exact h.elim
theorem zD {H:Hp}{kvm:List (j4×V)}(h:∀kv∈kvm,∃t,TyB K H kv.2 t)(n:Str):∃t,TyB K H ((A2 kvm (Sum.inr n:j4)).getD .non) t/\dY t "str"=xb kvm n:=by
 unfold xb;cases e:A2 kvm (Sum.inr n:j4) with
 |none=>exact⟨"NoneType",rfl,rfl⟩
 |some v=>
  obtain⟨t,ht⟩:=h _ (gR e)
  refine⟨t,ht,?_⟩
  rw[zb (v:=v) ht]
  cases v<;>rfl
def gc (K:Kd)(P:Program)(w:World):Sp:=λvs H Q _=>∃(a p q a' p' q':Addr) (kvs h_:List (j4×V)) (Pc W:C3) (mv:V) (b:Bool),vs=[.ref a,.ref a',mv]/\WebIs 60 K H a p q kvs Pc/\WebIs 60 K H a' p' q' h_ W/\Ej K P w H mv Pc W b/\∀H',Same H H'->Q (.bl b) H'
abbrev iT (P:Program)(w:World)(K:Kd)(mg:Str->Option Value)(base:Heap):Prop:=N8 P w K mg base C0 3 "is_match" ["piece","web","match"] [] (gc K P w)
theorem oH {f:Addr}{fd:FuncData}(T:Txt K mg)(E6:Z8 P w K mg base)(pw:vT P w K mg base)(K7:Z1 P w K mg base)(F:Fun K "is_match" "is_match" cZ f fd):u9 P w K mg base C0 3 f fd ["piece","web","match"] (gc K P w):=by
 refine F.ok sc_is_match (λvs H Q E h=>?_) (λc_ A outer s H vs Q E hr h=>?_)
 .obtain⟨a,p,q,a',p',q',kvs,h_,Pc,W,mv,b,rfl,_⟩:=h;rfl
 .obtain⟨a,p,q,a',p',q',kvs,h_,Pc,W,mv,b,rfl,hP,hW,hM,k⟩:=h;have XF:=hP.len;have hN:=sc_is_match.nd;have hu:=u6 hr;refine⟨_,QSs.r (z6 (z0 (i:=3) hN rfl (by walk_at "l") (qC E6 (hr.mono (by decide)) k7 (i7 (qV 0) j5)))
   (z6 (cm (kG (fI (Z5 (Z7 K (qB (dC K P w) T.b_isinstance Boot.«isinstance» (i7 (qV 2) (i7 (yl "dict" T.b_dict Boot.«dict») j5))))) (bB (p0 (aX K hr) (qB (B8 K P w) T.b_len Boot.«len» (i7 (qV 2) j5)) (qB (B8 K P w) T.b_len Boot.«len» (i7 (qV 3) j5)) (r9 _))))) (C4 (A3 rh)) cU)
   (z6 (cm (Z5 (Z7 K (qB (wg K rfl) T.b_all Boot.«all» (i7 (N0 (own:=["name"]) (js:=[2]) (by kernel_rfl) rfl (P8 K (qV 3)) (λ_ _ _ _=>(F4 (i:=0) (show List.Nodup (["name","match"]:List Str) by decide+kernel) rfl (by walk_at "l"))) (λ_ _ _ _=>aR) (λ_ _ _ _=>(qB (dC K P w) T.b_isinstance Boot.«isinstance» (i7 (qQ hu (qV 1) (qV 0)) (i7 (yl "str" T.b_str Boot.«str») j5))))) j5)))) (C4 (A3 rh)) cU)
   (z6 (cm (p0 (aX K hr) (qB (B8 K P w) T.b_len Boot.«len» (i7 (gJ (BX K rfl) T.b_set Boot.«set» (i7 (qC pw (hr.mono (by decide)) k7 (i7 (qV 0) (i7 (qV 2) j5))) j5)) j5)) (qB (B8 K P w) T.b_len Boot.«len» (i7 (qV 3) j5)) (r9 _)) (C4 (A3 rh)) cU)
   (z6 (cm (Z5 (Z7 K (qB (wg K rfl) T.b_all Boot.«all» (i7 (N0 (own:=["name","kind"]) (js:=[2,1]) (by kernel_rfl) rfl (aL (j6 (j7 K hu) (qV 0) d6 (λ_ _=>rfl))) (λ_ _ _ _=>(jz K rfl (U1 (F4 (i:=0) (show List.Nodup (["name","kind","match","web"]:List Str) by decide+kernel) rfl (by walk_at "l")) (U1 (F4 (i:=1) (show List.Nodup (["name","kind","match","web"]:List Str) by decide+kernel) rfl (by walk_at "l")) jA)))) (λ_ _ _ _=>aR) (λ_ _ _ _=>(eG (ah K hr) (qQ hu (j6 (j7 K hu) (qV 3) d6 (λ_ _=>rfl)) (j6 (j7 K hu) (qV 2) (qV 0) (λ_ _=>rfl))) (qV 1) (r9 _)))) j5)))) (C4 (A3 rh)) cU)
   (C4 (A3 (qB (wg K rfl) T.b_all Boot.«all» (i7 (N0 (own:=["name","tie"]) (js:=[2,1]) (by kernel_rfl) rfl (aL (j6 (j7 K hu) (qV 0) d6 (λ_ _=>rfl))) (λ_ _ _ _=>(jz K rfl (U1 (F4 (i:=0) (show List.Nodup (["name","tie","match","web"]:List Str) by decide+kernel) rfl (by walk_at "l")) (U1 (F4 (i:=1) (show List.Nodup (["name","tie","match","web"]:List Str) by decide+kernel) rfl (by walk_at "l")) jA)))) (λ_ _ _ _=>aR) (λ_ _ _ _=>(eG (ah K hr) (qQ hu (j6 (j7 K hu) (qV 3) d6 (λ_ _=>rfl)) (j6 (j7 K hu) (qV 2) (qV 0) (λ_ _=>rfl))) (qC K7 (hr.mono (by decide)) k7 (i7 (qV 1) (i7 (qV 2) j5))) (r9 _)))) j5))))))))),?_⟩
  walk_at "r";refine⟨a,p,q,kvs,Pc,rfl,hP.at_,by lia,λln H1 s1 s2 n1 m1 f1 or=>?_⟩;have hlen:=or.len;walk_at "r";rcases hM with⟨t,ty,ht,rfl⟩|⟨d,n,rfl,hd,hn,l_,rfl⟩|⟨d,kvm,rfl,XG,Pn,Zu,MB,rfl⟩
  .refine bO (bN (ty.mono m1) (by simp) ?_);rw[Ax ht];walk_at "r";exact k _ m1
  .refine .inr ⟨d,n,"dict",rfl,m1 _ _ hd,by simp,?_⟩;rw[wB];walk_at "r";refine ui (m1 _ _ hd) hn ?_;walk_at "r";refine B7 (k8 (SqL.of f1) ?_);rw[Fv,hlen];walk_at "r";refine J5 (λhz=>?_) (λhz=>absurd (Kr.mp hz) l_);walk_at "r";exact k _ m1
  have hD:Rd H d (.dK kvm):= .inl XG;have D1:=m1.rd hD;refine bO (bN (t:="dict") (.inr (.inr ⟨rfl,_,D1⟩)) (by simp) ?_);rw[wB];walk_at "r";refine B7 (Z4 D1 ?_);walk_at "r";refine B7 (k8 (SqL.of f1) ?_);rw[Fv,hlen];walk_at "r";refine J5 (λhz=>?_) (λhz=>?_)
  .walk_at "r";rw[←hJ (P:=Pc) (W:=W) (kvm:=kvm) (λz=>hz (by rw[z.len]))];exact k _ m1
  have QB:kvm.length=(b8 Pc).length:=Kr.mp hz;walk_at "r";refine C6 (SqL.of f1) ?_;refine z7 (n:=(s1++s2).length) (λi out H'=>Same H1 H'/\out=((s1++s2).take i).map λn=>V.bl (xb kvm n)) ⟨Same.refl _,rfl⟩ (λi out H' hi hp=>⟨_,.str ((s1++s2)[i]),SqL.of (hp.1 _ _ f1),by rw[FD,Fw hi];rfl⟩) ?_ ?_
  .rintro N i v out H2 H3 hi ⟨s3,rfl⟩ y hN';obtain⟨rfl,hx⟩:=Itl.get y (SqL.of (s3 _ _ f1));rw[FD,Fw hi] at hx;cases hx;walk_at "r";refine⟨rfl,?_⟩;walk_at "r";refine⟨d,rfl,.inl ⟨_,s3.rd D1⟩,?_⟩;walk_at "r";refine⟨_,F5 (k:=Sum.inr (s1++s2)[i]) (s3.rd D1),?_⟩;obtain⟨t,ht,e⟩:=zD (K:=K) MB (s1++s2)[i];walk_at "r";refine bO (bN (ht.mono (m1.trans s3)) (by simp) ?_);rw[e];refine⟨d9 (by rw[Fv,FO];lia),hN' _ _ ⟨s3,?_⟩⟩;exact K6 (λn:Str=>V.bl (xb kvm n)) (Fw hi)
  .rintro out H2 ⟨s3,rfl⟩;refine⟨⟨_,SqL.of (s3 _ _ f1),by rw[Fv];exact Fz _⟩,λD hD'=>⟨d9 (by rw[Fv,FO];lia),?_⟩⟩;rw[FL (Fz _)];have e9:((s1++s2).map λn=>V.bl (xb kvm n))=((s1++s2).map (xb kvm)).map V.bl:=by rw[Gg];rfl
   rw[e9];obtain⟨H3,e3,f3,m3,_⟩:=b9 (o:= .lst (((s1++s2).map (xb kvm)).map V.bl)) hD';have m4:=m1.trans (s3.trans m3);have f4:=m3 _ _ (s3 _ _ f1);walk_at "r";change vh K _ (upd H2 D _) _;rw[e3];refine om (SqL.of f3) ?_;walk_at "r";refine gW (λhb=>?_) (λhb=>?_)
   .walk_at "r";rw[←hJ (P:=Pc) (W:=W) (kvm:=kvm) (λz=>?_)]
    .exact k _ m4
    .have:((s1++s2).map (xb kvm)).all id=true:=by
      rw[HC,Gk];exact λn hn=>txB_iff.mpr (z.txt n (or.mem.mp hn))
     rw[this] at hb;cases hb
   have hT:∀n∈b8 Pc,TxtAt kvm n:=λn hn=>by
    rw[HC,Gk] at hb;exact txB_iff.mp (hb n (or.mem.mpr hn))
   walk_at "r";refine⟨a,p,q,d,kvs,Pc,kvm,rfl,hP.at_.mono m4.le,by lia,m4.rd hD,hT,λl5 H5 r1 r2 n5 m5 f5 or5=>?_⟩;have Po:=or5.len;walk_at "r";refine⟨l5,_,rfl,SqL.of f5,by rw[Fv];lia,λl6 n6=>?_⟩;obtain⟨H6,e6,f6,m6,_⟩:=b9 (o:= .ext (dn l6 (fv ((r1++r2).map (i9 kvm))).length)) n6;rw[e6];walk_at "r";have NR:(fv ((r1++r2).map (i9 kvm))).length<=1000:=by
    have z:=ia ((r1++r2).map (i9 kvm)) [];rw[Fv] at z;unfold fv;simp only[JL] at z;lia
   refine kr f6 NR ?_;walk_at "r";refine B7 (k8 (SqL.of (m6 _ _ (m5 _ _ f4))) ?_);rw[Fv,hlen];walk_at "r";have m7:=m4.trans (m5.trans m6);have Pp:(fv ((r1++r2).map (i9 kvm))).length=(b8 Pc).length↔((b8 Pc).map (i9 kvm)).Nodup:=by
    have z:=oy ((r1++r2).map (i9 kvm));rw[Fv,Po] at z;rw[z];exact(or5.perm.map _).nodup_iff
   refine J5 (λQV=>?_) (λQV=>?_)
   .walk_at "r";rw[←hJ (P:=Pc) (W:=W) (kvm:=kvm) (λz=>QV (by rw[Pp.mpr z.nd]))];exact k _ m7
   have Jr:=Pp.mp (Kr.mp QV);clear QV;have D7:=m7.rd hD;have Ta:=m7 _ _ hP.hp;have P7:=hP.same m7;have W7:=hW.same m7;have Tb:=j8 Pc.pts;have KI:=hP.at_.ts.length;rw[A5] at XF;walk_at "r";refine b5 P7.at_.tup (b6 (j:=0) rfl) ?_;refine L7 Ta (λQQ o8=>?_);refine z7 (n:=(i6 Pc.pts).length) (λi out H'=>Same (z8 p o8 (i6 Pc.pts) H6) H'/\out=(Pc.pts.take i).map λx=>V.bl (decide ((i9 kvm x.1,x.2)∈W.pts))) ⟨Same.refl _,rfl⟩ (λi out H' hi hp=>⟨hp.1 _ _ d8,hi⟩) ?_ ?_
   .rintro N i v out H8' H8 hi ⟨s8,rfl⟩ ⟨t,kv,d_,nt,rfl,rfl⟩ hN';obtain⟨x,hx,rfl⟩:=Q5 d_;obtain⟨H9,e9,f9,m9,_⟩:=b9 (o:= .tup _) nt;rw[e9];have Ou:=(K9 (o:=o8) Ta).trans (s8.trans m9).le;have W9:=W7.at_.mono Ou;have D9:=Ou.dic D7;refine J1 (SqT.of f9) rfl ?_;walk_at "r";refine⟨rfl,?_⟩;walk_at "r";refine b5 W9.tup (b6 (j:=0) rfl) ?_;refine⟨p',rfl,.inl ⟨_,W9.pts⟩,?_⟩;walk_at "r";refine vo D9 (hT _ (Fy _ (Fx.mpr ⟨x,FI hx,rfl⟩))) ?_;refine⟨_,F5 (k:=Sum.inr (i9 kvm x.1)) W9.pts,?_⟩;walk_at "r";refine BO (E1 W7.nd) ?_;refine⟨d9 (by rw[Fv,FO];lia),hN' _ _ ⟨s8.trans m9,?_⟩⟩;exact K6 (λx:Str×Str=>V.bl (decide ((i9 kvm x.1,x.2)∈W.pts))) hx
   .rintro out H8 ⟨s8,rfl⟩;refine⟨⟨s8 _ _ d8,Fz _⟩,λD8 hD8=>⟨d9 (by rw[Fv,FO];lia),?_⟩⟩;rw[Tb,FL (Fz _)];have OT:(Pc.pts.map λx=>V.bl (decide ((i9 kvm x.1,x.2)∈W.pts)))=(Pc.pts.map λx=>decide ((i9 kvm x.1,x.2)∈W.pts)).map V.bl:=by rw[Gg];rfl
    rw[OT];have sM:=M0 Ta s8 hD8 (u:= .lst ((Pc.pts.map λx=>decide ((i9 kvm x.1,x.2)∈W.pts)).map V.bl));have fM:=U9 s8 hD8 (u:= .lst ((Pc.pts.map λx=>decide ((i9 kvm x.1,x.2)∈W.pts)).map V.bl));generalize thaw p (upd H8 D8 (.lst ((Pc.pts.map λx=>decide ((i9 kvm x.1,x.2)∈W.pts)).map V.bl)))=HM at sM fM⊢;walk_at "r";refine om (SqL.of fM) ?_;walk_at "r";have mM:=m7.trans sM;refine gW (λLa=>?_) (λLa=>?_)
    .walk_at "r";rw[←hJ (P:=Pc) (W:=W) (kvm:=kvm) (λz=>?_)]
     .exact k _ mM
     .have:(Pc.pts.map λx=>decide ((i9 kvm x.1,x.2)∈W.pts)).all id=true:=by
       rw[HC,Gk];exact λx hx=>FZ (z.pts x hx)
      rw[this] at La;cases La
    have Tc:∀x∈Pc.pts,(i9 kvm x.1,x.2)∈W.pts:=λx hx=>by
     rw[HC,Gk] at La;exact Hu (La x hx)
    have DM:=mM.rd hD;have PM:=hP.same mM;have WM:=hW.same mM;have Td:=PM.hq;walk_at "r";refine b5 PM.at_.tup (b6 (j:=1) rfl) ?_;refine L7 Td (λMO o10=>?_);refine z7 (n:=kvs.length) (λi out H'=>Same (z8 q o10 kvs HM) H'/\out=(Pc.ts.take i).map λx=>V.bl (decide ((i9 kvm x.1,(x.2.1,i9 kvm x.2.2.1,i9 kvm x.2.2.2))∈W.ts))) ⟨Same.refl _,rfl⟩ (λi out H' hi hp=>⟨hp.1 _ _ d8,hi⟩) ?_ ?_
    .rintro N i v out H11' LA hi ⟨LW,rfl⟩ ⟨t,kv,d_,nt,rfl,rfl⟩ hN';obtain⟨Oj,SN,NN,Ky,_⟩:=b9 (o:= .tup _) nt;rw[SN];have NS:=(K9 (o:=o10) Td).trans (LW.trans Ky).le;have QX:=WM.at_.mono NS;have Vv:=NS.dic DM;obtain⟨x,hx,ex,bb,eb,sb⟩:=(PM.at_.ts.mono NS).get d_;obtain⟨kk,MQ⟩:=kv;have Lx:kk=Sum.inr x.1:=ex;have MR:MQ= .ref bb:=eb;subst Lx MR;have r_:=FI hx;have QF:=hP.ends x r_;refine J1 (SqT.of NN) rfl ?_;walk_at "r";refine⟨rfl,?_⟩;walk_at "r";refine b5 QX.tup (b6 (j:=1) rfl) ?_;refine⟨q',rfl,.inl ⟨_,QX.ties⟩,?_⟩;walk_at "r";refine vo Vv (hT _ (FA _ (Fx.mpr ⟨x,r_,rfl⟩))) ?_;refine⟨_,F5 (k:=Sum.inr (i9 kvm x.1)) QX.ties,?_⟩;walk_at "r";refine⟨bb,d,x.2,kvm,rfl,sb,Vv,hT _ (Fy _ QF.1),hT _ (Fy _ QF.2),λSF QJ n13 Mn NJ=>?_⟩;refine AJ (QX.mono Mn.le).ts (N1 hW.nd) (SqT.of NJ) ?_;refine⟨d9 (by rw[Fv,FO];lia),hN' _ _ ⟨LW.trans (Ky.trans Mn),?_⟩⟩;exact K6 (λx:Str×N3=>V.bl (decide ((i9 kvm x.1,(x.2.1,i9 kvm x.2.2.1,i9 kvm x.2.2.2))∈W.ts))) hx
    .rintro out LA ⟨LW,rfl⟩;refine⟨⟨LW _ _ d8,Fz _⟩,λXH hD11=>⟨d9 (by rw[Fv,FO];lia),?_⟩⟩;rw[KI,FL (Fz _)];have Pa:(Pc.ts.map λx=>V.bl (decide ((i9 kvm x.1,(x.2.1,i9 kvm x.2.2.1,i9 kvm x.2.2.2))∈W.ts)))=(Pc.ts.map λx=>decide ((i9 kvm x.1,(x.2.1,i9 kvm x.2.2.1,i9 kvm x.2.2.2))∈W.ts)).map V.bl:=by rw[Gg];rfl
     rw[Pa];generalize Lq:(Pc.ts.map λx=>decide ((i9 kvm x.1,(x.2.1,i9 kvm x.2.2.1,i9 kvm x.2.2.2))∈W.ts))=bs;have sN:=M0 Td LW hD11 (u:= .lst (bs.map V.bl));have fN:=U9 LW hD11 (u:= .lst (bs.map V.bl));generalize thaw q (upd LA XH (.lst (bs.map V.bl)))=HN at sN fN⊢;walk_at "r";refine om (SqL.of fN) ?_;have eF:bs.all id=so Pc W kvm:=by
      rw[←Lq];cases hc:(Pc.ts.map λx=>decide ((i9 kvm x.1,(x.2.1,i9 kvm x.2.2.1,i9 kvm x.2.2.2))∈W.ts)).all id with
      |true=>
       rw[HC,Gk] at hc
       exact(qP ⟨QB,hT,Jr,Tc,λx hx=>Hu (hc x hx)⟩).symm
      |false=>
       refine(hJ λz=>?_).symm
       have:(Pc.ts.map λx=>decide ((i9 kvm x.1,(x.2.1,i9 kvm x.2.2.1,i9 kvm x.2.2.2))∈W.ts)).all id=true:=by
        rw[HC,Gk];exact λx hx=>FZ (z.ts x hx)
       rw[this] at hc;cases hc
     rw[eF];exact k _ (mM.trans sN)
def E9 (f:Str->Str)(W:C3):C3:=⟨W.pts.map λx=>(f x.1,x.2),W.ts.map λx=>(f x.1,(x.2.1,f x.2.2.1,f x.2.2.2))⟩
def iC (K:Kd):Sp:=λvs H Q _=>∃(a d p q:Addr) (kvs nm:List (j4×V)) (W:C3) (f:Str->Str),vs=[.ref a,.ref d]/\WebAt K H a p q kvs W/\H p=some (.dK (i6 W.pts))/\H q=some (.dK kvs)/\Rd H d (.dK nm)/\f=i9 nm/\(∀n∈b8 W,TxtAt nm n)/\((b8 W).map f).Nodup/\(b8 W).length<=60/\
 (∀x∈W.ts,x.2.2.1∈W.pts.map (·.1)/\x.2.2.2∈W.pts.map (·.1))/\NewP K H Q (E9 f W)
abbrev jS (P:Program)(w:World)(K:Kd)(mg:Str->Option Value)(base:Heap):Prop:=N8 P w K mg base C0 3 "renamed" ["web","names"] [] (iC K)
theorem pI {f:Addr}{fd:FuncData}(T:Txt K mg)(K7:Z1 P w K mg base)(D5:af P w K mg base)(F:Fun K "renamed" "renamed" eX f fd):u9 P w K mg base C0 3 f fd ["web","names"] (iC K):=by
 refine F.ok sc_renamed (λvs H Q E h=>?_) (λc_ A outer s H vs Q E hr h=>?_)
 .obtain⟨a,d,p,q,kvs,nm,W,f,rfl,_⟩:=h;rfl
 .obtain⟨a,d,p,q,kvs,nm,W,f,rfl,hW,hp,hq,hd,rfl,hT,Jr,hl,hE,k⟩:=h;have hf:∀n∈b8 W,A2 nm (Sum.inr n:j4)=some (.str (i9 nm n)):=λn hn=>(hT n hn).at_;have Zv:W.pts.length+W.ts.length<=60:=by unfold b8 at hl;rw[FE,Fv,Fv] at hl;exact hl
  have XI:∀x∈W.pts,A2 nm (Sum.inr x.1:j4)=some (.str (i9 nm x.1)):=λx hx=>hf _ (Fy _ (Fx.mpr ⟨x,hx,rfl⟩));have XJ:∀x∈W.ts,A2 nm (Sum.inr x.1:j4)=some (.str (i9 nm x.1)):=λx hx=>hf _ (FA _ (Fx.mpr ⟨x,hx,rfl⟩));have nd1:((E9 (i9 nm) W).pts.map (·.1)).Nodup:=by
   unfold b8 at Jr;rw[FF] at Jr;have z:=(FR.mp Jr).1;unfold E9;rw[Gg] at z⊢;exact z
  have Nf:((E9 (i9 nm) W).ts.map (·.1)).Nodup:=by
   unfold b8 at Jr;rw[FF] at Jr;have z:=(FR.mp Jr).2.1;unfold E9;rw[Gg] at z⊢;exact z
  have Lh:=j8 W.pts;have KI:=hW.ts.length;have hN:=sc_renamed.nd;have hu:=u6 hr;refine⟨_,QSs.r (z6 (z0 (i:=2) hN rfl (by walk_at "l") (gJ (R4 K rfl) T.b_dict Boot.«dict» (i7 (N0 (own:=["name","kind"]) (js:=[1]) (by kernel_rfl) rfl (aL (j6 (j7 K hu) (qV 0) d6 (λ_ _=>rfl))) (λ_ _ _ _=>(jz K rfl (U1 (F4 (i:=0) (show List.Nodup (["name","kind","names"]:List Str) by decide+kernel) rfl (by walk_at "l")) (U1 (F4 (i:=1) (show List.Nodup (["name","kind","names"]:List Str) by decide+kernel) rfl (by walk_at "l")) jA)))) (λ_ _ _ _=>aR) (λ_ _ _ _=>(J3 (i7 (j6 (j7 K hu) (qV 2) (qV 0) (λ_ _=>rfl)) (i7 (qV 1) j5))))) j5)))
   (z6 (z0 (i:=3) hN rfl (by walk_at "l") (gJ (R4 K rfl) T.b_dict Boot.«dict» (i7 (N0 (own:=["name","tie"]) (js:=[1]) (by kernel_rfl) rfl (aL (j6 (j7 K hu) (qV 0) d6 (λ_ _=>rfl))) (λ_ _ _ _=>(jz K rfl (U1 (F4 (i:=0) (show List.Nodup (["name","tie","names"]:List Str) by decide+kernel) rfl (by walk_at "l")) (U1 (F4 (i:=1) (show List.Nodup (["name","tie","names"]:List Str) by decide+kernel) rfl (by walk_at "l")) jA)))) (λ_ _ _ _=>aR) (λ_ _ _ _=>(J3 (i7 (j6 (j7 K hu) (qV 2) (qV 0) (λ_ _=>rfl)) (i7 (qC K7 (hr.mono (by decide)) k7 (i7 (qV 1) (i7 (qV 2) j5))) j5))))) j5)))
   (C4 (A3 (qC D5 (hr.mono (by decide)) k7 (i7 (J3 (i7 (qV 2) (i7 (qV 3) j5))) j5)))))),?_⟩
  walk_at "r";refine b5 hW.tup (b6 (j:=0) rfl) ?_;refine L7 hp (λQQ o1=>?_);refine z7 (n:=(i6 W.pts).length) (λi out H'=>Same (z8 p o1 (i6 W.pts) H) H'/\Paired (PrV K H') out (i6 ((W.pts.take i).map λx=>(i9 nm x.1,x.2)))) ⟨Same.refl _,.nil⟩ (λi out H' hi hp=>⟨hp.1 _ _ d8,hi⟩) ?_ ?_
  .rintro N i v out H1 H2 hi ⟨s1,pr⟩ ⟨t,kv,d_,nt,rfl,rfl⟩ hN';obtain⟨x,hx,rfl⟩:=Q5 d_;obtain⟨H3,e3,f3,m3,_⟩:=b9 (o:= .tup _) nt;rw[e3];have d3:=((K9 (o:=o1) hp).trans (s1.trans m3).le).dic hd;have e7:W.pts.take (i+1)=W.pts.take i++[x]:=by rw[Gq,hx];rfl
   refine J1 (SqT.of f3) rfl ?_;walk_at "r";refine⟨rfl,?_⟩;walk_at "r";refine k9 (v:= .str (i9 nm x.1)) (by have z':=F5 (k:=Sum.inr x.1) d3;rw[XI x (FI hx)] at z';exact z') ?_;walk_at "r";refine⟨d9 (by simp),λt4 n4=>?_⟩;obtain⟨H4,e4,f4,m4,_⟩:=b9 (o:= .tup _) n4;rw[e4];have q_:=GV pr;rw[j8,Fv,FO] at q_;refine⟨d9 (by lia),hN' _ _ ⟨s1.trans (m3.trans m4),?_⟩⟩;rw[e7,FF];unfold i6 at pr⊢;rw[FF];exact E2 (Paired.imp' (λ_ _ z=>PrV.mono (m3.trans m4).le z) pr) ⟨t4,rfl,SqT.of f4⟩
  .rintro out H1 ⟨s1,pr⟩;have q_:=GV pr;rw[j8,Fv,FO] at q_;refine⟨⟨s1 _ _ d8,Fz _⟩,λD hD=>⟨d9 (by lia),?_⟩⟩;have sM:=M0 hp s1 hD (u:= .lst out);have fM:=U9 s1 hD (u:= .lst out);have NP:=Paired.imp' (λ_ _ z=>PrV.mono (mf (d:=p) (u:= .lst out) hD) z) pr;generalize thaw p (upd H1 D (.lst out))=HM at sM fM NP⊢;rw[FL (by lia)] at NP;walk_at "r";refine P5 (SqL.of fM) NP (d9 (by rw[j8,Fv];lia)) (λpp npp=>?_);have eP:gh (i6 (W.pts.map λx=>(i9 nm x.1,x.2)))=i6 (E9 (i9 nm) W).pts:=aj (U4 nd1);rw[eP];obtain⟨H2,e2,f2,m2,_⟩:=b9 (o:= .dK (i6 (E9 (i9 nm) W).pts)) npp;show O5 _ _ _ (upd HM pp (.dK (i6 (E9 (i9 nm) W).pts))) _;rw[e2];have s2:=sM.trans m2;have W2:=hW.mono s2.le;have MV:=s2 _ _ hq;walk_at "r";refine b5 W2.tup (b6 (j:=1) rfl) ?_;refine L7 MV (λMO o2=>?_);refine z7 (n:=kvs.length) (λi out H'=>Same (z8 q o2 kvs H2) H'/\∃ks2,Paired (PrV K H') out ks2/\TiesIs K H' ks2 ((W.ts.take i).map λx=>(i9 nm x.1,(x.2.1,i9 nm x.2.2.1,i9 nm x.2.2.2)))) ⟨Same.refl _,[],.nil,.nil⟩ (λi out H' hi hp=>⟨hp.1 _ _ d8,hi⟩) ?_ ?_
   .rintro N i v out H3 Ml hi ⟨s3,ks2,pr3,ti3⟩ ⟨t,kv,d_,nt,rfl,rfl⟩ hN';obtain⟨H4,e4,f4,m4,_⟩:=b9 (o:= .tup _) nt;rw[e4];have Mc:=(K9 (o:=o2) MV).trans (s3.trans m4).le;have d4:=Mc.dic (s2.rd hd);obtain⟨x,hx,ex,b,eb,sb⟩:=(W2.ts.mono Mc).get d_;have r_:x∈W.ts:=FI hx;have e7:W.ts.take (i+1)=W.ts.take i++[x]:=by rw[Gq,hx];rfl
    refine J1 (SqT.of f4) rfl ?_;rw[ex,eb];walk_at "r";refine⟨rfl,?_⟩;walk_at "r";refine k9 (v:= .str (i9 nm x.1)) (by have z':=F5 (k:=Sum.inr x.1) d4;rw[XJ x r_] at z';exact z') ?_;walk_at "r";refine⟨b,d,x.2,nm,rfl,sb,d4,hT _ (Fy _ (hE x r_).1),hT _ (Fy _ (hE x r_).2),λt5 H5 n5 m5 f5=>?_⟩;walk_at "r";refine⟨d9 (by simp),λt6 n6=>?_⟩;obtain⟨H6,e6,f6,m6,_⟩:=b9 (o:= .tup _) n6;rw[e6];have q_:=GV pr3;have NT:=ti3.length;rw[Fv,FO] at NT;have mA:=m4.trans (m5.trans m6);refine⟨d9 (by lia),hN' _ _ ⟨s3.trans mA,ks2++[((Sum.inr (i9 nm x.1):j4),V.ref t5)],E2 (Paired.imp' (λ_ _ z=>PrV.mono mA.le z) pr3) (show PrV K H6 (.ref t6) ((Sum.inr (i9 nm x.1):j4),V.ref t5) from⟨t6,rfl,SqT.of f6⟩),?_⟩⟩;rw[e7,FF];exact E2 (ti3.mono mA.le) ⟨rfl,t5,rfl,SqT.of (m6 _ _ f5)⟩
   .rintro out H3 ⟨s3,ks2,pr3,ti3⟩;have q_:=GV pr3;have NT:=ti3.length;rw[Fv,FO] at NT;refine⟨⟨s3 _ _ d8,Fz _⟩,λD' hD'=>⟨d9 (by lia),?_⟩⟩;have sN:=M0 MV s3 hD' (u:= .lst out);have fN:=U9 s3 hD' (u:= .lst out);have Vx:=mf (d:=q) (u:= .lst out) hD';have Vy:=Paired.imp' (λ_ _ z=>PrV.mono Vx z) pr3;have QY:=ti3.mono Vx;generalize thaw q (upd H3 D' (.lst out))=HN at sN fN Vy QY⊢;rw[FL (by lia)] at QY;have QR:(ks2.map (·.1)).Nodup:=by
     rw[QY.keys,←A8];refine Ii _ ?_ Nf;exact λa b h z=>h (HE z)
    walk_at "r";refine P5 (SqL.of fN) Vy (d9 (by lia)) (λqq nqq=>?_);rw[aj QR];obtain⟨H5,e5,f5,m5,_⟩:=b9 (o:= .dK ks2) nqq;show O5 _ _ _ (upd HN qq (.dK ks2)) _;rw[e5];walk_at "r";refine⟨d9 (by simp),λt9 n9=>?_⟩;obtain⟨H9,e9,f9,m9,_⟩:=b9 (o:= .tup _) n9;rw[e9];walk_at "r";have sA:=s2.trans (sN.trans (m5.trans m9));have gp:=m9 _ _ (m5 _ _ (sN _ _ f2));have gq:=m9 _ _ f5;refine⟨t9,pp,qq,ks2,E9 (i9 nm) W,rfl,⟨SqT.of f9,.inl gp,.inl gq,QY.mono (m5.trans m9).le⟩,nd1,Nf,by unfold E9;rw[Fv];lia,by unfold E9;rw[Fv];lia,λa' p' q' h_ W' H' sH hW' h1 h2 h3 h4 h5 h6 h7=>k a' p' q' h_ W' H' (sA.trans sH) hW' h1 h2 h3 (sA.free h4) (sA.free h5) h6 h7⟩
def xG (W M:C3):C3:=⟨(W.pts.filter λx=>!decide (x.1∈M.pts.map (·.1)))++M.pts,(W.ts.filter λx=>!decide (x.1∈M.ts.map (·.1)))++M.ts⟩
theorem rP {k:j4}{v:V}:∀{ka:List (j4×V)},(ka.map (·.1)).Nodup->(E3 ka k v).Perm ((ka.filter λx=>!decide (x.1=k))++[(k,v)]):=by
 have rep:∀{ka:List (j4×V)},(ka.map (·.1)).Nodup->(∃x∈ka,x.1=k)->(ka.map λx=>if x.1=k then(x.1,v) else x).Perm ((ka.filter λx=>!decide (x.1=k))++[(k,v)]):=by
  intro ka;induction ka with
  |nil=>rintro _ ⟨x,h,_⟩;cases h
  |cons p r ih=>
   intro nd hx
   have C':=GK.mp (show(p.1::r.map (·.1)).Nodup from nd)
   by_cases e:p.1=k
   .have hr:∀x∈r,¬x.1=k:=λx hx z=>C'.1 (by rw[e,←z];exact Fx.mpr ⟨x,hx,rfl⟩)
    have e1:(r.map λx=>if x.1=k then(x.1,v) else x)=r:=(Gz λx hx=>by rw[if_neg (hr x hx)]).trans (Jg r)
    have e2:(r.filter λx=>!decide (x.1=k))=r:=Ir.mpr λx hx=>by rw[Ge (hr x hx)];rfl
    rw[GF,if_pos e,e1,GA (by simp [e]),e2,e]
    exact JQ (l₁:=[(k,v)]) (l₂:=r)
   .rw[GF,if_neg e,Gu (by simp [e]),HS]
    refine List.Perm.cons _ (ih C'.2 ?_)
    obtain⟨x,hx,ex⟩:=hx
    rcases Gn.mp hx with z|z
    .exact absurd (z▸ex) e
    .exact⟨x,z,ex⟩
 intro ka nd;cases hv:A2 ka k with
 |none=>
  rw[Q8 v hv,Ir.mpr λx hx=>?_]
  have:x.1≠k:=λz=>by
   have q:=U2 nd hx;rw[z,hv] at q;cases q
  simp [this]
 |some y=>
  have hx:∃x∈ka,x.1=k:=⟨_,gR hv,rfl⟩
  unfold E3
  rw[if_pos (by rw[M9,hv];rfl)]
  exact rep nd hx
open Classical in
theorem aZ:∀{kb ka:List (j4×V)},(ka.map (·.1)).Nodup->(kb.map (·.1)).Nodup->(N4 ka kb).Perm ((ka.filter λx=>!decide (x.1∈kb.map (·.1)))++kb)
 |[],ka,_,_=>by
  show ka.Perm _;rw[Gw,Ir.mpr λx _=>by simp]
 |p::r,ka,nd,nb=>by
  have Vz:=GK.mp (show(p.1::r.map (·.1)).Nodup from nb);have ih:=aZ (kb:=r) (ka:=E3 ka p.1 p.2) (Ac nd) Vz.2;refine(show(N4 (E3 ka p.1 p.2) r).Perm _ from ih).trans ?_;have h1:=(rP (k:=p.1) (v:=p.2) nd).filter λx=>!decide (x.1∈r.map (·.1));refine(h1.append_right r).trans ?_;rw[Gv,List.filter_filter,Gu (by rw[Ge Vz.1];rfl),GL,Gx];have e:(ka.filter λx=>(!decide (x.1∈r.map (·.1))&& !decide (x.1=p.1)))=ka.filter λx=>!decide (x.1∈(p::r).map (·.1)):=HH λx _=>by
   rw[GC];simp only[Gh,Gr,FY,GF,Gn,not_or];exact And.comm
  rw[e];exact HU _
theorem jW {A:List (Str×Str)}{B:List Str}{n:Str}:((Sum.inr n:j4)∈B.map (Sum.inr:Str->j4))↔n∈B:=⟨ay,λh=>Fx.mpr ⟨n,h,rfl⟩⟩
open Classical in
theorem xS {A B:List (Str×Str)}(na:(A.map (·.1)).Nodup)(nb:(B.map (·.1)).Nodup):∃U,N4 (i6 A) (i6 B)=i6 U/\U.Perm ((A.filter λx=>!decide (x.1∈B.map (·.1)))++B):=by
 have h:=aZ (U4 na) (U4 nb);have pr:Paired (fun(kv:j4×V) (x:Str×Str)=>kv=(Sum.inr x.1,.str x.2)) (((i6 A).filter λx=>!decide (x.1∈(i6 B).map (·.1)))++i6 B) ((A.filter λx=>!decide (x.1∈B.map (·.1)))++B):=by
  refine cT (Q4 (λkv x e=>?_) (az A)) (az B);rw[e,K4,←A8];congr 1;rw[GC,GI,GI];exact jW (A:=A)
 obtain⟨U,h1,h2⟩:=W8 h pr;exact⟨U,dw h1,h2⟩
open Classical in
theorem AK {H:Hp}{ka kb:List (j4×V)}{A B:List (Str×N3)}(wa:TiesIs K H ka A)(wb:TiesIs K H kb B)(na:(A.map (·.1)).Nodup)(nb:(B.map (·.1)).Nodup):∃U,TiesIs K H (N4 ka kb) U/\U.Perm ((A.filter λx=>!decide (x.1∈B.map (·.1)))++B):=by
 have h:=aZ (rp wa na) (rp wb nb);have pr:Paired (TieAt K H) ((ka.filter λx=>!decide (x.1∈kb.map (·.1)))++kb) ((A.filter λx=>!decide (x.1∈B.map (·.1)))++B):=by
  refine cT (Q4 (λkv x e=>?_) wa) wb;rw[e.1,wb.keys,←A8];congr 1;rw[GC,GI,GI];exact jW (A:=[])
 exact W8 h pr
theorem rB {α:Type}{A B:List (Str×α)}(na:(A.map (·.1)).Nodup)(nb:(B.map (·.1)).Nodup):(((A.filter λx=>!decide (x.1∈B.map (·.1)))++B).map (·.1)).Nodup:=
 zt (M4 na) nb λn hn hm=>by
  obtain⟨x,hx,rfl⟩:=Fx.mp hm;have z:=(FJ.mp hx).2;rw[FZ hn] at z;cases z
def jV (K:Kd):Sp:=λvs H Q _=>∃(a p q b p2 q2:Addr) (kvs D_:List (j4×V)) (W M:C3),vs=[.ref a,.ref b]/\WebAt K H a p q kvs W/\WebAt K H b p2 q2 D_ M/\(W.pts.map (·.1)).Nodup/\(W.ts.map (·.1)).Nodup/\(M.pts.map (·.1)).Nodup/\(M.ts.map (·.1)).Nodup/\W.pts.length+M.pts.length<=60/\W.ts.length+M.ts.length<=60/\NewP K H Q (xG W M)
theorem NewP.permM {H H1:Hp}{Q:VK}{W W1:C3}(s:Same H H1)(p1:W1.pts.Perm W.pts)(p2:W1.ts.Perm W.ts)(k:NewP K H Q W):NewP K H1 Q W1:=λa p q kvs W' H' s' h1 h2 h3 h4 h5 h6 h7 h8=>k a p q kvs W' H' (s.trans s') h1 h2 h3 h4 (s.free h5) (s.free h6) (h7.trans p1) (h8.trans p2)
abbrev oW (P:Program)(w:World)(K:Kd)(mg:Str->Option Value)(base:Heap):Prop:=N8 P w K mg base C0 3 "united" ["web","more"] [] (jV K)
theorem sC {f:Addr}{fd:FuncData}(T:Txt K mg)(D5:af P w K mg base)(F:Fun K "united" "united" jd f fd):u9 P w K mg base C0 3 f fd ["web","more"] (jV K):=by
 refine F.ok sc_united (λvs H Q E h=>?_) (λc_ A outer s H vs Q E hr h=>?_)
 .obtain⟨a,p,q,b,p2,q2,kvs,D_,W,M,rfl,_⟩:=h;rfl
 .obtain⟨a,p,q,b,p2,q2,kvs,D_,W,M,rfl,hW,hM,QZ,Q_,nm1,nm2,lw1,lw2,k⟩:=h;have KI:=hW.ts.length;have XM:=hM.ts.length;have hN:=sc_united.nd;have hu:=u6 hr;refine⟨_,QSs.r (z6 (z0 (i:=2) hN rfl (by walk_at "l") (gJ (R4 K rfl) T.b_dict Boot.«dict» (i7 (j6 (j7 K hu) (qV 0) d6 (λ_ _=>rfl)) j5)))
   (z6 (mX (qM GG Hr HI N2 K (qV 2) (i7 (j6 (j7 K hu) (qV 1) d6 (λ_ _=>rfl)) j5)))
   (z6 (z0 (i:=3) hN rfl (by walk_at "l") (gJ (R4 K rfl) T.b_dict Boot.«dict» (i7 (j6 (j7 K hu) (qV 0) d6 (λ_ _=>rfl)) j5)))
   (z6 (mX (qM GG Hr HI N2 K (qV 3) (i7 (j6 (j7 K hu) (qV 1) d6 (λ_ _=>rfl)) j5)))
   (C4 (A3 (qC D5 (hr.mono (by decide)) k7 (i7 (J3 (i7 (qV 2) (i7 (qV 3) j5))) j5)))))))),?_⟩
  walk_at "r";refine b5 hW.tup (b6 (j:=0) rfl) ?_;walk_at "r";refine E7 hW.pts (λpp npp=>?_);obtain⟨H1,e1,f1,m1,_⟩:=b9 (o:= .dK _) npp;rw[e1];have M1:=hM.mono m1.le;walk_at "r";refine⟨.inr (.inr (.inl ⟨rfl,.inl ⟨_,f1⟩⟩)),?_⟩;walk_at "r";refine b5 M1.tup (b6 (j:=0) rfl) ?_;walk_at "r";have Te:pp≠p2:=λz=>by
   have z2:=hM.pts;rw[←z] at z2;rcases z2 with z2|⟨_,z2⟩<;>(rw[npp] at z2;cases z2)
  refine⟨pp,p2,i6 W.pts,i6 M.pts,rfl,rfl,f1,M1.pts,Te,by rw[j8,j8];lia,?_⟩;obtain⟨UP,XN,Tf⟩:=xS QZ nm1;rw[XN];have s2:Same H (upd H1 pp (.dK (i6 UP))):=E4 m1 npp;have f2:(upd H1 pp (.dK (i6 UP))) pp=some (.dK (i6 UP)):=d8;generalize upd H1 pp (.dK (i6 UP))=H2 at s2 f2⊢;have W2:=hW.mono s2.le;walk_at "r";refine b5 W2.tup (b6 (j:=1) rfl) ?_;walk_at "r";refine E7 W2.ties (λqq nqq=>?_);obtain⟨H3,e3,f3,m3,_⟩:=b9 (o:= .dK _) nqq;rw[e3];have s3:=s2.trans m3;have M3:=hM.mono s3.le;have M2:=hM.mono s2.le;walk_at "r";refine⟨.inr (.inr (.inl ⟨rfl,.inl ⟨_,f3⟩⟩)),?_⟩;walk_at "r";refine b5 M3.tup (b6 (j:=1) rfl) ?_;walk_at "r";have Tg:qq≠q2:=λz=>by
   have z2:=M2.ties;rw[←z] at z2;rcases z2 with z2|⟨_,z2⟩<;>(rw[nqq] at z2;cases z2)
  obtain⟨UT,XO,Th⟩:=AK (hW.mono s3.le).ts M3.ts Q_ nm2;refine⟨qq,q2,kvs,D_,rfl,rfl,f3,M3.ties,Tg,by lia,?_⟩;have s4:Same H2 (upd H3 qq (.dK (N4 kvs D_))):=E4 m3 nqq;have f4:(upd H3 qq (.dK (N4 kvs D_))) qq=some (.dK (N4 kvs D_)):=d8;have VA:TiesIs K (upd H3 qq (.dK (N4 kvs D_))) (N4 kvs D_) UT:=C9 f3 XO;generalize upd H3 qq (.dK (N4 kvs D_))=H4 at s4 f4 VA⊢;walk_at "r";refine⟨d9 (by simp),λt9 n9=>?_⟩;obtain⟨H9,e9,f9,m9,_⟩:=b9 (o:= .tup _) n9;rw[e9];walk_at "r";have Md:=FK (λx:Str×Str=>!decide (x.1∈M.pts.map (·.1))) W.pts;have XQ:=FK (λx:Str×N3=>!decide (x.1∈M.ts.map (·.1))) W.ts;refine⟨t9,pp,qq,_,⟨UP,UT⟩,rfl,⟨SqT.of f9,.inl (m9 _ _ (s4 _ _ f2)),.inl (m9 _ _ f4),VA.mono m9.le⟩,(Tf.map _).nodup_iff.mpr (rB QZ nm1),(Th.map _).nodup_iff.mpr (rB Q_ nm2),?_,?_,NewP.permM (s2.trans (s4.trans m9)) Tf Th k⟩
  .show UP.length<=60;rw[Tf.length_eq,FE];lia
  .show UT.length<=60;rw[Th.length_eq,FE];lia
theorem X9 {fr:List (Str×Str)}(nd:(fr.map (·.1)).Nodup){n s:Str}(h:(n,s)∈fr):TxtAt (i6 fr) n/\i9 (i6 fr) n=s:=⟨⟨s,K3 nd h⟩,mx (K3 nd h)⟩
theorem hZ {ss:List Str}{f:Str->Str}(nd:ss.Nodup){n:Str}(h:n∈ss):TxtAt (i6 (ss.map λn=>(n,f n))) n/\i9 (i6 (ss.map λn=>(n,f n))) n=f n:=
 X9 (by rw[Gg];exact(Jg ss).symm▸nd) (Fx.mpr ⟨n,h,rfl⟩)
def kj (K:Kd):Sp:=λvs H Q _=>∃(d l:Addr) (kvs:List (j4×V)) (ss:List Str),vs=[.ref d,.ref l]/\Rd H d (.dK kvs)/\SqL K H l (ss.map V.str)/\ss.Nodup/\ss.length<=60/\(∀n∈ss,TxtAt kvs n)/\∀(d':Addr) (H':Hp),H d'=none->Same H H'->H' d'=some (.dK (i6 (ss.map λn=>(n,i9 kvs n))))->Q (.ref d') H'
abbrev ij (P:Program)(w:World)(K:Kd)(mg:Str->Option Value)(base:Heap):Prop:=N8 P w K mg base C0 1 "picked" ["put","names"] [] (kj K)
theorem rL {f:Addr}{fd:FuncData}(T:Txt K mg)(F:Fun K "picked" "picked" iu f fd):u9 P w K mg base C0 1 f fd ["put","names"] (kj K):=by
 refine F.ok sc_picked (λvs H Q E h=>?_) (λc_ A outer s H vs Q E hr h=>?_)
 .obtain⟨d,l,kvs,ss,rfl,_⟩:=h;rfl
 .obtain⟨d,l,kvs,ss,rfl,hD,hL,nd,hl,hT,k⟩:=h;have hN:=sc_picked.nd;have hu:=u6 hr;refine⟨_,QSs.r (C4 (A3 (gJ (R4 K rfl) T.b_dict Boot.«dict» (i7 (N0 (own:=["name"]) (js:=[0]) (by kernel_rfl) rfl (P8 K (qV 1)) (λ_ _ _ _=>(F4 (i:=0) (show List.Nodup (["name","put"]:List Str) by decide+kernel) rfl (by walk_at "l"))) (λ_ _ _ _=>aR) (λ_ _ _ _=>(J3 (i7 (qV 0) (i7 (j6 (j7 K hu) (qV 1) (qV 0) (λ_ _=>rfl)) j5))))) j5)))),?_⟩;walk_at "r";refine C6 hL ?_;refine z7 (n:=ss.length) (λi out H'=>Same H H'/\Paired (PrV K H') out (i6 ((ss.take i).map λn=>(n,i9 kvs n)))) ⟨Same.refl _,.nil⟩ (λi out H' hi hp=>⟨_,.str (ss[i]),hp.1.seq hL,by rw[FD,Fw hi];rfl⟩) ?_ ?_
  .rintro N i v out H2' H2 hi ⟨s2,pr⟩ y hN';obtain⟨rfl,hx⟩:=Itl.get y (s2.seq hL);rw[FD,Fw hi] at hx;cases hx;have q_:=GV pr;rw[j8,Fv,FO] at q_;walk_at "r";refine⟨rfl,?_⟩;walk_at "r";refine vo (s2.rd hD) (hT _ (Gd hi)) ?_;walk_at "r";refine⟨d9 (by simp),λt4 n4=>?_⟩;obtain⟨H4,e4,f4,m4,_⟩:=b9 (o:= .tup _) n4;rw[e4];refine⟨d9 (by lia),hN' _ _ ⟨s2.trans m4,?_⟩⟩;rw[Gq,Fw hi,FF];unfold i6 at pr⊢;rw[FF];exact E2 (Paired.imp' (λ_ _ z=>PrV.mono m4.le z) pr) ⟨t4,rfl,SqT.of f4⟩
  .rintro out H2 ⟨s2,pr⟩;have q_:=GV pr;rw[j8,Fv,FO] at q_;refine⟨⟨_,s2.seq hL,by rw[Fv];exact Fz _⟩,λD hD'=>⟨d9 (by lia),?_⟩⟩;rw[FL (Fz _)] at pr;obtain⟨H3,e3,f3,m3,_⟩:=b9 (H:=H2) (o:= .lst out) hD';walk_at "r";change mi K _ (upd H2 D _) _;rw[e3];refine P5 (SqL.of f3) (Paired.imp' (λ_ _ z=>PrV.mono m3.le z) pr) (d9 (by rw[j8,Fv];lia)) (λpp npp=>?_);rw[aj (U4 (by rw[Gg];exact(Jg ss).symm▸nd))];obtain⟨H4,e4,f4,m4,_⟩:=b9 (o:= .dK _) npp;rw[e4];exact k pp H4 (s2.free (m3.free npp)) (s2.trans (m3.trans m4)) f4
def dB (K:Kd):Sp:=λvs H Q _=>∃(st r m bl:Addr) (x:V) (L R:Sd) (bs:List Sd) (km:List (j4×V)),vs=[.ref st]/\SqT K H st [.ref r,.ref m,x]/\RuleIs K H r bl L R bs/\Rd H m (.dK km)/\(∀n∈b8 L.W,TxtAt km n)/\∀(l:Addr) (H':Hp) (s1 s2:List Str),H l=none->Same H H'->Ordr L.W s1 s2->H' l=some (.lst ((((s1++s2).filter λn=>!decide (n∈b8 R.W)).map (i9 km)).map V.str))->Q (.ref l) H'
abbrev gk (P:Program)(w:World)(K:Kd)(mg:Str->Option Value)(base:Heap):Prop:=N8 P w K mg base C0 4 "taken_out" ["step"] [] (dB K)
theorem mn {f:Addr}{fd:FuncData}(T:Txt K mg)(cv:mI P w K mg base)(F:Fun K "taken_out" "taken_out" bo f fd):u9 P w K mg base C0 4 f fd ["step"] (dB K):=by
 refine F.ok sc_taken_out (λvs H Q E h=>?_) (λc_ A outer s H vs Q E hr h=>?_)
 .obtain⟨st,r,m,bl,x,L,R,bs,km,rfl,_⟩:=h;rfl
 .obtain⟨st,r,m,bl,x,L,R,bs,km,rfl,hS,hR,hM,hT,k⟩:=h;have Nj:=hR.l.len;have hN:=sc_taken_out.nd;have hu:=u6 hr;refine⟨_,QSs.r (C4 (A3 (N0 (own:=["name"]) (js:=[0]) (by kernel_rfl) rfl (P8 K (qC cv (hr.mono (by decide)) k7 (i7 (j6 (j7 K hu) (qV 0) d6 (λ_ _=>rfl)) j5))) (λ_ _ _ _=>(F4 (i:=0) (show List.Nodup (["name","step"]:List Str) by decide+kernel) rfl (by walk_at "l"))) (λ_ _ _ _=>aR) (λ_ _ _ _=>(j6 (j7 K hu) (j6 (j7 K hu) (qV 1) d6 (λ_ _=>rfl)) (qV 0) (λ_ _=>rfl)))))),?_⟩;walk_at "r";refine b5 hS (b6 (j:=0) rfl) ?_;walk_at "r";refine⟨r,bl,L,R,bs,rfl,hR,λl1 H1 s1 s2 n1 m1 or f1=>?_⟩;have hlen:=or.len;have x_:=FK (λn=>!decide (n∈b8 R.W)) (s1++s2);have n_:∀n∈(s1++s2).filter λn=>!decide (n∈b8 R.W),TxtAt km n:=λn hn=>hT n (or.mem.mp (FJ.mp hn).1);have k':=λl H' h1 h2=>k l H' s1 s2 h1 h2 or;clear k;generalize (s1++s2).filter (λn=>!decide (n∈b8 R.W))=ss at f1 x_ n_ k';refine C6 (SqL.of f1) ?_;refine z7 (n:=ss.length) (λi out H'=>Same H1 H'/\out=(ss.take i).map λn=>V.str (i9 km n)) ⟨Same.refl _,rfl⟩ (λi out H' hi hp=>⟨_,.str (ss[i]),SqL.of (hp.1 _ _ f1),by rw[FD,Fw hi];rfl⟩) ?_ ?_
  .rintro N i v out H2' H2 hi ⟨s3,rfl⟩ y hN';obtain⟨rfl,hx⟩:=Itl.get y (SqL.of (s3 _ _ f1));rw[FD,Fw hi] at hx;cases hx;walk_at "r";refine⟨rfl,?_⟩;walk_at "r";refine b5 ((m1.trans s3).tup hS) (b6 (j:=1) rfl) ?_;walk_at "r";refine vo ((m1.trans s3).rd hM) (n_ _ (Gd hi)) ?_;refine⟨d9 (by rw[Fv,FO];lia),hN' _ _ ⟨s3,?_⟩⟩;exact K6 (λn:Str=>V.str (i9 km n)) (Fw hi)
  .rintro out H2 ⟨s3,rfl⟩;refine⟨⟨_,SqL.of (s3 _ _ f1),by rw[Fv];exact Fz _⟩,λD hD'=>⟨d9 (by rw[Fv,FO];lia),?_⟩⟩;rw[FL (Fz _)];obtain⟨H3,e3,f3,m3,_⟩:=b9 (H:=H2) (o:= .lst (ss.map λn=>V.str (i9 km n))) hD';refine k' D _ ((m1.trans s3).free hD') ?_ ?_
   .show Same _ (upd H2 D _);rw[e3];exact m1.trans (s3.trans m3)
   .show upd H2 D _ D=_;rw[d8,Gg];rfl
def kK (K:Kd):Sp:=λvs H Q _=>∃(x z u v:V) (r bl:Addr),vs=[x,.ref r,z]/\SqT K H r [u,v,.ref bl]/\SqL K H bl []/\Q .non H
def aW (K:Kd):Sp:=λvs H Q _=>False
def bx (K:Kd):Sp:=λvs H Q _=>False
def nK (K:Kd):Sp:=λvs H Q _=>False
def kU (K:Kd):Sp:=λvs H Q _=>False
def Z6 (K:Kd):Sp:=λvs H Q _=>False
def cF (K:Kd):Sp:=λvs H Q _=>False
def kO (K:Kd):Sp:=λvs H Q _=>False
def nI (K:Kd):Sp:=λvs H Q _=>False
def kP (K:Kd):Sp:=λvs H Q _=>False
def bV (K:Kd):Sp:=λvs H Q _=>False
def gi (K:Kd):Sp:=λvs H Q _=>False
abbrev cx (P:Program)(w:World)(K:Kd)(mg:Str->Option Value)(base:Heap):Prop:=N8 P w K mg base C0 1 "first_match" ["piece","web","fixed"] [] (aW K)
theorem iN {f:Addr}{fd:FuncData}(T:Txt K mg)(F:Fun K "first_match" "first_match" Y3 f fd):u9 P w K mg base C0 1 f fd ["piece","web","fixed"] (aW K):=by
 refine F.ok iW (λvs H Q E h=>?_) (λc_ A outer s H vs Q E hr h=>?_)
 .exact h.elim
 .exact h.elim
abbrev jK (P:Program)(w:World)(K:Kd)(mg:Str->Option Value)(base:Heap):Prop:=N8 P w K mg base C0 1 "first_found" ["piece","web","piece_looks","web_looks","fixed"] [] (bx K)
theorem jf {f:Addr}{fd:FuncData}(T:Txt K mg)(F:Fun K "first_found" "first_found" Y9 f fd):u9 P w K mg base C0 1 f fd ["piece","web","piece_looks","web_looks","fixed"] (bx K):=by
 refine F.ok iw (λvs H Q E h=>?_) (λc_ A outer s H vs Q E hr h=>?_)
 .exact h.elim
 .exact h.elim
abbrev yo (P:Program)(w:World)(K:Kd)(mg:Str->Option Value)(base:Heap):Prop:=N8 P w K mg base C0 1 "found" ["piece","web","piece_looks","web_looks","fixed","most"] [] (nK K)
theorem uj {f:Addr}{fd:FuncData}(T:Txt K mg)(F:Fun K "found" "found" mz f fd):u9 P w K mg base C0 1 f fd ["piece","web","piece_looks","web_looks","fixed","most"] (nK K):=by
 refine F.ok wK (λvs H Q E h=>?_) (λc_ A outer s H vs Q E hr h=>?_)
 .exact h.elim
 .exact h.elim
abbrev vN (P:Program)(w:World)(K:Kd)(mg:Str->Option Value)(base:Heap):Prop:=N8 P w K mg base C0 1 "may_be" ["name","image","fixed"] [] (kU K)
theorem tm {f:Addr}{fd:FuncData}(T:Txt K mg)(F:Fun K "may_be" "may_be" jv f fd):u9 P w K mg base C0 1 f fd ["name","image","fixed"] (kU K):=by
 refine F.ok sX (λvs H Q E h=>?_) (λc_ A outer s H vs Q E hr h=>?_)
 .exact h.elim
 .exact h.elim
abbrev gx (P:Program)(w:World)(K:Kd)(mg:Str->Option Value)(base:Heap):Prop:=N8 P w K mg base C0 1 "point_choices" ["piece_looks","web_looks","fixed"] [] (Z6 K)
theorem fF {f:Addr}{fd:FuncData}(T:Txt K mg)(F:Fun K "point_choices" "point_choices" U0 f fd):u9 P w K mg base C0 1 f fd ["piece_looks","web_looks","fixed"] (Z6 K):=by
 refine F.ok fe (λvs H Q E h=>?_) (λc_ A outer s H vs Q E hr h=>?_)
 .exact h.elim
 .exact h.elim
abbrev mD (P:Program)(w:World)(K:Kd)(mg:Str->Option Value)(base:Heap):Prop:=N8 P w K mg base C0 1 "tie_places" ["piece","web","fixed"] [] (cF K)
theorem jD {f:Addr}{fd:FuncData}(T:Txt K mg)(F:Fun K "tie_places" "tie_places" ax f fd):u9 P w K mg base C0 1 f fd ["piece","web","fixed"] (cF K):=by
 refine F.ok jL (λvs H Q E h=>?_) (λc_ A outer s H vs Q E hr h=>?_)
 .exact h.elim
 .exact h.elim
abbrev ug (P:Program)(w:World)(K:Kd)(mg:Str->Option Value)(base:Heap):Prop:=N8 P w K mg base C0 1 "enough" ["lists"] [] (kO K)
theorem rO {f:Addr}{fd:FuncData}(T:Txt K mg)(F:Fun K "enough" "enough" jm f fd):u9 P w K mg base C0 1 f fd ["lists"] (kO K):=by
 refine F.ok sS (λvs H Q E h=>?_) (λc_ A outer s H vs Q E hr h=>?_)
 .exact h.elim
 .exact h.elim
abbrev yy (P:Program)(w:World)(K:Kd)(mg:Str->Option Value)(base:Heap):Prop:=N8 P w K mg base C0 1 "lines" ["piece","choices","places","most"] [] (nI K)
theorem vE {f:Addr}{fd:FuncData}(T:Txt K mg)(F:Fun K "lines" "lines" lO f fd):u9 P w K mg base C0 1 f fd ["piece","choices","places","most"] (nI K):=by
 refine F.ok uT (λvs H Q E h=>?_) (λc_ A outer s H vs Q E hr h=>?_)
 .exact h.elim
 .exact h.elim
abbrev uH (P:Program)(w:World)(K:Kd)(mg:Str->Option Value)(base:Heap):Prop:=N8 P w K mg base C0 1 "images" ["piece","choices","places","begun"] [] (kP K)
theorem sL {f:Addr}{fd:FuncData}(T:Txt K mg)(F:Fun K "images" "images" iB f fd):u9 P w K mg base C0 1 f fd ["piece","choices","places","begun"] (kP K):=by
 refine F.ok rZ (λvs H Q E h=>?_) (λc_ A outer s H vs Q E hr h=>?_)
 .exact h.elim
 .exact h.elim
abbrev jN (P:Program)(w:World)(K:Kd)(mg:Str->Option Value)(base:Heap):Prop:=N8 P w K mg base C0 1 "tie_choices" ["piece","places","put","name"] [] (bV K)
theorem jq {f:Addr}{fd:FuncData}(T:Txt K mg)(F:Fun K "tie_choices" "tie_choices" Y1 f fd):u9 P w K mg base C0 1 f fd ["piece","places","put","name"] (bV K):=by
 refine F.ok ic (λvs H Q E h=>?_) (λc_ A outer s H vs Q E hr h=>?_)
 .exact h.elim
 .exact h.elim
abbrev ql (P:Program)(w:World)(K:Kd)(mg:Str->Option Value)(base:Heap):Prop:=N8 P w K mg base C0 1 "has_room" ["piece","places","put","name","image"] [] (gi K)
theorem oR {f:Addr}{fd:FuncData}(T:Txt K mg)(F:Fun K "has_room" "has_room" cM f fd):u9 P w K mg base C0 1 f fd ["piece","places","put","name","image"] (gi K):=by
 refine F.ok oD (λvs H Q E h=>?_) (λc_ A outer s H vs Q E hr h=>?_)
 .exact h.elim
 .exact h.elim
abbrev nM (P:Program)(w:World)(K:Kd)(mg:Str->Option Value)(base:Heap):Prop:=N8 P w K mg base C0 2 "barred" ["web","rule","match"] [] (kK K)
theorem tu {f:Addr}{fd:FuncData}(T:Txt K mg)(Y6:cx P w K mg base)(F:Fun K "barred" "barred" iJ f fd):u9 P w K mg base C0 2 f fd ["web","rule","match"] (kK K):=by
 refine F.ok sc_barred (λvs H Q E h=>?_) (λc_ A outer s H vs Q E hr h=>?_)
 .obtain⟨x,z,u,v,r,bl,rfl,_⟩:=h;rfl
 .obtain⟨x,z,u,v,r,bl,rfl,hR,hB,k⟩:=h;have hN:=sc_barred.nd;have hu:=u6 hr;refine⟨_,QSs.r (z6 (Q9 Gp rfl (ae K T.b_enumerate (i7 (j6 (j7 K hu) (qV 1) d6 (λ_ _=>rfl)) j5)) (jz K rfl (U1 (F4 (i:=3) hN rfl (by walk_at "l")) (U1 (F4 (i:=4) hN rfl (by walk_at "l")) jA)))
    (z6 (z0 (i:=5) hN rfl (by walk_at "l") (qC Y6 (hr.mono (by decide)) k7 (i7 (qV 4) (i7 (qV 0) (i7 (qV 2) j5)))))
   (C4 (cm (p0 oY (qV 5) Ar (r9 _)) (C4 (A3 (J3 (i7 (qV 3) (i7 (qV 5) j5))))) cU))))
   (C4 (A3 Ar))),?_⟩
  walk_at "r";refine b5 hR (b6 (j:=2) rfl) ?_;walk_at "r";refine⟨_,rfl,.inl ⟨bl,_,rfl,hB,?_⟩⟩;refine C8 (n:=0) (λi σ H'=>H'=H) rfl (λi σ H' hi _=>absurd hi (Ie _)) (λi x σ H' H'' hi=>absurd hi (Ie _)) ?_;rintro σ H1 rfl;refine⟨⟨_,hB,Fz _⟩,?_⟩;walk_at "r";exact k
def bh (L:C3)(km kf:List (j4×V))(n:Str):Str:=if n∈b8 L then i9 km n else i9 kf n
structure FrOk (W L R:C3) (fr:List (Str×Str)):Prop where
 ks:∃u1 u2,Ordr R u1 u2/\fr.map (·.1)=(u1++u2).filter λn=>!decide (n∈b8 L)
 nm:∀x∈fr,N9 x.2=true
 nd:(fr.map (·.2)).Nodup
 no:∀x∈fr,x.2∉b8 W
 len:fr.length<=8
theorem FrOk.at_ {W L R:C3}{fr:List (Str×Str)}{s1 s2:List Str}(h:FrOk W L R fr)(ndR:(b8 R).Nodup)(o:Ordr R s1 s2):fr.map (·.1)=(s1++s2).filter λn=>!decide (n∈b8 L):=by
 obtain⟨u1,u2,ou,e⟩:=h.ks;obtain⟨e1,e2⟩:=o.uniq ou (HU _) (HU _) ndR;rw[e,e1,e2]
theorem FrOk.nd1 {W L R:C3}{fr:List (Str×Str)}(h:FrOk W L R fr)(ndR:(b8 R).Nodup):(fr.map (·.1)).Nodup:=by
 obtain⟨u1,u2,ou,e⟩:=h.ks;rw[e];exact(ou.perm.nodup_iff.mpr ndR).sublist GJ
theorem FrOk.mem {W L R:C3}{fr:List (Str×Str)}(h:FrOk W L R fr){n:Str}:n∈fr.map (·.1)↔n∈b8 R/\n∉b8 L:=by
 obtain⟨u1,u2,ou,e⟩:=h.ks;rw[e,FJ,ou.mem,Gr,FY]
theorem FrOk.txt {W L R:C3}{fr:List (Str×Str)}(h:FrOk W L R fr)(ndR:(b8 R).Nodup){n:Str}(hn:n∈fr.map (·.1)):TxtAt (i6 fr) n/\(n,i9 (i6 fr) n)∈fr:=by
 obtain⟨⟨n',s⟩,hx,e⟩:=Fx.mp hn;have e':n'=n:=e;subst e';have z:=X9 (h.nd1 ndR) hx;exact⟨z.1,by rw[z.2];exact hx⟩
theorem wQ {fr:List (Str×Str)}:(i6 fr).map (·.2)=(fr.map (·.2)).map V.str:=by unfold i6;rw[Gg,Gg];rfl
def bj (K:Kd):Sp:=λvs H Q _=>∃(S L R:Sd) (r bl f:Addr) (bs:List Sd) (fr:List (Str×Str)),vs=[.ref S.a,.ref r,.ref f]/\SdIs K H S/\RuleIs K H r bl L R bs/\H f=some (.dK (i6 fr))/\FrOk S.W L.W R.W fr/\∀H',Same H H'->Q (.bl true) H'
abbrev cy (P:Program)(w:World)(K:Kd)(mg:Str->Option Value)(base:Heap):Prop:=N8 P w K mg base C0 4 "names_serve" ["web","rule","fresh"] [] (bj K)
theorem jt {f:Addr}{fd:FuncData}(T:Txt K mg)(Q2:di P w K mg base)(fD:kl P w K mg base)(F:Fun K "names_serve" "names_serve" Y4 f fd):u9 P w K mg base C0 4 f fd ["web","rule","fresh"] (bj K):=by
 refine F.ok sc_names_serve (λvs H Q E h=>?_) (λc_ A outer s H vs Q E hr h=>?_)
 .obtain⟨S,L,R,r,bl,f,bs,fr,rfl,_⟩:=h;rfl
 .obtain⟨S,L,R,r,bl,f,bs,fr,rfl,hS,hR,hF,ok,k⟩:=h;have x_:=ok.len;have hN:=sc_names_serve.nd;have hu:=u6 hr;refine⟨_,QSs.r (z6 (z0 (i:=3) hN rfl (by walk_at "l") (qC Q2 (hr.mono (by decide)) k7 (i7 (qV 1) j5)))
   (z6 (cm (kG (fI (Z5 (Z7 K (qB (dC K P w) T.b_isinstance Boot.«isinstance» (i7 (qV 2) (i7 (yl "dict" T.b_dict Boot.«dict») j5))))) (bB (p0 (aX K hr) (qB (B8 K P w) T.b_len Boot.«len» (i7 (qV 2) j5)) (qB (B8 K P w) T.b_len Boot.«len» (i7 (qV 3) j5)) (r9 _))))) (C4 (A3 rh)) cU)
   (z6 (cm (Z5 (Z7 K (qB (wg K rfl) T.b_all Boot.«all» (i7 (N0 (own:=["name"]) (js:=[2]) (by kernel_rfl) rfl (P8 K (qV 3)) (λ_ _ _ _=>(F4 (i:=0) (show List.Nodup (["name","fresh"]:List Str) by decide+kernel) rfl (by walk_at "l"))) (λ_ _ _ _=>aR) (λ_ _ _ _=>(qC fD (hr.mono (by decide)) k7 (i7 (qQ hu (qV 1) (qV 0)) j5)))) j5)))) (C4 (A3 rh)) cU)
   (z6 (cm (p0 (aX K hr) (qB (B8 K P w) T.b_len Boot.«len» (i7 (gJ (BX K rfl) T.b_set Boot.«set» (i7 (gJ (vc K rfl) T.b_list Boot.«list» (i7 (AV GG Iw Jo aM K (qV 2)) j5)) j5)) j5)) (qB (B8 K P w) T.b_len Boot.«len» (i7 (qV 3) j5)) (r9 _)) (C4 (A3 rh)) cU)
   (C4 (A3 (DE (qB (DN K rfl) T.b_any Boot.«any» (i7 (N0 (own:=["name"]) (js:=[0]) (by kernel_rfl) rfl (uS (qV 2)) (λ_ _ _ _=>(F4 (i:=0) (show List.Nodup (["name","web"]:List Str) by decide+kernel) rfl (by walk_at "l"))) (λ_ _ _ _=>aR) (λ_ _ _ _=>(Fo (eG (kIn K hu) (qV 0) (j6 (j7 K hu) (qV 1) d6 (λ_ _=>rfl)) (by rfl)) (yp (eG (kIn K hu) (qV 0) (j6 (j7 K hu) (qV 1) d6 (λ_ _=>rfl)) (by rfl)))))) j5))))))))),?_⟩
  walk_at "r";refine⟨r,bl,L,R,bs,rfl,hR,λl1 H1 s1 s2 n1 m1 or f1=>?_⟩;rw[←ok.at_ hR.r.nd or] at f1;have F1:=m1 _ _ hF;walk_at "r";refine bO (bN (t:="dict") (.inr (.inr ⟨rfl,_,.inl F1⟩)) (by simp) ?_);walk_at "r";rw[if_neg (by decide)];walk_at "r";refine B7 (Z4 (.inl F1) ?_);walk_at "r";refine B7 (k8 (SqL.of f1) ?_);rw[j8,Fv,Fv];walk_at "r";rw[if_neg (by simp)];walk_at "r";refine C6 (SqL.of f1) ?_;refine z7 (n:=fr.length) (λi out H'=>Same H1 H'/\out=List.replicate i (V.bl true)) ⟨Same.refl _,rfl⟩ (λi out H' hi hp=>⟨_,.str (fr[i].1),SqL.of (hp.1 _ _ f1),by rw[FD,FD,Fw hi];rfl⟩) ?_ ?_
  .rintro N i v out H2' H2 hi ⟨s2',rfl⟩ y hN';obtain⟨rfl,hx⟩:=Itl.get y (SqL.of (s2' _ _ f1));rw[FD,FD,Fw hi] at hx;cases hx;have hm:=Gd hi;generalize fr[i]=x at hm;walk_at "r";refine⟨rfl,?_⟩;walk_at "r";refine⟨f,rfl,.inl ⟨_,.inl (s2' _ _ F1)⟩,?_⟩;walk_at "r";refine⟨_,F5 (k:=Sum.inr x.1) (show Rd H2 f _ from .inl (s2' _ _ F1)),?_⟩;rw[K3 (k:=x.2) (ok.nd1 hR.r.nd) hm];walk_at "r";refine⟨_,rfl,.inl ⟨x.2,rfl,vG (ok.nm x hm),λH3 m3=>?_⟩⟩;rw[ok.nm x hm];refine⟨d9 (by rw[Hi];lia),hN' _ _ ⟨s2'.trans m3,?_⟩⟩;rw[Ka]
  .rintro out H2 ⟨s2',rfl⟩;refine⟨⟨_,SqL.of (s2' _ _ f1),by rw[Fv,Fv];exact Fz _⟩,λD hD=>⟨d9 (by rw[Hi];lia),?_⟩⟩;obtain⟨H3,e3,f3,m3,_⟩:=b9 (H:=H2) (o:= .lst (List.replicate fr.length (V.bl true))) hD;walk_at "r";change vh K _ (upd H2 D _) _;rw[e3];refine om (bs:=List.replicate fr.length true) (SqL.of (by rw[f3,Ks])) ?_;rw[mE];have Mn:=s2'.trans m3;have F3:=Mn _ _ F1;walk_at "r";refine⟨.inr (.inr (.inl ⟨rfl,.inl ⟨_,F3⟩⟩)),?_⟩;walk_at "r";refine⟨f,_,rfl,rfl,.inl F3,λv4 n4=>?_⟩;obtain⟨H4,e4,f4,m4,_⟩:=b9 (o:= .ext (oS v4 f)) n4;rw[e4];walk_at "r";refine gr f4 (.inl (m4 _ _ F3)) (λl5 n5=>?_);rw[wQ];obtain⟨H5,e5,f5,m5,_⟩:=b9 (o:= .lst _) n5;rw[e5];walk_at "r";refine⟨l5,_,rfl,SqL.of f5,by rw[Fv];lia,λl6 n6=>?_⟩;obtain⟨H6,e6,f6,m6,_⟩:=b9 (o:= .ext (dn l6 (fv (fr.map (·.2))).length)) n6;rw[e6];have Ra:=Mn.trans (m4.trans (m5.trans m6));have NR:(fv (fr.map (·.2))).length=fr.length:=by
    have z:=(oy (fr.map (·.2))).mpr ok.nd;rw[Fv] at z;exact z
   walk_at "r";refine kr f6 (by lia) ?_;rw[NR];walk_at "r";refine B7 (k8 (SqL.of (Ra _ _ f1)) ?_);rw[Fv,Fv];walk_at "r";rw[if_neg (by simp)];have F6:=Ra _ _ F1;have S6:=hS.same (m1.trans Ra);walk_at "r";refine⟨f,_,rfl,.inl ⟨F6,λXR o=>?_⟩⟩;refine z7 (n:=(i6 fr).length) (λi out H'=>Same (z8 f o (i6 fr) H6) H'/\out=List.replicate i (V.bl false)) ⟨Same.refl _,rfl⟩ (λi out H' hi hp=>⟨hp.1 _ _ d8,hi⟩) ?_ ?_
   .rintro N i v out H7' H7 hi ⟨s7,rfl⟩ ⟨rfl,kv,d_,rfl⟩ hN';have Ti:=(K9 (o:=o) F6).trans s7.le;have S7:=S6.at_.mono Ti;obtain⟨x,hx,rfl⟩:=Q5 d_;have s_:=ok.no x (FI hx);rw[j8] at hi;walk_at "r";refine⟨rfl,?_⟩;walk_at "r";refine b5 S7.tup (b6 (j:=0) rfl) ?_;refine bJ (F5 (k:=Sum.inr x.2) S7.pts) ?_;rw[L8,Ge (λz=>s_ (Fy _ z))];walk_at "r";refine b5 S7.tup (b6 (j:=1) rfl) ?_;refine bJ (F5 (k:=Sum.inr x.2) S7.ties) ?_;rw[U5 S7.ts,Ge (λz=>s_ (FA _ z))];refine⟨d9 (by rw[Hi];lia),hN' _ _ ⟨s7,?_⟩⟩;rw[Ka]
   .rintro out H7 ⟨s7,rfl⟩;refine⟨⟨s7 _ _ d8,Fz _⟩,λD8 n8=>⟨d9 (by rw[Hi,j8];lia),?_⟩⟩;have s8:=M0 F6 s7 n8 (u:= .lst (List.replicate (i6 fr).length (V.bl false)));have f8:=U9 s7 n8 (u:= .lst (List.replicate (i6 fr).length (V.bl false)));generalize thaw f (upd H7 D8 (.lst (List.replicate (i6 fr).length (V.bl false))))=H8 at s8 f8⊢;walk_at "r";refine⟨D8,List.replicate (i6 fr).length false,rfl,SqL.of (by rw[f8,Ks]),?_⟩;rw[show(List.replicate (i6 fr).length false).any id=false by rw[KA];intro x hx;rw[List.eq_of_mem_replicate hx];simp];walk_at "r";exact k _ (m1.trans (Ra.trans s8))
structure StI (K:Kd) (H:Hp) (st r m f bl:Addr) (L R:Sd) (km kf:List (j4×V)) (bs:List Sd):Prop where
 tup:SqT K H st [.ref r,.ref m,.ref f]
 r:RuleIs K H r bl L R bs
 m:H m=some (.dK km)
 f:H f=some (.dK kf)
 b:H bl=some (.lst (bs.map λs=>V.ref s.a))
theorem StI.same {H H':Hp}{st r m f bl:Addr}{L R:Sd}{km kf:List (j4×V)}{bs:List Sd}(h:StI K H st r m f bl L R km kf bs)(s:Same H H'):StI K H' st r m f bl L R km kf bs:=⟨s.tup h.tup,h.r.same s,s _ _ h.m,s _ _ h.f,s _ _ h.b⟩
theorem gS {α:Type}{l:List α}{p:α->Bool}(h:l.Nodup):(l.filter p).Nodup:=h.sublist GJ
theorem kE {A B:List (Str×Str)}{n:Str}(nd:((A++B).map (·.1)).Nodup)(h:n∈A.map (·.1)):TxtAt (i6 A++i6 B) n/\i9 (i6 A++i6 B) n=i9 (i6 A) n:=by
 obtain⟨⟨n',s⟩,hx,e⟩:=Fx.mp h;have e':n'=n:=e;subst e';have e2:i6 A++i6 B=i6 (A++B):=by unfold i6;rw[FF]
 have z:=X9 nd (Fy B hx);rw[FF] at nd;rw[e2,(X9 (FR.mp nd).1 hx).2];exact z
theorem kc {A B:List (Str×Str)}{n:Str}(nd:((A++B).map (·.1)).Nodup)(h:n∈B.map (·.1)):TxtAt (i6 A++i6 B) n/\i9 (i6 A++i6 B) n=i9 (i6 B) n:=by
 obtain⟨⟨n',s⟩,hx,e⟩:=Fx.mp h;have e':n'=n:=e;subst e';have e2:i6 A++i6 B=i6 (A++B):=by unfold i6;rw[FF]
 have z:=X9 nd (FA A hx);rw[FF] at nd;rw[e2,(X9 (FR.mp nd).2.1 hx).2];exact z
theorem P4 (ss:List Str)(f:Str->Str):(ss.map λn=>(n,f n)).map (·.1)=ss:=by rw[Gg];exact Jg ss
def kB (K:Kd):Sp:=λvs H Q _=>∃(st r m f bl:Addr) (L R:Sd) (km kf:List (j4×V)) (bs:List Sd),vs=[.ref st]/\StI K H st r m f bl L R km kf bs/\(∀n∈b8 L.W,TxtAt km n)/\(∀n∈b8 R.W,n∉b8 L.W->TxtAt kf n)/\∀(d:Addr) (H':Hp) (t1 t2:List Str),H d=none->Same H H'->Ordr R.W t1 t2->H' d=some (.dK (i6 ((t1++t2).map λn=>(n,bh L.W km kf n))))->Q (.ref d) H'
abbrev ib (P:Program)(w:World)(K:Kd)(mg:Str->Option Value)(base:Heap):Prop:=N8 P w K mg base C0 4 "behind" ["step"] [] (kB K)
theorem tQ {f:Addr}{fd:FuncData}(T:Txt K mg)(R5:ij P w K mg base)(pC:uW P w K mg base)(Q2:di P w K mg base)(E6:Z8 P w K mg base)(F:Fun K "behind" "behind" iK f fd):u9 P w K mg base C0 4 f fd ["step"] (kB K):=by
 refine F.ok sc_behind (λvs H Q E h=>?_) (λc_ A outer s H vs Q E hr h=>?_)
 .obtain⟨st,r,m,f,bl,L,R,km,kf,bs,rfl,_⟩:=h;rfl
 .obtain⟨st,r,m,f,bl,L,R,km,kf,bs,rfl,hS,hM,hF,k⟩:=h;have Nj:=hS.r.l.len;have Mo:=hS.r.r.len;have hN:=sc_behind.nd;have hu:=u6 hr;refine⟨_,QSs.r (z6 (z0 (i:=1) hN rfl (by walk_at "l") (j6 (j7 K hu) (qV 0) d6 (λ_ _=>rfl)))
   (z6 (z0 (i:=2) hN rfl (by walk_at "l") (qC R5 (hr.mono (by decide)) k7 (i7 (j6 (j7 K hu) (qV 0) d6 (λ_ _=>rfl)) (i7 (qC pC (hr.mono (by decide)) k7 (i7 (qV 1) j5)) j5))))
   (z6 (mX (qM GG Hr HI N2 K (qV 2) (i7 (qC R5 (hr.mono (by decide)) k7 (i7 (j6 (j7 K hu) (qV 0) d6 (λ_ _=>rfl)) (i7 (qC Q2 (hr.mono (by decide)) k7 (i7 (qV 1) j5)) j5))) j5)))
   (C4 (A3 (qC R5 (hr.mono (by decide)) k7 (i7 (qV 2) (i7 (qC E6 (hr.mono (by decide)) k7 (i7 (j6 (j7 K hu) (qV 1) d6 (λ_ _=>rfl)) j5)) j5)))))))),?_⟩
  walk_at "r";refine b5 hS.tup (b6 (j:=0) rfl) ?_;walk_at "r";refine b5 hS.tup (b6 (j:=1) rfl) ?_;walk_at "r";refine⟨r,bl,L,R,bs,rfl,hS.r,λl1 H1 s1 s2 n1 m1 o1 f1=>?_⟩;have S1:=hS.same m1;have Qy:=o1.len;have Md:=FK (λn=>decide (n∈b8 R.W)) (s1++s2);walk_at "r";refine⟨m,l1,km,_,rfl,.inl S1.m,SqL.of f1,gS (o1.perm.nodup_iff.mpr hS.r.l.nd),by lia,λn hn=>hM n (o1.mem.mp (FJ.mp hn).1),λd2 H2 n2 m2 f2=>?_⟩;have S2:=S1.same m2;walk_at "r";refine⟨.inr (.inr (.inl ⟨rfl,.inl ⟨_,f2⟩⟩)),?_⟩;walk_at "r";refine b5 S2.tup (b6 (j:=2) rfl) ?_;walk_at "r";refine⟨r,bl,L,R,bs,rfl,S2.r,λl3 H3 u1 u2 n3 m3 o3 f3=>?_⟩;have S3:=S2.same m3;have US:=o3.len;have KS:=FK (λn=>!decide (n∈b8 L.W)) (u1++u2);walk_at "r";refine⟨f,l3,kf,_,rfl,.inl S3.f,SqL.of f3,gS (o3.perm.nodup_iff.mpr hS.r.r.nd),by lia,λn hn=>hF n (o3.mem.mp (FJ.mp hn).1) (by have z:=(FJ.mp hn).2;rw[Gr,FY] at z;exact z),λd4 H4 n4 m4 f4=>?_⟩;have S4:=S3.same m4;have VB:=m4 _ _ (m3 _ _ f2);have Tj:d2≠d4:=b7 (m3 _ _ f2) n4;have Tn:∀n∈(s1++s2).filter (λn=>decide (n∈b8 R.W)),n∈b8 L.W:=λn hn=>o1.mem.mp (FJ.mp hn).1;have s_:∀n∈(u1++u2).filter (λn=>!decide (n∈b8 L.W)),n∉b8 L.W:=λn hn=>by have z:=(FJ.mp hn).2;rw[Gr,FY] at z;exact z
  have Pq:(((s1++s2).filter λn=>decide (n∈b8 R.W))++((u1++u2).filter λn=>!decide (n∈b8 L.W))).Nodup:=FR.mpr ⟨gS (o1.perm.nodup_iff.mpr hS.r.l.nd),gS (o3.perm.nodup_iff.mpr hS.r.r.nd),λa ha b hb e=>s_ b hb (e▸Tn a ha)⟩;have Pr:∀n∈b8 R.W,n∈b8 L.W->n∈(s1++s2).filter λn=>decide (n∈b8 R.W):=λn h1 h2=>FJ.mpr ⟨o1.mem.mpr h2,FZ h1⟩;have Pt:∀n∈b8 R.W,n∉b8 L.W->n∈(u1++u2).filter λn=>!decide (n∈b8 L.W):=λn h1 h2=>FJ.mpr ⟨o3.mem.mpr h1,by rw[Ge h2];rfl⟩;generalize (s1++s2).filter (λn=>decide (n∈b8 R.W))=A at VB Pq Pr Md;generalize (u1++u2).filter (λn=>!decide (n∈b8 L.W))=B at f4 Pq Pt KS;have Pn:(((A.map λn=>(n,i9 km n))++(B.map λn=>(n,i9 kf n))).map (·.1)).Nodup:=by rw[FF,P4,P4];exact Pq
  walk_at "r";refine⟨d2,d4,_,_,rfl,rfl,VB,.inl f4,Tj,by rw[j8,j8,Fv,Fv];lia,?_⟩;rw[ky (by have z:=U4 Pn;unfold i6 at z⊢;rw[FF] at z;exact z)];have XS:H1 d2=none:=n2;have s5:Same H1 (upd H4 d2 (.dK (i6 (A.map λn=>(n,i9 km n))++i6 (B.map λn=>(n,i9 kf n))))):=E4 (m2.trans (m3.trans m4)) XS;have f5:upd H4 d2 (.dK (i6 (A.map λn=>(n,i9 km n))++i6 (B.map λn=>(n,i9 kf n)))) d2=some (.dK (i6 (A.map λn=>(n,i9 km n))++i6 (B.map λn=>(n,i9 kf n)))):=d8;generalize upd H4 d2 (.dK (i6 (A.map λn=>(n,i9 km n))++i6 (B.map λn=>(n,i9 kf n))))=H5 at s5 f5⊢;have S5:=S1.same s5;walk_at "r";refine b5 S5.r.tup (b6 (j:=1) rfl) ?_;walk_at "r";refine⟨R.a,R.p,R.q,R.kvs,R.W,rfl,S5.r.r.at_,by lia,λl6 H6 t1 t2 n6 m6 f6 o6=>?_⟩;have Zw:=o6.len;walk_at "r";have gA:∀n∈b8 R.W,TxtAt (i6 (A.map λn=>(n,i9 km n))++i6 (B.map λn=>(n,i9 kf n))) n/\i9 (i6 (A.map λn=>(n,i9 km n))++i6 (B.map λn=>(n,i9 kf n))) n=bh L.W km kf n:=λn hn=>by
   unfold bh;by_cases hL:n∈b8 L.W
   .rw[if_pos hL];have hA:=Pr n hn hL;have z:=kE Pn (by rw[P4];exact hA);exact⟨z.1,z.2.trans (hZ (FR.mp Pq).1 hA).2⟩
   .rw[if_neg hL];have hB:=Pt n hn hL;have z:=kc Pn (by rw[P4];exact hB);exact⟨z.1,z.2.trans (hZ (FR.mp Pq).2.1 hB).2⟩
  refine⟨d2,l6,_,_,rfl,.inl (m6 _ _ f5),SqL.of f6,o6.perm.nodup_iff.mpr hS.r.r.nd,by lia,λn hn=>(gA n (o6.mem.mp hn)).1,λd7 H7 n7 m7 f7=>?_⟩;refine k d7 H7 t1 t2 (m1.free (s5.free (m6.free n7))) (m1.trans (s5.trans (m6.trans m7))) o6 ?_;rw[f7];congr 3;exact Gz λn hn=>by rw[(gA n (o6.mem.mp hn)).2]
def T9 (L R:C3)(km:List (j4×V)):List Str:=((b8 L).filter λn=>!decide (n∈b8 R)).map (i9 km)
def A6 (W L R:C3)(km kf:List (j4×V)):C3:=xG (V5 (T9 L R km) W) (E9 (bh L km kf) R)
structure Bb (W L R:C3) (km:List (j4×V)) (fr:List (Str×Str)):Prop where
 fit:pT L W km
 lo:∀x∈W.ts,x.1∉T9 L R km->x.2.2.1∉T9 L R km/\x.2.2.2∉T9 L R km
 fo:FrOk W L R fr
 nd:((b8 R).map (bh L km (i6 fr))).Nodup
theorem qb {gs NU:List Str}(W:C3)(h:∀n,n∈gs↔n∈NU):V5 gs W=V5 NU W:=by
 unfold V5;congr 1
 .exact HH λx _=>by rw[GC];simp only[Gr,FY];rw[h]
 .exact HH λx _=>by rw[GC];simp only[Gr,FY];rw[h]
theorem vQ {f g:Str->Str}{W:C3}(h:∀n∈b8 W,f n=g n)(he:∀x∈W.ts,x.2.2.1∈W.pts.map (·.1)/\x.2.2.2∈W.pts.map (·.1)):E9 f W=E9 g W:=by
 unfold E9;congr 1
 .exact Gz λx hx=>by rw[h x.1 (Fy _ (Fx.mpr ⟨x,hx,rfl⟩))]
 .exact Gz λx hx=>by rw[h x.1 (FA _ (Fx.mpr ⟨x,hx,rfl⟩)),h _ (Fy _ (he x hx).1),h _ (Fy _ (he x hx).2)]
theorem ck {α:Type}{A A' B B':List (Str×α)}(pa:A'.Perm A)(pb:B'.Perm B):((A'.filter λx=>!decide (x.1∈B'.map (·.1)))++B').Perm ((A.filter λx=>!decide (x.1∈B.map (·.1)))++B):=by
 refine List.Perm.append ?_ pb;have e:(A'.filter λx=>!decide (x.1∈B'.map (·.1)))=A'.filter λx=>!decide (x.1∈B.map (·.1)):=HH λx _=>by
  rw[GC];simp only[Gr,FY];rw[(pb.map _).mem_iff]
 rw[e];exact pa.filter _
theorem Ab {L R:C3}{km:List (j4×V)}{s1 s2:List Str}(o:Ordr L s1 s2)(n:Str):n∈((s1++s2).filter λn=>!decide (n∈b8 R)).map (i9 km)↔n∈T9 L R km:=((o.perm.filter _).map _).mem_iff
theorem gH {f:Str->Str}{W:C3}(h:((b8 W).map f).Nodup):((E9 f W).pts.map (·.1)).Nodup/\((E9 f W).ts.map (·.1)).Nodup:=by
 unfold b8 at h;rw[FF] at h;have z:=FR.mp h;unfold E9;have z1:=z.1;have z2:=z.2.1;rw[Gg] at z1 z2;exact⟨by show((W.pts.map λx=>(f x.1,x.2)).map (·.1)).Nodup;rw[Gg];exact z1,by show((W.ts.map λx=>(f x.1,(x.2.1,f x.2.2.1,f x.2.2.2))).map (·.1)).Nodup;rw[Gg];exact z2⟩
def iF (K:Kd):Sp:=λvs H Q E=>∃(S L R:Sd) (st r m f bl:Addr) (km kf:List (j4×V)),vs=[.ref S.a,.ref st]/\SdIs K H S/\StI K H st r m f bl L R km kf []/\(km.map (·.1)).Nodup/\km.length<=100/\(∀kv∈km,∃n s,kv=(Sum.inr n,V.str s))/\pT L.W S.W km/\(∀x∈S.W.ts,x.1∉T9 L.W R.W km->x.2.2.1∉T9 L.W R.W km/\x.2.2.2∉T9 L.W R.W km)/\S.W.pts.length+S.W.ts.length<=52/\NewP K H Q (V5 (T9 L.W R.W km) S.W)
def rE (K:Kd):Sp:=λvs H Q E=>∃(S L R:Sd) (st r m f bl:Addr) (km:List (j4×V)) (fr:List (Str×Str)),vs=[.ref S.a,.ref st]/\SdIs K H S/\StI K H st r m f bl L R km (i6 fr) []/\(km.map (·.1)).Nodup/\km.length<=100/\(∀kv∈km,∃n s,kv=(Sum.inr n,V.str s))/\Bb S.W L.W R.W km fr/\(b8 R.W).length<=8/\S.W.pts.length+S.W.ts.length<=52/\NewP K H Q (A6 S.W L.W R.W km (i6 fr))
abbrev jR (P:Program)(w:World)(K:Kd)(mg:Str->Option Value)(base:Heap):Prop:=N8 P w K mg base (pq P w) 5 "rest_of" ["web","step"] [] (iF K)
theorem pM {f:Addr}{fd:FuncData}(T:Txt K mg)(cX:iT P w K mg base)(eU:kC P w K mg base)(bH:gk P w K mg base)(je:nM P w K mg base)(F:Fun K "rest_of" "rest_of" fh f fd):u9 P w K mg base (pq P w) 5 f fd ["web","step"] (iF K):=by
 refine F.okE sc_rest_of (λvs H Q E h=>?_) (λc_ A outer s H vs Q E hr h=>?_)
 .obtain⟨S,L,R,st,r,m,f,bl,km,kf,rfl,_⟩:=h;rfl
 .obtain⟨S,L,R,st,r,m,f,bl,km,kf,rfl,hS,hT,knd,kln,ktx,fit,lo,hsz,k⟩:=h;have Nj:=hT.r.l.len;have Mo:=hT.r.r.len;have hN:=sc_rest_of.nd;have hu:=u6 hr;refine⟨_,QSs.r (z6 (z0 (i:=2) hN rfl (by walk_at "l") (j6 (j7 K hu) (qV 1) d6 (λ_ _=>rfl)))
   (z6 (cm (Z5 (Z7 K (qC cX (hr.mono (by decide)) k7 (i7 (j6 (j7 K hu) (qV 2) d6 (λ_ _=>rfl)) (i7 (qV 0) (i7 (j6 (j7 K hu) (qV 1) d6 (λ_ _=>rfl)) j5)))))) (C4 (my gM T.r_NoMatch rfl (i7 jJ j5))) cU)
   (z6 (z0 (i:=3) hN rfl (by walk_at "l") (qC eU (hr.mono (by decide)) wj (i7 (qV 0) (i7 (qC bH (hr.mono (by decide)) k7 (i7 (qV 1) j5)) j5))))
   (z6 (cm (p0 oY (qC je (hr.mono (by decide)) k7 (i7 (qV 0) (i7 (qV 2) (i7 (j6 (j7 K hu) (qV 1) d6 (λ_ _=>rfl)) j5)))) Ar (r9 _)) (C4 (my gM T.r_Barred rfl (i7 jJ j5))) cU)
   (C4 (A3 (qV 3))))))),?_⟩
  walk_at "r";refine b5 hT.tup (b6 (j:=0) rfl) ?_;walk_at "r";refine b5 hT.r.tup (b6 (j:=0) rfl) ?_;walk_at "r";refine b5 hT.tup (b6 (j:=1) rfl) ?_;walk_at "r";refine⟨L.a,L.p,L.q,S.a,S.p,S.q,L.kvs,S.kvs,L.W,S.W,.ref m,true,rfl,hT.r.l,hS,.inr (.inr ⟨m,km,rfl,hT.m,knd,kln,λkv hk=>?_,(qP fit).symm⟩),λH1 m1=>?_⟩
  .obtain⟨n,s,rfl⟩:=ktx kv hk;exact⟨"str",rfl⟩
  have T1:=hT.same m1;have S1:=hS.same m1;walk_at "r";refine⟨st,r,m,bl,.ref f,L,R,[],km,rfl,T1.tup,T1.r,.inl T1.m,fit.txt,λl2 H2 s1 s2 n2 m2 o2 f2=>?_⟩;have T2:=T1.same m2;have S2:=S1.same m2;walk_at "r";have Pu:=Ab (R:=R.W) (km:=km) o2;generalize ((s1++s2).filter λn=>!decide (n∈b8 R.W)).map (i9 km)=gs at f2 Pu;have To:=S2.len;rw[A5] at To;refine⟨S.a,l2,S.p,S.q,S.kvs,S.W,gs,rfl,S2.at_,S2.hp,S2.hq,SqL.of f2,E1 hS.nd,N1 hS.nd,by lia,by lia,λx hx=>hS.nl _ (FA _ (Fx.mpr ⟨x,hx,rfl⟩)),?_⟩;have Uy:¬lF gs S.W=true:=λz=>by
   obtain⟨x,hx,hz⟩:=Hg.mp z;have g_:=FJ.mp (show x∈S.W.ts.filter λx=>!decide (x.1∈gs) from hx);have hn:x.1∉T9 L.W R.W km:=λq=>by
    have q2:=g_.2;rw[FZ ((Pu _).mpr q)] at q2;cases q2
   have he:=lo x g_.1 hn;rw[Bool.or_eq_true,GI,GI,Pu,Pu] at hz;exact hz.elim he.1 he.2
  rw[if_neg Uy,qb S.W Pu];intro a3 p3 q3 k3 W3 H3 m3 w3 hp3 hq3 ne3 np3 nq3 e31 e32;have T3:=T2.same m3;have S3:=S2.same m3;walk_at "r";refine b5 T3.tup (b6 (j:=1) rfl) ?_;walk_at "r";refine⟨_,_,_,_,r,bl,rfl,T3.r.tup,T3.r.bl,?_⟩;walk_at "r";rw[if_neg (by simp)];walk_at "r";exact k a3 p3 q3 k3 W3 H3 (m1.trans (m2.trans m3)) w3 hp3 hq3 ne3 ((m1.trans m2).free np3) ((m1.trans m2).free nq3) e31 e32
abbrev ve (P:Program)(w:World)(K:Kd)(mg:Str->Option Value)(base:Heap):Prop:=N8 P w K mg base (pq P w) 6 "done" ["web","step"] [] (rE K)
theorem xI {f:Addr}{fd:FuncData}(T:Txt K mg)(eQ:jR P w K mg base)(Z0:cy P w K mg base)(jo:oW P w K mg base)(eZ:jS P w K mg base)(ak:ib P w K mg base)(F:Fun K "done" "done" pN f fd):u9 P w K mg base (pq P w) 6 f fd ["web","step"] (rE K):=by
 refine F.okE sc_done (λvs H Q E h=>?_) (λc_ A outer s H vs Q E hr h=>?_)
 .obtain⟨S,L,R,st,r,m,f,bl,km,fr,rfl,_⟩:=h;rfl
 .obtain⟨S,L,R,st,r,m,f,bl,km,fr,rfl,hS,hT,knd,kln,ktx,ok,hR8,hsz,k⟩:=h;have Nj:=hT.r.l.len;have Mo:=hR8;have hN:=sc_done.nd;have hu:=u6 hr;refine⟨_,QSs.r (z6 (z0 (i:=2) hN rfl (by walk_at "l") (j6 (j7 K hu) (qV 1) d6 (λ_ _=>rfl)))
   (z6 (z0 (i:=3) hN rfl (by walk_at "l") (qC eQ (hr.mono (by decide)) wj (i7 (qV 0) (i7 (qV 1) j5))))
   (z6 (cm (Z5 (Z7 K (qC Z0 (hr.mono (by decide)) k7 (i7 (qV 0) (i7 (qV 2) (i7 (j6 (j7 K hu) (qV 1) d6 (λ_ _=>rfl)) j5)))))) (C4 (my gM T.r_NoNames rfl (i7 jJ j5))) cU)
   (C4 (A3 (qC jo (hr.mono (by decide)) k7 (i7 (qV 3) (i7 (qC eZ (hr.mono (by decide)) k7 (i7 (j6 (j7 K hu) (qV 2) d6 (λ_ _=>rfl)) (i7 (qC ak (hr.mono (by decide)) k7 (i7 (qV 1) j5)) j5))) j5)))))))),?_⟩
  walk_at "r";refine b5 hT.tup (b6 (j:=0) rfl) ?_;walk_at "r";refine⟨S,L,R,st,r,m,f,bl,km,i6 fr,rfl,hS,hT,knd,kln,ktx,ok.fit,ok.lo,hsz,?_⟩;intro a3 p3 q3 k3 W3 H3 m3 w3 hp3 hq3 ne3 np3 nq3 e31 e32;have T3:=hT.same m3;have S3:=hS.same m3;walk_at "r";refine b5 T3.tup (b6 (j:=2) rfl) ?_;walk_at "r";refine⟨S,L,R,r,bl,f,[],fr,rfl,S3,T3.r,T3.f,ok.fo,λH4 m4=>?_⟩;have T4:=T3.same m4;walk_at "r";refine b5 T4.r.tup (b6 (j:=1) rfl) ?_;walk_at "r";refine⟨st,r,m,f,bl,L,R,km,i6 fr,[],rfl,T4,ok.fit.txt,λn h1 h2=>(ok.fo.txt hT.r.r.nd (ok.fo.mem.mpr ⟨h1,h2⟩)).1,λd5 H5 t1 t2 n5 m5 o5 f5=>?_⟩;have T5:=T4.same m5;have nds:=o5.perm.nodup_iff.mpr hT.r.r.nd;have gb:∀n∈b8 R.W,TxtAt (i6 ((t1++t2).map λn=>(n,bh L.W km (i6 fr) n))) n/\i9 (i6 ((t1++t2).map λn=>(n,bh L.W km (i6 fr) n))) n=bh L.W km (i6 fr) n:=λn hn=>hZ nds (o5.mem.mpr hn);generalize i6 ((t1++t2).map λn=>(n,bh L.W km (i6 fr) n))=nm at f5 gb;have XT:((b8 R.W).map (i9 nm)).Nodup:=by
   rw[Gz λn hn=>(gb n hn).2];exact ok.nd
  walk_at "r";refine⟨R.a,d5,R.p,R.q,R.kvs,nm,R.W,i9 nm,rfl,T5.r.r.at_,T5.r.r.hp,T5.r.r.hq,.inl f5,rfl,λn hn=>(gb n hn).1,XT,by lia,T5.r.r.ends,?_⟩;rw[vQ (λn hn=>(gb n hn).2) T5.r.r.ends];intro a6 p6 q6 k6 W6 H6 m6 w6 hp6 hq6 ne6 np6 nq6 e61 e62;have Ls:=m4.trans (m5.trans m6);walk_at "r";have nr:=gH ok.nd;have QZ:(W3.pts.map (·.1)).Nodup:=(e31.map _).nodup_iff.mpr (M4 (E1 hS.nd));have Q_:(W3.ts.map (·.1)).Nodup:=(e32.map _).nodup_iff.mpr (M4 (N1 hS.nd));have Zx:=FK (λx:Str×Str=>!decide (x.1∈T9 L.W R.W km)) S.W.pts;have Zy:=FK (λx:Str×N3=>!decide (x.1∈T9 L.W R.W km)) S.W.ts;have MN:=e31.length_eq;have Sh:=e32.length_eq;have MX:=e61.length_eq;have Mc:=e62.length_eq;rw[show(E9 (bh L.W km (i6 fr)) R.W).pts.length=R.W.pts.length from Fv _] at MX;rw[show(E9 (bh L.W km (i6 fr)) R.W).ts.length=R.W.ts.length from Fv _] at Mc;rw[show(V5 (T9 L.W R.W km) S.W).pts.length=(S.W.pts.filter λx=>!decide (x.1∈T9 L.W R.W km)).length from rfl] at MN;rw[show(V5 (T9 L.W R.W km) S.W).ts.length=(S.W.ts.filter λx=>!decide (x.1∈T9 L.W R.W km)).length from rfl] at Sh;rw[A5] at Mo;refine⟨a3,p3,q3,a6,p6,q6,k3,k6,W3,W6,rfl,w3.mono Ls.le,w6,QZ,Q_,(e61.map _).nodup_iff.mpr nr.1,(e62.map _).nodup_iff.mpr nr.2,by lia,by lia,NewP.permM (W:=A6 S.W L.W R.W km (i6 fr)) (m3.trans Ls) (ck e31 e61) (ck e32 e62) k⟩
def EA (K:Kd)(H:Hp)(Q:VK)(L R:Sd):Prop:=∀(r bl:Addr) (L' R':Sd) (H':Hp),Same H H'->RuleIs K H' r bl L' R' []->H' bl=some (.lst [])->H bl=none->H L'.p=none->H L'.q=none->H R'.p=none->H R'.q=none->L'.W.pts.Perm R.W.pts->L'.W.ts.Perm R.W.ts->R'.W.pts.Perm L.W.pts->R'.W.ts.Perm L.W.ts->L'.p≠R'.p->L'.p≠R'.q->L'.q≠R'.p->L'.q≠R'.q->Q (.ref r) H'
def kS (K:Kd):Sp:=λvs H Q _=>∃(r bl:Addr) (L R:Sd) (bs:List Sd),vs=[.ref r]/\RuleIs K H r bl L R bs/\EA K H Q L R
theorem WebIs.perm {H:Hp}{a p q:Addr}{kvs:List (j4×V)}{W W':C3}(h:WebAt K H a p q kvs W')(hp:H p=some (.dK (i6 W'.pts)))(hq:H q=some (.dK kvs))(ne:p≠q)(p1:W'.pts.Perm W.pts)(p2:W'.ts.Perm W.ts)(nd:(b8 W).Nodup)(len:(b8 W).length<=60)(ends:∀x∈W.ts,x.2.2.1∈W.pts.map (·.1)/\x.2.2.2∈W.pts.map (·.1))(nl:∀x∈b8 W,x.length<=100):WebIs 60 K H a p q kvs W':=by
 have pm:(b8 W').Perm (b8 W):=(p1.map _).append (p2.map _);refine⟨h,hp,hq,ne,pm.nodup_iff.mpr nd,by rw[pm.length_eq];exact len,λx hx=>?_,λx hx=>nl x (pm.mem_iff.mp hx)⟩;have z:=ends x (p2.mem_iff.mp hx);exact⟨(p1.map _).mem_iff.mpr z.1,(p1.map _).mem_iff.mpr z.2⟩
abbrev nC (P:Program)(w:World)(K:Kd)(mg:Str->Option Value)(base:Heap):Prop:=N8 P w K mg base C0 3 "turned" ["rule"] [] (kS K)
theorem sh {f:Addr}{fd:FuncData}(T:Txt K mg)(D5:af P w K mg base)(F:Fun K "turned" "turned" ja f fd):u9 P w K mg base C0 3 f fd ["rule"] (kS K):=by
 refine F.ok sc_turned (λvs H Q E h=>?_) (λc_ A outer s H vs Q E hr h=>?_)
 .obtain⟨r,bl,L,R,bs,rfl,_⟩:=h;rfl
 .obtain⟨r,bl,L,R,bs,rfl,hR,k⟩:=h;have Nj:=hR.l.len;have Mo:=hR.r.len;rw[A5] at Nj Mo;have hN:=sc_turned.nd;have hu:=u6 hr;refine⟨_,QSs.r (C4 (A3 (J3 (i7 (qC D5 (hr.mono (by decide)) k7 (i7 (j6 (j7 K hu) (qV 0) d6 (λ_ _=>rfl)) j5)) (i7 (qC D5 (hr.mono (by decide)) k7 (i7 (j6 (j7 K hu) (qV 0) d6 (λ_ _=>rfl)) j5)) (i7 (U3 j5) j5)))))),?_⟩;walk_at "r";refine b5 hR.tup (b6 (j:=1) rfl) ?_;walk_at "r";refine⟨R.a,R.p,R.q,R.kvs,R.W,rfl,hR.r.at_,E1 hR.r.nd,N1 hR.r.nd,by lia,by lia,λa1 p1 q1 k1 W1 H1 m1 h1 KC Nc ne1 np1 nq1 e1 e2=>?_⟩;walk_at "r";refine b5 (m1.tup hR.tup) (b6 (j:=0) rfl) ?_;walk_at "r";refine⟨L.a,L.p,L.q,L.kvs,L.W,rfl,(hR.same m1).l.at_,E1 hR.l.nd,N1 hR.l.nd,by lia,by lia,λa2 p2 q2 k2 W2 H2 m2 h2 RG MV ne2 np2 nq2 e3 e4=>?_⟩;walk_at "r";refine⟨d9 (by simp),λl3 n3=>?_⟩;obtain⟨H3,e5,f3,m3,_⟩:=b9 (o:= .lst []) n3;rw[e5];walk_at "r";refine⟨d9 (by simp),λl4 n4=>?_⟩;obtain⟨H4,e6,f4,m4,_⟩:=b9 (o:= .tup _) n4;rw[e6];have Rb:=m3.trans m4;have Rc:=m2.trans Rb;have B1:WebIs 60 K H4 a1 p1 q1 k1 W1:=WebIs.perm (h1.mono Rc.le) (Rc _ _ KC) (Rc _ _ Nc) ne1 e1 e2 hR.r.nd hR.r.len hR.r.ends hR.r.nl;have B2:WebIs 60 K H4 a2 p2 q2 k2 W2:=WebIs.perm (h2.mono Rb.le) (Rb _ _ RG) (Rb _ _ MV) ne2 e3 e4 hR.l.nd hR.l.len hR.l.ends hR.l.nl;exact k l4 l3 ⟨a1,p1,q1,k1,W1⟩ ⟨a2,p2,q2,k2,W2⟩ H4 (m1.trans Rc) ⟨SqT.of f4,B1,B2,SqL.of (m4 _ _ f3),λ_ h=>nomatch h⟩ (m4 _ _ f3) (m1.free (m2.free n3)) np1 nq1 (m1.free np2) (m1.free nq2) e1 e2 e3 e4 (b7 KC np2) (b7 KC nq2) (b7 Nc np2) (b7 Nc nq2)
def Ez (K:Kd)(H:Hp)(Q:VK)(L R:Sd)(km kf:List (j4×V)):Prop:=∀(st r m f bl:Addr) (L' R':Sd) (t1 t2 u1 u2:List Str) (H':Hp),Same H H'->Ordr R.W t1 t2->Ordr L.W u1 u2->StI K H' st r m f bl L' R' (i6 ((t1++t2).map λn=>(n,bh L.W km kf n))) (i6 (((u1++u2).filter λn=>!decide (n∈b8 R.W)).map λn=>(n,i9 km n))) []->
 L'.W.pts.Perm R.W.pts->L'.W.ts.Perm R.W.ts->R'.W.pts.Perm L.W.pts->R'.W.ts.Perm L.W.ts->H L'.p=none->H L'.q=none->H R'.p=none->H R'.q=none->H m=none->H f=none->H bl=none->L'.p≠R'.p->L'.p≠R'.q->L'.q≠R'.p->L'.q≠R'.q->m≠f->L'.p≠m->L'.p≠f->L'.q≠m->L'.q≠f->R'.p≠m->R'.p≠f->R'.q≠m->R'.q≠f->Q (.ref st) H'
def qF (K:Kd):Sp:=λvs H Q _=>∃(st r m f bl:Addr) (L R:Sd) (km kf:List (j4×V)) (bs:List Sd),vs=[.ref st]/\StI K H st r m f bl L R km kf bs/\(∀n∈b8 L.W,TxtAt km n)/\(∀n∈b8 R.W,n∉b8 L.W->TxtAt kf n)/\Ez K H Q L R km kf
abbrev vH (P:Program)(w:World)(K:Kd)(mg:Str->Option Value)(base:Heap):Prop:=N8 P w K mg base C0 5 "back" ["step"] [] (qF K)
theorem yu {f:Addr}{fd:FuncData}(T:Txt K mg)(R5:ij P w K mg base)(cv:mI P w K mg base)(ak:ib P w K mg base)(il:nC P w K mg base)(F:Fun K "back" "back" qh f fd):u9 P w K mg base C0 5 f fd ["step"] (qF K):=by
 refine F.ok sc_back (λvs H Q E h=>?_) (λc_ A outer s H vs Q E hr h=>?_)
 .obtain⟨st,r,m,f,bl,L,R,km,kf,bs,rfl,_⟩:=h;rfl
 .obtain⟨st,r,m,f,bl,L,R,km,kf,bs,rfl,hT,hM,hF,k⟩:=h;have Nj:=hT.r.l.len;have Mo:=hT.r.r.len;have hN:=sc_back.nd;have hu:=u6 hr;refine⟨_,QSs.r (C4 (A3 (J3 (i7 (qC il (hr.mono (by decide)) k7 (i7 (j6 (j7 K hu) (qV 0) d6 (λ_ _=>rfl)) j5)) (i7 (qC ak (hr.mono (by decide)) k7 (i7 (qV 0) j5)) (i7 (qC R5 (hr.mono (by decide)) k7 (i7 (j6 (j7 K hu) (qV 0) d6 (λ_ _=>rfl)) (i7 (qC cv (hr.mono (by decide)) k7 (i7 (j6 (j7 K hu) (qV 0) d6 (λ_ _=>rfl)) j5)) j5))) j5)))))),?_⟩;walk_at "r";refine b5 hT.tup (b6 (j:=0) rfl) ?_;walk_at "r";refine⟨r,bl,L,R,bs,rfl,hT.r,?_⟩;intro r1 bl1 L1 R1 H1 m1 hR1 hb1 Ov n1 n2 n3 n4 e1 e2 e3 e4 d1 d2 d3 d4;have T1:=hT.same m1;walk_at "r";refine⟨st,r,m,f,bl,L,R,km,kf,bs,rfl,T1,hM,hF,λd5 H5 t1 t2 n5 m5 o5 f5=>?_⟩;have T5:=T1.same m5;walk_at "r";refine b5 T5.tup (b6 (j:=1) rfl) ?_;walk_at "r";refine b5 T5.tup (b6 (j:=0) rfl) ?_;walk_at "r";refine⟨r,bl,L,R,bs,rfl,T5.r,λl6 H6 u1 u2 n6 m6 o6 f6=>?_⟩;have MU:=o6.len;have ndu:((u1++u2).filter λn=>!decide (n∈b8 R.W)).Nodup:=(o6.perm.nodup_iff.mpr hT.r.l.nd).sublist GJ;have x_:=FK (λn=>!decide (n∈b8 R.W)) (u1++u2);walk_at "r";refine⟨m,l6,km,_,rfl,.inl (m6 _ _ T5.m),SqL.of f6,ndu,by lia,λn hn=>hM n (o6.mem.mp (FJ.mp hn).1),λd7 H7 n7 m7 f7=>?_⟩;walk_at "r";refine⟨d9 (by simp),λt8 n8=>?_⟩;obtain⟨H8,e8,f8,m8,_⟩:=b9 (o:= .tup [.ref r1,.ref d5,.ref d7]) n8;rw[e8];have VC:=m6.trans (m7.trans m8);have Tp:=m5.trans VC;have R8:=hR1.same Tp;have SY:=VC _ _ f5;have XU:=m8 _ _ f7;have x1:=hR1.l.hp;have x2:=hR1.l.hq;have x3:=hR1.r.hp;have x4:=hR1.r.hq;have Pw:=m5.trans m6;exact k t8 r1 d5 d7 bl1 L1 R1 t1 t2 u1 u2 H8 (m1.trans Tp) o5 o6 ⟨SqT.of f8,R8,SY,XU,Tp _ _ hb1⟩ e1 e2 e3 e4 n1 n2 n3 n4 (m1.free n5) (m1.free (Pw.free n7)) Ov d1 d2 d3 d4 (b7 (m6 _ _ f5) n7) (b7 x1 n5) (b7 (Pw _ _ x1) n7) (b7 x2 n5) (b7 (Pw _ _ x2) n7) (b7 x3 n5) (b7 (Pw _ _ x3) n7) (b7 x4 n5) (b7 (Pw _ _ x4) n7)
theorem wN {a:Str}:∀{l:List Str},l.Nodup->l.length<=(l.filter λx=>!decide (x=a)).length+1
 |[],_=>Hk _
 |x::r,nd=>by
  have C':=GK.mp nd;by_cases e:x=a
  .have hr:(r.filter λx=>!decide (x=a))=r:=Ir.mpr λy hy=>by rw[Ge (λz=>C'.1 (by rw[e,←z];exact hy))];rfl
   rw[GA (by simp [e]),hr];simp
  .rw[Gu (by simp [e]),GR,GR];have:=wN (a:=a) C'.2;lia
theorem dj:∀{m l:List Str},l.Nodup->(∀x∈l,x∈m)->l.length<=m.length
 |[],l,_,h=>by
  cases l with
  |nil=>exact Fz _
  |cons x r=>exact absurd (h x FU) (by simp)
 |a::m,l,nd,h=>by
  have z:=wN (a:=a) nd;have z2:=dj (m:=m) (l:=l.filter λx=>!decide (x=a)) (nd.sublist GJ) λx hx=>by
   have q:=FJ.mp hx;rcases Gn.mp (h x q.1) with e|e
   .have q2:=q.2;rw[FZ e] at q2;cases q2
   .exact e
  rw[GR];lia
theorem Ao {ws l:List Str}(hl:ws.length=16)(nd:l.Nodup)(h:∀x∈l,Wd ws 8 12 x):l.length<=4:=by
 have z:=dj (m:=(ws.drop 8).take 4) nd λx hx=>by
  obtain⟨j,j1,j2,hj⟩:=h x hx;refine FI (i:=j -8) ?_;rw[List.getElem?_take,if_pos (by lia),Ko,show 8+(j -8)=j by lia];exact hj
 rw[FO,IQ] at z;lia
def eC (K:Kd):Sp:=λvs H Q _=>∃(S:Sd) (lx lw lk ln:Addr) (xs:List Int) (ws ks ns:List Str),vs=[.ref S.a,.ref lx,.ref lw,.ref lk,.ref ln]/\SdIs K H S/\dE S.W/\SqL K H lx (xs.map V.int)/\xs.length=16/\(∀x∈xs,0<=x)/\SqL K H lw (ws.map V.str)/\yB ws/\SqL K H lk (ks.map V.str)/\uG ks/\SqL K H ln (ns.map V.str)/\ns.length=4/\ns.Nodup/\(∀n∈ns,N9 n=true/\n∉b8 S.W)/\
 ∀(st r m f bl:Addr) (L R:Sd) (pr fr:List (Str×Str)) (os:List Str) (H':Hp),Same H H'->StI K H' st r m f bl L R (i6 (pr.map J2)) (i6 fr) []->fk L.W R.W []->MP S.W os pr L.W.pts L.W.ts (b8 R.W)->(∀n x,(n,x)∈S.W.ts->(x.2.1∈os\/x.2.2∈os)->n∈os)->(∀n∈os,n∈pr.map (·.1))->FrOk S.W L.W R.W fr->(∀n∈b8 L.W,Wd ws 0 8 n)->(∀x∈fr,x.2∈ns)->fr.length<=4->Q (.ref st) H'
abbrev fP (P:Program)(w:World)(K:Kd)(mg:Str->Option Value)(base:Heap):Prop:=N8 P w K mg base C0 3 "_law_step" ["_law_web_here","_law_xs","_law_words_here","_law_kinds","_law_names"] [] (eC K)
theorem lg {f:Addr}{fd:FuncData}(T:Txt K mg)(br:fT P w K mg base)(F:Fun K "_law_step" "_law_step" bY f fd):u9 P w K mg base C0 3 f fd ["_law_web_here","_law_xs","_law_words_here","_law_kinds","_law_names"] (eC K):=by
 refine F.ok sc__law_step (λvs H Q E h=>?_) (λc_ A outer s H vs Q E hr h=>?_)
 .obtain⟨S,lx,lw,lk,ln,xs,ws,ks,ns,rfl,_⟩:=h;rfl
 .obtain⟨S,lx,lw,lk,ln,xs,ws,ks,ns,rfl,hS,hG,hX,j_,hx0,hW,hws,hK,hks,hNs,Tq,Mp,Px,k⟩:=h;have hN:=sc__law_step.nd;have hu:=u6 hr;refine⟨_,QSs.r (z6 (P6 (qC br (hr.mono (by decide)) k7 (i7 (qV 0) (i7 (qV 1) (i7 (qV 2) (i7 (qV 3) j5))))) (jz K rfl (U1 (F4 (i:=5) hN rfl (by walk_at "l")) (U1 (F4 (i:=6) hN rfl (by walk_at "l")) jA))))
   (z6 (z0 (i:=7) hN rfl (by walk_at "l") uo)
   (z6 (Q9 Gp rfl (P8 K (A7 (F2 K) (qB (O1 K rfl) T.b_sorted Boot.«sorted» (i7 (j6 (j7 K hu) (j6 (j7 K hu) (qV 5) d6 (λ_ _=>rfl)) d6 (λ_ _=>rfl)) j5)) (qB (O1 K rfl) T.b_sorted Boot.«sorted» (i7 (j6 (j7 K hu) (j6 (j7 K hu) (qV 5) d6 (λ_ _=>rfl)) d6 (λ_ _=>rfl)) j5)))) (F4 (i:=8) hN rfl (by walk_at "l"))
    (C4 (cm (kG (bc (p0 (K8 K hu) (qV 8) (j6 (j7 K hu) (j6 (j7 K hu) (qV 5) d6 (λ_ _=>rfl)) d6 (λ_ _=>rfl)) (by rfl)) (aE (p0 (K8 K hu) (qV 8) (j6 (j7 K hu) (j6 (j7 K hu) (qV 5) d6 (λ_ _=>rfl)) d6 (λ_ _=>rfl)) (by rfl))))) (C4 (P6 (j6 (j7 K hu) (qV 4) (qB (B8 K P w) T.b_len Boot.«len» (i7 (qV 7) j5)) (λ_ _=>rfl)) (mY (qV 7) (qV 8) (z9 P w hu)))) cU)))
   (C4 (A3 (J3 (i7 (qV 5) (i7 (qV 6) (i7 (qV 7) j5))))))))),?_⟩
  refine A1 ?_;walk_at "e";refine⟨S,lx,lw,lk,xs,ws,ks,rfl,hS,hG,hX,j_,hx0,hW,hws,hK,hks,λt1 r m bl L R pr os H1 m1 f1 g1 gb hR Lg mp lo osub KD hold=>?_⟩;refine J1 (SqT.of f1) rfl ?_;walk_at "e";refine A1 ?_;walk_at "e";intro fd nfd;obtain⟨H2,e2,f2,m2,_⟩:=b9 (o:= .dK []) nfd;rw[e2];have R2:=hR.same m2;have Mo:=hR.r.len;rw[A5] at Mo;walk_at "e";refine A1 ?_;walk_at "e";refine b5 R2.tup (b6 (j:=1) rfl) ?_;walk_at "e";refine b5 R2.r.at_.tup (b6 (j:=0) rfl) ?_;walk_at "e";refine A9 (ss:=R.W.pts.map (·.1)) R2.r.at_.pts (by rw[K4,A8]) (by rw[Fv];lia) (λu1 a1 a2 l3 n3=>?_);obtain⟨H3,e3,f3,m3,_⟩:=b9 (o:= .lst _) n3;rw[e3];have R3:=R2.same m3;walk_at "e";refine b5 R3.tup (b6 (j:=1) rfl) ?_;walk_at "e";refine b5 R3.r.at_.tup (b6 (j:=1) rfl) ?_;walk_at "e";refine A9 (ss:=R.W.ts.map (·.1)) R3.r.at_.ties (by rw[R3.r.at_.ts.keys,A8]) (by rw[Fv];lia) (λu2 b1 b2 l4 n4=>?_);obtain⟨H4,e4,f4,m4,_⟩:=b9 (o:= .lst _) n4;rw[e4];have q1:=a1.length_eq;have q2:=b1.length_eq;rw[Fv] at q1 q2;walk_at "e";refine qJ (m4 _ _ f3) f4 (d9 (by rw[Fv,Fv];lia)) (λl5 n5=>?_);rw[←FF];obtain⟨H5,e5,f5,m5,_⟩:=b9 (o:= .lst _) n5;rw[e5];have ou:Ordr R.W u1 u2:=⟨a1,b1,a2,b2⟩
  have VD:=m3.trans (m4.trans m5);have l_:fd≠l5:=b7 (m4 _ _ (m3 _ _ f2)) n5;have Tr:(u1++u2).Nodup:=ou.perm.nodup_iff.mpr hR.r.nd;have NL:((u1++u2).filter λn=>!decide (n∈b8 L.W)).length<=4:=Ao hws.1 (Tr.sublist GJ) λx hx=>by
   have z:=FJ.mp hx;have z2:=z.2;rw[Gr,FY] at z2;exact KD x (ou.mem.mp z.1) z2
  have MU:(u1++u2).length<=60:=by rw[FE];lia
  generalize Mj:u1++u2=us at f5 NL MU Tr;refine C6 (SqL.of f5) ?_;refine C8 (n:=us.length) (λi σ H'=>(∃v9,σ=[some (.ref S.a),some (.ref lx),some (.ref lw),some (.ref lk),some (.ref ln),some (.ref r),some (.ref m),some (.ref fd),v9])/\Same H1 H'/\H' l5=some (.lst (us.map V.str))/\∃fr:List (Str×Str),H' fd=some (.dK (i6 fr))/\fr.map (·.1)=(us.take i).filter (λn=>!decide (n∈b8 L.W))/\fr.map (·.2)=ns.take fr.length)
   ⟨⟨_,rfl⟩,m2.trans VD,f5,[],VD _ _ f2,rfl,rfl⟩ (λi σ H' hi hp=>⟨_,.str (us[i]),SqL.of hp.2.2.1,by rw[FD,Fw hi];rfl⟩) ?_ ?_
  .rintro i v σ H6' H6 hi ⟨⟨v9,rfl⟩,s6,h6,fr,g6,e61,e62⟩ y;obtain⟨rfl,hx⟩:=Itl.get y (SqL.of h6);rw[FD,Fw hi] at hx;cases hx;have e7:us.take (i+1)=us.take i++[us[i]]:=by rw[Gq,Fw hi];rfl
   have R6:=hR.same s6;have no:us[i]∈b8 L.W->(∃v9',[some (V.ref S.a),some (.ref lx),some (.ref lw),some (.ref lk),some (.ref ln),some (.ref r),some (.ref m),some (.ref fd),some (.str us[i])]=[some (.ref S.a),some (.ref lx),some (.ref lw),some (.ref lk),some (.ref ln),some (.ref r),some (.ref m),some (.ref fd),v9'])/\Same H1 H6/\H6 l5=some (.lst (us.map V.str))/\∃fr:List (Str×Str),H6 fd=some (.dK (i6 fr))/\fr.map (·.1)=(us.take (i+1)).filter (λn=>!decide (n∈b8 L.W))/\fr.map (·.2)=ns.take fr.length:=λhb=>
    ⟨⟨_,rfl⟩,s6,h6,fr,g6,by rw[e61,e7,Gv,GA (by simp [hb]),GL,Gw],e62⟩
   walk_at "e";refine b5 R6.tup (b6 (j:=0) rfl) ?_;walk_at "e";refine b5 R6.l.at_.tup (b6 (j:=0) rfl) ?_;refine K0 (F5 (k:=Sum.inr us[i]) R6.l.at_.pts) ?_;rw[L8];walk_at "e";refine J5 (λc1=>?_) (λc1=>?_)
   .walk_at "e";refine b5 R6.tup (b6 (j:=0) rfl) ?_;walk_at "e";refine b5 R6.l.at_.tup (b6 (j:=1) rfl) ?_;refine K0 (F5 (k:=Sum.inr us[i]) R6.l.at_.ties) ?_;rw[U5 R6.l.at_.ts];walk_at "e";refine J5 (λc2=>?_) (λc2=>?_)
    .have Ts:us[i]∉b8 L.W:=λz=>(FC.mp z).elim c1 c2;have ef:(us.take (i+1)).filter (λn=>!decide (n∈b8 L.W))=fr.map (·.1)++[us[i]]:=by rw[e61,e7,Gv,Gu (by simp [Ts]),GL]
     have JH:fr.length<4:=by
      have z1:((us.take (i+1)).filter λn=>!decide (n∈b8 L.W)).length<=(us.filter λn=>!decide (n∈b8 L.W)).length:=((GZ _ _).filter _).length_le;rw[ef,FE,Fv,FT] at z1;lia
     have NO:us[i]∉fr.map (·.1):=λz=>by
      rw[e61] at z;have z1:=(FJ.mp z).1;have z2:(us.take (i+1)).Nodup:=Tr.sublist (GZ _ _);rw[e7] at z2;exact(FR.mp z2).2.2 _ z1 _ (by simp) rfl
     obtain⟨nm,Kv⟩:∃nm,ns[fr.length]?=some nm:=⟨ns[fr.length]'(by lia),Fw (by lia)⟩
     walk_at "e";refine B7 (Z4 (.inl g6) ?_);rw[j8];walk_at "e";refine i8 (xs:=ns.map V.str) ((m1.trans s6).seq hNs) (b6 (j:=fr.length) (by rw[FD,Kv];rfl)) ?_;walk_at "e";refine O4 (z5 (k:=Sum.inr us[i]) g6 (d9 (by rw[j8];lia)) ?_);refine⟨⟨_,rfl⟩,E4 s6 nfd,by rw[d0 l_.symm];exact h6,fr++[(us[i],nm)],?_,?_,?_⟩
     .rw[d8];exact GY (λz=>some (HO.dK z)) (V3 NO)
     .rw[o9,ef]
     .rw[Q0,e62,FE,FT,Gq,Kv];rfl
    .walk_at "e";exact no (FA _ c2)
   .walk_at "e";exact no (Fy _ c1)
  .rintro σ H6 ⟨⟨v9,rfl⟩,s6,h6,fr,g6,e61,e62⟩;refine⟨⟨_,SqL.of h6,by rw[Fv];exact Fz _⟩,?_⟩;rw[FL (Fz _)] at e61;have x_:fr.length<=4:=by
    have z:=GY List.length e61;rw[Fv] at z;lia
   have n_:∀x∈fr,x.2∈ns:=λx hx=>by
    have z:x.2∈fr.map (·.2):=Fx.mpr ⟨x,hx,rfl⟩;rw[e62] at z;exact List.mem_of_mem_take z
   walk_at "e";refine⟨d9 (by simp),λst nst=>?_⟩;obtain⟨H7,e7,f7,m7,_⟩:=b9 (H:=H6) (o:= .tup _) nst;change Q _ (upd H6 st _);rw[e7];refine k st r m fd bl L R pr fr os H7 (m1.trans (s6.trans m7)) ⟨SqT.of f7,hR.same (s6.trans m7),m7 _ _ (s6 _ _ g1),m7 _ _ g6,m7 _ _ (s6 _ _ gb)⟩ Lg mp lo osub ⟨⟨u1,u2,ou,?_⟩,λx hx=>(Px _ (n_ x hx)).1,?_,λx hx=>(Px _ (n_ x hx)).2,by lia⟩ hold n_ x_
   .rw[Mj];exact e61
   .rw[e62];exact Mp.sublist (GZ _ _)
theorem cq (pr:List (Str×Str)):(pr.map J2).map (·.1)=pr.map (·.2):=by rw[Gg];rfl
section
variable {W L R:C3} {os:List Str} {pr:List (Str×Str)}
theorem MP.nds (h:MP W os pr L.pts L.ts (b8 R)):((pr.map J2).map (·.1)).Nodup:=by rw[cq];exact h.n2
theorem MP.at_ (h:MP W os pr L.pts L.ts (b8 R)){n w:Str}(hx:(n,w)∈pr):TxtAt (i6 (pr.map J2)) w/\i9 (i6 (pr.map J2)) w=n:=X9 h.nds (Fx.mpr ⟨(n,w),hx,rfl⟩)
theorem MP.of_ (h:MP W os pr L.pts L.ts (b8 R)){w:Str}(hw:w∈b8 L):(i9 (i6 (pr.map J2)) w,w)∈pr:=by
 have z:w∈pr.map (·.2):=by rw[h.wd];exact hw
 obtain⟨⟨n,w'⟩,hx,e⟩:=Fx.mp z;have e':w'=w:=e;subst e';rw[(h.at_ hx).2];exact hx
theorem MP.txt (h:MP W os pr L.pts L.ts (b8 R)):∀w∈b8 L,TxtAt (i6 (pr.map J2)) w:=λw hw=>(h.at_ (h.of_ hw)).1
theorem MP.inL (h:MP W os pr L.pts L.ts (b8 R)){n w:Str}(hx:(n,w)∈pr):w∈b8 L:=by
 have z:w∈pr.map (·.2):=Fx.mpr ⟨(n,w),hx,rfl⟩;rw[h.wd] at z;exact z
theorem MP.gs (h:MP W os pr L.pts L.ts (b8 R))(n:Str):n∈T9 L R (i6 (pr.map J2))↔∃w,(n,w)∈pr/\w∉b8 R:=by
 unfold T9;rw[Fx];constructor
 .rintro⟨w,hw,rfl⟩;have z:=FJ.mp hw;have z2:=z.2;rw[Gr,FY] at z2;exact⟨w,h.of_ z.1,z2⟩
 .rintro⟨w,hx,hw⟩;exact⟨w,FJ.mpr ⟨h.inL hx,by rw[Ge hw];rfl⟩,(h.at_ hx).2⟩
theorem MP.gsos (h:MP W os pr L.pts L.ts (b8 R))(hs:∀n∈os,n∈pr.map (·.1))(n:Str):n∈T9 L R (i6 (pr.map J2))↔n∈os:=by
 rw[h.gs];constructor
 .rintro⟨w,hx,hw⟩;exact GU λhn=>hw ((h.ko _ hx).mpr hn)
 .intro hn;obtain⟨⟨n',w⟩,hx,e⟩:=Fx.mp (hs n hn);have e':n'=n:=e;subst e';exact⟨w,hx,λz=>(h.ko _ hx).mp z hn⟩
theorem iQ (h:MP W os pr L.pts L.ts (b8 R)){fr:List (Str×Str)}(f:FrOk W L R fr)(ndR:(b8 R).Nodup):(((pr.map J2)++fr).map (·.1)).Nodup:=by
 rw[FF];refine FR.mpr ⟨h.nds,f.nd1 ndR,λa ha b hb e=>?_⟩;rw[cq,h.wd] at ha;exact(f.mem.mp hb).2 (e▸ha)
theorem kI (h:MP W os pr L.pts L.ts (b8 R)){fr:List (Str×Str)}(f:FrOk W L R fr)(ndR:(b8 R).Nodup){n:Str}(hn:n∈b8 R):TxtAt (i6 (pr.map J2)++i6 fr) n/\i9 (i6 (pr.map J2)++i6 fr) n=bh L (i6 (pr.map J2)) (i6 fr) n:=by
 unfold bh;by_cases hL:n∈b8 L
 .rw[if_pos hL];exact kE (iQ h f ndR) (by rw[cq,h.wd];exact hL)
 .rw[if_neg hL];exact kc (iQ h f ndR) (f.mem.mpr ⟨hn,hL⟩)
end
def AS (W L R:C3)(km:List (j4×V))(fr:List (Str×Str))(x:Str×Str):Prop:=(x∈W.pts/\x.1∉T9 L R km)\/∃w,(w,x.1)∈fr/\(w,x.2)∈R.pts
def AL (W L R:C3)(km:List (j4×V))(fr:List (Str×Str))(x:Str×N3):Prop:=(x∈W.ts/\x.1∉T9 L R km)\/∃w b e,(w,x.1)∈fr/\(w,(x.2.1,b,e))∈R.ts/\x.2.2.1=bh L km (i6 fr) b/\x.2.2.2=bh L km (i6 fr) e
def dD (K:Kd):Sp:=λvs H Q _=>∃(S L R:Sd) (st r m f bl:Addr) (pr fr:List (Str×Str)) (os:List Str) (bs:List Sd),vs=[.ref S.a,.ref st]/\SdIs K H S/\StI K H st r m f bl L R (i6 (pr.map J2)) (i6 fr) bs/\MP S.W os pr L.W.pts L.W.ts (b8 R.W)/\FrOk S.W L.W R.W fr/\
 ∀(D:Sd) (H':Hp),Same H H'->WebAt K H' D.a D.p D.q D.kvs D.W->(D.W.pts.map (·.1)).Nodup->(D.W.ts.map (·.1)).Nodup->(∀x,x∈D.W.pts↔AS S.W L.W R.W (i6 (pr.map J2)) fr x)->(∀x,x∈D.W.ts↔AL S.W L.W R.W (i6 (pr.map J2)) fr x)->H' D.p=some (.dK (i6 D.W.pts))->H' D.q=some (.dK D.kvs)->D.p≠D.q->H D.p=none->H D.q=none->Q (.ref D.a) H'
abbrev fV (P:Program)(w:World)(K:Kd)(mg:Str->Option Value)(base:Heap):Prop:=N8 P w K mg base C0 1 "_law_done" ["_law_web_here","_law_step_here"] [] (dD K)
theorem mr {f:Addr}{fd:FuncData}(T:Txt K mg)(F:Fun K "_law_done" "_law_done" bD f fd):u9 P w K mg base C0 1 f fd ["_law_web_here","_law_step_here"] (dD K):=by
 refine F.ok sc__law_done (λvs H Q E h=>?_) (λc_ A outer s H vs Q E hr h=>?_)
 .obtain⟨S,L,R,st,r,m,f,bl,pr,fr,os,bs,rfl,_⟩:=h;rfl
 .obtain⟨S,L,R,st,r,m,f,bl,pr,fr,os,bs,rfl,hS,hT,mp,fo,k⟩:=h;have Lp:=hS.len;have Nj:=hT.r.l.len;have Mo:=hT.r.r.len;rw[A5] at Lp Nj Mo;have x_:=fo.len;have Lh:pr.length=L.W.pts.length+L.W.ts.length:=by
   have z:=GY List.length mp.wd;rw[Fv,FE,Fv,Fv] at z;exact z
  have Tt:=hS.at_.ts.length;have Kn:=hT.r.r.nd;have hN:=sc__law_done.nd;have hu:=u6 hr;refine⟨_,QSs.r (z6 (P6 (qV 1) (jz K rfl (U1 (F4 (i:=2) hN rfl (by walk_at "l")) (U1 (F4 (i:=3) hN rfl (by walk_at "l")) (U1 (F4 (i:=4) hN rfl (by walk_at "l")) jA)))))
   (z6 (ai (i:=5) hN rfl (by walk_at "l") (own:=["_law_word"]) (js:=[2,3]) (by kernel_rfl) rfl (P8 K (qV 3)) (λ_ _ _ _=>(F4 (i:=0) (show List.Nodup (["_law_word","_law_rule_here","_law_match"]:List Str) by decide+kernel) rfl (by walk_at "l"))) (λ_ _ _ _=>(mU (kG (bc (p0 (K8 K hu) (qV 0) (j6 (j7 K hu) (j6 (j7 K hu) (qV 1) d6 (λ_ _=>rfl)) d6 (λ_ _=>rfl)) (by rfl)) (aE (p0 (K8 K hu) (qV 0) (j6 (j7 K hu) (j6 (j7 K hu) (qV 1) d6 (λ_ _=>rfl)) d6 (λ_ _=>rfl)) (by rfl))))))) (λ_ _ _ _=>(j6 (j7 K hu) (qV 2) (qV 0) (λ_ _=>rfl))))
   (z6 (z0 (i:=6) hN rfl (by walk_at "l") uo)
   (z6 (Q9 Gp rfl (P8 K (j6 (j7 K hu) (qV 0) d6 (λ_ _=>rfl))) (F4 (i:=7) hN rfl (by walk_at "l"))
    (C4 (cm (p0 (K8 K hu) (qV 7) (qV 5) (by rfl)) (C4 (P6 (j6 (j7 K hu) (j6 (j7 K hu) (qV 0) d6 (λ_ _=>rfl)) (qV 7) (λ_ _=>rfl)) (mY (qV 6) (qV 7) (z9 P w hu)))) cU)))
   (z6 (z0 (i:=8) hN rfl (by walk_at "l") uo)
   (z6 (Q9 Gp rfl (P8 K (j6 (j7 K hu) (qV 0) d6 (λ_ _=>rfl))) (F4 (i:=7) hN rfl (by walk_at "l"))
    (C4 (cm (p0 (K8 K hu) (qV 7) (qV 5) (by rfl)) (C4 (P6 (j6 (j7 K hu) (j6 (j7 K hu) (qV 0) d6 (λ_ _=>rfl)) (qV 7) (λ_ _=>rfl)) (mY (qV 8) (qV 7) (z9 P w hu)))) cU)))
   (z6 (z0 (i:=9) hN rfl (by walk_at "l") (gJ (R4 K rfl) T.b_dict Boot.«dict» (i7 (qV 3) j5)))
   (z6 (mX (qM GG Hr HI N2 K (qV 9) (i7 (qV 4) j5)))
   (z6 (Q9 Gp rfl (P8 K (qV 4)) (F4 (i:=10) hN rfl (by walk_at "l"))
    (C4 (cm (p0 (kIn K hu) (qV 10) (j6 (j7 K hu) (j6 (j7 K hu) (qV 2) d6 (λ_ _=>rfl)) d6 (λ_ _=>rfl)) (by rfl)) (C4 (P6 (j6 (j7 K hu) (j6 (j7 K hu) (j6 (j7 K hu) (qV 2) d6 (λ_ _=>rfl)) d6 (λ_ _=>rfl)) (qV 10) (λ_ _=>rfl)) (mY (qV 6) (j6 (j7 K hu) (qV 4) (qV 10) (λ_ _=>rfl)) (z9 P w hu)))) (z6 (P6 (j6 (j7 K hu) (j6 (j7 K hu) (j6 (j7 K hu) (qV 2) d6 (λ_ _=>rfl)) d6 (λ_ _=>rfl)) (qV 10) (λ_ _=>rfl)) (jz K rfl (U1 (F4 (i:=11) hN rfl (by walk_at "l")) (U1 (F4 (i:=12) hN rfl (by walk_at "l")) (U1 (F4 (i:=13) hN rfl (by walk_at "l")) jA)))))
   (C4 (P6 (J3 (i7 (qV 11) (i7 (j6 (j7 K hu) (qV 9) (qV 12) (λ_ _=>rfl)) (i7 (j6 (j7 K hu) (qV 9) (qV 13) (λ_ _=>rfl)) j5)))) (mY (qV 8) (j6 (j7 K hu) (qV 4) (qV 10) (λ_ _=>rfl)) (z9 P w hu))))))))
   (C4 (A3 (J3 (i7 (qV 6) (i7 (qV 8) j5)))))))))))))),?_⟩
  refine A1 ?_;walk_at "e";refine J1 hT.tup rfl ?_;walk_at "e";refine A1 ?_;walk_at "e";refine O8 hT.m (λPn o1=>?_);refine z7 (n:=(i6 (pr.map J2)).length) (λi out H'=>Same (z8 m o1 (i6 (pr.map J2)) H) H'/\out=(((pr.take i).filter λx=>!decide (x.2∈b8 R.W)).map (·.1)).map V.str) ⟨Same.refl _,rfl⟩ (λi out H' hi hp=>⟨hp.1 _ _ d8,hi⟩) ?_ ?_
  .rintro N i v out H1' H1 hi ⟨s1,rfl⟩ ⟨rfl,kv,d_,rfl⟩ hN';obtain⟨x,hx,rfl⟩:=Q5 d_;rw[FD] at hx;obtain⟨⟨n,w'⟩,QL,rfl⟩:=Gj.mp hx;have r_:=FI QL;rw[j8,Fv] at hi;have MN:=(K9 (o:=o1) hT.m).trans s1.le;have R1:=hT.r.r.at_.mono MN;have e7:pr.take (i+1)=pr.take i++[(n,w')]:=by rw[Gq,QL];rfl
   have tr:=MN.tup hT.r.tup;have Md:=FK (λx:Str×Str=>!decide (x.2∈b8 R.W)) (pr.take i);rw[FO] at Md;have no:w'∈b8 R.W->N ((((pr.take i).filter λx=>!decide (x.2∈b8 R.W)).map (·.1)).map V.str) H1:=λhb=>hN' _ _ ⟨s1,by rw[e7,Gv,GA (by simp [hb]),GL,Gw]⟩;walk_at "e";refine⟨rfl,?_⟩;walk_at "e";refine b5 tr (b6 (j:=1) rfl) ?_;walk_at "e";refine b5 R1.tup (b6 (j:=0) rfl) ?_;refine K0 (F5 (k:=Sum.inr w') R1.pts) ?_;rw[L8];walk_at "e";refine J5 (λc1=>?_) (λc1=>?_)
   .walk_at "e";refine b5 tr (b6 (j:=1) rfl) ?_;walk_at "e";refine b5 R1.tup (b6 (j:=1) rfl) ?_;refine K0 (F5 (k:=Sum.inr w') R1.ties) ?_;rw[U5 R1.ts];walk_at "e";refine J5 (λc2=>?_) (λc2=>?_)
    .have s_:w'∉b8 R.W:=λz=>(FC.mp z).elim c1 c2;walk_at "e";refine k9 (v:= .str n) (by have z:=F5 (k:=Sum.inr w') (MN.dic (.inl hT.m));rw[K3 mp.nds (show(w',n)∈pr.map J2 from Fx.mpr ⟨_,r_,rfl⟩)] at z;exact z) ?_;refine⟨d9 (by rw[Fv,Fv];lia),hN' _ _ ⟨s1,?_⟩⟩;rw[e7,Gv,Gu (by simp [s_]),GL,FF,FF];rfl
    .exact no (FA _ c2)
   .exact no (Fy _ c1)
  .rintro out H1 ⟨s1,rfl⟩;rw[j8,Fv,FL (Fz _)];have Md:=FK (λx:Str×Str=>!decide (x.2∈b8 R.W)) pr;refine⟨⟨s1 _ _ d8,by rw[j8,Fv];exact Fz _⟩,λlo nlo=>⟨d9 (by rw[Fv,Fv];lia),?_⟩⟩;have Tu:∀n,n∈(pr.filter λx=>!decide (x.2∈b8 R.W)).map (·.1)↔n∈T9 L.W R.W (i6 (pr.map J2)):=λn=>by
    rw[mp.gs,Fx];constructor
    .rintro⟨⟨n',w'⟩,hx,rfl⟩;have z:=FJ.mp hx;have z2:=z.2;rw[Gr,FY] at z2;exact⟨w',z.1,z2⟩
    .rintro⟨w',hx,hw⟩;exact⟨(n,w'),FJ.mpr ⟨hx,by rw[Ge hw];rfl⟩,rfl⟩
   generalize (pr.filter λx=>!decide (x.2∈b8 R.W)).map (·.1)=og at Tu⊢;have s2:=M0 hT.m s1 nlo (u:= .lst (og.map V.str));have f2:=U9 s1 nlo (u:= .lst (og.map V.str));change O5 _ _ _ (thaw m (upd H1 lo (.lst (og.map V.str)))) _;generalize thaw m (upd H1 lo (.lst (og.map V.str)))=G at s2 f2⊢;have SG:=hS.same s2;have TG:=hT.same s2;walk_at "e";refine A1 ?_;walk_at "e";intro pp npp;obtain⟨G1,SR,SS,Om,_⟩:=b9 (o:= .dK []) npp;rw[SR];walk_at "e";refine A1 ?_;walk_at "e";refine b5 (SG.same Om).at_.tup (b6 (j:=0) rfl) ?_;refine O8 (SG.same Om).hp (λQQ o2=>?_);have Pm:pp≠S.p:=(b7 SG.hp npp).symm;have gP:z8 S.p o2 (i6 S.W.pts) G pp=none:=by unfold z8;rw[d0 Pm];exact npp
   have sP:Same (z8 S.p o2 (i6 S.W.pts) G) (z8 S.p o2 (i6 S.W.pts) G1):=λb u e=>by
    unfold z8 at e⊢;by_cases hb:b=S.p
    .subst hb;rw[d8] at e⊢;exact e
    .rw[d0 hb] at e⊢;exact Om _ _ e
   refine C8 (n:=(i6 S.W.pts).length) (λi σ H'=>(∃v7,σ=[some (.ref S.a),some (.ref st),some (.ref r),some (.ref m),some (.ref f),some (.ref lo),some (.ref pp),v7,none,none,none,none,none,none])/\Same (z8 S.p o2 (i6 S.W.pts) G) H'/\H' pp=some (.dK (i6 ((S.W.pts.take i).filter λx=>!decide (x.1∈og)))))
    ⟨⟨_,rfl⟩,sP,by unfold z8;rw[d0 Pm];exact SS⟩ (λi σ H' hi hp=>⟨hp.2.1 _ _ d8,hi⟩) ?_ ?_
   .rintro i v σ Ml H3 hi ⟨⟨v7,rfl⟩,s3,h3⟩ ⟨rfl,kv,d_,rfl⟩;obtain⟨x,hx,rfl⟩:=Q5 d_;have r_:=FI hx;have MX:=(K9 (o:=o2) SG.hp).trans s3.le;have S3:=SG.at_.mono MX;have e7:S.W.pts.take (i+1)=S.W.pts.take i++[x]:=by rw[Gq,hx];rfl
    have NO:x.1∉((S.W.pts.take i).filter λx=>!decide (x.1∈og)).map (·.1):=λz=>by
     obtain⟨y,hy,ey⟩:=Fx.mp z;have o_:=(FJ.mp hy).1;have z2:((S.W.pts.take (i+1)).map (·.1)).Nodup:=(E1 hS.nd).sublist ((GZ _ _).map _);rw[e7,o9] at z2;exact(FR.mp z2).2.2 _ (Fx.mpr ⟨y,o_,rfl⟩) _ (by simp) ey
    have KS:=FK (λx:Str×Str=>!decide (x.1∈og)) (S.W.pts.take i);rw[FO] at KS;walk_at "e";refine J0 (MX.lst (SqL.of f2)) ?_;walk_at "e";refine J5 (λc1=>?_) (λc1=>?_)
    .walk_at "e";refine b5 S3.tup (b6 (j:=0) rfl) ?_;walk_at "e";refine k9 (v:= .str x.2) (by have z:=F5 (k:=Sum.inr x.1) S3.pts;rw[K3 (k:=x.2) (E1 hS.nd) r_] at z;exact z) ?_;walk_at "e";refine O4 (z5 (k:=Sum.inr x.1) h3 (d9 (by rw[j8];lia)) ?_);refine⟨⟨_,rfl⟩,E4 s3 gP,?_⟩;rw[d8,e7,Gv,Gu (by simp [c1]),GL];exact GY (λz=>some (HO.dK z)) (V3 (kd:=x.2) NO)
    .walk_at "e";refine⟨⟨_,rfl⟩,s3,?_⟩;rw[h3,e7,Gv,GA (by simp [c1]),GL,Gw]
   .rintro σ H3 ⟨⟨v7,rfl⟩,s3,h3⟩;refine⟨⟨s3 _ _ d8,Fz _⟩,?_⟩;rw[j8,FL (Fz _)] at h3;have s4:=s3.thaw SG.hp;have h4:thaw S.p H3 pp=some (.dK (i6 (S.W.pts.filter λx=>!decide (x.1∈og)))):=by rw[Q7 Pm];exact h3
    change ip _ _ _ _ (thaw S.p H3);generalize thaw S.p H3=G2 at s4 h4⊢;have S4:=SG.same s4;have T4:=TG.same s4;have XW:=s4 _ _ f2;refine A1 ?_;walk_at "e";intro qq nqq;obtain⟨G3,SW,SX,Oo,_⟩:=b9 (o:= .dK []) nqq;rw[SW];walk_at "e";refine A1 ?_;walk_at "e";refine b5 (S4.same Oo).at_.tup (b6 (j:=1) rfl) ?_;refine O8 (S4.same Oo).hq (λMO o3=>?_);have Tv:qq≠S.q:=(b7 S4.hq nqq).symm;have gQ:z8 S.q o3 S.kvs G2 qq=none:=by unfold z8;rw[d0 Tv];exact nqq
    have sQ:Same (z8 S.q o3 S.kvs G2) (z8 S.q o3 S.kvs G3):=λb u e=>by
     unfold z8 at e⊢;by_cases hb:b=S.q
     .subst hb;rw[d8] at e⊢;exact e
     .rw[d0 hb] at e⊢;exact Oo _ _ e
    refine C8 (n:=S.kvs.length) (λi σ H'=>(∃v7,σ=[some (.ref S.a),some (.ref st),some (.ref r),some (.ref m),some (.ref f),some (.ref lo),some (.ref pp),v7,some (.ref qq),none,none,none,none,none])/\Same (z8 S.q o3 S.kvs G2) H'/\∃kq,H' qq=some (.dK kq)/\TiesIs K H' kq ((S.W.ts.take i).filter λx=>!decide (x.1∈og)))
     ⟨⟨_,rfl⟩,sQ,[],by unfold z8;rw[d0 Tv];exact SX,.nil⟩ (λi σ H' hi hp=>⟨hp.2.1 _ _ d8,hi⟩) ?_ ?_
    .rintro i v σ H5' H5 hi ⟨⟨v7,rfl⟩,s5,kq,h5,w5⟩ ⟨rfl,kv,d_,rfl⟩;have Mm:=(K9 (o:=o3) S4.hq).trans s5.le;have S5:=S4.at_.mono Mm;obtain⟨x,hx,ex,bb,eb,sb⟩:=S5.ts.get d_;have Kx:=FI d_;obtain⟨kk,MQ⟩:=kv;have Lx:kk=Sum.inr x.1:=ex;have MR:MQ= .ref bb:=eb;subst Lx MR;have e7:S.W.ts.take (i+1)=S.W.ts.take i++[x]:=by rw[Gq,hx];rfl
     have NO:x.1∉((S.W.ts.take i).filter λx=>!decide (x.1∈og)).map (·.1):=λz=>by
      obtain⟨y,hy,ey⟩:=Fx.mp z;have o_:=(FJ.mp hy).1;have z2:((S.W.ts.take (i+1)).map (·.1)).Nodup:=(N1 hS.nd).sublist ((GZ _ _).map _);rw[e7,o9] at z2;exact(FR.mp z2).2.2 _ (Fx.mpr ⟨y,o_,rfl⟩) _ (by simp) ey
     have Tw:=FK (λx:Str×N3=>!decide (x.1∈og)) (S.W.ts.take i);have Zz:=w5.length;rw[FO] at Tw;walk_at "e";refine J0 (Mm.lst (SqL.of XW)) ?_;walk_at "e";refine J5 (λc1=>?_) (λc1=>?_)
     .walk_at "e";refine b5 S5.tup (b6 (j:=1) rfl) ?_;walk_at "e";refine k9 (v:= .ref bb) (by have z:=F5 (k:=Sum.inr x.1) S5.ties;rw[U2 (kv:=(Sum.inr x.1,.ref bb)) MO Kx] at z;exact z) ?_;walk_at "e";refine O4 (z5 (k:=Sum.inr x.1) h5 (d9 (by lia)) ?_);refine⟨⟨_,rfl⟩,E4 s5 gQ,_,d8,?_⟩;rw[e7,Gv,Gu (by simp [c1]),GL];obtain⟨x0,x1,x2,x3⟩:=x;exact C9 h5 (iV w5 NO sb)
     .walk_at "e";refine⟨⟨_,rfl⟩,s5,kq,h5,?_⟩;rw[e7,Gv,GA (by simp [c1]),GL,Gw];exact w5
    .rintro σ H5 ⟨⟨v7,rfl⟩,s5,kq,h5,w5⟩;refine⟨⟨s5 _ _ d8,Fz _⟩,?_⟩;rw[Tt,FL (Fz _)] at w5;have s6:=s5.thaw S4.hq;have h6:thaw S.q H5 qq=some (.dK kq):=by rw[Q7 Tv];exact h5
     have w6:=w5.mono (kY (d:=S.q));change ip _ _ _ _ (thaw S.q H5);generalize thaw S.q H5=G4 at s6 h6 w6⊢;have S6:=S4.same s6;have T6:=T4.same s6;have p6:=s6 _ _ h4;have Tx:pp≠qq:=b7 h4 nqq;refine A1 ?_;walk_at "e";refine E7 (.inl T6.m) (λnd Mp=>?_);obtain⟨G5,XX,VE,VF,_⟩:=b9 (o:= .dK _) Mp;rw[XX];have T7:=T6.same VF;have Py:nd≠f:=(b7 T6.f Mp).symm;walk_at "e";refine A1 ?_;walk_at "e";refine⟨.inr (.inr (.inl ⟨rfl,.inl ⟨_,VE⟩⟩)),?_⟩;walk_at "e";refine⟨nd,f,_,_,rfl,rfl,VE,.inl T7.f,Py,by rw[j8,j8,Fv];lia,?_⟩;rw[ky (by have z:=U4 (iQ mp fo Kn);unfold i6 at z⊢;rw[FF] at z;exact z)];have s8:Same G4 (upd G5 nd (.dK (i6 (pr.map J2)++i6 fr))):=E4 VF Mp;have f8:upd G5 nd (.dK (i6 (pr.map J2)++i6 fr)) nd=some (.dK (i6 (pr.map J2)++i6 fr)):=d8;generalize upd G5 nd (.dK (i6 (pr.map J2)++i6 fr))=G6 at s8 f8⊢;have p8:=s8 _ _ p6;have h8:=s8 _ _ h6;have w8:=w6.mono s8.le;have T8:=T6.same s8;have NV:G pp=none:=npp;have NW:G qq=none:=s4.free nqq;have XY:Same G G6:=s4.trans (s6.trans s8);have TC:f≠pp:=b7 TG.f NV;have TF:f≠qq:=b7 TG.f NW;have XZ:nd≠pp:=(b7 p6 Mp).symm;have X':nd≠qq:=(b7 h6 Mp).symm;walk_at "e";refine A1 ?_;walk_at "e";refine O8 T8.f (λXR o4=>?_);have gp:z8 f o4 (i6 fr) G pp=none:=by unfold z8;rw[d0 TC.symm];exact NV
     have gq:z8 f o4 (i6 fr) G qq=none:=by unfold z8;rw[d0 TF.symm];exact NW
     have sF:Same (z8 f o4 (i6 fr) G) (z8 f o4 (i6 fr) G6):=λb u e=>by
      unfold z8 at e⊢;by_cases hb:b=f
      .subst hb;rw[d8] at e⊢;exact e
      .rw[d0 hb] at e⊢;exact XY _ _ e
     have fz:∀{b:Addr},b≠f->z8 f o4 (i6 fr) G6 b=G6 b:=λhb=>by unfold z8;rw[d0 hb]
     have VG:∀x∈(S.W.pts.filter λx=>!decide (x.1∈og)),x.1∈b8 S.W:=λx hx=>Fy _ (Fx.mpr ⟨x,(FJ.mp hx).1,rfl⟩);have VH:∀x∈(S.W.ts.filter λx=>!decide (x.1∈og)),x.1∈b8 S.W:=λx hx=>FA _ (Fx.mpr ⟨x,(FJ.mp hx).1,rfl⟩);have VI:=M4 (p:=λx:Str×Str=>!decide (x.1∈og)) (E1 hS.nd);have VJ:=M4 (p:=λx:Str×N3=>!decide (x.1∈og)) (N1 hS.nd);have lP:=FK (λx:Str×Str=>!decide (x.1∈og)) S.W.pts;have lT:=FK (λx:Str×N3=>!decide (x.1∈og)) S.W.ts;have Pz:∀x,x∈(S.W.pts.filter λx=>!decide (x.1∈og))↔x∈S.W.pts/\x.1∉T9 L.W R.W (i6 (pr.map J2)):=λx=>by
      rw[FJ,Gr,FY,Tu]
     have PC:∀x,x∈(S.W.ts.filter λx=>!decide (x.1∈og))↔x∈S.W.ts/\x.1∉T9 L.W R.W (i6 (pr.map J2)):=λx=>by
      rw[FJ,Gr,FY,Tu]
     generalize (S.W.pts.filter λx=>!decide (x.1∈og))=P1 at p8 VG VI lP Pz;generalize (S.W.ts.filter λx=>!decide (x.1∈og))=T1 at w8 VH VJ lT PC;refine C8 (n:=(i6 fr).length) (λi σ H'=>(∃v7 v10 v11 y_ z_,σ=[some (.ref S.a),some (.ref st),some (.ref r),some (.ref m),some (.ref f),some (.ref lo),some (.ref pp),v7,some (.ref qq),some (.ref nd),v10,v11,y_,z_])/\Same (z8 f o4 (i6 fr) G) H'/\H' nd=some (.dK (i6 (pr.map J2)++i6 fr))/\∃(P2:List (Str×Str)) (T2:List (Str×N3)) (kq:List (j4×V)),H' pp=some (.dK (i6 (P1++P2)))/\H' qq=some (.dK kq)/\TiesIs K H' kq (T1++T2)/\((P1++P2).map (·.1)).Nodup/\((T1++T2).map (·.1)).Nodup/\P2.length+T2.length<=i/\(∀x,x∈P2↔∃w,(w,x.1)∈fr.take i/\(w,x.2)∈R.W.pts)/\∀x,x∈T2↔∃w b e,(w,x.1)∈fr.take i/\(w,(x.2.1,b,e))∈R.W.ts/\x.2.2.1=bh L.W (i6 (pr.map J2)) (i6 fr) b/\x.2.2.2=bh L.W (i6 (pr.map J2)) (i6 fr) e)
      ⟨⟨_,_,_,_,_,rfl⟩,sF,by rw[fz Py];exact f8,[],[],_,by rw[fz TC.symm,Gw];exact p8,by rw[fz TF.symm];exact h8,by rw[Gw];exact w8.mono (K9 (o:=o4) T8.f),by rw[Gw];exact VI,by rw[Gw];exact VJ,Fz _,(λx=>by simp),λx=>by simp⟩ (λi σ H' hi hp=>⟨hp.2.1 _ _ d8,hi⟩) ?_ ?_
     .rintro i v σ H9' H9 hi ⟨⟨v7,v10,v11,y_,z_,rfl⟩,s9,n9,P2,T2,kq9,p9,q9,w9,Nt,ndT,l9,mP,mT⟩ ⟨rfl,kv,d_,rfl⟩;obtain⟨⟨wd,nm⟩,hx,rfl⟩:=Q5 d_;have r_:=FI hx;have e7:fr.take (i+1)=fr.take i++[(wd,nm)]:=by rw[Gq,hx];rfl
      rw[j8] at hi;have Ou:=(K9 (o:=o4) TG.f).trans s9.le;have R9:=TG.r.r.at_.mono Ou;have TH:=Ou.tup TG.r.tup;have F9:=Ou.dic (.inl TG.f);have PD:=K3 (fo.nd1 Kn) r_;have VL:=fo.no _ r_;have hold:∀w',(w',nm)∉fr.take i:=λw' z=>by
       have z2:((fr.take (i+1)).map (·.2)).Nodup:=fo.nd.sublist ((GZ _ _).map _);rw[e7,Q0] at z2;exact(FR.mp z2).2.2 nm (Fx.mpr ⟨(w',nm),z,rfl⟩) nm (by simp) rfl
      have p_:∀w',(w',nm)∈fr.take (i+1)↔w'=wd:=λw'=>by
       rw[e7,FC,FH];exact⟨λz=>z.elim (λz=>absurd z (hold w')) λz=>(II z).1,λz=> .inr (by rw[z])⟩
      have i_:∀w' n',n'≠nm->((w',n')∈fr.take (i+1)↔(w',n')∈fr.take i):=λw' n' l_=>by
       rw[e7,FC,FH];exact⟨λz=>z.elim id λz=>absurd (II z).2 l_,.inl⟩
      have Sz:wd∈b8 R.W:=(fo.mem.mp (Fx.mpr ⟨_,r_,rfl⟩)).1;have nP:nm∉(P1++P2).map (·.1):=λz=>by
       obtain⟨y,hy,ey⟩:=Fx.mp z;rcases FC.mp hy with q|q
       .exact VL (by have:=VG y q;rw[show y.1=nm from ey] at this;exact this)
       .obtain⟨w',h1,_⟩:=(mP y).mp q;rw[show y.1=nm from ey] at h1;exact hold w' h1
      have nT:nm∉(T1++T2).map (·.1):=λz=>by
       obtain⟨y,hy,ey⟩:=Fx.mp z;rcases FC.mp hy with q|q
       .exact VL (by have:=VH y q;rw[show y.1=nm from ey] at this;exact this)
       .obtain⟨w',_,_,h1,_⟩:=(mT y).mp q;rw[show y.1=nm from ey] at h1;exact hold w' h1
      have TJ:∀y∈P2,y.1≠nm:=λy hy z=>nP (Fx.mpr ⟨y,FA _ hy,z⟩);have TK:∀y∈T2,y.1≠nm:=λy hy z=>nT (Fx.mpr ⟨y,FA _ hy,z⟩);have X_:=w9.length;rw[FE] at X_;walk_at "e";refine b5 TH (b6 (j:=1) rfl) ?_;walk_at "e";refine b5 R9.tup (b6 (j:=0) rfl) ?_;refine bJ (F5 (k:=Sum.inr wd) R9.pts) ?_;rw[L8];walk_at "e";refine L5 (λc1=>?_) (λc1=>?_)
      .obtain⟨⟨wd',kd⟩,hk,ek⟩:=Fx.mp c1;have OP:wd'=wd:=ek;subst OP;have Ya:wd'∉R.W.ts.map (·.1):=λz=>(FR.mp Kn).2.2 wd' c1 wd' z rfl;walk_at "e";refine b5 TH (b6 (j:=1) rfl) ?_;walk_at "e";refine b5 R9.tup (b6 (j:=0) rfl) ?_;walk_at "e";refine k9 (v:= .str kd) (by have z:=F5 (k:=Sum.inr wd') R9.pts;rw[K3 (E1 Kn) hk] at z;exact z) ?_;walk_at "e";refine k9 (v:= .str nm) (by have z:=F5 (k:=Sum.inr wd') F9;rw[PD] at z;exact z) ?_;walk_at "e";refine O4 (z5 (k:=Sum.inr nm) p9 (d9 (by rw[j8,FE];lia)) ?_);refine⟨⟨_,_,_,_,_,rfl⟩,E4 s9 gp,by rw[d0 XZ];exact n9,P2++[(nm,kd)],T2,kq9,?_,by rw[d0 Tx.symm];exact q9,C9 p9 w9,?_,ndT,by rw[FE,FT];lia,λy=>?_,λy=>?_⟩
       .rw[d8,←Gx];exact GY (λz=>some (HO.dK z)) (V3 (kd:=kd) nP)
       .rw[←Gx,o9];exact B9 Nt nP
       .rw[FC,FH];by_cases hy:y.1=nm
        .constructor
         .rintro(z|z)
          .exact absurd hy (TJ y z)
          .rw[z];exact⟨wd',(p_ wd').mpr rfl,hk⟩
         .rintro⟨w',h1,h2⟩;rw[hy] at h1;have:=(p_ w').mp h1;subst this;right;obtain⟨y1,y2⟩:=y;rw[show y1=nm from hy,show y2=kd from u7 (E1 Kn) h2 hk]
        .rw[mP];constructor
         .rintro(⟨w',h1,h2⟩|z)
          .exact⟨w',(i_ w' _ hy).mpr h1,h2⟩
          .exact absurd (by rw[z]) hy
         .rintro⟨w',h1,h2⟩;exact .inl ⟨w',(i_ w' _ hy).mp h1,h2⟩
       .rw[mT];by_cases hy:y.1=nm
        .constructor
         .rintro⟨w',b,e,h1,h2⟩;rw[hy] at h1;exact absurd h1 (hold w')
         .rintro⟨w',b,e,h1,h2,_⟩;rw[hy] at h1;have:=(p_ w').mp h1;subst this;exact absurd (Fx.mpr ⟨_,h2,rfl⟩) Ya
        .constructor
         .rintro⟨w',b,e,h1,h2⟩;exact⟨w',b,e,(i_ w' _ hy).mpr h1,h2⟩
         .rintro⟨w',b,e,h1,h2⟩;exact⟨w',b,e,(i_ w' _ hy).mp h1,h2⟩
      .have Yb:wd∈R.W.ts.map (·.1):=(FC.mp Sz).elim (λz=>absurd z c1) id;obtain⟨aa,⟨y1,y2,y3⟩,v1,v2,v3⟩:=TiesIs.val (ts:=R.W.ts) R9.ts Yb;have LO:=TG.r.r.ends _ v2;obtain⟨Yc,Yd⟩:=kI mp fo Kn (Fy _ LO.1);obtain⟨Ye,Yf⟩:=kI mp fo Kn (Fy _ LO.2);walk_at "e";refine A1 ?_;walk_at "e";refine b5 TH (b6 (j:=1) rfl) ?_;walk_at "e";refine b5 R9.tup (b6 (j:=1) rfl) ?_;walk_at "e";refine k9 (v:= .ref aa) (by have z:=F5 (k:=Sum.inr wd) R9.ties;rw[v1] at z;exact z) ?_;refine J1 (xs:=[.str y1,.str y2,.str y3]) v3 rfl ?_;walk_at "e";refine vo (.inl n9) Yc ?_;rw[Yd];walk_at "e";refine vo (.inl n9) Ye ?_;rw[Yf];walk_at "e";refine⟨d9 (by simp),λlt nlt=>?_⟩;obtain⟨HA,eA,fA,mA,_⟩:=b9 (o:= .tup _) nlt;rw[eA];walk_at "e";refine k9 (v:= .str nm) (by have z:=F5 (k:=Sum.inr wd) (mA.rd F9);rw[PD] at z;exact z) ?_;walk_at "e";refine O4 (z5 (k:=Sum.inr nm) (mA _ _ q9) (d9 (by lia)) ?_);refine⟨⟨_,_,_,_,_,rfl⟩,E4 (s9.trans mA) gq,by rw[d0 X'];exact mA _ _ n9,P2,T2++[(nm,(y1,bh L.W (i6 (pr.map J2)) (i6 fr) y2,bh L.W (i6 (pr.map J2)) (i6 fr) y3))],_,by rw[d0 Tx];exact mA _ _ p9,d8,?_,Nt,?_,by rw[FE,FT];lia,λy=>?_,λy=>?_⟩
       .rw[←Gx];exact C9 (mA _ _ q9) (iV (w9.mono mA.le) nT (SqT.of fA))
       .rw[←Gx,o9];exact B9 ndT nT
       .rw[mP];by_cases hy:y.1=nm
        .constructor
         .rintro⟨w',h1,h2⟩;rw[hy] at h1;exact absurd h1 (hold w')
         .rintro⟨w',h1,h2⟩;rw[hy] at h1;have:=(p_ w').mp h1;subst this;exact absurd (Fx.mpr ⟨_,h2,rfl⟩) c1
        .constructor
         .rintro⟨w',h1,h2⟩;exact⟨w',(i_ w' _ hy).mpr h1,h2⟩
         .rintro⟨w',h1,h2⟩;exact⟨w',(i_ w' _ hy).mp h1,h2⟩
       .rw[FC,FH];by_cases hy:y.1=nm
        .constructor
         .rintro(z|z)
          .exact absurd hy (TK y z)
          .rw[z];exact⟨wd,y2,y3,(p_ wd).mpr rfl,v2,rfl,rfl⟩
         .rintro⟨w',b,e,h1,h2,h3,h4⟩;rw[hy] at h1;have:=(p_ w').mp h1;subst this;right;have z:=u7 (N1 Kn) h2 v2;obtain⟨z1,z2⟩:=II z;obtain⟨z3,z4⟩:=II z2;obtain⟨q0,q1,q2,q3⟩:=y;have Yg:q2=bh L.W (i6 (pr.map J2)) (i6 fr) b:=h3;have Yh:q3=bh L.W (i6 (pr.map J2)) (i6 fr) e:=h4;have Yi:q1=y1:=z1;rw[show q0=nm from hy,Yi,Yg,Yh,z3,z4]
        .rw[mT];constructor
         .rintro(⟨w',b,e,h1,h2⟩|z)
          .exact⟨w',b,e,(i_ w' _ hy).mpr h1,h2⟩
          .exact absurd (by rw[z]) hy
         .rintro⟨w',b,e,h1,h2⟩;exact .inl ⟨w',b,e,(i_ w' _ hy).mp h1,h2⟩
     .rintro σ H9 ⟨⟨v7,v10,v11,y_,z_,rfl⟩,s9,n9,P2,T2,kq9,p9,q9,w9,Nt,ndT,l9,mP,mT⟩;refine⟨⟨s9 _ _ d8,Fz _⟩,?_⟩;rw[j8,FL (Fz _)] at mP mT;have sA:=s9.thaw TG.f;have pA:thaw f H9 pp=some (.dK (i6 (P1++P2))):=by rw[Q7 TC.symm];exact p9
      have qA:thaw f H9 qq=some (.dK kq9):=by rw[Q7 TF.symm];exact q9
      have wA:=w9.mono (kY (d:=f));change uq _ _ _ (thaw f H9);generalize thaw f H9=HA at sA pA qA wA⊢;walk_at "e";refine⟨d9 (by simp),λa' na=>?_⟩;obtain⟨HB,eB,fB,mB,_⟩:=b9 (o:= .tup _) na;rw[eB];refine k ⟨a',pp,qq,kq9,⟨P1++P2,T1++T2⟩⟩ HB (s2.trans (sA.trans mB)) ⟨SqT.of fB,.inl (mB _ _ pA),.inl (mB _ _ qA),wA.mono mB.le⟩ Nt ndT (λx=>?_) (λx=>?_) (mB _ _ pA) (mB _ _ qA) Tx (s2.free NV) (s2.free NW)
      .show x∈P1++P2↔_;unfold AS;rw[FC,Pz,mP]
      .show x∈T1++T2↔_;unfold AL;rw[FC,PC,mT]
theorem jX {f:Str->Str}:∀{l:List Str},l.Nodup->(∀a∈l,∀b∈l,f a=f b->a=b)->(l.map f).Nodup
 |[],_,_=>GX
 |x::r,nd,h=>by
  have C':=GK.mp nd;refine GK.mpr ⟨λm=>?_,jX C'.2 λa ha b hb=>h a (Gb _ ha) b (Gb _ hb)⟩;obtain⟨y,hy,e⟩:=Fx.mp m;exact C'.1 ((h y (Gb _ hy) x FU e)▸hy)
theorem bZ {l:List (Str×Str)}{n m s:Str}(nd:(l.map (·.2)).Nodup)(h1:(n,s)∈l)(h2:(m,s)∈l):n=m:=
 u7 (l:=l.map J2) (n:=s) (by rw[cq];exact nd) (Fx.mpr ⟨_,h1,rfl⟩) (Fx.mpr ⟨_,h2,rfl⟩)
section
variable {W L R:C3} {os:List Str} {pr fr:List (Str×Str)}
theorem MP.inW (h:MP W os pr L.pts L.ts (b8 R)){n w:Str}(hx:(n,w)∈pr):n∈b8 W:=by
 have hw:=h.inL hx;rcases FC.mp hw with z|z
 .obtain⟨⟨w',k⟩,hy,e⟩:=Fx.mp z;have e':w'=w:=e;subst e';obtain⟨n',h1,h2⟩:=h.pt _ hy;rw[bZ h.n2 hx h1];exact Fy _ (Fx.mpr ⟨_,h2,rfl⟩)
 .obtain⟨⟨w',k⟩,hy,e⟩:=Fx.mp z;have e':w'=w:=e;subst e';obtain⟨n',b,e2,h1,_,_,h2⟩:=h.ti _ hy;rw[bZ h.n2 hx h1];exact FA _ (Fx.mpr ⟨_,h2,rfl⟩)
theorem MP.fit (h:MP W os pr L.pts L.ts (b8 R)):pT L W (i6 (pr.map J2)):=by
 refine⟨?_,h.txt,?_,λx hx=>?_,λx hx=>?_⟩
 .have z:=GY List.length h.wd;rw[Fv] at z;rw[j8,Fv,z];rfl
 .have e:(b8 L).map (i9 (i6 (pr.map J2)))=pr.map (·.1):=by
   rw[show b8 L=pr.map (·.2) from h.wd.symm,Gg];exact Gz λx hx=>(h.at_ (n:=x.1) (w:=x.2) hx).2
  rw[e];exact h.n1
 .obtain⟨n,h1,h2⟩:=h.pt x hx;rw[(h.at_ h1).2];exact h2
 .obtain⟨n,b,e,h1,h2,h3,h4⟩:=h.ti x hx;rw[(h.at_ h1).2,(h.at_ h2).2,(h.at_ h3).2];exact h4
theorem V6 (km kf:List (j4×V)){n:Str}(h:n∈b8 L):bh L km kf n=i9 km n:=by unfold bh;rw[if_pos h]
theorem V9 (km kf:List (j4×V)){n:Str}(h:n∉b8 L):bh L km kf n=i9 kf n:=by unfold bh;rw[if_neg h]
theorem BV (h:MP W os pr L.pts L.ts (b8 R))(fo:FrOk W L R fr)(ndR:(b8 R).Nodup)(lo:∀n x,(n,x)∈W.ts->(x.2.1∈os\/x.2.2∈os)->n∈os)(hs:∀n∈os,n∈pr.map (·.1)):Bb W L R (i6 (pr.map J2)) fr:=by
 refine⟨h.fit,λx hx hn=>?_,fo,jX ndR λa ha b hb e=>?_⟩
 .rw[h.gsos hs] at hn⊢;rw[h.gsos hs];exact⟨λz=>hn (lo x.1 x.2 hx (.inl z)),λz=>hn (lo x.1 x.2 hx (.inr z))⟩
 .by_cases hA:a∈b8 L<;>by_cases hB:b∈b8 L
  .rw[V6 _ _ hA,V6 _ _ hB] at e;have z1:=h.of_ hA;rw[e] at z1;exact u7 h.n1 z1 (h.of_ hB)
  .rw[V6 _ _ hA,V9 _ _ hB] at e;exact absurd (e▸h.inW (h.of_ hA)) (fo.no _ (fo.txt ndR (fo.mem.mpr ⟨hb,hB⟩)).2)
  .rw[V9 _ _ hA,V6 _ _ hB] at e;exact absurd (e▸h.inW (h.of_ hB)) (fo.no _ (fo.txt ndR (fo.mem.mpr ⟨ha,hA⟩)).2)
  .rw[V9 _ _ hA,V9 _ _ hB] at e;have z1:=(fo.txt ndR (fo.mem.mpr ⟨ha,hA⟩)).2;rw[e] at z1;exact bZ fo.nd z1 (fo.txt ndR (fo.mem.mpr ⟨hb,hB⟩)).2
theorem qU (h:MP W os pr L.pts L.ts (b8 R)){w:Str}(hL:w∈b8 L)(hR:w∈b8 R):i9 (i6 (pr.map J2)) w∉T9 L R (i6 (pr.map J2)):=λz=>by
 obtain⟨w',h1,h2⟩:=(h.gs _).mp z;exact h2 (u7 h.n1 h1 (h.of_ hL)▸hR)
theorem me {α:Type}{A B:List (Str×α)}{x:Str×α}:x∈(A.filter λx=>!decide (x.1∈B.map (·.1)))++B↔(x∈A/\x.1∉B.map (·.1))\/x∈B:=by
 rw[FC,FJ,Gr,FY]
theorem oa (fo:FrOk W L R fr)(ndR:(b8 R).Nodup){w n:Str}(h:(w,n)∈fr)(km:List (j4×V)):bh L km (i6 fr) w=n:=by
 rw[V9 _ _ (fo.mem.mp (Fx.mpr ⟨_,h,rfl⟩)).2];exact(X9 (fo.nd1 ndR) h).2
theorem xy {bs:List Sd}(h:MP W os pr L.pts L.ts (b8 R))(ok:fk L R bs)(fo:FrOk W L R fr)(ndR:(b8 R).Nodup)(ndW:(b8 W).Nodup)(x:Str×Str):x∈(A6 W L R (i6 (pr.map J2)) (i6 fr)).pts↔AS W L R (i6 (pr.map J2)) fr x:=by
 show x∈((V5 (T9 L R (i6 (pr.map J2))) W).pts.filter λx=>!decide (x.1∈(E9 (bh L (i6 (pr.map J2)) (i6 fr)) R).pts.map (·.1)))++(E9 (bh L (i6 (pr.map J2)) (i6 fr)) R).pts↔_;rw[me];have LK:∀y,y∈(V5 (T9 L R (i6 (pr.map J2))) W).pts↔y∈W.pts/\y.1∉T9 L R (i6 (pr.map J2)):=λy=>by
  show y∈W.pts.filter _↔_;rw[FJ,Gr,FY]
 have Nk:∀w k,(w,k)∈R.pts->w∈b8 L->(i9 (i6 (pr.map J2)) w,k)∈W.pts/\i9 (i6 (pr.map J2)) w∉T9 L R (i6 (pr.map J2)):=λw k hw hL=>by
  have hR:w∈b8 R:=Fy _ (Fx.mpr ⟨_,hw,rfl⟩);exact⟨h.fit.pts _ (((ok.ag w hL hR).p k).mpr hw),qU h hL hR⟩
 rw[LK];constructor
 .rintro(⟨⟨h1,h2⟩,_⟩|hx)
  .exact .inl ⟨h1,h2⟩
  .obtain⟨⟨w,k⟩,hw,rfl⟩:=Fx.mp hx;by_cases hL:w∈b8 L
   .left;show(bh L _ _ w,k)∈W.pts/\bh L _ _ w∉_;rw[V6 _ _ hL];exact Nk w k hw hL
   .right;have hR:w∈b8 R:=Fy _ (Fx.mpr ⟨_,hw,rfl⟩);refine⟨w,?_,hw⟩;show(w,bh L _ _ w)∈fr;rw[V9 _ _ hL];exact(fo.txt ndR (fo.mem.mpr ⟨hR,hL⟩)).2
 .rintro(⟨h1,h2⟩|⟨w,h1,h2⟩)
  .by_cases hx:x.1∈(E9 (bh L (i6 (pr.map J2)) (i6 fr)) R).pts.map (·.1)
   .right;obtain⟨y,hy,ey⟩:=Fx.mp hx;obtain⟨⟨w,k⟩,hw,rfl⟩:=Fx.mp hy;have Lr:bh L (i6 (pr.map J2)) (i6 fr) w=x.1:=ey;have hR:w∈b8 R:=Fy _ (Fx.mpr ⟨_,hw,rfl⟩);by_cases hL:w∈b8 L
    .have z:=(Nk w k hw hL).1;rw[←V6 (i6 (pr.map J2)) (i6 fr) hL,Lr] at z;have e2:x.2=k:=u7 (E1 ndW) h1 z;refine Fx.mpr ⟨(w,k),hw,?_⟩;show(bh L _ _ w,k)=x;rw[Lr,←e2]
    .rw[V9 _ _ hL] at Lr;exact absurd (Fy _ (Fx.mpr ⟨x,h1,rfl⟩)) (Lr▸fo.no _ (fo.txt ndR (fo.mem.mpr ⟨hR,hL⟩)).2)
   .exact .inl ⟨⟨h1,h2⟩,hx⟩
  .right;refine Fx.mpr ⟨(w,x.2),h2,?_⟩;show(bh L _ _ w,x.2)=x;rw[oa fo ndR h1]
theorem AU {bs:List Sd}(h:MP W os pr L.pts L.ts (b8 R))(ok:fk L R bs)(fo:FrOk W L R fr)(ndR:(b8 R).Nodup)(ndW:(b8 W).Nodup)(eL:∀x∈L.ts,x.2.2.1∈L.pts.map (·.1)/\x.2.2.2∈L.pts.map (·.1))(x:Str×N3):x∈(A6 W L R (i6 (pr.map J2)) (i6 fr)).ts↔AL W L R (i6 (pr.map J2)) fr x:=by
 show x∈((V5 (T9 L R (i6 (pr.map J2))) W).ts.filter λx=>!decide (x.1∈(E9 (bh L (i6 (pr.map J2)) (i6 fr)) R).ts.map (·.1)))++(E9 (bh L (i6 (pr.map J2)) (i6 fr)) R).ts↔_;rw[me];have LK:∀y,y∈(V5 (T9 L R (i6 (pr.map J2))) W).ts↔y∈W.ts/\y.1∉T9 L R (i6 (pr.map J2)):=λy=>by
  show y∈W.ts.filter _↔_;rw[FJ,Gr,FY]
 have Nl:∀w k b e,(w,(k,b,e))∈R.ts->w∈b8 L->(bh L (i6 (pr.map J2)) (i6 fr) w,(k,bh L (i6 (pr.map J2)) (i6 fr) b,bh L (i6 (pr.map J2)) (i6 fr) e))∈W.ts/\bh L (i6 (pr.map J2)) (i6 fr) w∉T9 L R (i6 (pr.map J2)):=λw k b e hw hL=>by
  have hR:w∈b8 R:=FA _ (Fx.mpr ⟨_,hw,rfl⟩);have hl:=((ok.ag w hL hR).t (k,b,e)).mpr hw;have LO:=eL _ hl;have z:=h.fit.ts _ hl;rw[V6 _ _ hL,V6 _ _ (Fy _ LO.1),V6 _ _ (Fy _ LO.2)];exact⟨z,qU h hL hR⟩
 rw[LK];constructor
 .rintro(⟨⟨h1,h2⟩,_⟩|hx)
  .exact .inl ⟨h1,h2⟩
  .obtain⟨⟨w,k,b,e⟩,hw,rfl⟩:=Fx.mp hx;by_cases hL:w∈b8 L
   .exact .inl (Nl w k b e hw hL)
   .right;have hR:w∈b8 R:=FA _ (Fx.mpr ⟨_,hw,rfl⟩);refine⟨w,b,e,?_,hw,rfl,rfl⟩;show(w,bh L _ _ w)∈fr;rw[V9 _ _ hL];exact(fo.txt ndR (fo.mem.mpr ⟨hR,hL⟩)).2
 .rintro(⟨h1,h2⟩|⟨w,b,e,h1,h2,h3,h4⟩)
  .by_cases hx:x.1∈(E9 (bh L (i6 (pr.map J2)) (i6 fr)) R).ts.map (·.1)
   .right;obtain⟨y,hy,ey⟩:=Fx.mp hx;obtain⟨⟨w,k,b,e⟩,hw,rfl⟩:=Fx.mp hy;have Lr:bh L (i6 (pr.map J2)) (i6 fr) w=x.1:=ey;have hR:w∈b8 R:=FA _ (Fx.mpr ⟨_,hw,rfl⟩);by_cases hL:w∈b8 L
    .have z:=(Nl w k b e hw hL).1;rw[Lr] at z;have e2:x.2=(k,bh L (i6 (pr.map J2)) (i6 fr) b,bh L (i6 (pr.map J2)) (i6 fr) e):=u7 (N1 ndW) h1 z;refine Fx.mpr ⟨(w,(k,b,e)),hw,?_⟩;show(bh L _ _ w,(k,bh L _ _ b,bh L _ _ e))=x;rw[Lr,←e2]
    .rw[V9 _ _ hL] at Lr;exact absurd (FA _ (Fx.mpr ⟨x,h1,rfl⟩)) (Lr▸fo.no _ (fo.txt ndR (fo.mem.mpr ⟨hR,hL⟩)).2)
   .exact .inl ⟨⟨h1,h2⟩,hx⟩
  .right;refine Fx.mpr ⟨(w,(x.2.1,b,e)),h2,?_⟩;show(bh L _ _ w,(x.2.1,bh L _ _ b,bh L _ _ e))=x;rw[oa fo ndR h1,←h3,←h4]
theorem cu {α:Type}{l:List (Str×α)}(h:(l.map (·.1)).Nodup):l.Nodup:=List.Pairwise.of_map (·.1) (λa b hab e=>hab (by rw[e])) h
end
theorem SdIs.copy {H H':Hp}{L:Sd}{a p q:Addr}(h:SdIs K H L)(s:Same H H')(t:SqT K H' a [.ref p,.ref q])(hp:H' p=some (.dK (i6 L.W.pts)))(hq:H' q=some (.dK L.kvs))(ne:p≠q):SdIs K H' ⟨a,p,q,L.kvs,L.W⟩:=
 ⟨⟨t,.inl hp,.inl hq,h.at_.ts.mono s.le⟩,hp,hq,ne,h.nd,h.len,h.ends,h.nl⟩
structure Cpy (K:Kd) (H H':Hp) (L C:Sd):Prop where
 i:SdIs K H' C
 k:C.kvs=L.kvs
 w:C.W=L.W
 p:H C.p=none
 q:H C.q=none
theorem Cpy.same {H H1 H2:Hp}{L C:Sd}(h:Cpy K H H1 L C)(s:Same H1 H2):Cpy K H H2 L C:=⟨h.i.same s,h.k,h.w,h.p,h.q⟩
theorem fH {α β:Type}{F:α->β->Prop}:∀{l:List α} {m:List β},l.length=m.length->(∀(j:Nat) (a:α) (b:β),l[j]?=some a->m[j]?=some b->F a b)->Paired F l m
 |[],[],_,_=> .nil
 |a::l,b::m,h,f=> .cons (f 0 a b rfl rfl) (fH (by simpa using h) λj x y hx hy=>f (j+1) x y hx hy)
theorem R7 {α β:Type}{F:α->β->Prop}:∀{l:List α} {m:List β} {j:Nat} {b:β},Paired F l m->m[j]?=some b->∃a,l[j]?=some a/\F a b
 |a::_,b::_,0,_,.cons z _,h=>by cases h;exact⟨a,rfl,z⟩
 |_::_,_::_,j+1,_,.cons _ t,h=>R7 (j:=j) t h
 |[],[],_,_,.nil,h=>by simp at h
theorem Ck (a b:V)(l:List V):dO (a::b::l) (some 2) none=l:=by
 unfold dO;have e1:HT.sIx (a::b::l).length 0 (some ((2:Nat):Int))=min 2 (a::b::l).length:=HT.sIx_nat _ _ _;have e2:HT.sIx (a::b::l).length (a::b::l).length none=(a::b::l).length:=rfl;rw[show(some (2:Int))=some ((2:Nat):Int) from rfl,e1,e2];have e3:min 2 (a::b::l).length=2:=by simp
 rw[e3];show l.take _=l;exact FL (by simp)
def dz (K:Kd):Sp:=λvs H Q _=>∃(st r m f bl:Addr) (L R:Sd) (km kf:List (j4×V)) (bs:List Sd),vs=[.ref st]/\StI K H st r m f bl L R km kf bs/\bs.length<=10/\∀(A_ r' m' f' Rf:Addr) (L' R':Sd) (TM:List Sd) (H':Hp),Same H H'->StI K H' A_ r' m' f' Rf L' R' km kf TM->Cpy K H H' L L'->Cpy K H H' R R'->Paired (Cpy K H H') bs TM->H m'=none->H f'=none->H Rf=none->(∀c∈TM,m'≠c.p/\m'≠c.q)->Q (.ref A_) H'
abbrev fQ (P:Program)(w:World)(K:Kd)(mg:Str->Option Value)(base:Heap):Prop:=N8 P w K mg base C0 1 "_law_copy" ["_law_step_here"] [] (dz K)
theorem mQ {f:Addr}{fd:FuncData}(T:Txt K mg)(F:Fun K "_law_copy" "_law_copy" bR f fd):u9 P w K mg base C0 1 f fd ["_law_step_here"] (dz K):=by
 refine F.ok sc__law_copy (λvs H Q E h=>?_) (λc_ A outer s H vs Q E hr h=>?_)
 .obtain⟨st,r,m,f,bl,L,R,km,kf,bs,rfl,_⟩:=h;rfl
 .obtain⟨st,r,m,f,bl,L,R,km,kf,bs,rfl,hT,NC,k⟩:=h;have hN:=sc__law_copy.nd;have hu:=u6 hr;refine⟨_,QSs.r (z6 (P6 (qV 0) (jz K rfl (U1 (F4 (i:=1) hN rfl (by walk_at "l")) (U1 (F4 (i:=2) hN rfl (by walk_at "l")) (U1 (F4 (i:=3) hN rfl (by walk_at "l")) jA)))))
   (z6 (ai (i:=4) hN rfl (by walk_at "l") (own:=["_law_web_here"]) (js:=[]) (by kernel_rfl) rfl (P8 K (A7 (F2 K) (U3 (i7 (j6 (j7 K hu) (qV 1) d6 (λ_ _=>rfl)) (i7 (j6 (j7 K hu) (qV 1) d6 (λ_ _=>rfl)) j5))) (j6 (j7 K hu) (qV 1) d6 (λ_ _=>rfl)))) (λ_ _ _ _=>(F4 (i:=0) (show List.Nodup (["_law_web_here"]:List Str) by decide+kernel) rfl (by walk_at "l"))) (λ_ _ _ _=>aR) (λ_ _ _ _=>(J3 (i7 (gJ (R4 K rfl) T.b_dict Boot.«dict» (i7 (j6 (j7 K hu) (qV 0) d6 (λ_ _=>rfl)) j5)) (i7 (gJ (R4 K rfl) T.b_dict Boot.«dict» (i7 (j6 (j7 K hu) (qV 0) d6 (λ_ _=>rfl)) j5)) j5)))))
   (C4 (A3 (J3 (i7 (J3 (i7 (j6 (j7 K hu) (qV 4) d6 (λ_ _=>rfl)) (i7 (j6 (j7 K hu) (qV 4) d6 (λ_ _=>rfl)) (i7 (zI (AE K) (qV 4) (yI d6) Bk) j5)))) (i7 (gJ (R4 K rfl) T.b_dict Boot.«dict» (i7 (qV 2) j5)) (i7 (gJ (R4 K rfl) T.b_dict Boot.«dict» (i7 (qV 3) j5)) j5)))))))),?_⟩
  refine A1 ?_;walk_at "e";refine J1 hT.tup rfl ?_;walk_at "e";refine A1 ?_;walk_at "e";refine b5 hT.r.tup (b6 (j:=0) rfl) ?_;walk_at "e";refine b5 hT.r.tup (b6 (j:=1) rfl) ?_;walk_at "e";refine⟨d9 (by simp),λl1 n1=>?_⟩;obtain⟨H1,e1,f1,m1,_⟩:=b9 (o:= .lst _) n1;rw[e1];have T1:=hT.same m1;walk_at "e";refine b5 T1.r.tup (b6 (j:=2) rfl) ?_;walk_at "e";refine qJ f1 T1.b (d9 (by simp;lia)) (λl2 n2=>?_);rw[show [V.ref L.a,.ref R.a]++(bs.map λs=>V.ref s.a)=(L::R::bs).map λs=>V.ref s.a from rfl];obtain⟨H2,e2,f2,m2,_⟩:=b9 (o:= .lst _) n2;rw[e2];have Ng:=m1.trans m2;have ZA:(L::R::bs).length<=12:=by simp;lia
  have LF:∀(i:Nat) (v:V),((L::R::bs).map λs=>V.ref s.a)[i]?=some v->∃s:Sd,(L::R::bs)[i]?=some s/\v= .ref s.a/\SdIs K H s:=λi v hv=>by
   rw[FD] at hv;obtain⟨s,hs,e⟩:=Gj.mp hv;refine⟨s,hs,e.symm,?_⟩;rcases Gn.mp (FI hs) with rfl|z
   .exact hT.r.l
   .rcases Gn.mp z with rfl|z
    .exact hT.r.r
    .exact hT.r.bars s z
  refine C6 (SqL.of f2) ?_;refine z7 (n:=((L::R::bs).map λs=>V.ref s.a).length) (λi out H'=>Same H2 H'/\∃cs:List Sd,out=cs.map (λs=>V.ref s.a)/\cs.length=i/\∀(j:Nat) (c s:Sd),cs[j]?=some c->(L::R::bs)[j]?=some s->Cpy K H H' s c) ⟨Same.refl _,[],rfl,rfl,λj c s h=>by simp at h⟩ (λi out H' hi hp=>⟨_,_,SqL.of (hp.1 _ _ f2),Fw hi⟩) ?_ ?_
  .rintro N i v out Ml H3 hi ⟨s3,cs,rfl,J',LD⟩ y hN';obtain⟨rfl,hx⟩:=Itl.get y (SqL.of (s3 _ _ f2));obtain⟨S,Yj,rfl,hS⟩:=LF i v hx;have NX:=Ng.trans s3;have S3:=hS.same NX;rw[Fv] at hi;walk_at "e";refine⟨rfl,?_⟩;walk_at "e";refine b5 S3.at_.tup (b6 (j:=0) rfl) ?_;walk_at "e";refine E7 S3.at_.pts (λp np=>?_);obtain⟨H4,e4,f4,m4,_⟩:=b9 (o:= .dK _) np;rw[e4];have S4:=S3.same m4;walk_at "e";refine b5 S4.at_.tup (b6 (j:=1) rfl) ?_;walk_at "e";refine E7 S4.at_.ties (λq nq=>?_);obtain⟨H5,e5,f5,m5,_⟩:=b9 (o:= .dK _) nq;rw[e5];walk_at "e";refine⟨d9 (by simp),λa na=>?_⟩;obtain⟨H6,e6,f6,m6,_⟩:=b9 (o:= .tup _) na;rw[e6];have Ls:=m4.trans (m5.trans m6);refine⟨d9 (by rw[Fv];lia),hN' _ _ ⟨s3.trans Ls,cs++[⟨a,p,q,S.kvs,S.W⟩],by rw[FF];rfl,by rw[FE,J'];rfl,λj c s hj hs=>?_⟩⟩;by_cases hji:j<cs.length
   .rw[GS hji] at hj;exact(LD j c s hj hs).same Ls
   .rw[Hd (by lia)] at hj;have Yk:j=i:=by
     by_cases z:j -cs.length=0
     .lia
     .rw[JR (by simp;lia)] at hj;cases hj
    subst Yk;rw[show j -cs.length=0 by lia] at hj;cases hj;rw[Yj] at hs;cases hs;exact⟨hS.copy (NX.trans Ls) (SqT.of f6) (m6 _ _ (m5 _ _ f4)) (m6 _ _ f5) (b7 f4 nq),rfl,rfl,NX.free np,NX.free (m4.free nq)⟩
  .rintro out H3 ⟨s3,cs,rfl,J',LD⟩;rw[Fv] at J';refine⟨⟨_,SqL.of (s3 _ _ f2),Fz _⟩,λlp nlp=>⟨d9 (by rw[Fv];lia),?_⟩⟩;obtain⟨C1,C2,cb,rfl⟩:∃C1 C2 cb,cs=C1::C2::cb:=by
    match cs,J' with
    |C1::C2::cb,_=>exact⟨C1,C2,cb,rfl⟩
   have c1:=LD 0 C1 L rfl rfl;have c2:=LD 1 C2 R rfl rfl;have Yl:cb.length=bs.length:=by simpa using J'
   have VM:Paired (Cpy K H H3) bs cb:=fH Yl.symm λj s c hs hc=>LD (j+2) c s hc hs;obtain⟨H4,e4,f4,m4,_⟩:=b9 (H:=H3) (o:= .lst ((C1::C2::cb).map λs=>V.ref s.a)) nlp;change O5 _ _ _ (upd H3 lp (.lst ((C1::C2::cb).map λs=>V.ref s.a))) _;rw[e4];have PF:=Ng.trans (s3.trans m4);have T4:=hT.same PF;walk_at "e";refine i8 (SqL.of f4) (b6 (j:=0) rfl) ?_;walk_at "e";refine i8 (SqL.of f4) (b6 (j:=1) rfl) ?_;walk_at "e";refine oq (SqL.of f4) (λRf Ni=>?_);rw[show dO ((C1::C2::cb).map λs=>V.ref s.a) (some 2) none=cb.map λs=>V.ref s.a from Ck _ _ _];obtain⟨H5,e5,f5,m5,_⟩:=b9 (o:= .lst (cb.map λs=>V.ref s.a)) Ni;rw[e5];walk_at "e";refine⟨d9 (by simp),λr' nr=>?_⟩;obtain⟨H6,e6,f6,m6,_⟩:=b9 (o:= .tup _) nr;rw[e6];have Ow:=m5.trans m6;walk_at "e";refine E7 (.inl (Ow _ _ T4.m)) (λm' nm=>?_);obtain⟨H7,e7,f7,m7,_⟩:=b9 (o:= .dK _) nm;rw[e7];walk_at "e";refine E7 (.inl (m7 _ _ (Ow _ _ T4.f))) (λf' nf=>?_);obtain⟨H8,e8,f8,m8,_⟩:=b9 (o:= .dK _) nf;rw[e8];walk_at "e";refine⟨d9 (by simp),λA_ nst=>?_⟩;obtain⟨H9,e9,f9,m9,_⟩:=b9 (o:= .tup _) nst;rw[e9];have Rg:=m7.trans (m8.trans m9);have Rh:=Ow.trans Rg;have d1:=c1.same (m4.trans Rh);have d2:=c2.same (m4.trans Rh);have d3:Paired (Cpy K H H9) bs cb:=Paired.imp' (λ_ _ z=>z.same (m4.trans Rh)) VM;have d4:∀c∈cb,m'≠c.p/\m'≠c.q:=λc hc=>by
    obtain⟨j,hj⟩:=GW hc;obtain⟨s,_,z⟩:=R7 VM hj;have z':=z.i.same (m4.trans Ow);exact⟨(b7 z'.hp nm).symm,(b7 z'.hq nm).symm⟩
   exact k A_ r' m' f' Rf C1 C2 cb H9 (PF.trans Rh) ⟨SqT.of f9,⟨SqT.of (Rg _ _ f6),d1.i,d2.i,SqL.of (Rg _ _ (m6 _ _ f5)),λc hc=>by
    obtain⟨j,hj⟩:=GW hc;obtain⟨s,_,z⟩:=R7 d3 hj;exact z.i⟩,m9 _ _ (m8 _ _ f7),m9 _ _ f8,Rg _ _ (m6 _ _ f5)⟩ d1 d2 d3 (PF.free (Ow.free nm)) (PF.free (Ow.free (m7.free nf))) (PF.free Ni) d4
def dX (K:Kd):Sp:=λvs H Q _=>∃(A B:Sd),vs=[.ref A.a,.ref B.a]/\WebAt K H A.a A.p A.q A.kvs A.W/\WebAt K H B.a B.p B.q B.kvs B.W/\A.W.pts.Perm B.W.pts/\A.W.ts.Perm B.W.ts/\(B.W.pts.map (·.1)).Nodup/\(B.W.ts.map (·.1)).Nodup/\A.p≠B.p/\A.q≠B.q/\Q (.bl true) H
abbrev gj (P:Program)(w:World)(K:Kd)(mg:Str->Option Value)(base:Heap):Prop:=N8 P w K mg base C0 1 "_law_same" ["_law_found","_law_web_here"] [] (dX K)
theorem lJ {f:Addr}{fd:FuncData}(T:Txt K mg)(F:Fun K "_law_same" "_law_same" bF f fd):u9 P w K mg base C0 1 f fd ["_law_found","_law_web_here"] (dX K):=by
 refine F.ok sc__law_same (λvs H Q E h=>?_) (λc_ A outer s H vs Q E hr h=>?_)
 .obtain⟨A,B,rfl,_⟩:=h;rfl
 .obtain⟨A,B,rfl,hA,hB,p1,p2,nd1,Nf,n1,n2,k⟩:=h;have hN:=sc__law_same.nd;have hu:=u6 hr;refine⟨_,QSs.r (z6 (cm (kG (fI (Z5 (Z7 K (qB (dC K P w) T.b_isinstance Boot.«isinstance» (i7 (qV 0) (i7 (yl "tuple" T.b_tuple Boot.«tuple») j5))))) (bB (p0 (aX K hr) (qB (B8 K P w) T.b_len Boot.«len» (i7 (qV 0) j5)) d6 (r9 _))))) (C4 (A3 rh)) cU)
   (C4 (A3 (uO (qB (dC K P w) T.b_isinstance Boot.«isinstance» (i7 (j6 (j7 K hu) (qV 0) d6 (λ_ _=>rfl)) (i7 (yl "dict" T.b_dict Boot.«dict») j5))) (uO (qB (dC K P w) T.b_isinstance Boot.«isinstance» (i7 (j6 (j7 K hu) (qV 0) d6 (λ_ _=>rfl)) (i7 (yl "dict" T.b_dict Boot.«dict») j5))) (yp (eG (ah K hr) (qV 0) (qV 1) (r9 _)))))))),?_⟩
  walk_at "r";refine bO (bN (t:="tuple") (.inr (.inl ⟨rfl,_,hA.tup⟩)) (by simp) ?_);walk_at "r";rw[if_neg (by decide)];walk_at "r";refine B7 (rR hA.tup ?_);walk_at "r";rw[if_neg (by simp)];walk_at "r";refine b5 hA.tup (b6 (j:=0) rfl) ?_;walk_at "r";refine bO (bN (t:="dict") (.inr (.inr ⟨rfl,_,hA.pts⟩)) (by simp) ?_);walk_at "r";rw[if_pos (by decide)];walk_at "r";refine b5 hA.tup (b6 (j:=1) rfl) ?_;walk_at "r";refine bO (bN (t:="dict") (.inr (.inr ⟨rfl,_,hA.ties⟩)) (by simp) ?_);walk_at "r";rw[if_pos (by decide)];walk_at "r";exact jP (ph hA.tup hB.tup (gU n1 hA.pts hB.pts p1 nd1) (iM n2 hA.ties hB.ties hA.ts hB.ts p2 Nf) k)
theorem dQ {H:Hp}{d a:Addr}{ys xs:List V}{u:HO}(h:H d=some (.lst ys))(s:SqT K H a xs):SqT K (upd H d u) a xs:=by
 rcases s with s|s
 .refine .inl ?_;by_cases z:a=d
  .subst z;rcases s with s|⟨_,s⟩<;>(rw[h] at s;cases s)
  .unfold Rd;rw[d0 z];exact s
 .exact .inr s
theorem kJ {H:Hp}{d:Addr}{ys:List V}{u:HO}{kvs:List (j4×V)}{ts:List (Str×N3)}(h:H d=some (.lst ys))(t:TiesIs K H kvs ts):TiesIs K (upd H d u) kvs ts:=Paired.imp' (λ_ _ ⟨e,a,e2,z⟩=>⟨e,a,e2,dQ h z⟩) t
def vx (L B:C3):Prop:=B=L\/(∃w kd:Str,w∉b8 L/\B=⟨L.pts++[(w,kd)],L.ts⟩)\/∃(w kd o1 o2:Str),w∉b8 L/\o1∈L.pts.map (·.1)/\o2∈L.pts.map (·.1)/\B=⟨L.pts,L.ts++[(w,(kd,o1,o2))]⟩
def dN (K:Kd):Sp:=λvs H Q _=>∃(L:Sd) (lx lw lk:Addr) (xs:List Int) (ws ks:List Str),vs=[.ref L.a,.ref lx,.ref lw,.ref lk]/\SdIs K H L/\(b8 L.W).length<=8/\(∀n∈b8 L.W,Wd ws 0 8 n)/\SqL K H lx (xs.map V.int)/\xs.length=16/\(∀x∈xs,0<=x)/\SqL K H lw (ws.map V.str)/\yB ws/\H lk=some (.lst (ks.map V.str))/\uG ks/\
 ∀(l:Addr) (bs:List Sd) (H':Hp),H l=none->Same H H'->H' l=some (.lst (bs.map λs=>V.ref s.a))->bs.length<=3->(∀s∈bs,SdIs K H' s/\vx L.W s.W/\H s.p=none/\H s.q=none)->Q (.ref l) H'
theorem xQ {x:Int}(h:0<=x):∃c:Int,jI [V.int 0,.int 1,.int 1,.int 2,.int 3] (x % 5)=some (.int c)/\0<=c/\c<=3:=by
 have h0:0<=x % 5:=GH _ (by decide);have h1:x % 5<5:=Gs _ (by decide);obtain⟨n,hn⟩:∃n:Nat,x % 5=n:=⟨(x % 5).toNat,by lia⟩
 rw[hn];have Ym:n<5:=by lia
 match n,Ym with
 |0,_=>exact⟨0,b6 rfl,by decide,by decide⟩
 |1,_=>exact⟨1,b6 rfl,by decide,by decide⟩
 |2,_=>exact⟨1,b6 rfl,by decide,by decide⟩
 |3,_=>exact⟨2,b6 rfl,by decide,by decide⟩
 |4,_=>exact⟨3,b6 rfl,by decide,by decide⟩
theorem qI {L:C3}{w:Str}(nd:(b8 L).Nodup)(h:w∉b8 L):(∀kd:Str,(b8 ⟨L.pts++[(w,kd)],L.ts⟩).Nodup)/\∀t:N3,(b8 ⟨L.pts,L.ts++[(w,t)]⟩).Nodup:=by
 obtain⟨n1,n2,n3⟩:=FR.mp nd;have h1:w∉L.pts.map (·.1):=λz=>h (Fy _ z);have h2:w∉L.ts.map (·.1):=λz=>h (FA _ z);constructor
 .intro kd;show((L.pts++[(w,kd)]).map (·.1)++L.ts.map (·.1)).Nodup;rw[FF];refine FR.mpr ⟨B9 n1 h1,n2,λa ha b hb e=>?_⟩;subst e;rcases FC.mp ha with z|z
  .exact n3 a z a hb rfl
  .rw[show a=w by simpa using z] at hb;exact h2 hb
 .intro t;show(L.pts.map (·.1)++(L.ts++[(w,t)]).map (·.1)).Nodup;rw[FF];refine FR.mpr ⟨n1,B9 n2 h2,λa ha b hb e=>?_⟩;subst e;rcases FC.mp hb with z|z
  .exact n3 a ha a z rfl
  .rw[show a=w by simpa using z] at ha;exact h1 ha
abbrev gd (P:Program)(w:World)(K:Kd)(mg:Str->Option Value)(base:Heap):Prop:=N8 P w K mg base C0 1 "_law_bars" ["_law_left","_law_xs","_law_words_here","_law_kinds"] [] (dN K)
theorem lX {f:Addr}{fd:FuncData}(T:Txt K mg)(F:Fun K "_law_bars" "_law_bars" bS f fd):u9 P w K mg base C0 1 f fd ["_law_left","_law_xs","_law_words_here","_law_kinds"] (dN K):=by
 refine F.ok sc__law_bars (λvs H Q E h=>?_) (λc_ A outer s H vs Q E hr h=>?_)
 .obtain⟨L,lx,lw,lk,xs,ws,ks,rfl,_⟩:=h;rfl
 .obtain⟨L,lx,lw,lk,xs,ws,ks,rfl,hL,hL8,hLw,hX,j_,hx0,hWs,⟨wl,wnd,wk⟩,hKs,⟨k0,k3,kkd⟩,k⟩:=h;have Yn:=hL8;rw[A5] at Yn;have KI:=hL.at_.ts.length;obtain⟨ZC,TN,PH⟩:=X8 j_ hx0 14 (by lia);obtain⟨VN,TQ,PJ⟩:=X8 j_ hx0 15 (by lia);obtain⟨Ri,Yo,PK⟩:=oF wl 12 (by lia);obtain⟨Ox,PN,PQ⟩:=oF wl 13 (by lia);obtain⟨Mq,NY,Me⟩:=oF wl 14 (by lia);have NG:∀{j:Nat} {w':Str},8<=j->ws[j]?=some w'->w'∉b8 L.W:=fun{j w'} hj hw z=>(hLw w' z).no wnd ⟨j,Fz _,GO _,hw⟩ (.inl hj);have PU:∀{j:Nat} {w':Str},ws[j]?=some w'->w'.length<=100:=λhw=>by
   have:=kn (wk _ (FI hw));lia
  have hN:=sc__law_bars.nd;have hu:=u6 hr;refine⟨_,QSs.r (z6 (z0 (i:=4) hN rfl (by walk_at "l") (U3 j5))
   (z6 (Q9 Gp rfl (iE T.b_range (i7 (j6 (j7 K hu) (U3 (i7 d6 (i7 d6 (i7 d6 (i7 d6 (i7 d6 j5)))))) (A7 p5 (j6 (j7 K hu) (qV 1) d6 (λ_ _=>rfl)) d6) (λ_ _=>rfl)) j5)) (F4 (i:=5) hN rfl (by walk_at "l"))
    (z6 (z0 (i:=6) hN rfl (by walk_at "l") (A7 D0 (j6 (j7 K hu) (qV 1) d6 (λ_ _=>rfl)) (A7 (F2 K) (qV 5) d6)))
   (z6 (z0 (i:=7) hN rfl (by walk_at "l") (J3 (i7 (gJ (R4 K rfl) T.b_dict Boot.«dict» (i7 (j6 (j7 K hu) (qV 0) d6 (λ_ _=>rfl)) j5)) (i7 (gJ (R4 K rfl) T.b_dict Boot.«dict» (i7 (j6 (j7 K hu) (qV 0) d6 (λ_ _=>rfl)) j5)) j5))))
   (z6 (z0 (i:=8) hN rfl (by walk_at "l") (qB (O1 K rfl) T.b_sorted Boot.«sorted» (i7 (j6 (j7 K hu) (qV 0) d6 (λ_ _=>rfl)) j5)))
   (z6 (z0 (i:=9) hN rfl (by walk_at "l") (j6 (j7 K hu) (A7 (F2 K) (qV 3) (U3 (i7 (j6 (j7 K hu) (qV 2) d6 (λ_ _=>rfl)) j5))) (A7 p5 (A7 D0 (qV 6) d6) (A7 (F2 K) (qB (B8 K P w) T.b_len Boot.«len» (i7 (qV 3) j5)) d6)) (λ_ _=>rfl)))
   (z6 (cm (kG (bc (p0 ie (A7 p5 (qV 6) d6) d6 (r9 _)) (aE (p0 (aX K hr) (qV 8) (U3 j5) (r9 _))))) (C4 (P6 (J3 (i7 (qV 9) (i7 (j6 (j7 K hu) (qV 8) (A7 p5 (A7 D0 (qV 6) d6) (qB (B8 K P w) T.b_len Boot.«len» (i7 (qV 8) j5))) (λ_ _=>rfl)) (i7 (j6 (j7 K hu) (qV 8) (A7 p5 (A7 D0 (qV 6) d6) (qB (B8 K P w) T.b_len Boot.«len» (i7 (qV 8) j5))) (λ_ _=>rfl)) j5)))) (mY (j6 (j7 K hu) (qV 7) d6 (λ_ _=>rfl)) (j6 (j7 K hu) (qV 2) d6 (λ_ _=>rfl)) (z9 P w hu)))) (C4 (cm (kG (fI (p0 ie (A7 p5 (qV 6) d6) d6 (r9 _)) (bB (p0 (ah K hr) (qV 5) d6 (r9 _))))) (C4 (P6 (qV 9) (mY (j6 (j7 K hu) (qV 7) d6 (λ_ _=>rfl)) (j6 (j7 K hu) (qV 2) d6 (λ_ _=>rfl)) (z9 P w hu)))) cU)))
   (C4 (mX (qM GN GP GQ A4 K (qV 4) (i7 (qV 7) j5))))))))))
   (C4 (A3 (qV 4))))),?_⟩
  refine r6 λNm hx=>?_;walk_at "e";refine⟨d9 (by simp),λlo no=>?_⟩;obtain⟨H1,e1,f1,m1,_⟩:=b9 (o:= .lst []) no;rw[e1];walk_at "e";refine hx [some (.ref L.a),some (.ref lx),some (.ref lw),some (.ref lk),some (.ref lo),none,none,none,none,none] _ ?_;clear hx;refine r6 λOy hx=>?_;walk_at "e";refine⟨d9 (by simp),λl2 n2=>?_⟩;obtain⟨H2,e2,f2,m2,_⟩:=b9 (o:= .lst [.int 0,.int 1,.int 1,.int 2,.int 3]) n2;rw[e2];have VO:=m1.trans m2;walk_at "e";refine i8 (VO.seq hX) TN ?_;walk_at "e";obtain⟨c,hc,ZD,UM⟩:=xQ PH;refine i8 (SqL.of f2) hc ?_;walk_at "e";refine O0 (by lia) (by lia) ?_;refine Ah (n:=c.toNat) (λi σ H'=>Same H H'/\(∃v5 v6 v7 v8 v9,σ=[some (.ref L.a),some (.ref lx),some (.ref lw),some (.ref lk),some (.ref lo),v5,v6,v7,v8,v9])/\∃bs:List Sd,H' lo=some (.lst (bs.map λs=>V.ref s.a))/\bs.length=i/\∀s∈bs,SdIs K H' s/\vx L.W s.W/\H s.p=none/\H s.q=none) ⟨VO,⟨_,_,_,_,_,rfl⟩,[],m2 _ _ f1,rfl,λ_ h=>nomatch h⟩ (λi σ H' hi _=>by exact hi) ?_ ?_
  .rintro bk i v σ G0' G0 hi ⟨s0,⟨v5,v6,v7,v8,v9,rfl⟩,bs,g0,NC,Lq⟩ ⟨rfl,rfl⟩;have L0:=hL.same s0;walk_at "e";refine r6 λPX hx3=>?_;walk_at "e";refine i8 (s0.seq hX) TQ ?_;walk_at "e";have Yp:0<=VN/(0+(i:Int)+1):=Int.ediv_nonneg PJ (by lia);generalize VN/(0+(i:Int)+1)=x at Yp⊢;refine hx3 [some (.ref L.a),some (.ref lx),some (.ref lw),some (.ref lk),some (.ref lo),some (.int (0+(i:Int))),some (.int x),v7,v8,v9] _ ?_;clear hx3;refine r6 λRj hx3=>?_;walk_at "e";refine b5 L0.at_.tup (b6 (j:=0) rfl) ?_;walk_at "e";refine E7 L0.at_.pts (λbp nbp=>?_);obtain⟨G1,x1,VP,q1,_⟩:=b9 (o:= .dK (i6 L.W.pts)) nbp;rw[x1];have L1:=L0.same q1;walk_at "e";refine b5 L1.at_.tup (b6 (j:=1) rfl) ?_;walk_at "e";refine E7 L1.at_.ties (λbq nbq=>?_);obtain⟨G2,x2,Yq,q2,_⟩:=b9 (o:= .dK L.kvs) nbq;rw[x2];walk_at "e";refine⟨d9 (by simp),λba nba=>?_⟩;obtain⟨G3,x3,f3,q3,_⟩:=b9 (o:= .tup [.ref bp,.ref bq]) nba;rw[x3];have NZ:bp≠bq:=b7 VP nbq;have VQ:=q1.trans (q2.trans q3);have s3:=s0.trans VQ;have p3:=q3 _ _ (q2 _ _ VP);have Yr:=q3 _ _ Yq;have N':H bp=none:=s0.free nbp;have N_:H bq=none:=s0.free (q1.free nbq);have L3:=hL.same s3;walk_at "e";refine hx3 [some (.ref L.a),some (.ref lx),some (.ref lw),some (.ref lk),some (.ref lo),some (.int (0+(i:Int))),some (.int x),some (.ref ba),v8,v9] _ ?_;clear hx3;refine r6 λVR hx3=>?_;walk_at "e";refine b5 L3.at_.tup (b6 (j:=0) rfl) ?_;walk_at "e";refine A9 (ss:=L.W.pts.map (·.1)) L3.at_.pts (by rw[K4,A8]) (by rw[Fv];lia) (λs1 a1 a2 l4 n4=>?_);obtain⟨G4,x4,f4,q4,_⟩:=b9 (o:= .lst _) n4;rw[x4];have s4:=s3.trans q4;walk_at "e";refine hx3 [some (.ref L.a),some (.ref lx),some (.ref lw),some (.ref lk),some (.ref lo),some (.int (0+(i:Int))),some (.int x),some (.ref ba),some (.ref l4),v9] _ ?_;clear hx3;refine r6 λYs hx3=>?_;walk_at "e";refine i8 (s4.seq hWs) (PK _ rfl) ?_;walk_at "e";refine⟨d9 (by simp),λl5 n5=>?_⟩;obtain⟨G5,x5,f5,q5,_⟩:=b9 (o:= .lst [.str Ri]) n5;rw[x5];have s5:=s4.trans q5;refine qJ (s5 _ _ hKs) f5 (d9 (by rw[Fv];simp;lia)) (λl6 n6=>?_);rw[show ks.map V.str++[V.str Ri]=(ks++[Ri]).map V.str by rw[FF];rfl];obtain⟨G6,x6,f6,q6,_⟩:=b9 (o:= .lst _) n6;rw[x6];have s6:=s5.trans q6;have PY:=q5.trans q6;walk_at "e";refine B7 (k8 (SqL.of (s6 _ _ hKs)) ?_);rw[Fv];walk_at "e";obtain⟨kd,Ke,_⟩:=J6 (ss:=ks++[Ri]) (i:=x/6 % ((ks.length:Int)+1)) (GH _ (by lia)) (by rw[FE];simpa using Gs (x/6) (show(0:Int)<(ks.length:Int)+1 by lia));refine i8 (SqL.of f6) Ke ?_;walk_at "e";refine hx3 [some (.ref L.a),some (.ref lx),some (.ref lw),some (.ref lk),some (.ref lo),some (.int (0+(i:Int))),some (.int x),some (.ref ba),some (.ref l4),some (.str kd)] _ ?_;clear hx3;have VS:=PY _ _ f4;have t6:SqT K G6 ba [.ref bp,.ref bq]:=SqT.of ((q4.trans PY) _ _ f3);have p6:=(q4.trans PY) _ _ p3;have Rk:=(q4.trans PY) _ _ Yr;have PZ:=VQ.trans (q4.trans PY);have g6:=PZ _ _ g0;have Yt:∀s∈bs,SdIs K G6 s/\vx L.W s.W/\H s.p=none/\H s.q=none:=λs hs=>⟨(Lq s hs).1.same PZ,(Lq s hs).2⟩
   have TU:=(hL.same s6).at_.ts;have Yu:=a1.length_eq;rw[Fv] at Yu;refine Dd (λσ H'=>σ=[some (.ref L.a),some (.ref lx),some (.ref lw),some (.ref lk),some (.ref lo),some (.int (0+(i:Int))),some (.int x),some (.ref ba),some (.ref l4),some (.str kd)]/\Same G0 H'/\H' lo=some (.lst (bs.map λs=>V.ref s.a))/\∃B:Sd,B.a=ba/\SdIs K H' B/\vx L.W B.W/\H B.p=none/\H B.q=none) ?_ ?_
   .rintro σ G7 ⟨rfl,g7,lo7,B,rfl,hB,hb1,La,MT⟩;walk_at "e";refine⟨.inl ⟨rfl,_,SqL.of lo7⟩,?_⟩;walk_at "e";refine⟨lo,_,_,rfl,rfl,lo7,N5 (by rw[Fv];lia),?_⟩;have s_:∀{s:Sd},SdIs K G7 s->SdIs K (upd G7 lo (.lst ((bs.map λs=>V.ref s.a)++[V.ref B.a]))) s:=fun{s} hs=>⟨⟨dQ lo7 hs.at_.tup,.inl (by rw[d0 (λz=>by have z2:=hs.hp;rw[z,lo7] at z2;cases z2)];exact hs.hp),.inl (by rw[d0 (λz=>by have z2:=hs.hq;rw[z,lo7] at z2;cases z2)];exact hs.hq),kJ lo7 hs.at_.ts⟩,by rw[d0 (λz=>by have z2:=hs.hp;rw[z,lo7] at z2;cases z2)];exact hs.hp,by rw[d0 (λz=>by have z2:=hs.hq;rw[z,lo7] at z2;cases z2)];exact hs.hq,hs.ne,hs.nd,hs.len,hs.ends,hs.nl⟩
    refine⟨E4 (s0.trans g7) no,⟨_,_,_,_,_,rfl⟩,bs++[B],by rw[d8,FF];rfl,by rw[FE,NC];rfl,λs hs=>?_⟩;rcases FC.mp hs with z|z
    .exact⟨s_ ((Lq s z).1.same g7),(Lq s z).2⟩
    .rw[FH.mp z];exact⟨s_ hB,hb1,La,MT⟩
   .intro MG hnx;have stay:∀{HZ:Hp},Same G6 HZ->MG [some (.ref L.a),some (.ref lx),some (.ref lw),some (.ref lk),some (.ref lo),some (.int (0+(i:Int))),some (.int x),some (.ref ba),some (.ref l4),some (.str kd)] HZ:=fun{HZ} sz=>hnx _ _ ⟨rfl,PZ.trans sz,sz _ _ g6,⟨ba,bp,bq,L.kvs,L.W⟩,rfl,⟨⟨sz.tup t6,.inl (sz _ _ p6),.inl (sz _ _ Rk),TU.mono sz.le⟩,sz _ _ p6,sz _ _ Rk,NZ,hL.nd,hL.len,hL.ends,hL.nl⟩,.inl rfl,N',N_⟩;have point:∀{HZ:Hp},Same G6 HZ->MG [some (.ref L.a),some (.ref lx),some (.ref lw),some (.ref lk),some (.ref lo),some (.int (0+(i:Int))),some (.int x),some (.ref ba),some (.ref l4),some (.str kd)] (upd HZ bp (.dK (i6 (L.W.pts++[(Mq,kd)])))):=fun{HZ} sz=>by
     have hf:=NG (by lia) NY;have p7:=sz _ _ p6;have g7:=sz _ _ g6;have VT:=sz _ _ Rk;refine hnx _ _ ⟨rfl,E4 (PZ.trans sz) nbp,by rw[d0 (λz=>by rw[z,p7] at g7;cases g7)];exact g7,⟨ba,bp,bq,L.kvs,⟨L.W.pts++[(Mq,kd)],L.W.ts⟩⟩,rfl,⟨⟨F7 p7 (sz.tup t6),.inl d8,.inl (by rw[d0 NZ.symm];exact VT),C9 p7 (TU.mono sz.le)⟩,d8,by rw[d0 NZ.symm];exact VT,NZ,(qI hL.nd hf).1 kd,?_,λy hy=>?_,λn hn=>?_⟩,.inr (.inl ⟨Mq,kd,hf,rfl⟩),N',N_⟩
     .rw[A5];show(L.W.pts++[(Mq,kd)]).length+L.W.ts.length<=60;rw[FE];simp;lia
     .have he:=hL.ends y hy;show y.2.2.1∈(L.W.pts++[(Mq,kd)]).map (·.1)/\y.2.2.2∈(L.W.pts++[(Mq,kd)]).map (·.1);rw[FF];exact⟨Fy _ he.1,Fy _ he.2⟩
     .have Mw:n∈(L.W.pts++[(Mq,kd)]).map (·.1)++L.W.ts.map (·.1):=hn;rw[FF] at Mw;rcases FC.mp Mw with z|z
      .rcases FC.mp z with z|z
       .exact hL.nl n (Fy _ z)
       .rw[show n=Mq by simpa using z];exact PU NY
      .exact hL.nl n (FA _ z)
    have Mf:∀{HZ:Hp},Same G6 HZ->rm P w (.ref bp) (.str Mq) (.str kd) HZ λH'=>MG [some (.ref L.a),some (.ref lx),some (.ref lw),some (.ref lk),some (.ref lo),some (.int (0+(i:Int))),some (.int x),some (.ref ba),some (.ref l4),some (.str kd)] H':=fun{HZ} sz=>by
     refine O4 (z5 (k:=Sum.inr Mq) (sz _ _ p6) (d9 (by rw[j8];lia)) ?_);rw[V3 (λz=>NG (by lia) NY (Fy _ z))];exact point sz
    walk_at "e";refine L5 (λb1=>?_) (λb1=>?_)
    .walk_at "e";refine⟨d9 (by simp),λl7 n7=>?_⟩;obtain⟨G7,x7,f7,q7,_⟩:=b9 (o:= .lst []) n7;rw[x7];refine Al (jn (SqL.of (q7 _ _ VS)) (SqL.of f7) (V0 _) rfl ?_);have OW:Y0 (s1.map V.str) []=decide (s1=[]):=by cases s1<;>rfl
     rw[OW];walk_at "e";refine J5 (λb2=>?_) (λb2=>?_)
     .have LS:0<s1.length:=List.length_pos_iff.mpr b2;obtain⟨o1,Lo,P_⟩:=J6 (ss:=s1) (i:=x/50 % (s1.length:Int)) (GH _ (by lia)) (Gs _ (by lia));obtain⟨o2,KZ,Qc⟩:=J6 (ss:=s1) (i:=x/210 % (s1.length:Int)) (GH _ (by lia)) (Gs _ (by lia));have Rl:=q7 _ _ VS;walk_at "e";refine B7 (k8 (SqL.of Rl) ?_);rw[Fv];walk_at "e";refine i8 (SqL.of Rl) Lo ?_;walk_at "e";refine B7 (k8 (SqL.of Rl) ?_);rw[Fv];walk_at "e";refine i8 (SqL.of Rl) KZ ?_;walk_at "e";refine⟨d9 (by simp),λl8 n8=>?_⟩;obtain⟨G8,x8,f8,q8,_⟩:=b9 (o:= .tup (W0 (kd,o1,o2))) n8;change xg _ _ _ _ (upd G7 l8 (.tup (W0 (kd,o1,o2)))) _;rw[x8];have sz:=q7.trans q8;have hf:=NG (by lia) PN;walk_at "e";refine b5 (sz.tup t6) (b6 (j:=1) rfl) ?_;walk_at "e";refine i8 ((s6.trans sz).seq hWs) (PQ _ rfl) ?_;have Rm:=sz _ _ Rk;have g8:=sz _ _ g6;refine O4 (z5 (k:=Sum.inr Ox) Rm (d9 (by lia)) ?_);refine hnx _ _ ⟨rfl,E4 (PZ.trans sz) (q1.free nbq),by rw[d0 (λz=>by rw[z,Rm] at g8;cases g8)];exact g8,⟨ba,bp,bq,_,⟨L.W.pts,L.W.ts++[(Ox,(kd,o1,o2))]⟩⟩,rfl,⟨⟨F7 Rm (sz.tup t6),.inl (by rw[d0 NZ];exact sz _ _ p6),.inl d8,C9 Rm (iV (TU.mono sz.le) (λz=>hf (FA _ z)) (SqT.of f8))⟩,by rw[d0 NZ];exact sz _ _ p6,d8,NZ,(qI hL.nd hf).2 _,?_,λy hy=>?_,λn hn=>?_⟩,.inr (.inr ⟨Ox,kd,o1,o2,hf,a1.mem_iff.mp P_,a1.mem_iff.mp Qc,rfl⟩),N',N_⟩
      .rw[A5];show L.W.pts.length+(L.W.ts++[(Ox,(kd,o1,o2))]).length<=60;rw[FE];simp;lia
      .rcases FC.mp hy with z|z
       .exact hL.ends y z
       .rw[FH.mp z];exact⟨a1.mem_iff.mp P_,a1.mem_iff.mp Qc⟩
      .have Mw:n∈L.W.pts.map (·.1)++(L.W.ts++[(Ox,(kd,o1,o2))]).map (·.1):=hn;rw[FF] at Mw;rcases FC.mp Mw with z|z
       .exact hL.nl n (Fy _ z)
       .rcases FC.mp z with z|z
        .exact hL.nl n (FA _ z)
        .rw[show n=Ox by simpa using z];exact PU PN
     .walk_at "e";refine L5 (λb3=>?_) (λb3=>absurd (by lia) b3);walk_at "e";refine b5 (q7.tup t6) (b6 (j:=0) rfl) ?_;walk_at "e";refine i8 ((s6.trans q7).seq hWs) (Me _ rfl) ?_;exact Mf q7
    .walk_at "e";refine L5 (λb3=>?_) (λb3=>?_)
     .walk_at "e";refine b5 t6 (b6 (j:=0) rfl) ?_;walk_at "e";refine i8 (s6.seq hWs) (Me _ rfl) ?_;exact Mf (Same.refl _)
     .walk_at "e";refine L5 (λb4=>?_) (λb4=>?_)
      .walk_at "e";refine b5 t6 (b6 (j:=0) rfl) ?_;walk_at "e";refine i8 (s6.seq hWs) (Me _ rfl) ?_;exact Mf (Same.refl _)
      .walk_at "e";exact stay (Same.refl _)
  rintro σ G0 ⟨s0,⟨v5,v6,v7,v8,v9,rfl⟩,bs,g0,NC,Lq⟩;refine⟨Fz _,?_⟩;refine hx [some (.ref L.a),some (.ref lx),some (.ref lw),some (.ref lk),some (.ref lo),v5,v6,v7,v8,v9] G0 ?_;walk_at "e";exact k lo bs G0 no s0 g0 (by lia) Lq
theorem hU {ms:List (Str×Str)}{n m:Str}(nd:(ms.map (·.1)).Nodup)(h:(n,m)∈ms):i9 (i6 ms) n=m:=mx (K3 nd h)
theorem vU {pts:List (Str×Str)}:(i6 pts).map (·.2)=(pts.map (·.2)).map V.str:=by unfold i6;rw[Gg,Gg];rfl
def CT (W B:C3)(fx:List (Str×Str)):Prop:=(∃x∈B.pts,x.1∉fx.map (·.1)/\∀y∈W.pts,y.2=x.2->y.1∈fx.map (·.2))\/∃x∈B.ts,x.1∉fx.map (·.1)/\∀y∈W.ts,y.2=(x.2.1,i9 (i6 fx) x.2.2.1,i9 (i6 fx) x.2.2.2)->y.1∈fx.map (·.2)
def fW (K:Kd):Sp:=λvs H Q _=>∃(W B:Sd) (m:Addr) (fx:List (Str×Str)),vs=[.ref W.a,.ref B.a,.ref m]/\SdIs K H W/\SdIs K H B/\H m=some (.dK (i6 fx))/\(fx.map (·.1)).Nodup/\W.W.pts.length+W.W.ts.length<=60/\W.p≠B.p/\W.q≠B.q/\(∀x∈B.W.ts,x.1∉fx.map (·.1)->x.2.2.1∈fx.map (·.1)/\x.2.2.2∈fx.map (·.1))/\
 ∀(b:Bool) (H':Hp),Same H H'->(b=false->CT W.W B.W fx)->Q (.bl b) H'
theorem rg {H:Hp}{d p:Addr}{o:Obj}{kvs:List (j4×V)}{u:HO}(n:p≠d)(h:H p=some u):z8 d o kvs H p=some u:=by
 unfold z8;rw[d0 n];exact h
theorem qH {m:List (Str×Str)}{n:Str}(nk:(m.map (·.1)).Nodup)(h:n∈m.map (·.1)):(n,i9 (i6 m) n)∈m:=by
 obtain⟨x,hx,rfl⟩:=Fx.mp h;rw[hU nk (show(x.1,x.2)∈m from hx)];exact hx
abbrev ik (P:Program)(w:World)(K:Kd)(mg:Str->Option Value)(base:Heap):Prop:=N8 P w K mg base C0 1 "_law_met" ["_law_web_here","_law_bar","_law_match"] [] (fW K)
theorem oZ {f:Addr}{fd:FuncData}(T:Txt K mg)(F:Fun K "_law_met" "_law_met" cO f fd):u9 P w K mg base C0 1 f fd ["_law_web_here","_law_bar","_law_match"] (fW K):=by
 refine F.ok sc__law_met (λvs H Q E h=>?_) (λc_ A outer s H vs Q E hr h=>?_)
 .obtain⟨W,B,m,fx,rfl,_⟩:=h;rfl
 .obtain⟨W,B,m,fx,rfl,hW,hB,hm,Jr,hsz,np,nq,hends,k⟩:=h;have Yv:=hW.at_.ts.length;have hN:=sc__law_met.nd;have hu:=u6 hr;refine⟨_,QSs.r (z6 (z0 (i:=3) hN rfl (by walk_at "l") (gJ (vc K rfl) T.b_list Boot.«list» (i7 (AV GG Iw Jo aM K (qV 2)) j5)))
   (z6 (Q9 Gp rfl (P8 K (j6 (j7 K hu) (qV 1) d6 (λ_ _=>rfl))) (F4 (i:=4) hN rfl (by walk_at "l"))
    (C4 (cm (p0 (K8 K hu) (qV 4) (qV 2) (by rfl)) (C4 (A3 (eG (Co K hr) (N0 (own:=["_law_name_here"]) (js:=[3,4,0,1]) (by kernel_rfl) rfl (P8 K (j6 (j7 K hu) (qV 0) d6 (λ_ _=>rfl))) (λ_ _ _ _=>(F4 (i:=0) (show List.Nodup (["_law_name_here","_law_held","_law_word","_law_web_here","_law_bar"]:List Str) by decide+kernel) rfl (by walk_at "l"))) (λ_ _ _ _=>(mU (kG (bc (p0 (ah K hr) (j6 (j7 K hu) (j6 (j7 K hu) (qV 3) d6 (λ_ _=>rfl)) (qV 0) (λ_ _=>rfl)) (j6 (j7 K hu) (j6 (j7 K hu) (qV 4) d6 (λ_ _=>rfl)) (qV 2) (λ_ _=>rfl)) (r9 _)) (aE (p0 (K8 K hu) (qV 0) (qV 1) (by rfl))))))) (λ_ _ _ _=>(qV 0))) (U3 j5) (r9 _)))) cU)))
   (z6 (Q9 Gp rfl (P8 K (j6 (j7 K hu) (qV 1) d6 (λ_ _=>rfl))) (F4 (i:=4) hN rfl (by walk_at "l"))
    (C4 (cm (p0 (K8 K hu) (qV 4) (qV 2) (by rfl)) (z6 (z0 (i:=5) hN rfl (by walk_at "l") (J3 (i7 (j6 (j7 K hu) (j6 (j7 K hu) (j6 (j7 K hu) (qV 1) d6 (λ_ _=>rfl)) (qV 4) (λ_ _=>rfl)) d6 (λ_ _=>rfl)) (i7 (j6 (j7 K hu) (qV 2) (j6 (j7 K hu) (j6 (j7 K hu) (j6 (j7 K hu) (qV 1) d6 (λ_ _=>rfl)) (qV 4) (λ_ _=>rfl)) d6 (λ_ _=>rfl)) (λ_ _=>rfl)) (i7 (j6 (j7 K hu) (qV 2) (j6 (j7 K hu) (j6 (j7 K hu) (j6 (j7 K hu) (qV 1) d6 (λ_ _=>rfl)) (qV 4) (λ_ _=>rfl)) d6 (λ_ _=>rfl)) (λ_ _=>rfl)) j5)))))
   (C4 (A3 (eG (Co K hr) (N0 (own:=["_law_name_here"]) (js:=[5,3,0]) (by kernel_rfl) rfl (P8 K (j6 (j7 K hu) (qV 0) d6 (λ_ _=>rfl))) (λ_ _ _ _=>(F4 (i:=0) (show List.Nodup (["_law_name_here","_law_tie","_law_held","_law_web_here"]:List Str) by decide+kernel) rfl (by walk_at "l"))) (λ_ _ _ _=>(mU (kG (bc (p0 (ah K hr) (j6 (j7 K hu) (j6 (j7 K hu) (qV 3) d6 (λ_ _=>rfl)) (qV 0) (λ_ _=>rfl)) (qV 1) (r9 _)) (aE (p0 (K8 K hu) (qV 0) (qV 2) (by rfl))))))) (λ_ _ _ _=>(qV 0))) (U3 j5) (r9 _))))) cU)))
   (C4 (A3 rh))))),?_⟩
  refine r6 λNm hx=>?_;walk_at "e";refine⟨.inr (.inr (.inl ⟨rfl,.inl ⟨_,hm⟩⟩)),?_⟩;walk_at "e";refine⟨m,_,rfl,rfl,.inl hm,λv1 n1=>?_⟩;obtain⟨H1,e1,f1,m1,_⟩:=b9 (o:= .ext (oS v1 m)) n1;rw[e1];walk_at "e";refine gr f1 (.inl (m1 _ _ hm)) (λlh n2=>?_);obtain⟨H2,e2,f2,m2,_⟩:=b9 (o:= .lst _) n2;rw[e2];rw[vU] at f2;have s2:=m1.trans m2;walk_at "e";refine hx [some (.ref W.a),some (.ref B.a),some (.ref m),some (.ref lh),none,none] _ ?_;clear hx;refine r6 λOy hx=>?_;have W2:=hW.same s2;have B2:=hB.same s2;have M2:=s2 _ _ hm;walk_at "e";refine b5 B2.at_.tup (b6 (j:=0) rfl) ?_;refine O8 B2.hp (λQQ o3=>?_);refine C8 (n:=(i6 B.W.pts).length) (λi σ H'=>(∃v4,σ=[some (.ref W.a),some (.ref B.a),some (.ref m),some (.ref lh),v4,none])/\Same (z8 B.p o3 (i6 B.W.pts) H2) H') ⟨⟨_,rfl⟩,Same.refl _⟩ (λi σ H' hi hp=>⟨hp.2 _ _ d8,hi⟩) ?_ ?_
  .rintro i v σ G3' G3 hi ⟨⟨v4,rfl⟩,s3⟩ ⟨rfl,kv,d_,rfl⟩;obtain⟨x,Pd,rfl⟩:=Q5 d_;have r_:=FI Pd;have MX:=(K9 (o:=o3) B2.hp).trans s3.le;have B3:=B2.at_.mono MX;have W3:=W2.at_.mono MX;have TV:G3 W.p=some (.dK (i6 W.W.pts)):=s3 _ _ (rg np W2.hp);walk_at "e";refine K0 (F5 (k:=Sum.inr x.1) (MX.dic (.inl M2))) ?_;rw[L8];walk_at "e";refine J5 (λhb=>?_) (λhb=>?_)
   .have hu:x.1∉fx.map (·.1):=by simpa using hb
    walk_at "e";refine b5 W3.tup (b6 (j:=0) rfl) ?_;refine O8 TV (λSV o4=>?_);refine z7 (n:=(i6 W.W.pts).length) (λj out H'=>Same (z8 W.p o4 (i6 W.W.pts) G3) H'/\out.length<=j/\∀y∈W.W.pts.take j,y.2=x.2->y.1∉fx.map (·.2)->out≠[]) ⟨Same.refl _,Fz _,λy h=>by simp at h⟩ (λj out H' hj hp=>⟨hp.1 _ _ d8,hj⟩) ?_ ?_
    .rintro N j v out G4' G4 hj ⟨s4,ol,on⟩ ⟨rfl,kv,hkv',rfl⟩ hN';obtain⟨y,hy,rfl⟩:=Q5 hkv';have Kf:=FI hy;have Mc:=MX.trans ((K9 (o:=o4) TV).trans s4.le);have W4:=W2.at_.mono Mc;have B4:=B2.at_.mono Mc;have h4:SqL K G4 lh _:=Mc.lst (SqL.of f2);have tk:W.W.pts.take (j+1)=W.W.pts.take j++[y]:=by rw[Gq,hy];rfl
     have TX:j<=100:=by rw[j8] at hj;lia
     walk_at "e";refine⟨rfl,?_⟩;walk_at "e";refine b5 W4.tup (b6 (j:=0) rfl) ?_;walk_at "e";refine k9 (v:= .str y.2) (by have z:=F5 (k:=Sum.inr y.1) W4.pts;rw[K3 (k:=y.2) (E1 hW.nd) Kf] at z;exact z) ?_;walk_at "e";refine b5 B4.tup (b6 (j:=0) rfl) ?_;walk_at "e";refine k9 (v:= .str x.2) (by have z:=F5 (k:=Sum.inr x.1) B4.pts;rw[K3 (k:=x.2) (E1 hB.nd) r_] at z;exact z) ?_;refine iX ?_;walk_at "e";refine L5 (λb1=>?_) (λb1=>?_)
     .walk_at "e";refine J0 h4 ?_;walk_at "e";refine J5 (λb2=>?_) (λb2=>?_)
      .walk_at "e";refine⟨d9 (by lia),hN' _ _ ⟨s4,by rw[FE,FT];lia,λy' o_ _ _=>by simp⟩⟩
      .refine hN' _ _ ⟨s4,by lia,λy' o_ q1 q2=>?_⟩;rw[tk] at o_;rcases FC.mp o_ with z|z
       .exact on y' z q1 q2
       .rw[FH.mp z] at q2;exact absurd b2 q2
     .refine hN' _ _ ⟨s4,by lia,λy' o_ q1 q2=>?_⟩;rw[tk] at o_;rcases FC.mp o_ with z|z
      .exact on y' z q1 q2
      .rw[FH.mp z] at q1;exact absurd q1 b1
    .rintro out G4 ⟨s4,ol,on⟩;rw[j8] at ol on;rw[FL (Fz _)] at on;refine⟨⟨s4 _ _ d8,Fz _⟩,λD2 hD2=>⟨d9 (by lia),?_⟩⟩;have sM:=M0 TV s4 hD2 (u:= .lst out);have fM:=U9 s4 hD2 (u:= .lst out);generalize thaw W.p (upd G4 D2 (.lst out))=G5 at sM fM⊢;walk_at "e";refine⟨d9 (by simp),λl6 n6=>?_⟩;obtain⟨G6,e6,f6,m6,_⟩:=b9 (o:= .lst []) n6;rw[e6];refine⟨D2,l6,out,rfl,rfl,SqL.of (m6 _ _ fM),SqL.of f6,?_⟩;refine k _ _ (s2.trans ((s3.trans (sM.trans m6)).thaw B2.hp)) (λhf=> .inl ⟨x,r_,hu,λy hy q=>?_⟩);refine GU λq2=>on y hy q q2 ?_;cases out with
     |nil=>rfl
     |cons _ _=>cases hf
   .walk_at "e";exact⟨⟨_,rfl⟩,s3⟩
  .rintro σ G3 ⟨⟨v4,rfl⟩,s3⟩;refine⟨⟨s3 _ _ d8,Fz _⟩,?_⟩;have s4:=s2.trans (s3.thaw B2.hp);have f5:=(s3.thaw B2.hp) _ _ f2;change Oy _ (thaw B.p G3);generalize thaw B.p G3=G4 at s4 f5⊢;refine hx _ _ ?_;clear hx s3 s2 m1 m2 f1 f2 e1 e2 W2 B2 M2 n1 n2;have W2:=hW.same s4;have B2:=hB.same s4;have M2:=s4 _ _ hm;refine r6 λPX hx=>?_;walk_at "e";refine b5 B2.at_.tup (b6 (j:=1) rfl) ?_;refine O8 B2.hq (λMO o5=>?_);refine C8 (n:=B.kvs.length) (λi σ H'=>(∃v4 v5,σ=[some (.ref W.a),some (.ref B.a),some (.ref m),some (.ref lh),v4,v5])/\Same (z8 B.q o5 B.kvs G4) H') ⟨⟨_,_,rfl⟩,Same.refl _⟩ (λi σ H' hi hp=>⟨hp.2 _ _ d8,hi⟩) ?_ ?_
   .rintro i v σ G5' G5 hi ⟨⟨v4,v5,rfl⟩,s5⟩ ⟨rfl,kv,d_,rfl⟩;have Mm:=(K9 (o:=o5) B2.hq).trans s5.le;have B5:=B2.at_.mono Mm;have W5:=W2.at_.mono Mm;have M5:Rd G5 m (.dK (i6 fx)):=Mm.dic (.inl M2);have Yw:G5 W.q=some (.dK W.kvs):=s5 _ _ (rg nq W2.hq);obtain⟨x,Pd,ex,bt,Yx,TY⟩:=B5.ts.get d_;have Kx:=FI d_;have r_:=FI Pd;obtain⟨kk,MQ⟩:=kv;have Lx:kk=Sum.inr x.1:=ex;have MR:MQ= .ref bt:=Yx;subst Lx MR;obtain⟨x0,kd,eb,ee⟩:=x;walk_at "e";refine K0 (F5 (k:=Sum.inr x0) M5) ?_;rw[L8];walk_at "e";refine J5 (λhb=>?_) (λhb=>?_)
    .have hu:x0∉fx.map (·.1):=by simpa using hb
     have he:=hends _ r_ hu;have hq:aQ G5 B.q (.str x0) (some (.ref bt)):=by have z:=F5 (k:=Sum.inr x0) B5.ties;rw[U2 (kv:=(Sum.inr x0,.ref bt)) MO Kx] at z;exact z
     refine r6 λRj Nn=>?_;walk_at "e";refine b5 B5.tup (b6 (j:=1) rfl) ?_;walk_at "e";refine k9 (v:= .ref bt) hq ?_;walk_at "e";refine b5 (v:= .str kd) TY (b6 (j:=0) rfl) ?_;walk_at "e";refine b5 B5.tup (b6 (j:=1) rfl) ?_;walk_at "e";refine k9 (v:= .ref bt) hq ?_;walk_at "e";refine b5 (v:= .str eb) TY (b6 (j:=1) rfl) ?_;refine vo M5 ⟨_,K3 Jr (qH Jr he.1)⟩ ?_;walk_at "e";refine b5 B5.tup (b6 (j:=1) rfl) ?_;walk_at "e";refine k9 (v:= .ref bt) hq ?_;walk_at "e";refine b5 (v:= .str ee) TY (b6 (j:=2) rfl) ?_;refine vo M5 ⟨_,K3 Jr (qH Jr he.2)⟩ ?_;walk_at "e";refine⟨d9 (by simp),λl6 n6=>?_⟩;obtain⟨G6,e6,f6,m6,_⟩:=b9 (o:= .tup (W0 (kd,i9 (i6 fx) eb,i9 (i6 fx) ee))) n6;change O5 5 _ _ (upd G5 l6 (.tup (W0 (kd,i9 (i6 fx) eb,i9 (i6 fx) ee)))) _;rw[e6];walk_at "e";refine Nn [some (.ref W.a),some (.ref B.a),some (.ref m),some (.ref lh),some (.str x0),some (.ref l6)] _ ?_;clear Nn;have TZ:=m6 _ _ Yw;have W6:=W5.mono m6.le;walk_at "e";refine b5 W6.tup (b6 (j:=1) rfl) ?_;refine O8 TZ (λSV o7=>?_);refine z7 (n:=W.kvs.length) (λj out H'=>Same (z8 W.q o7 W.kvs G6) H'/\out.length<=j/\∀y∈W.W.ts.take j,y.2=(kd,i9 (i6 fx) eb,i9 (i6 fx) ee)->y.1∉fx.map (·.2)->out≠[]) ⟨Same.refl _,Fz _,λy h=>by simp at h⟩ (λj out H' hj hp=>⟨hp.1 _ _ d8,hj⟩) ?_ ?_
     .rintro N j v out G7' G7 hj ⟨s7,ol,on⟩ ⟨rfl,kv,hkv',rfl⟩ hN';have Oa:=(K9 (o:=o7) TZ).trans s7.le;have Ti:=Mm.trans (m6.le.trans Oa);have W7:=W6.mono Oa;have h7:SqL K G7 lh _:=Ti.lst (SqL.of f5);obtain⟨y,hy,ey,bb,Yy,sb⟩:=W7.ts.get hkv';have T':=FI hkv';obtain⟨Yz,T_⟩:=kv;have Lr:Yz=Sum.inr y.1:=ey;have Ua:T_= .ref bb:=Yy;subst Lr Ua;obtain⟨y0,y1⟩:=y;have tk:W.W.ts.take (j+1)=W.W.ts.take j++[(y0,y1)]:=by rw[Gq,hy];rfl
      have TX:j<=100:=by lia
      have t7:SqT K G7 l6 (W0 (kd,i9 (i6 fx) eb,i9 (i6 fx) ee)):=Oa.tup (SqT.of f6);walk_at "e";refine⟨rfl,?_⟩;walk_at "e";refine b5 W7.tup (b6 (j:=1) rfl) ?_;walk_at "e";refine k9 (v:= .ref bb) (by have z:=F5 (k:=Sum.inr y0) W7.ties;rw[U2 (kv:=(Sum.inr y0,.ref bb)) SV T'] at z;exact z) ?_;walk_at "e";refine jP (oT sb t7 (eJ _) (eJ _) ?_);rw[nv];walk_at "e";refine L5 (λb1=>?_) (λb1=>?_)
      .walk_at "e";refine J0 h7 ?_;walk_at "e";refine J5 (λb2=>?_) (λb2=>?_)
       .walk_at "e";refine⟨d9 (by lia),hN' _ _ ⟨s7,by rw[FE,FT];lia,λy' o_ _ _=>by simp⟩⟩
       .refine hN' _ _ ⟨s7,by lia,λy' o_ q1 q2=>?_⟩;rw[tk] at o_;rcases FC.mp o_ with z|z
        .exact on y' z q1 q2
        .rw[FH.mp z] at q2;exact absurd b2 q2
      .refine hN' _ _ ⟨s7,by lia,λy' o_ q1 q2=>?_⟩;rw[tk] at o_;rcases FC.mp o_ with z|z
       .exact on y' z q1 q2
       .rw[FH.mp z] at q1;exact absurd q1 b1
     .rintro out G7 ⟨s7,ol,on⟩;rw[Yv,FL (Fz _)] at on;refine⟨⟨s7 _ _ d8,Fz _⟩,λD2 hD2=>⟨d9 (by lia),?_⟩⟩;have sM:=M0 TZ s7 hD2 (u:= .lst out);have fM:=U9 s7 hD2 (u:= .lst out);generalize thaw W.q (upd G7 D2 (.lst out))=G8 at sM fM⊢;walk_at "e";refine⟨d9 (by simp),λl9 n9=>?_⟩;obtain⟨G9,e9,f9,m9,_⟩:=b9 (o:= .lst []) n9;rw[e9];refine⟨D2,l9,out,rfl,rfl,SqL.of (m9 _ _ fM),SqL.of f9,?_⟩;refine k _ _ (s4.trans ((s5.trans (m6.trans (sM.trans m9))).thaw B2.hq)) (λhf=> .inr ⟨_,r_,hu,λy hy q=>?_⟩);refine GU λq2=>on y hy q q2 ?_;cases out with
      |nil=>rfl
      |cons _ _=>cases hf
    .walk_at "e";exact⟨⟨_,_,rfl⟩,s5⟩
   .rintro σ G5 ⟨⟨v4,v5,rfl⟩,s5⟩;refine⟨⟨s5 _ _ d8,Fz _⟩,?_⟩;have s6:=s4.trans (s5.thaw B2.hq);change PX _ (thaw B.q G5);generalize thaw B.q G5=G6 at s6⊢;refine hx _ _ ?_;walk_at "e";exact k true _ s6 (λh=>nomatch h)
theorem sW {L B:C3}{fx:List (Str×Str)}(h:vx L B)(hk:∀n,n∈fx.map (·.1)↔n∈b8 L):(∀x∈fx,x.1∈b8 B)/\∀x∈B.ts,x.1∉fx.map (·.1)->x.2.2.1∈fx.map (·.1)/\x.2.2.2∈fx.map (·.1):=by
 have n_:∀x∈fx,x.1∈b8 L:=λx hx=>(hk _).mp (Fx.mpr ⟨x,hx,rfl⟩);have old:∀x∈L.ts,x.1∈fx.map (·.1):=λx hx=>(hk _).mpr (FA _ (Fx.mpr ⟨x,hx,rfl⟩));rcases h with rfl|⟨w,kd,nw,rfl⟩|⟨w,kd,o1,o2,nw,h1,h2,rfl⟩
 .exact⟨n_,λx hx n=>absurd (old x hx) n⟩
 .refine⟨λx hx=>?_,λx hx n=>absurd (old x hx) n⟩;have z:=n_ x hx;unfold b8 at z⊢;rcases FC.mp z with z|z
  .exact Fy _ (by rw[FF];exact Fy _ z)
  .exact FA _ z
 .refine⟨λx hx=>?_,λx hx n=>?_⟩
  .have z:=n_ x hx;unfold b8 at z⊢;rcases FC.mp z with z|z
   .exact Fy _ z
   .exact FA _ (by rw[FF];exact Fy _ z)
  .rcases FC.mp hx with z|z
   .exact absurd (old x z) n
   .rw[FH.mp z];exact⟨(hk _).mpr (Fy _ h1),(hk _).mpr (Fy _ h2)⟩
theorem bL {l:List Str}{g:Str->Str}{n:Str}(nd:l.Nodup)(h:n∈l):i9 (i6 (l.map λn=>(n,g n))) n=g n:=by
 refine hU ?_ (Fx.mpr ⟨n,h,rfl⟩);rw[Gg,show((λx:Str×Str=>x.1)∘λn=>(n,g n))=id from rfl,Kk];exact nd
theorem mG {L R:C3}{km kf:List (j4×V)}{t u:List Str}{n:Str}(nt:t.Nodup)(ht:∀x,x∈t↔x∈b8 R)(nu:u.Nodup)(hu:∀x,x∈u↔x∈b8 L)(hn:n∈b8 L):bh R (i6 (t.map λn=>(n,bh L km kf n))) (i6 ((u.filter λn=>!decide (n∈b8 R)).map λn=>(n,i9 km n))) n=i9 km n:=by
 unfold bh;by_cases z:n∈b8 R
 .rw[if_pos z];have:=bL (g:=bh L km kf) nt ((ht n).mpr z);unfold bh at this;rw[this,if_pos hn]
 .rw[if_neg z];exact bL (g:=i9 km) (nu.sublist GJ) (FJ.mpr ⟨(hu n).mpr hn,by simp [z]⟩)
theorem qT {L R:C3}{km kf:List (j4×V)}{t:List Str}(nt:t.Nodup)(ht:∀x,x∈t↔x∈b8 R):T9 R L (i6 (t.map λn=>(n,bh L km kf n)))=((b8 R).filter λn=>!decide (n∈b8 L)).map (i9 kf):=by
 unfold T9;refine Gz λn hn=>?_;obtain⟨h1,h2⟩:=FJ.mp hn;have h3:n∉b8 L:=by simpa using h2
 rw[bL (g:=bh L km kf) nt ((ht n).mpr h1)];unfold bh;rw[if_neg h3]
theorem vj {L R W:C3}{km kf:List (j4×V)}{t:List Str}(nt:t.Nodup)(ht:t.Perm (b8 R))(nd:((b8 R).map (bh L km kf)).Nodup)(he:∀x∈R.ts,x.2.2.1∈R.pts.map (·.1)/\x.2.2.2∈R.pts.map (·.1))
  (hp:∀x∈(E9 (bh L km kf) R).pts,x∈W.pts) (hs:∀x∈(E9 (bh L km kf) R).ts,x∈W.ts):pT R W (i6 (t.map λn=>(n,bh L km kf n))):=by
 have g:∀n∈b8 R,i9 (i6 (t.map λn=>(n,bh L km kf n))) n=bh L km kf n:=λn h=>bL nt (ht.mem_iff.mpr h)
 refine⟨by rw[j8,Fv];exact ht.length_eq,λn hn=>?_,?_,λx hx=>?_,λx hx=>?_⟩
 .refine⟨bh L km kf n,K3 ?_ (Fx.mpr ⟨n,ht.mem_iff.mpr hn,rfl⟩)⟩
  rw[Gg,show((λx:Str×Str=>x.1)∘λn=>(n,bh L km kf n))=id from rfl,Kk]
  exact nt
 .rw[Gz g];exact nd
 .rw[g _ (Fy _ (Fx.mpr ⟨x,hx,rfl⟩))]
  exact hp _ (Fx.mpr ⟨x,hx,rfl⟩)
 .rw[g _ (FA _ (Fx.mpr ⟨x,hx,rfl⟩)),g _ (Fy _ (he x hx).1),g _ (Fy _ (he x hx).2)]
  exact hs _ (Fx.mpr ⟨x,hx,rfl⟩)
theorem gO {β:Type}{A B:List (Str×β)}(ha:(A.map (·.1)).Nodup)(hb:(B.map (·.1)).Nodup):(((A.filter λx=>!decide (x.1∈B.map (·.1)))++B).map (·.1)).Nodup:=by
 rw[FF];refine FR.mpr ⟨ha.sublist (GJ.map _),hb,λa h1 b h2 e=>?_⟩;subst e;obtain⟨x,hx,rfl⟩:=Fx.mp h1;have:=(FJ.mp hx).2;simp only[Gr,FY] at this;exact this h2
theorem gX {β:Type}{A:List (Str×β)}(h:(A.map (·.1)).Nodup):A.Nodup:=by
 induction A with
 |nil=>exact GX
 |cons x r ih=>
  rw[GF,GK] at h
  exact GK.mpr ⟨λz=>h.1 (Fx.mpr ⟨x,z,rfl⟩),ih h.2⟩
theorem rl {β:Type}{A:List (Str×β)}(h:(A.map (·.1)).Nodup){x y:Str×β}(hx:x∈A)(hy:y∈A)(e:x.1=y.1):x=y:=by
 induction A with
 |nil=>cases hx
 |cons a r ih=>
  rw[GF,GK] at h
  rcases Gn.mp hx with ex|g_
  .rcases Gn.mp hy with ey|o_
   .rw[ex,ey]
   .rw[ex] at e;exact absurd (Fx.mpr ⟨y,o_,e.symm⟩) h.1
  .rcases Gn.mp hy with ey|o_
   .rw[ey] at e;exact absurd (Fx.mpr ⟨x,g_,e⟩) h.1
   .exact ih h.2 g_ o_
theorem rY {β:Type}{A RL RR:List (Str×β)}{gs NU:List Str}(Qd:(A.map (·.1)).Nodup)(ndL:(RL.map (·.1)).Nodup)(ndR:(RR.map (·.1)).Nodup)(h1:∀x∈RL,x∈A)
  (h2:∀n∈gs,n∈A.map (·.1)->n∈RL.map (·.1)) (h3:∀n∈RR.map (·.1),n∈A.map (·.1)->n∈RL.map (·.1)) (h4:∀n∈NU,n∉A.map (·.1)) (h5:∀n∈RR.map (·.1),n∈NU\/n∈RL.map (·.1)):
  ((((((A.filter λx=>!decide (x.1∈gs)).filter λx=>!decide (x.1∈RR.map (·.1)))++RR).filter λx=>!decide (x.1∈NU)).filter λx=>!decide (x.1∈RL.map (·.1)))++RL).Perm A:=by
 have nA:=gX Qd
 have nU:=gO (Qd.sublist ((GJ (p:=λx:Str×β=>!decide (x.1∈gs))).map _)) ndR
 have nV:=gO (nU.sublist ((GJ (p:=λx:Str×β=>!decide (x.1∈NU))).map _)) ndL
 refine(Ik (gX nV) nA).mpr λx=>?_
 simp only[FC,FJ,Gr,FY]
 constructor
 .rintro(⟨⟨⟨⟨hx,_⟩,_⟩|hx,hg⟩,hl⟩|hx)
  .exact hx
  .rcases h5 x.1 (Fx.mpr ⟨x,hx,rfl⟩) with z|z
   .exact absurd z hg
   .exact absurd z hl
  .exact h1 x hx
 .intro hx
  have hn:x.1∈A.map (·.1):=Fx.mpr ⟨x,hx,rfl⟩
  by_cases hl:x.1∈RL.map (·.1)
  .refine .inr ?_
   obtain⟨y,hy,e⟩:=Fx.mp hl
   rw[←rl Qd (h1 y hy) hx e];exact hy
  .exact .inl ⟨⟨.inl ⟨⟨hx,λz=>hl (h2 _ z hn)⟩,λz=>hl (h3 _ z hn)⟩,λz=>h4 _ z hn⟩,hl⟩
theorem ua {f:Str->Str}{l:List Str}(h:(l.map f).Nodup){a b:Str}(ha:a∈l)(hb:b∈l)(e:f a=f b):a=b:=by
 have z:=rl (A:=l.map λx=>(f x,x)) (x:=(f a,a)) (y:=(f b,b)) (by rw[Gg];exact h) (Fx.mpr ⟨a,ha,rfl⟩) (Fx.mpr ⟨b,hb,rfl⟩) e;exact GY Prod.snd z
abbrev si (L:C3)(km kf:List (j4×V))(t:List Str):List (j4×V):=i6 (t.map λn=>(n,bh L km kf n))
abbrev vO (R:C3)(km:List (j4×V))(u:List Str):List (Str×Str):=(u.filter λn=>!decide (n∈b8 R)).map λn=>(n,i9 km n)
structure StW (W L R:C3) (km:List (j4×V)) (fr:List (Str×Str)):Prop where
 ok:Bb W L R km fr
 ag:∀n∈b8 L,n∈b8 R->Agree n L R
 ndW:(b8 W).Nodup
 ndL:(b8 L).Nodup
 ndR:(b8 R).Nodup
 eW:∀x∈W.ts,x.2.2.1∈W.pts.map (·.1)/\x.2.2.2∈W.pts.map (·.1)
 eL:∀x∈L.ts,x.2.2.1∈L.pts.map (·.1)/\x.2.2.2∈L.pts.map (·.1)
 eR:∀x∈R.ts,x.2.2.1∈R.pts.map (·.1)/\x.2.2.2∈R.pts.map (·.1)
 nm:∀n∈b8 W,N9 n=true
 lL:(b8 L).length<=8
 lR:(b8 R).length<=8
section
variable {W L R:C3} {km:List (j4×V)} {fr:List (Str×Str)}
theorem StW.inP (h:StW W L R km fr){n:Str}(hn:n∈L.pts.map (·.1)):i9 km n∈W.pts.map (·.1):=by
 obtain⟨x,hx,rfl⟩:=Fx.mp hn;exact Fx.mpr ⟨_,h.ok.fit.pts x hx,rfl⟩
theorem StW.inT (h:StW W L R km fr){n:Str}(hn:n∈L.ts.map (·.1)):i9 km n∈W.ts.map (·.1):=by
 obtain⟨x,hx,rfl⟩:=Fx.mp hn;exact Fx.mpr ⟨_,h.ok.fit.ts x hx,rfl⟩
theorem StW.inW (h:StW W L R km fr){n:Str}(hn:n∈b8 L):i9 km n∈b8 W:=(FC.mp hn).elim (λz=>Fy _ (h.inP z)) λz=>FA _ (h.inT z)
theorem StW.frsh (h:StW W L R km fr){n:Str}(h1:n∈b8 R)(h2:n∉b8 L):i9 (i6 fr) n∉b8 W:=h.ok.fo.no _ (h.ok.fo.txt h.ndR (h.ok.fo.mem.mpr ⟨h1,h2⟩)).2
theorem StW.agP (h:StW W L R km fr){n:Str}(hn:n∈R.pts.map (·.1))(hL:n∈b8 L):n∈L.pts.map (·.1):=by
 obtain⟨x,hx,rfl⟩:=Fx.mp hn;exact Fx.mpr ⟨x,((h.ag _ hL (Fy _ hn)).p x.2).mpr hx,rfl⟩
theorem StW.agT (h:StW W L R km fr){n:Str}(hn:n∈R.ts.map (·.1))(hL:n∈b8 L):n∈L.ts.map (·.1):=by
 obtain⟨x,hx,rfl⟩:=Fx.mp hn;exact Fx.mpr ⟨x,((h.ag _ hL (FA _ hn)).t x.2).mpr hx,rfl⟩
theorem fK {W:C3}(nd:(b8 W).Nodup){n:Str}(h1:n∈W.pts.map (·.1))(h2:n∈W.ts.map (·.1)):False:=(FR.mp nd).2.2 n h1 n h2 rfl
theorem StW.bhP (h:StW W L R km fr){n:Str}(hn:n∈R.pts.map (·.1))(hT:bh L km (i6 fr) n∈W.ts.map (·.1)):False:=by
 by_cases z:n∈b8 L
 .rw[V6 _ _ z] at hT;exact fK h.ndW (h.inP (h.agP hn z)) hT
 .rw[V9 _ _ z] at hT;exact h.frsh (Fy _ hn) z (FA _ hT)
theorem StW.bhT (h:StW W L R km fr){n:Str}(hn:n∈R.ts.map (·.1))(hT:bh L km (i6 fr) n∈W.pts.map (·.1)):False:=by
 by_cases z:n∈b8 L
 .rw[V6 _ _ z] at hT;exact fK h.ndW hT (h.inT (h.agT hn z))
 .rw[V9 _ _ z] at hT;exact h.frsh (FA _ hn) z (Fy _ hT)
abbrev DB (L R:C3)(fr:List (Str×Str)):List Str:=((b8 R).filter λn=>!decide (n∈b8 L)).map (i9 (i6 fr))
theorem StW.gsNo (h:StW W L R km fr){n:Str}(hn:n∈DB L R fr):n∉b8 W:=by
 obtain⟨m,hm,rfl⟩:=Fx.mp hn;obtain⟨h1,h2⟩:=FJ.mp hm;exact h.frsh h1 (by simpa using h2)
theorem StW.part (h:StW W L R km fr){β:Type}{A RL RR:List (Str×β)}{LP RP:List Str}(hA:∀n∈A.map (·.1),n∈b8 W)(Qd:(A.map (·.1)).Nodup)(eL:RL.map (·.1)=LP.map (i9 km))(eR:RR.map (·.1)=RP.map (bh L km (i6 fr)))(sR:∀n∈RP,n∈b8 R)(nL:(RL.map (·.1)).Nodup)(nR:(RR.map (·.1)).Nodup)(h1:∀x∈RL,x∈A)
  (n_:∀m∈b8 L,i9 km m∈A.map (·.1)->m∈LP) (VU:∀m∈RP,m∈b8 L->m∈LP):
  ((((((A.filter λx=>!decide (x.1∈T9 L R km)).filter λx=>!decide (x.1∈RR.map (·.1)))++RR).filter λx=>!decide (x.1∈DB L R fr)).filter λx=>!decide (x.1∈RL.map (·.1)))++RL).Perm A:=by
 refine rY Qd nL nR h1 (λn hn ha=>?_) (λn hn ha=>?_) (λn hn z=>h.gsNo hn (hA _ z)) λn hn=>?_
 .obtain⟨m,hm,rfl⟩:=Fx.mp hn
  rw[eL];exact Fx.mpr ⟨m,n_ m (FJ.mp hm).1 ha,rfl⟩
 .rw[eR] at hn
  obtain⟨m,hm,rfl⟩:=Fx.mp hn
  by_cases z:m∈b8 L
  .rw[V6 _ _ z,eL];exact Fx.mpr ⟨m,VU m hm z,rfl⟩
  .rw[V9 _ _ z] at ha;exact absurd (hA _ ha) (h.frsh (sR m hm) z)
 .rw[eR] at hn
  obtain⟨m,hm,rfl⟩:=Fx.mp hn
  by_cases z:m∈b8 L
  .rw[V6 _ _ z,eL];exact .inr (Fx.mpr ⟨m,VU m hm z,rfl⟩)
  .rw[V9 _ _ z];exact .inl (Fx.mpr ⟨m,FJ.mpr ⟨sR m hm,by simp [z]⟩,rfl⟩)
theorem gK (f:Str->Str)(W:C3):(E9 f W).pts.map (·.1)=(W.pts.map (·.1)).map f/\(E9 f W).ts.map (·.1)=(W.ts.map (·.1)).map f:=by
 unfold E9;exact⟨by rw[Gg,Gg];rfl,by rw[Gg,Gg];rfl⟩
theorem StW.again (h:StW W L R km fr){t u:List Str}(ht:t.Perm (b8 R))(hu:u.Perm (b8 L)):(A6 (A6 W L R km (i6 fr)) R L (si L km (i6 fr) t) (i6 (vO R km u))).pts.Perm W.pts/\(A6 (A6 W L R km (i6 fr)) R L (si L km (i6 fr) t) (i6 (vO R km u))).ts.Perm W.ts:=by
 have nt:=ht.nodup_iff.mpr h.ndR;have nu:=hu.nodup_iff.mpr h.ndL;have eg:=qT (L:=L) (km:=km) (kf:=i6 fr) nt λx=>ht.mem_iff;have er:=vQ (f:=bh R (si L km (i6 fr) t) (i6 (vO R km u))) (g:=i9 km) (λn hn=>mG nt (λx=>ht.mem_iff) nu (λx=>hu.mem_iff) hn) h.eL;have e0:A6 (A6 W L R km (i6 fr)) R L (si L km (i6 fr) t) (i6 (vO R km u))=xG (V5 (DB L R fr) (xG (V5 (T9 L R km) W) (E9 (bh L km (i6 fr)) R))) (E9 (i9 km) L):=by
  unfold A6;rw[eg,er]
 rw[e0];have nl:=gH h.ok.fit.nd;have nr:=gH h.ok.nd;constructor
 .refine h.part (λn hn=>Fy _ hn) (E1 h.ndW) (gK _ _).1 (gK _ _).1 (λn hn=>Fy _ hn) nl.1 nr.1 (λx hx=>?_) (λm hm ha=>?_) λm hm hL=>h.agP hm hL
  .obtain⟨y,hy,rfl⟩:=Fx.mp hx;exact h.ok.fit.pts y hy
  .exact(FC.mp hm).elim id λz=>(fK h.ndW ha (h.inT z)).elim
 .refine h.part (λn hn=>FA _ hn) (N1 h.ndW) (gK _ _).2 (gK _ _).2 (λn hn=>FA _ hn) nl.2 nr.2 (λx hx=>?_) (λm hm ha=>?_) λm hm hL=>h.agT hm hL
  .obtain⟨y,hy,rfl⟩:=Fx.mp hx;exact h.ok.fit.ts y hy
  .exact(FC.mp hm).elim (λz=>(fK h.ndW (h.inP z) ha).elim) id
theorem mem_doneP {kf:List (j4×V)}{x:Str×Str}:x∈(A6 W L R km kf).pts↔((x∈W.pts/\x.1∉T9 L R km)/\x.1∉(E9 (bh L km kf) R).pts.map (·.1))\/x∈(E9 (bh L km kf) R).pts:=by
 show x∈((W.pts.filter λx=>!decide (x.1∈T9 L R km)).filter λx=>!decide (x.1∈(E9 (bh L km kf) R).pts.map (·.1)))++(E9 (bh L km kf) R).pts↔_;rw[me,FJ,Gr,FY]
theorem mem_doneT {kf:List (j4×V)}{x:Str×N3}:x∈(A6 W L R km kf).ts↔((x∈W.ts/\x.1∉T9 L R km)/\x.1∉(E9 (bh L km kf) R).ts.map (·.1))\/x∈(E9 (bh L km kf) R).ts:=by
 show x∈((W.ts.filter λx=>!decide (x.1∈T9 L R km)).filter λx=>!decide (x.1∈(E9 (bh L km kf) R).ts.map (·.1)))++(E9 (bh L km kf) R).ts↔_;rw[me,FJ,Gr,FY]
theorem oM {kf:List (j4×V)}{n:Str}(h:n∈(A6 W L R km kf).pts.map (·.1)):(n∈W.pts.map (·.1)/\n∉T9 L R km)\/∃m∈R.pts.map (·.1),n=bh L km kf m:=by
 obtain⟨x,hx,rfl⟩:=Fx.mp h;rcases mem_doneP.mp hx with⟨z,_⟩|z
 .exact .inl ⟨Fx.mpr ⟨x,z.1,rfl⟩,z.2⟩
 .obtain⟨y,hy,rfl⟩:=Fx.mp z;exact .inr ⟨y.1,Fx.mpr ⟨y,hy,rfl⟩,rfl⟩
theorem oQ {kf:List (j4×V)}{n:Str}(h:n∈(A6 W L R km kf).ts.map (·.1)):(n∈W.ts.map (·.1)/\n∉T9 L R km)\/∃m∈R.ts.map (·.1),n=bh L km kf m:=by
 obtain⟨x,hx,rfl⟩:=Fx.mp h;rcases mem_doneT.mp hx with⟨z,_⟩|z
 .exact .inl ⟨Fx.mpr ⟨x,z.1,rfl⟩,z.2⟩
 .obtain⟨y,hy,rfl⟩:=Fx.mp z;exact .inr ⟨y.1,Fx.mpr ⟨y,hy,rfl⟩,rfl⟩
theorem mF {kf:List (j4×V)}{n:Str}(h:n∈b8 (A6 W L R km kf)):(n∈b8 W/\n∉T9 L R km)\/∃m∈b8 R,n=bh L km kf m:=by
 rcases FC.mp h with z|z
 .rcases oM z with⟨a,b⟩|⟨m,a,b⟩
  .exact .inl ⟨Fy _ a,b⟩
  .exact .inr ⟨m,Fy _ a,b⟩
 .rcases oQ z with⟨a,b⟩|⟨m,a,b⟩
  .exact .inl ⟨FA _ a,b⟩
  .exact .inr ⟨m,FA _ a,b⟩
theorem StW.ndD (h:StW W L R km fr):(b8 (A6 W L R km (i6 fr))).Nodup:=by
 have nr:=gH h.ok.nd;refine FR.mpr ⟨gO ((E1 h.ndW).sublist (GJ.map _)) nr.1,gO ((N1 h.ndW).sublist (GJ.map _)) nr.2,λa h1 b h2 e=>?_⟩;subst e;rcases oM h1 with⟨z1,_⟩|⟨m1,z1,e1⟩<;>rcases oQ h2 with⟨z2,_⟩|⟨m2,z2,e2⟩
 .exact fK h.ndW z1 z2
 .rw[e2] at z1;exact h.bhT z2 z1
 .rw[e1] at z2;exact h.bhP z1 z2
 .rw[e1] at e2;have:=ua h.ok.nd (Fy _ z1) (FA _ z2) e2;rw[this] at z1;exact fK h.ndR z1 z2
theorem StW.eD (h:StW W L R km fr):∀x∈(A6 W L R km (i6 fr)).ts,x.2.2.1∈(A6 W L R km (i6 fr)).pts.map (·.1)/\x.2.2.2∈(A6 W L R km (i6 fr)).pts.map (·.1):=by
 have inR:∀n∈R.pts.map (·.1),bh L km (i6 fr) n∈(A6 W L R km (i6 fr)).pts.map (·.1):=λn hn=>by
  obtain⟨y,hy,rfl⟩:=Fx.mp hn;exact Fx.mpr ⟨_,mem_doneP.mpr (.inr (Fx.mpr ⟨y,hy,rfl⟩)),rfl⟩
 have VW:∀n∈W.pts.map (·.1),n∉T9 L R km->n∈(A6 W L R km (i6 fr)).pts.map (·.1):=λn hn hg=>by
  by_cases z:n∈(E9 (bh L km (i6 fr)) R).pts.map (·.1)
  .obtain⟨y,hy,e⟩:=Fx.mp z;exact Fx.mpr ⟨y,mem_doneP.mpr (.inr hy),e⟩
  .obtain⟨y,hy,rfl⟩:=Fx.mp hn;exact Fx.mpr ⟨y,mem_doneP.mpr (.inl ⟨⟨hy,hg⟩,z⟩),rfl⟩
 intro x hx;rcases mem_doneT.mp hx with⟨⟨h1,h2⟩,_⟩|z
 .have e:=h.eW x h1;have g:=h.ok.lo x h1 h2;exact⟨VW _ e.1 g.1,VW _ e.2 g.2⟩
 .obtain⟨y,hy,rfl⟩:=Fx.mp z;exact⟨inR _ (h.eR y hy).1,inR _ (h.eR y hy).2⟩
theorem StW.nmD (h:StW W L R km fr):∀n∈b8 (A6 W L R km (i6 fr)),N9 n=true:=λn hn=>by
 rcases mF hn with⟨z,_⟩|⟨m,z,rfl⟩
 .exact h.nm n z
 .by_cases q:m∈b8 L
  .rw[V6 _ _ q];exact h.nm _ (h.inW q)
  .rw[V9 _ _ q];exact h.ok.fo.nm _ (h.ok.fo.txt h.ndR (h.ok.fo.mem.mpr ⟨z,q⟩)).2
theorem uR {kf:List (j4×V)}:(b8 (A6 W L R km kf)).length<=(b8 W).length+(b8 R).length:=by
 rw[A5,A5,A5];have e1:(A6 W L R km kf).pts.length=((W.pts.filter λx=>!decide (x.1∈T9 L R km)).filter λx=>!decide (x.1∈(E9 (bh L km kf) R).pts.map (·.1))).length+R.pts.length:=by
  show(_++_:List _).length=_;rw[FE];congr 1;exact Fv _
 have e2:(A6 W L R km kf).ts.length=((W.ts.filter λx=>!decide (x.1∈T9 L R km)).filter λx=>!decide (x.1∈(E9 (bh L km kf) R).ts.map (·.1))).length+R.ts.length:=by
  show(_++_:List _).length=_;rw[FE];congr 1;exact Fv _
 have l1:=GB (FK (λx=>!decide (x.1∈(E9 (bh L km kf) R).pts.map (·.1))) _) (FK (λx:Str×Str=>!decide (x.1∈T9 L R km)) W.pts);have l2:=GB (FK (λx=>!decide (x.1∈(E9 (bh L km kf) R).ts.map (·.1))) _) (FK (λx:Str×N3=>!decide (x.1∈T9 L R km)) W.ts);lia
end
theorem Agree.symm {n:Str}{L R:C3}(h:Agree n L R):Agree n R L:=⟨λk=>(h.p k).symm,λt=>(h.t t).symm⟩
structure WPm (A B:C3):Prop where
 p:A.pts.Perm B.pts
 t:A.ts.Perm B.ts
theorem WPm.nm {A B:C3}(h:WPm A B):(b8 A).Perm (b8 B):=(h.p.map _).append (h.t.map _)
theorem WPm.tr {A B C:C3}(h:WPm A B)(k:WPm B C):WPm A C:=⟨h.p.trans k.p,h.t.trans k.t⟩
theorem WPm.rf (A:C3):WPm A A:=⟨HU _,HU _⟩
theorem WPm.sy {A B:C3}(h:WPm A B):WPm B A:=⟨h.p.symm,h.t.symm⟩
theorem WPm.ends {A B:C3}(h:WPm A B)(e:∀x∈B.ts,x.2.2.1∈B.pts.map (·.1)/\x.2.2.2∈B.pts.map (·.1)):∀x∈A.ts,x.2.2.1∈A.pts.map (·.1)/\x.2.2.2∈A.pts.map (·.1):=λx hx=>by
 have z:=e x (h.t.mem_iff.mp hx);exact⟨(h.p.map _).mem_iff.mpr z.1,(h.p.map _).mem_iff.mpr z.2⟩
theorem Ordr.pm {A B:C3}{s1 s2:List Str}(o:Ordr B s1 s2)(h:WPm A B):Ordr A s1 s2:=⟨o.p1.trans (h.p.map _).symm,o.p2.trans (h.t.map _).symm,o.o1,o.o2⟩
section
variable {W L R:C3} {km:List (j4×V)} {fr:List (Str×Str)}
theorem StW.turn (h:StW W L R km fr){t u1 u2:List Str}(ht:t.Perm (b8 R))(ou:Ordr L u1 u2):StW (A6 W L R km (i6 fr)) R L (si L km (i6 fr) t) (vO R km (u1++u2)):=by
 have nt:=ht.nodup_iff.mpr h.ndR;have nu:=ou.perm.nodup_iff.mpr h.ndL;have eg:=qT (L:=L) (km:=km) (kf:=i6 fr) nt λx=>ht.mem_iff;have YA:∀n∈b8 L,bh R (si L km (i6 fr) t) (i6 (vO R km (u1++u2))) n=i9 km n:=λn hn=>mG nt (λx=>ht.mem_iff) nu (λx=>ou.mem) hn;refine⟨⟨vj nt ht h.ok.nd h.eR (λx hx=>mem_doneP.mpr (.inr hx)) λx hx=>mem_doneT.mpr (.inr hx),λx hx hn=>?_,⟨⟨u1,u2,ou,P4 _ _⟩,λx hx=>?_,?_,λx hx z=>?_,?_⟩,?_⟩,λn h1 h2=>(h.ag n h2 h1).symm,h.ndD,h.ndR,h.ndL,h.eD,h.eR,h.eL,h.nmD,h.lR,h.lL⟩
 .rw[eg] at hn⊢;have key:∀n∈W.pts.map (·.1),n∉DB L R fr:=λn hn z=>h.gsNo z (Fy _ hn);rcases mem_doneT.mp hx with⟨⟨h1,_⟩,_⟩|z
  .exact⟨key _ (h.eW x h1).1,key _ (h.eW x h1).2⟩
  .obtain⟨y,hy,rfl⟩:=Fx.mp z;have VX:y.1∈b8 R:=FA _ (Fx.mpr ⟨y,hy,rfl⟩);have YB:y.1∈b8 L:=GU λq=>hn (by
    show bh L km (i6 fr) y.1∈_;rw[V9 _ _ q];exact Fx.mpr ⟨y.1,FJ.mpr ⟨VX,by simp [q]⟩,rfl⟩)
   have e:=h.eL y (((h.ag _ YB VX).t y.2).mpr hy);constructor
   .show bh L km (i6 fr) y.2.2.1∉_;rw[V6 _ _ (Fy _ e.1)];exact key _ (h.inP e.1)
   .show bh L km (i6 fr) y.2.2.2∉_;rw[V6 _ _ (Fy _ e.2)];exact key _ (h.inP e.2)
 .obtain⟨n,hn,rfl⟩:=Fx.mp hx;exact h.nm _ (h.inW (ou.mem.mp (FJ.mp hn).1))
 .rw[Gg];exact((ou.perm.map (i9 km)).nodup_iff.mpr h.ok.fit.nd).sublist (GJ.map _)
 .obtain⟨n,hn,rfl⟩:=Fx.mp hx;obtain⟨h1,h2⟩:=FJ.mp hn;have h1:=ou.mem.mp h1;have h2:n∉b8 R:=by simpa using h2
  rcases mF z with⟨_,q⟩|⟨m,hm,e⟩
  .exact q (Fx.mpr ⟨n,FJ.mpr ⟨h1,by simp [h2]⟩,rfl⟩)
  .by_cases q:m∈b8 L
   .rw[V6 _ _ q] at e;exact h2 (ua h.ok.fit.nd h1 q e▸hm)
   .rw[V9 _ _ q] at e;exact h.frsh hm q (e▸h.inW h1)
 .rw[Fv];have:=ou.perm.length_eq;have:=FK (λn=>!decide (n∈b8 R)) (u1++u2);have:=h.lL;lia
 .rw[Gz YA];exact h.ok.fit.nd
theorem StW.congr (h:StW W L R km fr){W' L' R':C3}{Ob:List (j4×V)}(hw:WPm W' W)(hl:WPm L' L)(hr:WPm R' R)(e:∀n∈b8 L,TxtAt Ob n/\i9 Ob n=i9 km n)(el:Ob.length=km.length):StW W' L' R' Ob fr/\WPm (A6 W' L' R' Ob (i6 fr)) (A6 W L R km (i6 fr)):=by
 have mL:∀{n},n∈b8 L'↔n∈b8 L:=hl.nm.mem_iff;have mR:∀{n},n∈b8 R'↔n∈b8 R:=hr.nm.mem_iff;have eb:bh L' Ob (i6 fr)=bh L km (i6 fr):=funext λn=>by
  by_cases z:n∈b8 L
  .rw[V6 _ _ z,V6 _ _ (mL.mpr z),(e n z).2]
  .rw[V9 _ _ z,V9 _ _ λq=>z (mL.mp q)]
 have dR:∀n,(!decide (n∈b8 R'))=!decide (n∈b8 R):=λn=>GY not (Jy.mpr mR);have dL:∀n,(!decide (n∈b8 L'))=!decide (n∈b8 L):=λn=>GY not (Jy.mpr mL);have eg:∀n,n∈T9 L' R' Ob↔n∈T9 L R km:=λn=>by
  constructor
  .intro z;obtain⟨m,hm,rfl⟩:=Fx.mp z;obtain⟨h1,h2⟩:=FJ.mp hm;exact Fx.mpr ⟨m,FJ.mpr ⟨mL.mp h1,by rw[←dR];exact h2⟩,((e m (mL.mp h1)).2).symm⟩
  .intro z;obtain⟨m,hm,rfl⟩:=Fx.mp z;obtain⟨h1,h2⟩:=FJ.mp hm;exact Fx.mpr ⟨m,FJ.mpr ⟨mL.mpr h1,by rw[dR];exact h2⟩,(e m h1).2⟩
 have fo:=h.ok.fo;refine⟨⟨⟨⟨by rw[el,h.ok.fit.len,hl.nm.length_eq],λn hn=>(e n (mL.mp hn)).1,?_,λx hx=>?_,λx hx=>?_⟩,λx hx hn=>?_,⟨?_,fo.nm,fo.nd,λx hx z=>fo.no x hx (hw.nm.mem_iff.mp z),fo.len⟩,?_⟩,λn h1 h2=>?_,hw.nm.nodup_iff.mpr h.ndW,hl.nm.nodup_iff.mpr h.ndL,hr.nm.nodup_iff.mpr h.ndR,hw.ends h.eW,hl.ends h.eL,hr.ends h.eR,λn hn=>h.nm n (hw.nm.mem_iff.mp hn),by rw[hl.nm.length_eq];exact h.lL,by rw[hr.nm.length_eq];exact h.lR⟩,⟨?_,?_⟩⟩
 .rw[Gz λn hn=>(e n (mL.mp hn)).2];exact(hl.nm.map _).nodup_iff.mpr h.ok.fit.nd
 .have hx:=hl.p.mem_iff.mp hx;rw[(e _ (Fy _ (Fx.mpr ⟨x,hx,rfl⟩))).2];exact hw.p.mem_iff.mpr (h.ok.fit.pts x hx)
 .have hx:=hl.t.mem_iff.mp hx;rw[(e _ (FA _ (Fx.mpr ⟨x,hx,rfl⟩))).2,(e _ (Fy _ (h.eL x hx).1)).2,(e _ (Fy _ (h.eL x hx).2)).2];exact hw.t.mem_iff.mpr (h.ok.fit.ts x hx)
 .have z:=h.ok.lo x (hw.t.mem_iff.mp hx) λz=>hn ((eg _).mpr z);exact⟨λq=>z.1 ((eg _).mp q),λq=>z.2 ((eg _).mp q)⟩
 .obtain⟨u1,u2,o,eu⟩:=fo.ks;exact⟨u1,u2,o.pm hr,by rw[eu];exact HH λn _=>(dL n).symm⟩
 .rw[eb];exact(hr.nm.map _).nodup_iff.mpr h.ok.nd
 .have a:=h.ag n (mL.mp h1) (mR.mp h2);exact⟨λk=>by rw[hl.p.mem_iff,hr.p.mem_iff];exact a.p k,λk=>by rw[hl.t.mem_iff,hr.t.mem_iff];exact a.t k⟩
 .unfold A6;rw[eb,qb W' eg];exact ck (hw.p.filter _) (hr.p.map _)
 .unfold A6;rw[eb,qb W' eg];exact ck (hw.t.filter _) (hr.t.map _)
variable {fx:List (Str×Str)}
theorem nW {fr:List (Str×Str)}(nd:(fr.map (·.1)).Nodup):(fr.map (·.1)).map (λn=>(n,i9 (i6 fr) n))=fr:=by
 rw[Gg];conv=>rhs;rw[←Kk fr]
 exact Gz λx hx=>by show(x.1,i9 (i6 fr) x.1)=x;rw[hU (n:=x.1) (m:=x.2) nd hx]
theorem StW.twiceF (h:StW W L R km fr){L2 R2:C3}(hl:WPm L2 R)(hr:WPm R2 L){t v1 v2:List Str}(ht:t.Perm (b8 R))(ov:Ordr L2 v1 v2):vO R2 (si L km (i6 fr) t) (v1++v2)=fr:=by
 have nt:=ht.nodup_iff.mpr h.ndR;have ek:=h.ok.fo.at_ h.ndR (ov.pm hl.sy);have e1:((v1++v2).filter λn=>!decide (n∈b8 R2))=(v1++v2).filter λn=>!decide (n∈b8 L):=HH λn _=>GY not (Jy.mpr hr.nm.mem_iff);show(((v1++v2).filter λn=>!decide (n∈b8 R2)).map λn=>(n,i9 (si L km (i6 fr) t) n))=fr;rw[e1,←ek];refine Eq.trans (Gz λn hn=>?_) (nW (h.ok.fo.nd1 h.ndR));have hm:=h.ok.fo.mem.mp hn;show(n,i9 (si L km (i6 fr) t) n)=_;rw[bL nt (ht.mem_iff.mpr hm.1),V9 _ _ hm.2]
theorem StW.twiceM (h:StW W L R km fr){L2:C3}(hl:WPm L2 R){t u s:List Str}(ht:t.Perm (b8 R))(hu:u.Perm (b8 L))(hs:s.Perm (b8 L)):(s.map λn=>(n,bh L2 (si L km (i6 fr) t) (i6 (vO R km u)) n))=s.map λn=>(n,i9 km n):=by
 refine Gz λn hn=>?_;have hL:=hs.mem_iff.mp hn;have e:bh L2 (si L km (i6 fr) t) (i6 (vO R km u)) n=bh R (si L km (i6 fr) t) (i6 (vO R km u)) n:=by
  by_cases z:n∈b8 R
  .rw[V6 _ _ z,V6 _ _ (hl.nm.mem_iff.mpr z)]
  .rw[V9 _ _ z,V9 _ _ λq=>z (hl.nm.mem_iff.mp q)]
 show(n,bh L2 (si L km (i6 fr) t) (i6 (vO R km u)) n)=_;rw[e,mG (ht.nodup_iff.mpr h.ndR) (λx=>ht.mem_iff) (hu.nodup_iff.mpr h.ndL) (λx=>hu.mem_iff) hL]
end
theorem oj {H:Hp}{d e:Addr}{a b:List (Str×Str)}(hd:H d=some (.dK (i6 a)))(he:H e=some (.dK (i6 b)))(p:a.Perm b)(nd:(b.map (·.1)).Nodup):EqD K H d e true:=by
 by_cases z:d=e
 .exact .inl ⟨z,rfl⟩
 .exact gU z (.inl hd) (.inl he) p nd
structure Bj (A B:Sd):Prop where
 w:WPm A.W B.W
 p:A.p≠B.p
 q:A.q≠B.q
theorem qO {H:Hp}{W L R:C3}{km:List (j4×V)}{fr:List (Str×Str)}{D:Sd}(h:StW W L R km fr)(hl:(b8 W).length<=52)(w:WebAt K H D.a D.p D.q D.kvs D.W)(hp:H D.p=some (.dK (i6 D.W.pts)))(hq:H D.q=some (.dK D.kvs))(ne:D.p≠D.q)(pm:WPm D.W (A6 W L R km (i6 fr))):SdIs K H D:=
 WebIs.perm w hp hq ne pm.p pm.t h.ndD (by have:=uR (W:=W) (L:=L) (R:=R) (km:=km) (kf:=i6 fr);have:=h.lR;lia) h.eD λn hn=>by
  have:=cg (Bool.and_eq_true_iff.mp (h.nmD n hn)).1;lia
structure Stp where
 st:Addr
 r:Addr
 m:Addr
 f:Addr
 bl:Addr
 L:Sd
 R:Sd
 fx:List (Str×Str)
 fr:List (Str×Str)
 bs:List Sd
def StAt (K:Kd)(H:Hp)(x:Stp):Prop:=StI K H x.st x.r x.m x.f x.bl x.L x.R (i6 x.fx) (i6 x.fr) x.bs
theorem StAt.same {H H':Hp}{x:Stp}(h:StAt K H x)(s:Same H H'):StAt K H' x:=StI.same h s
abbrev Stp.done (x:Stp)(W:C3):C3:=A6 W x.L.W x.R.W (i6 x.fx) (i6 x.fr)
structure Goes (W:C3) (x:Stp) (W':C3):Prop where
 w:StW W x.L.W x.R.W (i6 x.fx) x.fr
 k:(x.fx.map (·.1)).Perm (b8 x.L.W)
 to:WPm W' (x.done W)
abbrev sts (ys:List Stp):List V:=ys.map λy=>V.ref y.st
abbrev su (ds:List Sd):List V:=ds.map λd=>V.ref d.a
theorem SdIs.updL {H:Hp}{d:Addr}{ys:List V}{u:HO}{s:Sd}(h:H d=some (.lst ys))(z:SdIs K H s):SdIs K (upd H d u) s:=by
 have n1:s.p≠d:=λe=>by have y:=z.hp;rw[e,h] at y;cases y
 have n2:s.q≠d:=λe=>by have y:=z.hq;rw[e,h] at y;cases y
 have e1:upd H d u s.p=some (.dK (i6 s.W.pts)):=by rw[d0 n1];exact z.hp
 have e2:upd H d u s.q=some (.dK s.kvs):=by rw[d0 n2];exact z.hq
 exact⟨⟨dQ h z.at_.tup,.inl e1,.inl e2,kJ h z.at_.ts⟩,e1,e2,z.ne,z.nd,z.len,z.ends,z.nl⟩
theorem StAt.updL {H:Hp}{d:Addr}{ys:List V}{u:HO}{x:Stp}(h:H d=some (.lst ys))(n:x.bl≠d)(z:StAt K H x):StAt K (upd H d u) x:=by
 have n1:x.m≠d:=λe=>by have y:=z.m;rw[e,h] at y;cases y
 have n2:x.f≠d:=λe=>by have y:=z.f;rw[e,h] at y;cases y
 have e3:upd H d u x.bl=some (.lst (x.bs.map λs=>V.ref s.a)):=by rw[d0 n];exact z.b
 exact⟨dQ h z.tup,⟨dQ h z.r.tup,z.r.l.updL h,z.r.r.updL h,SqL.of e3,λb hb=>(z.r.bars b hb).updL h⟩,by rw[d0 n1];exact z.m,by rw[d0 n2];exact z.f,e3⟩
theorem Goes.dok {W W1 W':C3}{x:Stp}(g:Goes W x W')(h:WPm W1 W):StW W1 x.L.W x.R.W (i6 x.fx) x.fr/\WPm (x.done W1) W':=by
 have c:=g.w.congr h (WPm.rf _) (WPm.rf _) (λn hn=>⟨g.w.ok.fit.txt n hn,rfl⟩) rfl;exact⟨c.1,c.2.tr g.to.sy⟩
def S8 (K:Kd):Sp:=λvs H Q E=>∃(S:Sd) (lr:Addr) (ys:List Stp) (Vw:Nat->C3),vs=[.ref S.a,.ref lr]/\SdIs K H S/\WPm S.W (Vw 0)/\SqL K H lr (sts ys)/\ys.length<=10/\(∀y∈ys,StAt K H y/\y.bs=[])/\(∀(i:Nat) (y:Stp),ys[i]?=some y->Goes (Vw i) y (Vw (i+1)))/\(∀i,i<=ys.length->(b8 (Vw i)).length<=52)/\
 ∀(l:Addr) (ds:List Sd) (H':Hp),H l=none->Same H H'->H' l=some (.lst (su ds))->ds.length=ys.length+1->(∀(i:Nat) (d:Sd),ds[i]?=some d->SdIs K H' d/\WPm d.W (Vw i)/\H d.p=none/\H d.q=none)->Q (.ref l) H'
theorem X2 {α:Type}{ds:List α}{e:α}{j:Nat}{d:α}(h:(ds++[e])[j]?=some d):(j<ds.length/\ds[j]?=some d)\/(j=ds.length/\d=e):=by
 by_cases hj:j<ds.length
 .rw[GS hj] at h;exact .inl ⟨hj,h⟩
 .rw[Hd (by lia)] at h;have z:j -ds.length=0:=GU λz=>by
   rw[JR (by simp;lia)] at h;cases h
  rw[z] at h;cases h;exact .inr ⟨by lia,rfl⟩
abbrev bQ (P:Program)(w:World)(K:Kd)(mg:Str->Option Value)(base:Heap):Prop:=N8 P w K mg base (pq P w) 7 "gone_through" ["web","row"] [] (S8 K)
theorem gE {f:Addr}{fd:FuncData}(T:Txt K mg)(D5:af P w K mg base)(pU:ve P w K mg base)(F:Fun K "gone_through" "gone_through" U6 f fd):u9 P w K mg base (pq P w) 7 f fd ["web","row"] (S8 K):=by
 refine F.okE sc_gone_through (λvs H Q E h=>?_) (λc_ A outer s H vs Q E hr h=>?_)
 .obtain⟨S,lr,ys,Vw,rfl,_⟩:=h;rfl
 .obtain⟨S,lr,ys,Vw,rfl,hS,w0,hR,hl,Kq,K_,hsz,k⟩:=h;have Lp:=hS.len;rw[A5] at Lp;have hN:=sc_gone_through.nd;have hu:=u6 hr;refine⟨_,QSs.r (z6 (z0 (i:=2) hN rfl (by walk_at "l") (U3 (i7 (qC D5 (hr.mono (by decide)) k7 (i7 (qV 0) j5)) j5)))
   (z6 (Q9 PassesOwn.leaving rfl (P8 K (qV 1)) (F4 (i:=3) hN rfl (by walk_at "l"))
    (C4 (mX (qM GN GP GQ A4 K (qV 2) (i7 (qC pU (hr.mono (by decide)) wj (i7 (j6 (j7 K hu) (qV 2) (yU bC d6) (λ_ _=>rfl)) (i7 (qV 3) j5))) j5)))))
   (C4 (A3 (qV 2))))),?_⟩
  refine r6 λNm hx=>?_;walk_at "e";refine⟨S.a,S.p,S.q,S.kvs,S.W,rfl,hS.at_,E1 hS.nd,N1 hS.nd,by lia,by lia,λa1 p1 q1 k1 W1 H1 m1 h1 KC Nc ne1 np1 nq1 e1 e2=>?_⟩;walk_at "e";refine⟨d9 (by simp),λl nl=>?_⟩;obtain⟨H2,e3,f2,m2,_⟩:=b9 (o:= .lst [.ref a1]) nl;rw[e3];walk_at "e";refine hx [some (.ref S.a),some (.ref lr),some (.ref l),none] _ ?_;clear hx;have C1:SdIs K H1 ⟨a1,p1,q1,k1,W1⟩:=WebIs.perm h1 KC Nc ne1 e1 e2 hS.nd hS.len hS.ends hS.nl;have c0:WPm W1 (Vw 0):=WPm.tr ⟨e1,e2⟩ w0;refine r6 λOy hx=>?_;walk_at "e";have Ky:=m1.trans m2;refine C6 (Ky.seq hR) ?_;refine C8 (n:=ys.length) (λi σ H'=>(∃v3,σ=[some (.ref S.a),some (.ref lr),some (.ref l),v3])/\Same H1 H'/\∃(ds:List Sd) (d:Sd),H' l=some (.lst (su ds++[.ref d.a]))/\ds.length=i/\∀(j:Nat) (c:Sd),(ds++[d])[j]?=some c->SdIs K H' c/\WPm c.W (Vw j)/\H c.p=none/\H c.q=none)
   ⟨⟨_,rfl⟩,m2,[],⟨a1,p1,q1,k1,W1⟩,f2,rfl,λj c hc=>by
    rcases X2 hc with⟨z,_⟩|⟨rfl,rfl⟩
    .exact absurd z (Ie _)
    .exact⟨C1.same m2,c0,np1,nq1⟩⟩ (λi σ H' hi hp=>⟨_,.ref (ys[i]).st,(m1.trans hp.2.1).seq hR,by rw[FD,Fw hi];rfl⟩) ?_ ?_
  .clear hx;rintro i v σ Ml H3 hi ⟨⟨v3,rfl⟩,s3,ds,d,f3,C_,E_⟩ y;obtain⟨rfl,hx⟩:=Itl.get y ((m1.trans s3).seq hR);rw[FD,Fw hi] at hx;cases hx;have Kf:=Gd hi;have hg:=K_ i _ (Fw hi);have UH:=hsz i (by lia);generalize ys[i]=x at Kf hg;obtain⟨YC,B_⟩:=Kq _ Kf;obtain⟨Ub,VY,_,_⟩:=E_ i d (by rw[←C_];simp);obtain⟨sw,YD⟩:=hg.dok VY;have T3:=YC.same (m1.trans s3);walk_at "e";refine⟨.inl ⟨rfl,_,SqL.of f3⟩,?_⟩;walk_at "e";refine i8 (SqL.of f3) (L2.atI_last _ _) ?_;walk_at "e";have KI:x.fx.length<=8:=by
    have z:=hg.k.length_eq;rw[Fv] at z;rw[z];exact sw.lL
   have VZ:(b8 d.W).length<=52:=by rw[VY.nm.length_eq];exact UH
   have YE:StI K H3 x.st x.r x.m x.f x.bl x.L x.R (i6 x.fx) (i6 x.fr) []:=by have z:=T3;unfold StAt at z;rw[B_] at z;exact z
   refine⟨d,x.L,x.R,x.st,x.r,x.m,x.f,x.bl,_,x.fr,rfl,Ub,YE,U4 (hg.k.nodup_iff.mpr sw.ndL),by rw[j8];lia,xO,sw.ok,sw.lR,by rw[←A5];exact VZ,?_⟩;intro a4 p4 q4 k4 W4 H4 m4 w4 hp4 hq4 ne4 np4 nq4 e41 e42;have f4:=m4 _ _ f3;have D4:SdIs K H4 ⟨a4,p4,q4,k4,W4⟩:=qO (D:=⟨a4,p4,q4,k4,W4⟩) sw VZ w4 hp4 hq4 ne4 ⟨e41,e42⟩;refine⟨l,_,_,rfl,rfl,f4,?_,?_⟩
   .rw[FE,Fv];exact IB (show ds.length+1<=11 by lia) (by decide)
   walk_at "e";have Nz:H1 l=none:=nl;refine⟨⟨_,rfl⟩,E4 (s3.trans m4) Nz,ds++[d],⟨a4,p4,q4,k4,W4⟩,by rw[d8,show su (ds++[d])=su ds++[.ref d.a] by show List.map _ _=_;rw[FF];rfl],by rw[FE,C_];rfl,λj c hc=>?_⟩;rcases X2 hc with⟨_,z⟩|⟨rfl,rfl⟩
   .obtain⟨y1,y2,y3,y4⟩:=E_ j c z;exact⟨(y1.same m4).updL f4,y2,y3,y4⟩
   .have ej:(ds++[d]).length=i+1:=by rw[FE,C_];rfl
    rw[ej];have NX:=m1.trans s3;exact⟨D4.updL f4,WPm.tr ⟨e41,e42⟩ YD,NX.free np4,NX.free nq4⟩
  .rintro σ H3 ⟨⟨v3,rfl⟩,s3,ds,d,f3,C_,E_⟩;refine⟨⟨_,(m1.trans s3).seq hR,by rw[Fv];exact Fz _⟩,?_⟩;refine hx [some (.ref S.a),some (.ref lr),some (.ref l),v3] H3 ?_;walk_at "e";exact k l (ds++[d]) H3 (m1.free nl) (m1.trans s3) (by rw[f3,show su (ds++[d])=su ds++[.ref d.a] by show List.map _ _=_;rw[FF];rfl]) (by rw[FE,C_];rfl) E_
structure BkOf (H:Hp) (y z:Stp):Prop where
 fx:∃t1 t2,Ordr y.R.W t1 t2/\z.fx=(t1++t2).map λn=>(n,bh y.L.W (i6 y.fx) (i6 y.fr) n)
 fr:∃u1 u2,Ordr y.L.W u1 u2/\z.fr=((u1++u2).filter λn=>!decide (n∈b8 y.R.W)).map λn=>(n,i9 (i6 y.fx) n)
 bs:z.bs=[]
 l:WPm z.L.W y.R.W
 r:WPm z.R.W y.L.W
 n1:H z.L.p=none
 n2:H z.L.q=none
 n3:H z.R.p=none
 n4:H z.R.q=none
 n5:H z.m=none
 n6:H z.f=none
 n7:H z.bl=none
def bw (K:Kd):Sp:=λvs H Q _=>∃(lr:Addr) (ys:List Stp),vs=[.ref lr]/\SqL K H lr (sts ys)/\ys.length<=10/\(∀y∈ys,StAt K H y/\(∀n∈b8 y.L.W,TxtAt (i6 y.fx) n)/\∀n∈b8 y.R.W,n∉b8 y.L.W->TxtAt (i6 y.fr) n)/\
 ∀(l:Addr) (zs:List Stp) (H':Hp),H l=none->Same H H'->H' l=some (.lst (sts zs))->zs.length=ys.length->(∀(i:Nat) (z:Stp),zs[i]?=some z->StAt K H' z/\∃y,ys[ys.length -1 -i]?=some y/\BkOf H y z)->Q (.ref l) H'
abbrev iU (P:Program)(w:World)(K:Kd)(mg:Str->Option Value)(base:Heap):Prop:=N8 P w K mg base C0 6 "back_row" ["row"] [] (bw K)
theorem ny {f:Addr}{fd:FuncData}(T:Txt K mg)(pS:vH P w K mg base)(F:Fun K "back_row" "back_row" dh f fd):u9 P w K mg base C0 6 f fd ["row"] (bw K):=by
 refine F.ok sc_back_row (λvs H Q E h=>?_) (λc_ A outer s H vs Q E hr h=>?_)
 .obtain⟨lr,ys,rfl,_⟩:=h;rfl
 .obtain⟨lr,ys,rfl,hR,hl,Kq,k⟩:=h;have hN:=sc_back_row.nd;have hu:=u6 hr;refine⟨_,QSs.r (C4 (A3 (N0 (own:=["step"]) (js:=[]) (by kernel_rfl) rfl (nJ K T.b_reversed (i7 (qV 0) j5)) (λ_ _ _ _=>(F4 (i:=0) (show List.Nodup (["step"]:List Str) by decide+kernel) rfl (by walk_at "l"))) (λ_ _ _ _=>aR) (λ_ _ _ _=>(qC pS (hr.mono (by decide)) k7 (i7 (qV 0) j5)))))),?_⟩;walk_at "r";refine⟨lr,sts ys,rfl,hR,?_⟩;refine z7 (n:=(sts ys).length) (λi out H'=>Same H H'/\∃zs:List Stp,out=sts zs/\zs.length=i/\∀(j:Nat) (z:Stp),zs[j]?=some z->StAt K H' z/\∃y,ys[ys.length -1 -j]?=some y/\BkOf H y z) ⟨Same.refl _,[],rfl,rfl,λj z h=>by simp at h⟩ (λi out H' hi hp=>⟨hp.1.seq hR,hi⟩) ?_ ?_
  .rintro N i v out H1' H1 hi ⟨s1,zs,rfl,Mg,Mr⟩ ⟨rfl,hv⟩ hN';rw[Fv] at hi;rw[Fv,FD] at hv;obtain⟨y,hy,rfl⟩:=Gj.mp hv;obtain⟨hT,hM,hF⟩:=Kq y (FI hy);walk_at "e";refine⟨rfl,?_⟩;walk_at "e";refine⟨y.st,y.r,y.m,y.f,y.bl,y.L,y.R,_,_,y.bs,rfl,hT.same s1,hM,hF,?_⟩;intro m_ r2 m2 f2 bl2 L2 R2 t1 t2 u1 u2 H2 s2 ot ou T2 UQ UR pr1 pr2 nl1 nl2 nr1 nr2 nm2 nf2 Ro _ _ _ _ _ _ _ _ _ _ _ _ _;refine⟨d9 (by rw[Fv];lia),hN' _ _ ⟨s1.trans s2,zs++[⟨m_,r2,m2,f2,bl2,L2,R2,(t1++t2).map λn=>(n,bh y.L.W (i6 y.fx) (i6 y.fr) n),((u1++u2).filter λn=>!decide (n∈b8 y.R.W)).map λn=>(n,i9 (i6 y.fx) n),[]⟩],by show _=List.map _ _;rw[FF];rfl,by rw[FE,Mg];rfl,λj z hz=>?_⟩⟩;rcases X2 hz with⟨_,q⟩|⟨rfl,rfl⟩
   .obtain⟨a1,a2⟩:=Mr j z q;exact⟨a1.same s2,a2⟩
   .rw[Mg];exact⟨T2,y,hy,⟨⟨t1,t2,ot,rfl⟩,⟨u1,u2,ou,rfl⟩,rfl,⟨UQ,UR⟩,⟨pr1,pr2⟩,s1.free nl1,s1.free nl2,s1.free nr1,s1.free nr2,s1.free nm2,s1.free nf2,s1.free Ro⟩⟩
  .rintro out H1 ⟨s1,zs,rfl,Mg,Mr⟩;rw[Fv] at Mg;refine⟨by show _=(sts ys).length;rw[Fv],λl nl=>⟨d9 (by rw[Fv];lia),?_⟩⟩;obtain⟨H2,e2,f2,m2,_⟩:=b9 (H:=H1) (o:= .lst (sts zs)) nl;change Q (.ref l) (upd H1 l (.lst (sts zs)));rw[e2];exact k l zs H2 (s1.free nl) (s1.trans m2) f2 Mg λi z hz=>⟨(Mr i z hz).1.same m2,(Mr i z hz).2⟩
theorem BkOf.goes {H:Hp}{y z:Stp}{W W':C3}(b:BkOf H y z)(g:Goes W y W'):Goes W' z W:=by
 obtain⟨t1,t2,ot,ex⟩:=b.fx;obtain⟨u1,u2,ou,er⟩:=b.fr;have ht:=ot.perm;have turn:=g.w.turn ht ou;have c:=turn.congr g.to b.l b.r (λn hn=>⟨turn.ok.fit.txt n hn,rfl⟩) rfl;refine⟨by rw[ex,er];exact c.1,?_,?_⟩
 .rw[ex,P4];exact ht.trans b.l.nm.symm
 .have z2:WPm (z.done W') W:=by
   show WPm (A6 W' z.L.W z.R.W (i6 z.fx) (i6 z.fr)) W;rw[ex,er];exact c.2.tr ⟨(g.w.again ht ou.perm).1,(g.w.again ht ou.perm).2⟩
  exact z2.sy
def zA (c:Int)(j i:Nat):Str:=ar c (j+i)
theorem BF (c:Int)(j:Nat)(h:j<=280):((List.range 4).map (zA c j)).Nodup:=iA λa b ha hb e=>by
 have z:=lV (c:=c) (i:=j+a) (j:=j+b) (by lia) (by lia) e;lia
def cD (K:Kd):Sp:=λvs H Q _=>∃(S:Sd) (lk:Addr) (cell c:Int) (ks:List Str) (n:Nat),vs=[.ref S.a,.int cell,.int c,.ref lk,.int n]/\SdIs K H S/\dE S.W/\(b8 S.W).length<=52/\H lk=some (.lst (ks.map V.str))/\uG ks/\n<=120/\(∀x∈b8 S.W,∃j,j<n/\x=ar c j)/\
 ∀(x:Stp) (pr:List (Str×Str)) (os:List Str) (H':Hp),Same H H'->StAt K H' x->x.bs.length<=3->x.fx=pr.map J2->fk x.L.W x.R.W []->MP S.W os pr x.L.W.pts x.L.W.ts (b8 x.R.W)->FrOk S.W x.L.W x.R.W x.fr->StW S.W x.L.W x.R.W (i6 x.fx) x.fr->(∀y∈x.fr,∃j,j<n+8/\y.2=ar c j)->x.fr.length<=4->H x.bl=none->Q (.ref x.st) H'
abbrev eK (P:Program)(w:World)(K:Kd)(mg:Str->Option Value)(base:Heap):Prop:=N8 P w K mg base C0 4 "_law_drawn" ["_law_web_here","_law_cell","_law_first","_law_kinds","_law_at"] [] (cD K)
theorem jF {f:Addr}{fd:FuncData}(T:Txt K mg)(Y7:cE P w K mg base)(M7:av P w K mg base)(L9:bE P w K mg base)(aT:fP P w K mg base)(cP:ik P w K mg base)(bg:gd P w K mg base)(F:Fun K "_law_drawn" "_law_drawn" aK f fd):u9 P w K mg base C0 4 f fd ["_law_web_here","_law_cell","_law_first","_law_kinds","_law_at"] (cD K):=by
 refine F.ok sc__law_drawn (λvs H Q E h=>?_) (λc_ A outer s H vs Q E hr h=>?_)
 .obtain⟨S,lk,cell,c,ks,n,rfl,_⟩:=h;rfl
 .obtain⟨S,lk,cell,c,ks,n,rfl,hS,hG,Lp,hK,⟨k0,k3,kk⟩,hn,Kv,k⟩:=h;have hN:=sc__law_drawn.nd;have hu:=u6 hr;refine⟨_,QSs.r (z6 (z0 (i:=5) hN rfl (by walk_at "l") (qC Y7 (hr.mono (by decide)) k7 (i7 (qV 1) (i7 d6 j5))))
   (z6 (z0 (i:=6) hN rfl (by walk_at "l") (qC M7 (hr.mono (by decide)) k7 (i7 (A7 D0 (j6 (j7 K hu) (qV 5) d6 (λ_ _=>rfl)) d6) (i7 d6 j5))))
   (z6 (ai (i:=7) hN rfl (by walk_at "l") (own:=["_law_k"]) (js:=[2,4]) (by kernel_rfl) rfl (iE T.b_range (i7 d6 j5)) (λ_ _ _ _=>(F4 (i:=0) (show List.Nodup (["_law_k","_law_first","_law_at"]:List Str) by decide+kernel) rfl (by walk_at "l"))) (λ_ _ _ _=>aR) (λ_ _ _ _=>(qC L9 (hr.mono (by decide)) k7 (i7 (qV 1) (i7 (A7 (F2 K) (qV 2) (qV 0)) j5)))))
   (z6 (P6 (qC aT (hr.mono (by decide)) k7 (i7 (qV 0) (i7 (qV 5) (i7 (qV 6) (i7 (qV 3) (i7 (qV 7) j5)))))) (jz K rfl (U1 (F4 (i:=8) hN rfl (by walk_at "l")) (U1 (F4 (i:=9) hN rfl (by walk_at "l")) (U1 (F4 (i:=10) hN rfl (by walk_at "l")) jA)))))
   (z6 (ai (i:=11) hN rfl (by walk_at "l") (own:=["_law_bar"]) (js:=[0,9]) (by kernel_rfl) rfl (P8 K (qC bg (hr.mono (by decide)) k7 (i7 (j6 (j7 K hu) (qV 8) d6 (λ_ _=>rfl)) (i7 (qV 5) (i7 (qV 6) (i7 (qV 3) j5)))))) (λ_ _ _ _=>(F4 (i:=0) (show List.Nodup (["_law_bar","_law_web_here","_law_match"]:List Str) by decide+kernel) rfl (by walk_at "l"))) (λ_ _ _ _=>(mU (Z5 (Z7 K (qC cP (hr.mono (by decide)) k7 (i7 (qV 1) (i7 (qV 0) (i7 (qV 2) j5)))))))) (λ_ _ _ _=>(qV 0)))
   (C4 (A3 (J3 (i7 (J3 (i7 (j6 (j7 K hu) (qV 8) d6 (λ_ _=>rfl)) (i7 (j6 (j7 K hu) (qV 8) d6 (λ_ _=>rfl)) (i7 (qV 11) j5)))) (i7 (qV 9) (i7 (qV 10) j5))))))))))),?_⟩
  refine r6 λNm hx=>?_;walk_at "e";refine⟨_,rfl,λlx G1 xs n6 m6 f6 j_ hx0=>?_⟩;refine hx [some (.ref S.a),some (.int cell),some (.int c),some (.ref lk),some (.int n),some (.ref lx),none,none,none,none,none,none] _ ?_;clear hx;obtain⟨Vj,NK,Pe⟩:=X8 j_ hx0 11 (by lia);refine r6 λOy hx=>?_;walk_at "e";refine i8 (SqL.of f6) NK ?_;walk_at "e";refine⟨_,16,rfl,by lia,by lia,λlw G2 ws n7 m7 f7 hws=>?_⟩;refine hx [some (.ref S.a),some (.int cell),some (.int c),some (.ref lk),some (.int n),some (.ref lx),some (.ref lw),none,none,none,none,none] _ ?_;clear hx;have Qe:yB ws:=⟨hws.1,hws.2.1,hws.2.2⟩
  have V':=m7 _ _ f6;refine r6 λPX hx=>?_;walk_at "e";refine O0 (by lia) (by lia) ?_;refine z7 (n:=4) (λi out H'=>Same G2 H'/\out=((List.range i).map (zA c n)).map V.str) ⟨Same.refl _,rfl⟩ (λi out H' hi _=>by exact hi) ?_ ?_
  .rintro N i v out G3' G3 hi ⟨s2,rfl⟩ ⟨rfl,rfl⟩ hN';walk_at "e";refine⟨rfl,?_⟩;walk_at "e";refine⟨c,n+i,?_,by lia,λG4 m3'=>?_⟩
   .show [V.int c,V.int ((n:Int)+(0+(i:Int)))]=_;congr 3;lia
   .refine⟨d9 (by rw[Fv,Fv,Hj];lia),hN' _ _ ⟨s2.trans m3',?_⟩⟩;rw[Hx,FF,FF];rfl
  .rintro out G3 ⟨s3,rfl⟩;refine⟨Fz _,λln nln=>⟨d9 (by rw[Fv,Fv,Hj];lia),?_⟩⟩;obtain⟨G4,e4,Pj,QM,_⟩:=b9 (H:=G3) (o:= .lst (((List.range 4).map (zA c n)).map V.str)) nln;change O5 _ _ _ (upd G3 ln _) _;rw[e4];have Mp:=BF c n (by lia);have Px:∀y∈(List.range 4).map (zA c n),N9 y=true/\y∉b8 S.W:=λy hy=>by
    obtain⟨i',Ly,rfl⟩:=Fx.mp hy;have YF:=Hn.mp Ly;refine⟨oI _ _,λz=>?_⟩;obtain⟨j',WY,e'⟩:=Kv _ z;have z2:=lV (c:=c) (i:=n+i') (j:=j') (by lia) (by lia) e';lia
   have nj:∀y∈(List.range 4).map (zA c n),∃j,j<n+8/\y=ar c j:=λy hy=>by
    obtain⟨i',Ly,rfl⟩:=Fx.mp hy;have YF:=Hn.mp Ly;exact⟨n+i',by lia,rfl⟩
   have Tq:((List.range 4).map (zA c n)).length=4:=by rw[Fv,Hj]
   generalize (List.range 4).map (zA c n)=nms at Pj Mp Px Tq nj;have Rp:=s3.trans QM;have Uc:=m6.trans (m7.trans Rp);walk_at "e";refine hx [some (.ref S.a),some (.int cell),some (.int c),some (.ref lk),some (.int n),some (.ref lx),some (.ref lw),some (.ref ln),none,none,none,none] _ ?_;clear hx;refine r6 λRj hx=>?_;walk_at "e";refine⟨S,lx,lw,lk,ln,xs,ws,ks,nms,rfl,hS.same Uc,hG,SqL.of (Rp _ _ V'),j_,hx0,SqL.of (Rp _ _ f7),Qe,SqL.of (Uc _ _ hK),⟨k0,k3,kk⟩,SqL.of Pj,Tq,Mp,Px,λst r m f bl L R pr fr os G5 m8 hT Lg mp lo osub fo hold n_ x_=>?_⟩;refine J1 hT.tup rfl ?_;walk_at "e";refine hx [some (.ref S.a),some (.int cell),some (.int c),some (.ref lk),some (.int n),some (.ref lx),some (.ref lw),some (.ref ln),some (.ref r),some (.ref m),some (.ref f),none] _ ?_;clear hx;have Rq:=Uc.trans m8;have S5:=hS.same Rq;have dok:=BV mp fo hT.r.r.nd lo osub;have V_:(b8 L.W).length<=8:=by
    have z1:=Lg.l.l1;have z2:=Lg.l.l2;rw[A5];lia
   have YG:(b8 R.W).length<=8:=by
    have z1:=Lg.r.l1;have z2:=Lg.r.l2;rw[A5];lia
   have sw:StW S.W L.W R.W (i6 (pr.map J2)) fr:=⟨dok,Lg.ag,hS.nd,hT.r.l.nd,hT.r.r.nd,hS.ends,hT.r.l.ends,hT.r.r.ends,hG.nm,V_,YG⟩
   have hk:(pr.map J2).map (·.1)=b8 L.W:=by rw[cq];exact mp.wd
   have nk:=mp.nds;have Kx:∀n,n∈(pr.map J2).map (·.1)↔n∈b8 L.W:=λn=>by rw[hk]
   have Wa:=Rp.trans m8;refine r6 λVR hx=>?_;walk_at "e";refine b5 hT.r.tup (b6 (j:=0) rfl) ?_;walk_at "e";refine⟨L,lx,lw,lk,xs,ws,ks,rfl,hT.r.l,V_,hold,SqL.of (Wa _ _ V'),j_,hx0,SqL.of (Wa _ _ f7),Qe,Rq _ _ hK,⟨k0,k3,kk⟩,λlb bs G6 n9 m9 f9 MT Lq=>?_⟩;have T6:=hT.same m9;have S6:=S5.same m9;refine C6 (SqL.of f9) ?_;refine z7 (n:=(bs.map λs=>V.ref s.a).length) (λi out H'=>Same G6 H'/\∃cs:List Sd,out=cs.map (λs=>V.ref s.a)/\cs.length<=i/\∀c∈cs,c∈bs) ⟨Same.refl _,[],rfl,Fz _,λc h=>by cases h⟩ (λi out H' hi hp=>⟨_,_,SqL.of (hp.1 _ _ f9),Fw hi⟩) ?_ ?_
   .rintro N i' v' out G7' G7 Ly ⟨s7,cs',rfl,hcl',hcs'⟩ y' hN';obtain⟨rfl,g_⟩:=Itl.get y' (SqL.of (s7 _ _ f9));rw[FD] at g_;obtain⟨bb,RI,rfl⟩:=Gj.mp g_;have Wc:=FI RI;obtain⟨hB,YH,YI,YJ⟩:=Lq bb Wc;rw[Fv] at Ly;walk_at "e";refine⟨rfl,?_⟩;walk_at "e";have YK:S.W.pts.length+S.W.ts.length<=60:=by rw[←A5];lia
    refine⟨S,bb,m,pr.map J2,rfl,S6.same s7,hB.same s7,s7 _ _ T6.m,nk,YK,b7 S5.hp YI,b7 S5.hq YJ,(sW YH Kx).2,λtv G8 NF hmet=>?_⟩;walk_at "e";cases tv
    .rw[if_pos (by decide)];walk_at "e";refine⟨d9 (by rw[Fv];lia),hN' _ _ ⟨s7.trans NF,cs'++[bb],by rw[FF];rfl,by rw[FE];exact Nat.succ_le_succ hcl',λc hc=>?_⟩⟩;rcases FC.mp hc with z|z
     .exact hcs' c z
     .rw[FH.mp z];exact Wc
    .rw[if_neg (by decide)];exact hN' _ _ ⟨s7.trans NF,cs',rfl,Nat.le_succ_of_le hcl',hcs'⟩
   .rintro out G7 ⟨s7,cs',rfl,hcl',hcs'⟩;rw[Fv] at hcl';refine⟨⟨_,SqL.of (s7 _ _ f9),Fz _⟩,λRr nlb=>⟨d9 (by rw[Fv];lia),?_⟩⟩;obtain⟨G8,e8,f8,NF,_⟩:=b9 (H:=G7) (o:= .lst (cs'.map λs=>V.ref s.a)) nlb;change O5 _ _ _ (upd G7 Rr (.lst (cs'.map λs=>V.ref s.a))) _;rw[e8];walk_at "e";refine hx [some (.ref S.a),some (.int cell),some (.int c),some (.ref lk),some (.int n),some (.ref lx),some (.ref lw),some (.ref ln),some (.ref r),some (.ref m),some (.ref f),some (.ref Rr)] _ ?_;clear hx;have T8:=T6.same (s7.trans NF);walk_at "e";refine b5 T8.r.tup (b6 (j:=0) rfl) ?_;walk_at "e";refine b5 T8.r.tup (b6 (j:=1) rfl) ?_;walk_at "e";refine⟨d9 (by simp),λr2 nr2=>?_⟩;obtain⟨G9,e9,YL,Ld,_⟩:=b9 (o:= .tup _) nr2;rw[e9];walk_at "e";refine⟨d9 (by simp),λm_ nst2=>?_⟩;obtain⟨We,OT,OU,Ky,_⟩:=b9 (o:= .tup _) nst2;rw[OT];have Ud:=s7.trans (NF.trans (Ld.trans Ky));have Tz:=T6.same Ud;have fl:We Rr=some (.lst (cs'.map λs=>V.ref s.a)):=Ky _ _ (Ld _ _ f8);have YM:=Rq.trans (m9.trans s7);exact k ⟨m_,r2,m,f,Rr,L,R,pr.map J2,fr,cs'⟩ pr os We (Rq.trans (m9.trans Ud)) ⟨SqT.of OU,⟨SqT.of (Ky _ _ YL),Tz.r.l,Tz.r.r,SqL.of fl,λb hb=>(Lq b (hcs' b hb)).1.same Ud⟩,Tz.m,Tz.f,fl⟩ (by show cs'.length<=3;lia) rfl Lg mp fo sw (λy hy=>nj _ (n_ y hy)) x_ (YM.free nlb)
section
variable {W L R:C3} {km:List (j4×V)} {fr:List (Str×Str)}
theorem StW.nmF (h:StW W L R km fr){n:Str}(hn:n∈b8 (A6 W L R km (i6 fr))):n∈b8 W\/n∈fr.map (·.2):=by
 rcases mF hn with⟨z,_⟩|⟨m,z,rfl⟩
 .exact .inl z
 .by_cases q:m∈b8 L
  .rw[V6 _ _ q];exact .inl (h.inW q)
  .rw[V9 _ _ q];exact .inr (Fx.mpr ⟨_,(h.ok.fo.txt h.ndR (h.ok.fo.mem.mpr ⟨z,q⟩)).2,rfl⟩)
theorem StW.lenF (h:StW W L R km fr):(b8 (A6 W L R km (i6 fr))).length<=(b8 W).length+fr.length:=by
 have z:=dj (m:=b8 W++fr.map (·.2)) h.ndD λx hx=>FC.mpr (h.nmF hx);rw[FE,Fv] at z;exact z
end
def fO (K:Kd):Sp:=λvs H Q _=>∃(S:Sd) (lc lk:Addr) (cs:List Int) (c:Int) (ks:List Str),vs=[.ref S.a,.ref lc,.int c,.ref lk]/\SdIs K H S/\dE S.W/\(b8 S.W).length<=12/\SqL K H lc (cs.map V.int)/\cs.length<=10/\H lk=some (.lst (ks.map V.str))/\uG ks/\(∀x∈b8 S.W,∃j,j<13/\x=ar c j)/\
 ∀(t lr lw:Addr) (ys:List Stp) (ds:List Sd) (H':Hp),Same H H'->H' t=some (.tup [.ref lr,.ref lw])->H' lr=some (.lst (sts ys))->H' lw=some (.lst (su ds))->ys.length<=10->ds.length=ys.length+1->ds[0]?=some S->(∀y∈ys,StAt K H' y/\y.bs.length<=3)->(∀d∈ds,SdIs K H' d/\(b8 d.W).length<=52)->(∀(i:Nat) (y:Stp) (d e:Sd),ys[i]?=some y->ds[i]?=some d->ds[i+1]?=some e->Goes d.W y e.W)->Q (.ref t) H'
abbrev jk (P:Program)(w:World)(K:Kd)(mg:Str->Option Value)(base:Heap):Prop:=N8 P w K mg base C0 5 "_law_row" ["_law_web_here","_law_cells","_law_first","_law_kinds"] [] (fO K)
theorem nB {f:Addr}{fd:FuncData}(T:Txt K mg)(aF:eK P w K mg base)(bI:fV P w K mg base)(F:Fun K "_law_row" "_law_row" dg f fd):u9 P w K mg base C0 5 f fd ["_law_web_here","_law_cells","_law_first","_law_kinds"] (fO K):=by
 refine F.ok sc__law_row (λvs H Q E h=>?_) (λc_ A outer s H vs Q E hr h=>?_)
 .obtain⟨S,lc,lk,cs,c,ks,rfl,_⟩:=h;rfl
 .obtain⟨S,lc,lk,cs,c,ks,rfl,hS,hG,Lp,hC,J',hK,hks,Kv,k⟩:=h;have hN:=sc__law_row.nd;have hu:=u6 hr;refine⟨_,QSs.r (z6 (z0 (i:=4) hN rfl (by walk_at "l") (U3 j5))
   (z6 (z0 (i:=5) hN rfl (by walk_at "l") (U3 (i7 (qV 0) j5)))
   (z6 (Q9 Gp rfl (P8 K (qV 1)) (F4 (i:=6) hN rfl (by walk_at "l"))
    (z6 (mX (qM GN GP GQ A4 K (qV 4) (i7 (qC aF (hr.mono (by decide)) k7 (i7 (j6 (j7 K hu) (qV 5) (yU bC d6) (λ_ _=>rfl)) (i7 (qV 6) (i7 (qV 2) (i7 (qV 3) (i7 (A7 (F2 K) d6 (A7 Q3 d6 (qB (B8 K P w) T.b_len Boot.«len» (i7 (qV 4) j5)))) j5)))))) j5)))
   (C4 (mX (qM GN GP GQ A4 K (qV 5) (i7 (qC bI (hr.mono (by decide)) k7 (i7 (j6 (j7 K hu) (qV 5) (yU bC d6) (λ_ _=>rfl)) (i7 (j6 (j7 K hu) (qV 4) (yU bC d6) (λ_ _=>rfl)) j5))) j5))))))
   (C4 (A3 (J3 (i7 (qV 4) (i7 (qV 5) j5)))))))),?_⟩
  refine r6 λNm hx=>?_;walk_at "e";refine⟨d9 (by simp),λlr nlr=>?_⟩;obtain⟨H1,e1,f1,m1,_⟩:=b9 (o:= .lst []) nlr;rw[e1];walk_at "e";refine hx [some (.ref S.a),some (.ref lc),some (.int c),some (.ref lk),some (.ref lr),none,none] _ ?_;clear hx;refine r6 λOy hx=>?_;walk_at "e";refine⟨d9 (by simp),λlw nlw=>?_⟩;obtain⟨H2,e2,f2,m2,_⟩:=b9 (o:= .lst [.ref S.a]) nlw;rw[e2];walk_at "e";refine hx [some (.ref S.a),some (.ref lc),some (.int c),some (.ref lk),some (.ref lr),some (.ref lw),none] _ ?_;clear hx;have Ue:H lw=none:=m1.free nlw;have Wf:lr≠lw:=b7 f1 nlw;have NN:=m2 _ _ f1;have Ky:=m1.trans m2;refine r6 λPX hx=>?_;walk_at "e";refine C6 (Ky.seq hC) ?_;refine C8 (n:=cs.length) (λi σ H'=>(∃v6,σ=[some (.ref S.a),some (.ref lc),some (.int c),some (.ref lk),some (.ref lr),some (.ref lw),v6])/\Same H H'/\∃(ys:List Stp) (ds:List Sd) (d:Sd),H' lr=some (.lst (sts ys))/\H' lw=some (.lst (su ds++[.ref d.a]))/\ys.length=i/\ds.length=i/\(ds++[d])[0]?=some S/\(∀y∈ys,StAt K H' y/\y.bs.length<=3/\y.bl≠lr/\y.bl≠lw)/\(∀e∈ds++[d],SdIs K H' e/\(b8 e.W).length<=12+4*i)/\dE d.W/\(∀x∈b8 d.W,∃j,j<40+8*i/\x=ar c j)/\
    ∀(j:Nat) (y:Stp) (e g:Sd),ys[j]?=some y->(ds++[d])[j]?=some e->(ds++[d])[j+1]?=some g->Goes e.W y g.W)
   ⟨⟨_,rfl⟩,Ky,[],[],S,NN,f2,rfl,rfl,rfl,(λy hy=>by cases hy),(λe he=>by rw[FH.mp he];exact⟨hS.same Ky,by lia⟩),hG,(λx hx=>by obtain⟨j,hj,e⟩:=Kv x hx;exact⟨j,by lia,e⟩),λj y e g hy=>by simp at hy⟩ (λi σ H' hi hp=>⟨_,.int (cs[i]),hp.2.1.seq hC,by rw[FD,Fw hi];rfl⟩) ?_ ?_
  .clear hx;rintro i v σ Ml H3 hi ⟨⟨v6,rfl⟩,s3,ys,ds,d,r3,w3,Oc,C_,h0,Kq,E_,hg,Jr,K_⟩ y;obtain⟨rfl,hx⟩:=Itl.get y (s3.seq hC);rw[FD,Fw hi] at hx;cases hx;generalize cs[i]=cell;have Wg:d∈ds++[d]:=FA _ (FH.mpr rfl);obtain⟨Ub,YN⟩:=E_ d Wg;walk_at "e";refine r6 λRj hx=>?_;walk_at "e";refine⟨.inl ⟨rfl,_,SqL.of r3⟩,?_⟩;walk_at "e";refine i8 (SqL.of w3) (L2.atI_last _ _) ?_;walk_at "e";refine B7 (k8 (SqL.of r3) ?_);rw[Fv,Oc];walk_at "e";refine⟨d,lk,cell,c,ks,40+8*i,?_,Ub,hg,by lia,s3 _ _ hK,hks,by lia,Jr,?_⟩
   .show [V.ref d.a,V.int cell,V.int c,V.ref lk,V.int (40+8*(i:Int))]=_;congr 5
   rintro⟨st,r,m,f,bl,L,R,fx,fr,bs⟩ pr os H4 s4 T4 MT Ug Lg mp fo sw Wh x_ Ni;have Ug:fx=pr.map J2:=Ug;subst Ug;dsimp only at MT Lg mp fo sw Wh x_ Ni;have r4:=s4 _ _ r3;refine⟨lr,_,_,rfl,rfl,r4,?_,?_⟩
   .rw[Fv,Oc];exact IB (show i<=10 by lia) (by decide)
   walk_at "e";refine hx [some (.ref S.a),some (.ref lc),some (.int c),some (.ref lk),some (.ref lr),some (.ref lw),some (.int cell)] _ ?_;clear hx;have Ov:bl≠lr:=(b7 r3 Ni).symm;have Ro:bl≠lw:=(b7 w3 Ni).symm;have T5:=StAt.updL (u:= .lst (sts ys++[.ref st])) r4 Ov T4;have y5:∀y∈ys,StAt K (upd H4 lr (.lst (sts ys++[.ref st]))) y:=λy hy=>((Kq y hy).1.same s4).updL r4 (Kq y hy).2.2.1;have d5:∀e∈ds++[d],SdIs K (upd H4 lr (.lst (sts ys++[.ref st]))) e:=λe he=>((E_ e he).1.same s4).updL r4;have w5:upd H4 lr (.lst (sts ys++[.ref st])) lw=some (.lst (su ds++[.ref d.a])):=by rw[d0 Wf.symm];exact s4 _ _ w3
   have r5:upd H4 lr (.lst (sts ys++[.ref st])) lr=some (.lst (sts ys++[.ref st])):=d8;have s5:Same H (upd H4 lr (.lst (sts ys++[.ref st]))):=E4 (s3.trans s4) nlr;generalize upd H4 lr (.lst (sts ys++[.ref st]))=H5 at T5 y5 d5 w5 r5 s5;walk_at "e";refine⟨.inl ⟨rfl,_,SqL.of w5⟩,?_⟩;walk_at "e";refine i8 (SqL.of w5) (L2.atI_last _ _) ?_;walk_at "e";refine i8 (SqL.of r5) (L2.atI_last _ _) ?_;walk_at "e";refine⟨d,L,R,st,r,m,f,bl,pr,fr,os,bs,rfl,d5 d Wg,T5,mp,fo,λD H6 s6 hD nD1 nD2 eD1 eD2 hDp Sj hDn nDp nDq=>?_⟩;have Uh:D.W.pts.Perm (A6 d.W L.W R.W (i6 (pr.map J2)) (i6 fr)).pts:=(Ik (cu nD1) (cu (E1 sw.ndD))).mpr λx=>(eD1 x).trans (xy mp Lg fo sw.ndR sw.ndW x).symm;have Ui:D.W.ts.Perm (A6 d.W L.W R.W (i6 (pr.map J2)) (i6 fr)).ts:=(Ik (cu nD2) (cu (N1 sw.ndD))).mpr λx=>(eD2 x).trans (AU mp Lg fo sw.ndR sw.ndW sw.eL x).symm;have wD:WPm D.W (A6 d.W L.W R.W (i6 (pr.map J2)) (i6 fr)):=⟨Uh,Ui⟩
   have D6:SdIs K H6 D:=qO sw (by lia) hD hDp Sj hDn wD;have lD:(b8 D.W).length<=12+4*(i+1):=by
    have z:=sw.lenF;rw[wD.nm.length_eq];have z2:fr.length<=4:=x_;lia
   have gD:dE D.W:=by
    refine⟨λx hx=>sw.nmD x (wD.nm.mem_iff.mp hx),λx hx=>?_,λx hx=>?_⟩
    .rcases(eD1 x).mp hx with⟨z,_⟩|⟨w,_,z⟩
     .exact hg.kd x z
     .exact Lg.r.good.kd (w,x.2) z
    .rcases(eD2 x).mp hx with⟨z,_⟩|⟨w,b,e,_,z,_,_⟩
     .exact hg.tk x z
     .exact Lg.r.good.tk (w,(x.2.1,b,e)) z
   have nD:∀x∈b8 D.W,∃j,j<40+8*(i+1)/\x=ar c j:=λx hx=>by
    rcases sw.nmF (wD.nm.mem_iff.mp hx) with z|z
    .obtain⟨j,hj,e⟩:=Jr x z;exact⟨j,by lia,e⟩
    .obtain⟨y,hy,rfl⟩:=Fx.mp z;obtain⟨j,hj,e⟩:=Wh y hy;exact⟨j,by lia,e⟩
   have hk:(pr.map J2).map (·.1)=b8 L.W:=by rw[cq];exact mp.wd
   have w6:=s6 _ _ w5;refine⟨lw,_,_,rfl,rfl,w6,?_,?_⟩
   .rw[FE,Fv,C_];exact IB (show i+1<=11 by lia) (by decide)
   walk_at "e";have ndl:(ds++[d]).length=i+1:=by rw[FE,C_];rfl
   refine⟨⟨_,rfl⟩,E4 (s5.trans s6) Ue,ys++[⟨st,r,m,f,bl,L,R,pr.map J2,fr,bs⟩],ds++[d],D,?_,?_,?_,ndl,?_,λy hy=>?_,λe he=>?_,gD,nD,λj y e g hy he Qz=>?_⟩
   .rw[d0 Wf,s6 _ _ r5];show _=some (HO.lst (List.map _ _));rw[FF];rfl
   .rw[d8];show _=some (HO.lst (List.map _ _++_));rw[FF];rfl
   .rw[FE,Oc];rfl
   .rw[GS (by lia)];exact h0
   .rcases FC.mp hy with z|z
    .exact⟨((y5 y z).same s6).updL w6 (Kq y z).2.2.2,(Kq y z).2.1,(Kq y z).2.2⟩
    .rw[FH.mp z];exact⟨StAt.updL w6 Ro (StAt.same T5 s6),MT,Ov,Ro⟩
   .rcases FC.mp he with z|z
    .exact⟨((d5 e z).same s6).updL w6,by have:=(E_ e z).2;lia⟩
    .rw[FH.mp z];exact⟨D6.updL w6,lD⟩
   .rcases X2 hy with⟨hj,y1⟩|⟨hj,rfl⟩
    .rw[GS (by lia)] at he Qz;exact K_ j y e g y1 he Qz
    .rw[Oc] at hj;subst hj;rw[GS (by lia)] at he;have e1:e=d:=by
      rcases X2 he with⟨z,_⟩|⟨_,z⟩
      .lia
      .exact z
     have e2:g=D:=by
      rcases X2 Qz with⟨z,_⟩|⟨_,z⟩
      .lia
      .exact z
     subst e1 e2;exact⟨sw,by show(List.map _ _).Perm _;rw[hk],wD⟩
  .rintro σ H3 ⟨⟨v6,rfl⟩,s3,ys,ds,d,r3,w3,Oc,C_,h0,Kq,E_,hg,Jr,K_⟩;refine⟨⟨_,s3.seq hC,by rw[Fv];exact Fz _⟩,?_⟩;refine hx [some (.ref S.a),some (.ref lc),some (.int c),some (.ref lk),some (.ref lr),some (.ref lw),v6] H3 ?_;walk_at "e";refine⟨d9 (by simp),λt nt=>?_⟩;obtain⟨H4,e4,f4,m4,_⟩:=b9 (o:= .tup [.ref lr,.ref lw]) nt;rw[e4];exact k t lr lw ys (ds++[d]) H4 (s3.trans m4) f4 (m4 _ _ r3) (by rw[m4 _ _ w3];show _=some (HO.lst (List.map _ _));rw[FF];rfl) (by lia) (by rw[FE,C_,Oc];rfl) h0 (λy hy=>⟨(Kq y hy).1.same m4,(Kq y hy).2.1⟩) (λe he=>⟨(E_ e he).1.same m4,by have:=(E_ e he).2;lia⟩) K_
def dU (K:Kd):Sp:=λvs H Q _=>∃x:Stp,vs=[.ref x.st]/\StAt K H x/\∀(st r bl:Addr) (H':Hp),Same H H'->StAt K H' ⟨st,r,x.m,x.f,bl,x.L,x.R,x.fx,x.fr,[]⟩->H bl=none->Q (.ref st) H'
abbrev fZ (P:Program)(w:World)(K:Kd)(mg:Str->Option Value)(base:Heap):Prop:=N8 P w K mg base C0 1 "_law_bare" ["_law_step_here"] [] (dU K)
theorem mS {f:Addr}{fd:FuncData}(T:Txt K mg)(F:Fun K "_law_bare" "_law_bare" bW f fd):u9 P w K mg base C0 1 f fd ["_law_step_here"] (dU K):=by
 refine F.ok sc__law_bare (λvs H Q E h=>?_) (λc_ A outer s H vs Q E hr h=>?_)
 .obtain⟨x,rfl,_⟩:=h;rfl
 .obtain⟨x,rfl,T7,k⟩:=h;have hN:=sc__law_bare.nd;have hu:=u6 hr;refine⟨_,QSs.r (C4 (A3 (J3 (i7 (J3 (i7 (j6 (j7 K hu) (j6 (j7 K hu) (qV 0) d6 (λ_ _=>rfl)) d6 (λ_ _=>rfl)) (i7 (j6 (j7 K hu) (j6 (j7 K hu) (qV 0) d6 (λ_ _=>rfl)) d6 (λ_ _=>rfl)) (i7 (U3 j5) j5)))) (i7 (j6 (j7 K hu) (qV 0) d6 (λ_ _=>rfl)) (i7 (j6 (j7 K hu) (qV 0) d6 (λ_ _=>rfl)) j5)))))),?_⟩;walk_at "r";refine b5 T7.tup (b6 (j:=0) rfl) ?_;walk_at "e";refine b5 T7.r.tup (b6 (j:=0) rfl) ?_;walk_at "e";refine b5 T7.tup (b6 (j:=0) rfl) ?_;walk_at "e";refine b5 T7.r.tup (b6 (j:=1) rfl) ?_;walk_at "e";refine⟨d9 (by simp),λl8 n8=>?_⟩;obtain⟨Ha,ea,fa,ma,_⟩:=b9 (o:= .lst _) n8;rw[ea];walk_at "e";refine⟨d9 (by simp),λr8 n8'=>?_⟩;obtain⟨Hb,eb,fb,mb,_⟩:=b9 (o:= .tup _) n8';rw[eb];walk_at "e";refine b5 (mb.tup (ma.tup T7.tup)) (b6 (j:=1) rfl) ?_;walk_at "e";refine b5 (mb.tup (ma.tup T7.tup)) (b6 (j:=2) rfl) ?_;walk_at "e";refine⟨d9 (by simp),λYO n8''=>?_⟩;obtain⟨H8,ec,fc,mc,_⟩:=b9 (o:= .tup _) n8'';rw[ec];have s8:=ma.trans (mb.trans mc);have T8:=StAt.same T7 s8;exact k YO r8 l8 H8 s8 ⟨SqT.of fc,⟨SqT.of (mc _ _ fb),T8.r.l,T8.r.r,SqL.of (mc _ _ (mb _ _ fa)),λb hb=>(by cases hb)⟩,T8.m,T8.f,mc _ _ (mb _ _ fa)⟩ n8
theorem wF {H:Hp}{x y:Stp}(h:StAt K H x)(h':StAt K H y)(w1:Bj y.L x.L)(w2:Bj y.R x.R)(em:y.fx.Perm x.fx)(ef:y.fr.Perm x.fr)(nb:y.bl≠x.bl)(dm:(x.fx.map (·.1)).Nodup)(df:(x.fr.map (·.1)).Nodup)(hb:Paired Bj y.bs x.bs):EqN K H 8 (.ref y.st) (.ref x.st) true:=by
 by_cases e0:y.st=x.st
 .exact EqN.of0 (.inr ⟨y.st,x.st,rfl,rfl,.inl ⟨e0,rfl⟩⟩) 8
 refine .inr ⟨y.st,x.st,_,_,[true,true,true],rfl,rfl,e0,.inl ⟨h'.tup,h.tup⟩,rfl,rfl,λj a c b h1 h2 h3=>?_,rfl⟩;match j,h1,h2,h3 with
 |0,h1,h2,h3=>
  cases h1;cases h2;cases h3
  by_cases e:y.r=x.r
  .exact EqN.of0 (.inr ⟨y.r,x.r,rfl,rfl,.inl ⟨e,rfl⟩⟩) 7
  .refine .inr ⟨y.r,x.r,_,_,[true,true,true],rfl,rfl,e,.inl ⟨h'.r.tup,h.r.tup⟩,rfl,rfl,λj a c b h1 h2 h3=>?_,rfl⟩
   match j,h1,h2,h3 with
   |0,h1,h2,h3=>cases h1;cases h2;cases h3;exact iR (n:=5) h'.r.l h.r.l w1.w.p w1.w.t w1.p w1.q
   |1,h1,h2,h3=>cases h1;cases h2;cases h3;exact iR (n:=5) h'.r.r h.r.r w2.w.p w2.w.t w2.p w2.q
   |2,h1,h2,h3=>
    cases h1;cases h2;cases h3
    have hl:=hb.length
    refine .inr ⟨y.bl,x.bl,_,_,List.replicate y.bs.length true,rfl,rfl,nb,.inr ⟨SqL.of h'.b,SqL.of h.b⟩,by rw[Fv,Fv,hl],by rw[Hi,Fv],λj a c b h1 h2 h3=>?_,by simp⟩
    rw[FD] at h1 h2
    obtain⟨s',F_,rfl⟩:=Gj.mp h1
    obtain⟨s,hs,rfl⟩:=Gj.mp h2
    have e3:=(Jh.mp (FI h3)).2
    subst e3
    obtain⟨OF,u_,z⟩:=R7 hb hs
    rw[F_] at u_
    cases u_
    exact iR (n:=4) (h'.r.bars _ (FI F_)) (h.r.bars _ (FI hs)) z.w.p z.w.t z.p z.q
   |j+3,h1,_,_=>cases h1
 |1,h1,h2,h3=>cases h1;cases h2;cases h3;exact EqN.of0 (.inr ⟨y.m,x.m,rfl,rfl,oj h'.m h.m em dm⟩) 7
 |2,h1,h2,h3=>cases h1;cases h2;cases h3;exact EqN.of0 (.inr ⟨y.f,x.f,rfl,rfl,oj h'.f h.f ef df⟩) 7
 |j+3,h1,_,_=>cases h1
theorem oK {H:Hp}{l l':Addr}{xs ys:List Stp}(hl:SqL K H l (sts xs))(Mv:SqL K H l' (sts ys))(len:ys.length=xs.length)(h:∀(i:Nat) (x y:Stp),xs[i]?=some x->ys[i]?=some y->EqN K H 8 (.ref y.st) (.ref x.st) true):Eo K H (.ref l') (.ref l) (List.replicate ys.length true):=by
 refine⟨l',l,_,_,rfl,rfl,.inr ⟨Mv,hl⟩,by rw[Fv,Fv,len],by rw[Hi,Fv],λj a c b h1 h2 h3=>?_⟩;rw[FD] at h1 h2;obtain⟨y,hy,rfl⟩:=Gj.mp h1;obtain⟨x,hx,rfl⟩:=Gj.mp h2;have e3:=(Jh.mp (FI h3)).2;subst e3;exact h j x y hx hy
theorem BkOf.twice {H H2:Hp}{y w u:Stp}{W W':C3}(b:BkOf H y w)(b2:BkOf H2 w u)(g:Goes W y W'):WPm u.L.W y.L.W/\WPm u.R.W y.R.W/\u.fx.Perm y.fx/\u.fr=y.fr:=by
 obtain⟨t1,t2,ot,ex⟩:=b.fx;obtain⟨u1,u2,ou,er⟩:=b.fr;obtain⟨t3,t4,YQ,YR⟩:=b2.fx;obtain⟨u3,u4,YS,YT⟩:=b2.fr;have nk:=g.k.nodup_iff.mpr g.w.ndL;have hs:=YQ.perm.trans b.r.nm;have e1:=g.w.twiceM (L2:=w.L.W) b.l ot.perm ou.perm hs;have e2:=g.w.twiceF b.l b.r ot.perm YS;refine⟨b2.l.tr b.r,b2.r.tr b.l,?_,?_⟩
 .rw[YR,ex,er];refine List.Perm.trans (List.Perm.of_eq e1) (((hs.trans g.k.symm).map _).trans (by rw[nW nk]))
 .rw[YT,ex];exact e2
structure CpOf (y z:Stp):Prop where
 fx:z.fx=y.fx
 fr:z.fr=y.fr
 l:Bj z.L y.L
 r:Bj z.R y.R
 lw:z.L.W=y.L.W
 rw:z.R.W=y.R.W
 b:Paired Bj z.bs y.bs
 bl:z.bl≠y.bl
theorem CpOf.goes {y z:Stp}{W W':C3}(c:CpOf y z)(g:Goes W y W'):Goes W z W':=by
 have e:z.done W'=z.done W':=rfl;refine⟨by rw[c.lw,c.rw,c.fx,c.fr];exact g.w,by rw[c.fx,c.lw];exact g.k,?_⟩;show WPm W' (A6 W z.L.W z.R.W (i6 z.fx) (i6 z.fr));rw[c.lw,c.rw,c.fx,c.fr];exact g.to
theorem yn (ns:List Int):∃cs:List Int,dO (ns.map V.int) (some 12) (some 22)=cs.map V.int/\cs.length<=10:=by
 unfold dO;rw[←List.map_drop,←List.map_take];refine⟨_,rfl,?_⟩;rw[FO,IQ];have e1:HT.sIx (ns.map V.int).length 0 (some ((12:Nat):Int))=min 12 (ns.map V.int).length:=HT.sIx_nat _ _ _;have e2:HT.sIx (ns.map V.int).length (ns.map V.int).length (some ((22:Nat):Int))=min 22 (ns.map V.int).length:=HT.sIx_nat _ _ _;rw[show(some (12:Int))=some ((12:Nat):Int) from rfl,show(some (22:Int))=some ((22:Nat):Int) from rfl,e1,e2];lia
structure Hull (K:Kd) (H:Hp) (z:Stp):Prop where
 st:SqT K H z.st [.ref z.r,.ref z.m,.ref z.f]
 r:SqT K H z.r [.ref z.L.a,.ref z.R.a,.ref z.bl]
 l:SqT K H z.L.a [.ref z.L.p,.ref z.L.q]
 rr:SqT K H z.R.a [.ref z.R.p,.ref z.R.q]
 p:∃kv,H z.L.p=some (.dK kv)
 q:∃kv,H z.R.q=some (.dK kv)
 m:∃kv,H z.m=some (.dK kv)
 f:∃kv,H z.f=some (.dK kv)
theorem mH {H:Hp}{d a:Addr}(h:∃kv,H a=some (.dK kv)):∃kv,upd H d (.dK []) a=some (.dK kv):=by
 by_cases z:a=d
 .exact⟨[],by rw[z];exact d8⟩
 .obtain⟨kv,h⟩:=h;exact⟨kv,by rw[d0 z];exact h⟩
theorem Hull.upd {H:Hp}{d:Addr}{kv:List (j4×V)}{z:Stp}(h:Hull K H z)(hd:H d=some (.dK kv)):Hull K (L2.upd H d (.dK [])) z:=⟨F7 hd h.st,F7 hd h.r,F7 hd h.l,F7 hd h.rr,mH h.p,mH h.q,mH h.m,mH h.f⟩
theorem StAt.hull {H:Hp}{z:Stp}(h:StAt K H z):Hull K H z:=⟨h.tup,h.r.tup,h.r.l.at_.tup,h.r.r.at_.tup,⟨_,h.r.l.hp⟩,⟨_,h.r.r.hq⟩,⟨_,h.m⟩,⟨_,h.f⟩⟩
theorem SdIs.updD {H:Hp}{d:Addr}{k1:List (j4×V)}{s:Sd}(z:SdIs K H s)(h:H d=some (.dK k1))(n1:s.p≠d)(n2:s.q≠d):SdIs K (L2.upd H d (.dK [])) s:=by
 have e1:L2.upd H d (.dK []) s.p=some (.dK (i6 s.W.pts)):=by rw[d0 n1];exact z.hp
 have e2:L2.upd H d (.dK []) s.q=some (.dK s.kvs):=by rw[d0 n2];exact z.hq
 exact⟨⟨F7 h z.at_.tup,.inl e1,.inl e2,C9 h z.at_.ts⟩,e1,e2,z.ne,z.nd,z.len,z.ends,z.nl⟩
def lW (K:Kd):Sp:=λvs H Q _=>∃(a:Addr) (ns:List Int),vs=[.ref a]/\SqL K H a (ns.map V.int)/\ns.length<=63/\∀H',Q (.bl true) H'
theorem Be {f:Addr}{fd:FuncData}(T:Txt K mg)(cV:iI P w K mg base)(de:jk P w K mg base)(bM:fQ P w K mg base)(V1:iU P w K mg base)(O6:bQ P w K mg base)(X4:gj P w K mg base)(bG:fZ P w K mg base)(F:Fun K "law" "law" uN f fd):u9 P w K mg base C0 8 f fd ["_law_script"] (lW K):=by
 refine F.ok sc_law (λvs H Q E h=>?_) (λc_ A outer s H vs Q E hr h=>?_)
 .obtain⟨a,ns,rfl,_⟩:=h;rfl
 .obtain⟨a,ns,rfl,hA,hl,k⟩:=h;have hN:=sc_law.nd;have hu:=u6 hr;refine⟨_,QSs.r (z6 (P6 (qC cV (hr.mono (by decide)) k7 (i7 (qV 0) j5)) (jz K rfl (U1 (F4 (i:=1) hN rfl (by walk_at "l")) (U1 (F4 (i:=2) hN rfl (by walk_at "l")) (U1 (F4 (i:=3) hN rfl (by walk_at "l")) jA)))))
   (z6 (P6 (qC de (hr.mono (by decide)) k7 (i7 (qV 3) (i7 (zI (AE K) (qV 0) (yI d6) (yI d6)) (i7 (qV 1) (i7 (qV 2) j5))))) (jz K rfl (U1 (F4 (i:=4) hN rfl (by walk_at "l")) (U1 (F4 (i:=5) hN rfl (by walk_at "l")) jA))))
   (z6 (ai (i:=6) hN rfl (by walk_at "l") (own:=["_law_step_here"]) (js:=[]) (by kernel_rfl) rfl (P8 K (qV 4)) (λ_ _ _ _=>(F4 (i:=0) (show List.Nodup (["_law_step_here"]:List Str) by decide+kernel) rfl (by walk_at "l"))) (λ_ _ _ _=>aR) (λ_ _ _ _=>(qC bM (hr.mono (by decide)) k7 (i7 (qV 0) j5))))
   (z6 (z0 (i:=7) hN rfl (by walk_at "l") (qC V1 (hr.mono (by decide)) k7 (i7 (qV 6) j5)))
   (z6 (cm (kG (fI (Z5 (Z7 K (qB (dC K P w) T.b_isinstance Boot.«isinstance» (i7 (qV 7) (i7 (yl "list" T.b_list Boot.«list») j5))))) (bB (p0 (aX K hr) (qB (B8 K P w) T.b_len Boot.«len» (i7 (qV 7) j5)) (qB (B8 K P w) T.b_len Boot.«len» (i7 (qV 4) j5)) (r9 _))))) (C4 (A3 rh)) cU)
   (z6 (z0 (i:=8) hN rfl (by walk_at "l") (J3 (i7 (gJ (R4 K rfl) T.b_dict Boot.«dict» (i7 (j6 (j7 K hu) (j6 (j7 K hu) (qV 5) (yU bC d6) (λ_ _=>rfl)) d6 (λ_ _=>rfl)) j5)) (i7 (gJ (R4 K rfl) T.b_dict Boot.«dict» (i7 (j6 (j7 K hu) (j6 (j7 K hu) (qV 5) (yU bC d6) (λ_ _=>rfl)) d6 (λ_ _=>rfl)) j5)) j5))))
   (z6 (z0 (i:=9) hN rfl (by walk_at "l") (qC O6 (hr.mono (by decide)) yQ (i7 (qV 8) (i7 (qV 7) j5))))
   (z6 (cm (kG (fI (Z5 (Z7 K (qB (dC K P w) T.b_isinstance Boot.«isinstance» (i7 (qV 9) (i7 (yl "list" T.b_list Boot.«list») j5))))) (bB (p0 (aX K hr) (qB (B8 K P w) T.b_len Boot.«len» (i7 (qV 9) j5)) (qB (B8 K P w) T.b_len Boot.«len» (i7 (qV 5) j5)) (r9 _))))) (C4 (A3 rh)) cU)
   (z6 (Q9 Gp rfl (iE T.b_range (i7 (qB (B8 K P w) T.b_len Boot.«len» (i7 (qV 5) j5)) j5)) (F4 (i:=10) hN rfl (by walk_at "l"))
    (C4 (cm (Z5 (Z7 K (qC X4 (hr.mono (by decide)) k7 (i7 (j6 (j7 K hu) (qV 9) (qV 10) (λ_ _=>rfl)) (i7 (j6 (j7 K hu) (qV 5) (A7 kX (A7 kX (qB (B8 K P w) T.b_len Boot.«len» (i7 (qV 5) j5)) d6) (qV 10)) (λ_ _=>rfl)) j5))))) (C4 (A3 rh)) cU)))
   (z6 (cm (p0 (aX K hr) (qC V1 (hr.mono (by decide)) k7 (i7 (qV 7) j5)) (N0 (own:=["_law_step_here"]) (js:=[]) (by kernel_rfl) rfl (P8 K (qV 4)) (λ_ _ _ _=>(F4 (i:=0) (show List.Nodup (["_law_step_here"]:List Str) by decide+kernel) rfl (by walk_at "l"))) (λ_ _ _ _=>aR) (λ_ _ _ _=>(qC bG (hr.mono (by decide)) k7 (i7 (qV 0) j5)))) (r9 _)) (C4 (A3 rh)) cU)
   (z6 (Q9 Gp rfl (P8 K (qV 7)) (F4 (i:=11) hN rfl (by walk_at "l"))
    (z6 (mX (AV GG Ht HR O2 K (j6 (j7 K hu) (j6 (j7 K hu) (j6 (j7 K hu) (qV 11) d6 (λ_ _=>rfl)) d6 (λ_ _=>rfl)) d6 (λ_ _=>rfl))))
   (z6 (mX (AV GG Ht HR O2 K (j6 (j7 K hu) (j6 (j7 K hu) (j6 (j7 K hu) (qV 11) d6 (λ_ _=>rfl)) d6 (λ_ _=>rfl)) d6 (λ_ _=>rfl))))
   (z6 (mX (AV GG Ht HR O2 K (j6 (j7 K hu) (qV 11) d6 (λ_ _=>rfl))))
   (C4 (mX (AV GG Ht HR O2 K (j6 (j7 K hu) (qV 11) d6 (λ_ _=>rfl)))))))))
   (z6 (mX (AV GN PySem.F.slot_list_clear PySem.F.type_list_clear gY K (qV 7)))
   (z6 (z0 (i:=12) hN rfl (by walk_at "l") (qC O6 (hr.mono (by decide)) yQ (i7 (qV 8) (i7 (qC V1 (hr.mono (by decide)) k7 (i7 (qV 6) j5)) j5))))
   (C4 (A3 (uO (eG (ah K hr) (qV 6) (qV 4) (r9 _)) (uO (eG (ah K hr) (qV 8) (j6 (j7 K hu) (qV 5) (yU bC d6) (λ_ _=>rfl)) (r9 _)) (yp (qC X4 (hr.mono (by decide)) k7 (i7 (j6 (j7 K hu) (qV 12) (yU bC d6) (λ_ _=>rfl)) (i7 (qV 3) j5))))))))))))))))))))),?_⟩
  refine r6 λNm hx=>?_;walk_at "e";refine⟨a,ns,rfl,hA,hl,λt lk b p q kvs W c ks H1 m1 f1 g1 k0 k3 kk c0 hW hG Sk Kv=>?_⟩;refine J1 (SqT.of f1) rfl ?_;walk_at "e";refine hx [some (.ref a),some (.int c),some (.ref lk),some (.ref b),none,none,none,none,none,none,none,none,none] _ ?_;clear hx;refine r6 λOy hx=>?_;walk_at "e";refine oq (m1.seq hA) (λl2 n2=>?_);obtain⟨cs,LD,J'⟩:=yn ns;rw[LD];obtain⟨H2,x2,f2,m2,_⟩:=b9 (o:= .lst _) n2;rw[x2];walk_at "e";refine⟨⟨b,p,q,kvs,W⟩,l2,lk,cs,c,ks,rfl,WebIs.same hW m2,hG,by show(b8 W).length<=12;rw[A5];exact Sk,SqL.of f2,J',m2 _ _ g1,⟨k0,k3,kk⟩,Kv,λt3 lr lw ys ds H3 s3 ft fr fw Oc C_ hd0 Kq E_ K_=>?_⟩;refine J1 (SqT.of ft) rfl ?_;walk_at "e";refine hx [some (.ref a),some (.int c),some (.ref lk),some (.ref b),some (.ref lr),some (.ref lw),none,none,none,none,none,none,none] _ ?_;clear hx f1 g1 k0 k3 kk hG Kv f2 ft LD;obtain⟨Ms,dl,rfl⟩:∃Ms dl,ds=Ms++[dl]:=by
   rcases JS ds with z|⟨Ms,dl,z⟩
   .rw[z] at C_;simp at C_
   .exact⟨Ms,dl,by rw[z,JT]⟩
  obtain⟨Vw,OA⟩:∃Vw:Nat->C3,∀(i:Nat) (d:Sd),(Ms++[dl])[i]?=some d->Vw i=d.W:=⟨λi=>(((Ms++[dl])[i]?).map (·.W)).getD ⟨[],[]⟩,λi d h=>by show((_:Option Sd).map _).getD _=_;rw[h];rfl⟩
  have Uj:Ms.length=ys.length:=by rw[FE] at C_;simpa using C_
  have MY:∀i,i<=ys.length->∃d,(Ms++[dl])[i]?=some d:=λi hi=>⟨_,Fw (by rw[C_];lia)⟩
  have gy:∀(i:Nat) (y:Stp),ys[i]?=some y->Goes (Vw i) y (Vw (i+1)):=λi y hy=>by
   have hi:=(Gy.mp hy).1;obtain⟨d,hd⟩:=MY i (by lia);obtain⟨e,he⟩:=MY (i+1) (by lia);rw[OA i d hd,OA (i+1) e he];exact K_ i y d e hy hd he
  have vl:∀i,i<=ys.length->(b8 (Vw i)).length<=52:=λi hi=>by
   obtain⟨d,hd⟩:=MY i hi;rw[OA i d hd];exact(E_ d (FI hd)).2
  have vL:Vw ys.length=dl.W:=OA _ _ (by rw[←Uj];simp);have v0:Vw 0=W:=OA 0 _ hd0;clear K_;refine r6 λPX hx=>?_;walk_at "e";refine C6 (SqL.of fr) ?_;refine z7 (n:=ys.length) (λi out H'=>Same H3 H'/\∃zs:List Stp,out=sts zs/\zs.length=i/\∀(j:Nat) (z y:Stp),zs[j]?=some z->ys[j]?=some y->StAt K H' z/\CpOf y z) ⟨Same.refl _,[],rfl,rfl,λj z y h=>by simp at h⟩ (λi out H' hi hp=>⟨_,.ref (ys[i]).st,SqL.of (hp.1 _ _ fr),by rw[FD,Fw hi];rfl⟩) ?_ ?_
  .rintro N i v out H4' H4 hi ⟨s4,zs,rfl,Mg,Mr⟩ y hN';obtain⟨rfl,Nn⟩:=Itl.get y (SqL.of (s4 _ _ fr));have Lw:ys[i]?=some ys[i]:=Fw hi;rw[FD,Lw] at Nn;cases Nn;have Kf:=Gd hi;generalize ys[i]=y9 at Kf Lw;obtain⟨T0,MT⟩:=Kq _ Kf;have T4:=T0.same s4;walk_at "e";refine⟨rfl,?_⟩;walk_at "e";refine⟨y9.st,y9.r,y9.m,y9.f,y9.bl,y9.L,y9.R,_,_,y9.bs,rfl,T4,by lia,λG_ r1 m1' f1 bl1 L1 R1 bs1 H5 s5 T5 cL cR cB nm1 nf1 Ov mb1=>?_⟩;refine⟨d9 (by rw[Fv];lia),hN' _ _ ⟨s4.trans s5,zs++[⟨G_,r1,m1',f1,bl1,L1,R1,y9.fx,y9.fr,bs1⟩],by show _=List.map _ _;rw[FF];rfl,by rw[FE,Mg];rfl,λj z y8 hz hy8=>?_⟩⟩;rcases X2 hz with⟨_,q⟩|⟨rfl,rfl⟩
   .exact⟨(Mr j z y8 q hy8).1.same s5,(Mr j z y8 q hy8).2⟩
   .rw[Mg,Lw] at hy8;cases hy8;refine⟨T5,⟨rfl,rfl,⟨by rw[cL.w];exact WPm.rf _,(b7 T4.r.l.hp cL.p).symm,(b7 T4.r.l.hq cL.q).symm⟩,⟨by rw[cR.w];exact WPm.rf _,(b7 T4.r.r.hp cR.p).symm,(b7 T4.r.r.hq cR.q).symm⟩,cL.w,cR.w,?_,(b7 T4.b Ov).symm⟩⟩;refine fH cB.length.symm λj c s hc hs=>?_;obtain⟨s',F_,z⟩:=R7 cB hc;rw[hs] at F_;cases F_;have y:=T4.r.bars s (FI hs);exact⟨by rw[z.w];exact WPm.rf _,(b7 y.hp z.p).symm,(b7 y.hq z.q).symm⟩
  rintro out H4 ⟨s4,zs,rfl,Mg,Mr⟩;refine⟨⟨_,SqL.of (s4 _ _ fr),by rw[Fv];exact Fz _⟩,λlh nlh=>⟨d9 (by rw[Fv];lia),?_⟩⟩;obtain⟨H5,e5,f5,m5,_⟩:=b9 (H:=H4) (o:= .lst (sts zs)) nlh;change O5 _ _ _ (upd H4 lh (.lst (sts zs))) _;rw[e5];walk_at "e";refine hx [some (.ref a),some (.int c),some (.ref lk),some (.ref b),some (.ref lr),some (.ref lw),some (.ref lh),none,none,none,none,none,none] _ ?_;clear hx;have Uk:=s4.trans m5;have yz:∀(i:Nat) (z:Stp),zs[i]?=some z->∃y,ys[i]?=some y/\StAt K H5 z/\CpOf y z:=λi z hz=>by
   have hi:=(Gy.mp hz).1;obtain⟨T,C⟩:=Mr i z _ hz (Fw (by lia));exact⟨_,Fw (by lia),T.same m5,C⟩
  have gz:∀(i:Nat) (z:Stp),zs[i]?=some z->Goes (Vw i) z (Vw (i+1)):=λi z hz=>by
   obtain⟨y,hy,_,C⟩:=yz i z hz;exact C.goes (gy i y hy)
  have Qf:zs.length<=10:=by lia
  have Qg:∀z∈zs,StAt K H5 z/\(∀n∈b8 z.L.W,TxtAt (i6 z.fx) n)/\∀n∈b8 z.R.W,n∉b8 z.L.W->TxtAt (i6 z.fr) n:=λz hz=>by
   obtain⟨i,hi⟩:=GW hz;obtain⟨_,_,T,_⟩:=yz i z hi;have g:=(gz i z hi).w;exact⟨T,g.ok.fit.txt,λn h1 h2=>(g.ok.fo.txt g.ndR (g.ok.fo.mem.mpr ⟨h1,h2⟩)).1⟩
  clear e5 nlh Mr;have bk:∀{G:Hp},Same H5 G->∀{Q:VK},(∀(l:Addr) (ws:List Stp) (G':Hp),G l=none->Same G G'->G' l=some (.lst (sts ws))->ws.length=ys.length->(∀(i:Nat) (w:Stp),ws[i]?=some w->StAt K G' w/\w.bs=[]/\Goes (Vw (ys.length -i)) w (Vw (ys.length -(i+1)))/\∃z,zs[ys.length -1 -i]?=some z/\BkOf G z w)->Q (.ref l) G')->∀{E},bw K [.ref lh] G Q E:=fun{G} sg {Q} kk {E}=>by
   refine⟨lh,zs,rfl,SqL.of (sg _ _ f5),Qf,λz hz=>⟨(Qg z hz).1.same sg,(Qg z hz).2⟩,λl ws G' nl s f MD hws=>kk l ws G' nl s f (by lia) λi w hw=>?_⟩;have hi:=(Gy.mp hw).1;obtain⟨T,z,hz,B⟩:=hws i w hw;rw[Mg] at hz;have g:=B.goes (gz _ z hz);rw[show ys.length -1 -i+1=ys.length -i by lia,show ys.length -1 -i=ys.length -(i+1) by lia] at g;exact⟨T,B.bs,g,z,hz,B⟩
  have gt:∀{G:Hp} {S:Sd} {l:Addr} {ws:List Stp},SdIs K G S->S.W=dl.W->G l=some (.lst (sts ws))->ws.length=ys.length->(∀(i:Nat) (w:Stp),ws[i]?=some w->StAt K G w/\w.bs=[]/\Goes (Vw (ys.length -i)) w (Vw (ys.length -(i+1))))->∀{Q:VK},(∀(l:Addr) (es:List Sd) (G':Hp),G l=none->Same G G'->G' l=some (.lst (su es))->es.length=ys.length+1->(∀(i:Nat) (e:Sd),es[i]?=some e->SdIs K G' e/\WPm e.W (Vw (ys.length -i))/\G e.p=none/\G e.q=none)->Q (.ref l) G')->∀{E},S8 K [.ref S.a,.ref l] G Q E:=fun{G S l ws} hS eS hf MD hws {Q} kk {E}=>by
   refine⟨S,l,ws,λi=>Vw (ys.length -i),rfl,hS,by show WPm S.W (Vw (ys.length -0));rw[eS,Nat.sub_zero,vL];exact WPm.rf _,SqL.of hf,by lia,λy hy=>?_,λi y hy=>(hws i y hy).2.2,λi hi=>vl _ (by lia),λl es G' nl s f hel hes=>kk l es G' nl s f (by lia) hes⟩;obtain⟨i,hi⟩:=GW hy;exact⟨(hws i y hi).1,(hws i y hi).2.1⟩
  refine r6 λRj hx=>?_;walk_at "e";refine bk (Same.refl _) λlf ws H6 nlf s6 f6 MD hws=>?_;refine hx [some (.ref a),some (.int c),some (.ref lk),some (.ref b),some (.ref lr),some (.ref lw),some (.ref lh),some (.ref lf),none,none,none,none,none] _ ?_;clear hx;have Rt:=Uk.trans s6;refine r6 λVR hx=>?_;walk_at "e";refine bO (bN (t:="list") (.inl ⟨rfl,_,SqL.of f6⟩) (by simp) ?_);rw[show dY "list" "list"=true from rfl];walk_at "e";refine B7 (k8 (SqL.of f6) ?_);rw[Fv,MD];walk_at "e";refine B7 (k8 (SqL.of (Rt _ _ fr)) ?_);rw[Fv];walk_at "e";rw[if_neg (by simp)];walk_at "e";refine hx [some (.ref a),some (.int c),some (.ref lk),some (.ref b),some (.ref lr),some (.ref lw),some (.ref lh),some (.ref lf),none,none,none,none,none] _ ?_;clear hx;have Wi:H6 lw=some (.lst (su Ms++[.ref dl.a])):=by rw[Rt _ _ fw];show some (HO.lst (List.map _ _))=_;rw[FF];rfl
  have Qi:=(E_ dl (FA _ (FH.mpr rfl))).1;have L6:=Qi.same Rt;refine r6 λYs hx=>?_;walk_at "e";refine i8 (SqL.of Wi) (L2.atI_last _ _) ?_;walk_at "e";refine b5 L6.at_.tup (b6 (j:=0) rfl) ?_;walk_at "e";refine E7 (.inl L6.hp) (λp3 np3=>?_);obtain⟨Ha,ea,fa,ma,_⟩:=b9 (o:= .dK _) np3;rw[ea];walk_at "e";refine i8 (SqL.of (ma _ _ Wi)) (L2.atI_last _ _) ?_;walk_at "e";refine b5 (ma.tup L6.at_.tup) (b6 (j:=1) rfl) ?_;walk_at "e";refine E7 (.inl (ma _ _ L6.hq)) (λq3 nq3=>?_);obtain⟨Hb,eb,fb,mb,_⟩:=b9 (o:= .dK _) nq3;rw[eb];walk_at "e";refine⟨d9 (by simp),λa3 na3=>?_⟩;obtain⟨H7,eg,fg,mc,_⟩:=b9 (o:= .tup _) na3;rw[eg];have Qj:=ma.trans (mb.trans mc);have C7:SdIs K H7 ⟨a3,p3,q3,dl.kvs,dl.W⟩:=SdIs.copy L6 Qj (SqT.of fg) (mc _ _ (mb _ _ fa)) (mc _ _ fb) (b7 fa nq3);have Ul:=b7 L6.hp np3;have Um:=b7 (ma _ _ L6.hq) nq3;have Ru:=np3;have Rv:=ma.free nq3;walk_at "e";refine hx [some (.ref a),some (.int c),some (.ref lk),some (.ref b),some (.ref lr),some (.ref lw),some (.ref lh),some (.ref lf),some (.ref a3),none,none,none,none] _ ?_;clear hx ea eb eg fa fb fg ma mb mc np3 nq3 na3;have Uo:=Rt.trans Qj;refine r6 λZE hx=>?_;walk_at "e";refine gt C7 rfl (Qj _ _ f6) MD (λi w hw=>⟨(hws i w hw).1.same Qj,(hws i w hw).2.1,(hws i w hw).2.2.1⟩) λlt es H8 nlt s8 f8 hel hes=>?_;refine hx [some (.ref a),some (.int c),some (.ref lk),some (.ref b),some (.ref lr),some (.ref lw),some (.ref lh),some (.ref lf),some (.ref a3),some (.ref lt),none,none,none] _ ?_;clear hx;have Rw:=Uo.trans s8;have Rx:=Rw _ _ fw;refine r6 λZF hx=>?_;walk_at "e";refine bO (bN (t:="list") (.inl ⟨rfl,_,SqL.of f8⟩) (by simp) ?_);rw[show dY "list" "list"=true from rfl];walk_at "e";refine B7 (k8 (SqL.of f8) ?_);rw[Fv,hel];walk_at "e";refine B7 (k8 (SqL.of Rx) ?_);rw[Fv,C_];walk_at "e";rw[if_neg (by simp)];walk_at "e";refine hx [some (.ref a),some (.int c),some (.ref lk),some (.ref b),some (.ref lr),some (.ref lw),some (.ref lh),some (.ref lf),some (.ref a3),some (.ref lt),none,none,none] _ ?_;clear hx;refine r6 λZG hx=>?_;walk_at "e";refine B7 (k8 (SqL.of Rx) ?_);rw[Fv,C_];refine O0 (by lia) (by lia) ?_;refine C8 (n:=ys.length+1) (λi σ H'=>(∃v10,σ=[some (.ref a),some (.int c),some (.ref lk),some (.ref b),some (.ref lr),some (.ref lw),some (.ref lh),some (.ref lf),some (.ref a3),some (.ref lt),v10,none,none])/\H'=H8) ⟨⟨_,rfl⟩,rfl⟩ (λi σ H' hi _=>by show i<((ys.length+1:Nat):Int).toNat;lia) ?_ ?_
  .clear hx;rintro i v σ G' G hi ⟨⟨v10,rfl⟩,rfl⟩ ⟨rfl,rfl⟩;obtain⟨e,he⟩:∃e,es[i]?=some e:=⟨_,Fw (by lia)⟩
   obtain⟨d,hd⟩:=MY (ys.length -i) (by lia);obtain⟨E8,wE,YU,YV⟩:=hes i e he;have D8:=(E_ d (FI hd)).1;have Te:=(b7 (Uo _ _ D8.hp) YU).symm;have Tg:=(b7 (Uo _ _ D8.hq) YV).symm;have D8:=D8.same Rw;rw[OA _ d hd] at wE;walk_at "e";refine i8 (v:= .ref e.a) (SqL.of f8) (by rw[Ji];exact b6 (by rw[FD,he];rfl)) ?_;walk_at "e";refine B7 (k8 (SqL.of Rx) ?_);rw[Fv,C_];walk_at "e";refine i8 (v:= .ref d.a) (SqL.of Rx) (by rw[show(((ys.length+1:Nat):Int) -1 -(0+(i:Int)))=((ys.length -i:Nat):Int) by lia];exact b6 (by rw[FD,hd];rfl)) ?_;walk_at "e";refine⟨e,d,rfl,E8.at_,D8.at_,wE.p,wE.t,E1 D8.nd,N1 D8.nd,Te,Tg,?_⟩;walk_at "e";exact⟨⟨_,rfl⟩,rfl⟩
  rintro σ G ⟨⟨v10,rfl⟩,hG⟩;have hG:=hG.symm;subst hG;refine⟨by show((ys.length+1:Nat):Int).toNat<=ys.length+1;lia,?_⟩;refine hx [some (.ref a),some (.int c),some (.ref lk),some (.ref b),some (.ref lr),some (.ref lw),some (.ref lh),some (.ref lf),some (.ref a3),some (.ref lt),v10,none,none] H8 ?_;clear hx;have Ry:=Qj.trans s8;have w8:∀(i:Nat) (w:Stp),ws[i]?=some w->StAt K H8 w:=λi w hw=>(hws i w hw).1.same Ry;refine r6 λYW hx=>?_;walk_at "e";refine⟨lf,ws,rfl,SqL.of (Ry _ _ f6),by lia,λw hw=>?_,λlu us H9 nlu s9 f9 MU Mj=>?_⟩
  .obtain⟨i,hi⟩:=GW hw;have g:=(hws i w hi).2.2.1.w;exact⟨w8 i w hi,g.ok.fit.txt,λn h1 h2=>(g.ok.fo.txt g.ndR (g.ok.fo.mem.mpr ⟨h1,h2⟩)).1⟩
  have Qk:=Rw.trans s9;walk_at "e";refine C6 (SqL.of (Qk _ _ fr)) ?_;refine z7 (n:=ys.length) (λi out H'=>Same H9 H'/\∃xs:List Stp,out=sts xs/\xs.length=i/\∀(j:Nat) (x y:Stp),xs[j]?=some x->ys[j]?=some y->StAt K H' x/\H9 x.bl=none/\x.L=y.L/\x.R=y.R/\x.fx=y.fx/\x.fr=y.fr/\x.bs=[]) ⟨Same.refl _,[],rfl,rfl,λj z y h=>by simp at h⟩ (λi out H' hi hp=>⟨_,.ref (ys[i]).st,SqL.of (hp.1 _ _ (Qk _ _ fr)),by rw[FD,Fw hi];rfl⟩) ?_ ?_
  .rintro N i v out MS Lc hi ⟨Od,xs,rfl,j_,Ql⟩ y hN';obtain⟨rfl,Nn⟩:=Itl.get y (SqL.of (Od _ _ (Qk _ _ fr)));have Lw:ys[i]?=some ys[i]:=Fw hi;rw[FD,Lw] at Nn;cases Nn;have Kf:=Gd hi;generalize ys[i]=y9 at Kf Lw;have T0:=(Kq _ Kf).1.same (Qk.trans Od);walk_at "e";refine⟨rfl,?_⟩;walk_at "e";refine⟨y9,rfl,T0,λG_ r1 bl1 LA LW T11 nb11=>?_⟩;refine⟨d9 (by rw[Fv];lia),hN' _ _ ⟨Od.trans LW,xs++[⟨G_,r1,y9.m,y9.f,bl1,y9.L,y9.R,y9.fx,y9.fr,[]⟩],by show _=List.map _ _;rw[FF];rfl,by rw[FE,j_];rfl,λj z y8 hz hy8=>?_⟩⟩;rcases X2 hz with⟨_,q⟩|⟨rfl,rfl⟩
   .exact⟨(Ql j z y8 q hy8).1.same LW,(Ql j z y8 q hy8).2⟩
   .rw[j_,Lw] at hy8;cases hy8;exact⟨T11,Od.free nb11,rfl,rfl,rfl,rfl,rfl⟩
  rintro out Lc ⟨Od,xs,rfl,j_,Ql⟩;refine⟨⟨_,SqL.of (Od _ _ (Qk _ _ fr)),by rw[Fv];exact Fz _⟩,λlx nlx=>⟨d9 (by rw[Fv];lia),?_⟩⟩;obtain⟨LA,Nh,L_,Ld,_⟩:=b9 (H:=Lc) (o:= .lst (sts xs)) nlx;change rn K _ _ (upd Lc lx (.lst (sts xs))) _;rw[Nh];have Oe:=Od.trans Ld;refine .inr ⟨_,oK (SqL.of L_) (SqL.of (Oe _ _ f9)) (by lia) λi x u g_ hu=>?_,?_⟩
  .have hi:=(Gy.mp hu).1;have Lw:ys[i]?=some ys[i]:=Fw (by lia);generalize ys[i]=y at Lw;obtain⟨T,nb,eL,eR,ex,er,eb⟩:=Ql i x y g_ Lw;obtain⟨U,w,hw,B2⟩:=Mj i u hu;rw[MD] at hw;obtain⟨_,_,_,z,hz,B1⟩:=hws _ w hw;rw[show ys.length -1 -(ys.length -1 -i)=i by lia] at hz;obtain⟨y',o_,_,C⟩:=yz i z hz;rw[Lw] at o_;cases o_;obtain⟨t1,t2,t3,t4⟩:=B1.twice B2 (gz i z hz);have Y8:=(Kq y (FI Lw)).1.same Rw;have g:=gy i y Lw;refine wF (x:=x) (y:=u) (T.same Ld) (U.same Oe) ⟨by rw[eL,←C.lw];exact t1,?_,?_⟩ ⟨by rw[eR,←C.rw];exact t2,?_,?_⟩ (by rw[ex,←C.fx];exact t3) (by rw[er,←C.fr,t4]) (b7 U.b nb) (by rw[ex];exact g.k.nodup_iff.mpr g.w.ndL) (by rw[er];exact g.w.ok.fo.nd1 g.w.ndR) (by rw[eb,B2.bs];exact .nil)
   .rw[eL];exact(b7 Y8.r.l.hp B2.n1).symm
   .rw[eL];exact(b7 Y8.r.l.hq B2.n2).symm
   .rw[eR];exact(b7 Y8.r.r.hp B2.n3).symm
   .rw[eR];exact(b7 Y8.r.r.hq B2.n4).symm
  rw[mE];walk_at "e";refine hx [some (.ref a),some (.int c),some (.ref lk),some (.ref b),some (.ref lr),some (.ref lw),some (.ref lh),some (.ref lf),some (.ref a3),some (.ref lt),v10,none,none] _ ?_;clear hx;have m8:=s9.trans Oe;have YX:=s6.trans (Ry.trans m8);have YY:SdIs K LA ⟨a3,p3,q3,dl.kvs,dl.W⟩:=C7.same (s8.trans m8);have dp:∀w∈ws,(p3≠w.L.p/\q3≠w.L.p)/\(p3≠w.R.q/\q3≠w.R.q)/\(p3≠w.m/\q3≠w.m)/\p3≠w.f/\q3≠w.f:=λw hw=>by
   obtain⟨i,hi⟩:=GW hw;have T:=(hws i w hi).1;exact⟨⟨(b7 T.r.l.hp Ru).symm,(b7 T.r.l.hp Rv).symm⟩,⟨(b7 T.r.r.hq Ru).symm,(b7 T.r.r.hq Rv).symm⟩,⟨(b7 T.m Ru).symm,(b7 T.m Rv).symm⟩,(b7 T.f Ru).symm,(b7 T.f Rv).symm⟩
  have YZ:∀w∈ws,H5 w.L.p=none/\H5 w.R.q=none/\H5 w.m=none/\H5 w.f=none:=λw hw=>by
   obtain⟨i,hi⟩:=GW hw;obtain⟨_,_,_,z,_,B⟩:=hws i w hi;exact⟨B.n1,B.n4,B.n5,B.n6⟩
  have Up:∀w∈ws,Hull K LA w:=λw hw=>by
   obtain⟨i,hi⟩:=GW hw;exact((w8 i w hi).same m8).hull
  have Y':ws.length<=10:=by lia
  clear Mj Ql f9 L_ Nh nlx nlu hes f8 w8 hws;refine r6 λY_ hx=>?_;walk_at "e";have Qm:=m8 _ _ (Ry _ _ f6);refine C6 (SqL.of Qm) ?_;refine C8 (n:=ws.length) (λi σ H'=>(∃v11,σ=[some (.ref a),some (.int c),some (.ref lk),some (.ref b),some (.ref lr),some (.ref lw),some (.ref lh),some (.ref lf),some (.ref a3),some (.ref lt),v10,v11,none])/\Same H5 H'/\H' lf=some (.lst (sts ws))/\(∀w∈ws,Hull K H' w)/\SdIs K H' ⟨a3,p3,q3,dl.kvs,dl.W⟩) ⟨⟨_,rfl⟩,YX,Qm,Up,YY⟩ (λi σ H' hi hp=>⟨_,.ref (ws[i]).st,SqL.of hp.2.2.1,by rw[FD,Fw hi];rfl⟩) ?_ ?_
  .clear hx;rintro i v σ G' G hi ⟨⟨v11,rfl⟩,sG,fG,MU,CG⟩ y;obtain⟨rfl,hx⟩:=Itl.get y (SqL.of fG);rw[FD,Fw hi] at hx;cases hx;have Of:=Gd hi;generalize ws[i]=w at Of;obtain⟨n1,n2,n3,n4⟩:=YZ w Of;obtain⟨d1,d2,d3,d4⟩:=dp w Of;have Rz:∀{G:Hp} {d:Addr},H5 d=none->p3≠d/\q3≠d->(∃kv,G d=some (.dK kv))->Same H5 G/\G lf=some (.lst (sts ws))/\(∀w∈ws,Hull K G w)/\SdIs K G ⟨a3,p3,q3,dl.kvs,dl.W⟩->Same H5 (upd G d (.dK []))/\upd G d (.dK []) lf=some (.lst (sts ws))/\(∀w∈ws,Hull K (upd G d (.dK [])) w)/\SdIs K (upd G d (.dK [])) ⟨a3,p3,q3,dl.kvs,dl.W⟩:=fun{G d} nd ne ⟨kv,hd⟩ ⟨z1,z2,z3,z4⟩=>⟨E4 z1 nd,by rw[d0 λz=>by rw[z,hd] at z2;cases z2];exact z2,λw hw=>(z3 w hw).upd hd,z4.updD hd ne.1 ne.2⟩
   have Uq:Same H5 G/\G lf=some (.lst (sts ws))/\(∀w∈ws,Hull K G w)/\SdIs K G ⟨a3,p3,q3,dl.kvs,dl.W⟩:=⟨sG,fG,MU,CG⟩
   clear sG fG MU CG;have u0:=Uq.2.2.1 w Of;walk_at "e";refine r6 λNm hx=>?_;walk_at "e";refine b5 u0.st (b6 (j:=0) rfl) ?_;walk_at "e";refine b5 u0.r (b6 (j:=0) rfl) ?_;walk_at "e";refine b5 u0.l (b6 (j:=0) rfl) ?_;walk_at "e";obtain⟨kv,hd⟩:=u0.p;have G_:=Rz n1 d1 u0.p Uq;refine⟨.inr (.inr (.inl ⟨rfl,.inl ⟨_,hd⟩⟩)),?_⟩;walk_at "e";refine⟨w.L.p,_,rfl,rfl,hd,?_⟩;walk_at "e";refine hx [some (.ref a),some (.int c),some (.ref lk),some (.ref b),some (.ref lr),some (.ref lw),some (.ref lh),some (.ref lf),some (.ref a3),some (.ref lt),v10,some (.ref w.st),none] _ ?_;clear hx u0 hd Uq;generalize upd G w.L.p (.dK [])=G1 at G_;have u0:=G_.2.2.1 w Of;refine r6 λNm hx=>?_;walk_at "e";refine b5 u0.st (b6 (j:=0) rfl) ?_;walk_at "e";refine b5 u0.r (b6 (j:=1) rfl) ?_;walk_at "e";refine b5 u0.rr (b6 (j:=1) rfl) ?_;walk_at "e";obtain⟨kv,hd⟩:=u0.q;have m_:=Rz n2 d2 u0.q G_;refine⟨.inr (.inr (.inl ⟨rfl,.inl ⟨_,hd⟩⟩)),?_⟩;walk_at "e";refine⟨w.R.q,_,rfl,rfl,hd,?_⟩;walk_at "e";refine hx [some (.ref a),some (.int c),some (.ref lk),some (.ref b),some (.ref lr),some (.ref lw),some (.ref lh),some (.ref lf),some (.ref a3),some (.ref lt),v10,some (.ref w.st),none] _ ?_;clear hx u0 hd G_;generalize upd G1 w.R.q (.dK [])=G2 at m_;have u0:=m_.2.2.1 w Of;refine r6 λNm hx=>?_;walk_at "e";refine b5 u0.st (b6 (j:=1) rfl) ?_;walk_at "e";obtain⟨kv,hd⟩:=u0.m;have ME:=Rz n3 d3 u0.m m_;refine⟨.inr (.inr (.inl ⟨rfl,.inl ⟨_,hd⟩⟩)),?_⟩;walk_at "e";refine⟨w.m,_,rfl,rfl,hd,?_⟩;walk_at "e";refine hx [some (.ref a),some (.int c),some (.ref lk),some (.ref b),some (.ref lr),some (.ref lw),some (.ref lh),some (.ref lf),some (.ref a3),some (.ref lt),v10,some (.ref w.st),none] _ ?_;clear hx u0 hd m_;generalize upd G2 w.m (.dK [])=G3 at ME;have u0:=ME.2.2.1 w Of;walk_at "e";refine b5 u0.st (b6 (j:=2) rfl) ?_;walk_at "e";obtain⟨kv,hd⟩:=u0.f;have Za:=Rz n4 d4 u0.f ME;refine⟨.inr (.inr (.inl ⟨rfl,.inl ⟨_,hd⟩⟩)),?_⟩;walk_at "e";refine⟨w.f,_,rfl,rfl,hd,?_⟩;walk_at "e";exact⟨⟨_,rfl⟩,Za⟩
  rintro σ G ⟨⟨v11,rfl⟩,sG,fG,MU,CG⟩;refine⟨⟨_,SqL.of fG,by rw[Fv];exact Fz _⟩,?_⟩;refine hx [some (.ref a),some (.int c),some (.ref lk),some (.ref b),some (.ref lr),some (.ref lw),some (.ref lh),some (.ref lf),some (.ref a3),some (.ref lt),v10,v11,none] G ?_;clear hx;refine r6 λZb hx=>?_;walk_at "e";refine⟨.inl ⟨rfl,_,SqL.of fG⟩,?_⟩;walk_at "e";refine⟨lf,_,rfl,rfl,fG,?_⟩;walk_at "e";refine hx [some (.ref a),some (.int c),some (.ref lk),some (.ref b),some (.ref lr),some (.ref lw),some (.ref lh),some (.ref lf),some (.ref a3),some (.ref lt),v10,v11,none] _ ?_;clear hx;have sB:Same H5 (upd G lf (.lst [])):=E4 sG nlf;have CB:=CG.updL (u:= .lst []) fG;generalize upd G lf (.lst [])=B at sB CB;clear sG fG MU CG;refine r6 λZc hx=>?_;walk_at "e";refine bk sB λl1 vs B1 _ t1 g1 hvl hvs=>?_;walk_at "e";refine gt (CB.same t1) rfl g1 hvl (λi w hw=>⟨(hvs i w hw).1,(hvs i w hw).2.1,(hvs i w hw).2.2.1⟩) λl2 os B2 _ t2 g2 q_ Nu=>?_;refine hx [some (.ref a),some (.int c),some (.ref lk),some (.ref b),some (.ref lr),some (.ref lw),some (.ref lh),some (.ref lf),some (.ref a3),some (.ref lt),v10,v11,some (.ref l2)] _ ?_;clear hx;have Ur:=sB.trans (t1.trans t2);have Qn:=Uk.trans Ur;walk_at "e";refine .inr ⟨_,oK (SqL.of (Qn _ _ fr)) (SqL.of (Ur _ _ f5)) Mg λi y z hy hz=>?_,?_⟩
  .obtain⟨y',o_,T,C⟩:=yz i z hz;rw[hy] at o_;cases o_;have g:=gy i y hy;exact wF (x:=y) (y:=z) ((Kq y (FI hy)).1.same Qn) (T.same Ur) C.l C.r (by rw[C.fx]) (by rw[C.fr]) C.bl (g.k.nodup_iff.mpr g.w.ndL) (g.w.ok.fo.nd1 g.w.ndR) C.b
  rw[mE];walk_at "e";have Zd:B2 lw=some (.lst (su Ms++[.ref dl.a])):=by rw[Qn _ _ fw];show some (HO.lst (List.map _ _))=_;rw[FF];rfl
  refine i8 (SqL.of Zd) (L2.atI_last _ _) ?_;have Cz:=CB.same (t1.trans t2);have Dz:=Qi.same Qn;refine jP (ph Cz.at_.tup Dz.at_.tup (gU Ul.symm Cz.at_.pts Dz.at_.pts (HU _) (E1 Dz.nd)) (iM Um.symm Cz.at_.ties Dz.at_.ties Cz.at_.ts Dz.at_.ts (HU _) (N1 Dz.nd)) ?_);rw[show(true&&true)=true from rfl];walk_at "e";obtain⟨Kt,oe,rfl⟩:∃Kt oe,os=Kt++[oe]:=by
   rcases JS os with z|⟨Kt,oe,z⟩
   .rw[z] at q_;simp at q_
   .exact⟨Kt,oe,by rw[z,JT]⟩
  have Us:Kt.length=ys.length:=by rw[FE] at q_;simpa using q_
  obtain⟨Oz,wO,Ze,Zf⟩:=Nu ys.length oe (by rw[←Us];simp);rw[Nat.sub_self,v0] at wO;have Zg:B2 l2=some (.lst (su Kt++[.ref oe.a])):=by rw[g2];show some (HO.lst (List.map _ _))=_;rw[FF];rfl
  refine i8 (SqL.of Zg) (L2.atI_last _ _) ?_;walk_at "e";have Wj:SdIs K H3 ⟨b,p,q,kvs,W⟩:=(WebIs.same hW m2).same s3;have W1:=Wj.same (Uk.trans (sB.trans t1));have Wz:=Wj.same Qn;exact⟨oe,⟨b,p,q,kvs,W⟩,rfl,Oz.at_,Wz.at_,wO.p,wO.t,E1 Wz.nd,N1 Wz.nd,(b7 W1.hp Ze).symm,(b7 W1.hq Zf).symm,k _⟩
end
theorem all_mk {l:PySem.W.OpenLaw}{w:World}{K:Kd}{h:Heap}{mg:Str->Option Value}{fa f0 f1 f2 f3 f4 f5 f6 f7 f8 f9 OU L_ NN NJ f14 SH f16 f17 f18 f19 f20 f21 f22 f23 f24 f25 f26 f27 f28 f29 f30 f31 f32 f33 f34 f35 f36 f37 f38 f39 f40 f41 f42 f43 f44 f45 f46 f47 f48 f49 f50 f51 f52 f53 f54 f55 f56 f57:Addr}{t_MOST_NAME_SIGNS t_NAME_SIGNS t_SMALL_LETTERS:Tok}{C_Barred C_Loose C_NoMatch C_NoNames:Addr}(X:K.In h)(G:h.Ns mainGlobals mg)(Si:mg "law"=some (.ref fa))
  (a0:FnIn K "is_text_of" aI f0)
  (a1:FnIn K "is_name" fq f1)
  (a2:FnIn K "in_order" cY f2)
  (a3:FnIn K "copied" jb f3)
  (a4:FnIn K "things" jr f4)
  (a5:FnIn K "without" eY f5)
  (a6:FnIn K "united" jd f6)
  (a7:FnIn K "tie_renamed" Y2 f7)
  (a8:FnIn K "renamed" eX f8)
  (a9:FnIn K "is_match" cZ f9)
  (a10:FnIn K "line" pP OU)
  (a11:FnIn K "first_match" Y3 L_)
  (a12:FnIn K "first_found" Y9 NN)
  (a13:FnIn K "found" mz NJ)
  (a14:FnIn K "may_be" jv f14)
  (a15:FnIn K "point_choices" U0 SH)
  (a16:FnIn K "tie_places" ax f16)
  (a17:FnIn K "enough" jm f17)
  (a18:FnIn K "lines" lO f18)
  (a19:FnIn K "images" iB f19)
  (a20:FnIn K "tie_choices" Y1 f20)
  (a21:FnIn K "has_room" cM f21)
  (a22:FnIn K "both" qo f22)
  (a23:FnIn K "alone" ml f23)
  (a24:FnIn K "kept" pF f24)
  (a25:FnIn K "taken" lG f25)
  (a26:FnIn K "fresh_of" dv f26)
  (a27:FnIn K "turned" ja f27)
  (a28:FnIn K "picked" iu f28)
  (a29:FnIn K "barred" iJ f29)
  (a30:FnIn K "taken_out" bo f30)
  (a31:FnIn K "names_serve" Y4 f31)
  (a32:FnIn K "rest_of" fh f32)
  (a33:FnIn K "done" pN f33)
  (a34:FnIn K "behind" iK f34)
  (a35:FnIn K "back" qh f35)
  (a36:FnIn K "gone_through" U6 f36)
  (a37:FnIn K "back_row" dh f37)
  (a38:FnIn K "_law_cell_at" V4 f38)
  (a39:FnIn K "_law_mixed" aB f39)
  (a40:FnIn K "_law_stream" Z3 f40)
  (a41:FnIn K "_law_name" bK f41)
  (a42:FnIn K "_law_words" ao f42)
  (a43:FnIn K "_law_web" cW f43)
  (a44:FnIn K "_law_picked" Y5 f44)
  (a45:FnIn K "_law_out" du f45)
  (a46:FnIn K "_law_rule" aU f46)
  (a47:FnIn K "_law_step" bY f47)
  (a48:FnIn K "_law_done" bD f48)
  (a49:FnIn K "_law_copy" bR f49)
  (a50:FnIn K "_law_same" bF f50)
  (a51:FnIn K "_law_met" cO f51)
  (a52:FnIn K "_law_bars" bS f52)
  (a53:FnIn K "_law_drawn" aK f53)
  (a54:FnIn K "_law_row" dg f54)
  (a55:FnIn K "_law_set" dc f55)
  (a56:FnIn K "_law_bare" bW f56)
  (a57:FnIn K "law" uN f57)
  (z_all:PySem.W.nsIn K mainGlobals "all"=some none)
  (z_any:PySem.W.nsIn K mainGlobals "any"=some none)
  (z_dict:PySem.W.nsIn K mainGlobals "dict"=some none)
  (z_enumerate:PySem.W.nsIn K mainGlobals "enumerate"=some none)
  (z_int:PySem.W.nsIn K mainGlobals "int"=some none)
  (z_isinstance:PySem.W.nsIn K mainGlobals "isinstance"=some none)
  (z_len:PySem.W.nsIn K mainGlobals "len"=some none)
  (z_list:PySem.W.nsIn K mainGlobals "list"=some none)
  (z_min:PySem.W.nsIn K mainGlobals "min"=some none)
  (z_range:PySem.W.nsIn K mainGlobals "range"=some none)
  (z_reversed:PySem.W.nsIn K mainGlobals "reversed"=some none)
  (z_set:PySem.W.nsIn K mainGlobals "set"=some none)
  (z_sorted:PySem.W.nsIn K mainGlobals "sorted"=some none)
  (z_str:PySem.W.nsIn K mainGlobals "str"=some none)
  (z_tuple:PySem.W.nsIn K mainGlobals "tuple"=some none)
  (v_MOST_NAME_SIGNS:PySem.W.nsIn K mainGlobals "MOST_NAME_SIGNS"=some (some (.int 24 t_MOST_NAME_SIGNS)))
  (v_NAME_SIGNS:PySem.W.nsIn K mainGlobals "NAME_SIGNS"=some (some (.str eM t_NAME_SIGNS)))
  (v_SMALL_LETTERS:PySem.W.nsIn K mainGlobals "SMALL_LETTERS"=some (some (.str aN t_SMALL_LETTERS)))
  (n_Barred:PySem.W.nsIn K mainGlobals "Barred"=some (some (.ref C_Barred)))
  (n_Loose:PySem.W.nsIn K mainGlobals "Loose"=some (some (.ref C_Loose)))
  (n_NoMatch:PySem.W.nsIn K mainGlobals "NoMatch"=some (some (.ref C_NoMatch)))
  (n_NoNames:PySem.W.nsIn K mainGlobals "NoNames"=some (some (.ref C_NoNames)))
  (xr_Barred:PySem.W.excIn K C_Barred Bl "ValueError.__new__"=true)
  (xr_Loose:PySem.W.excIn K C_Loose Bl "ValueError.__new__"=true)
  (xr_NoMatch:PySem.W.excIn K C_NoMatch Bl "ValueError.__new__"=true)
  (xr_NoNames:PySem.W.excIn K C_NoNames Bl "ValueError.__new__"=true)
  :
  ∃fd:FuncData,(∀(s:Shared) (v:Value),BindsTo s fd ⟨[v],[]⟩ [("_law_script",v)])/\∀base:Heap,K.In base->base.Ns mainGlobals mg->u9 l.prog w K mg base C0 8 fa fd ["_law_script"] (lW K):=by
 have ec_Barred:cA K "Barred"=C_Barred:=by unfold cA;rw[n_Barred]
 have ec_Loose:cA K "Loose"=C_Loose:=by unfold cA;rw[n_Loose]
 have ec_NoMatch:cA K "NoMatch"=C_NoMatch:=by unfold cA;rw[n_NoMatch]
 have ec_NoNames:cA K "NoNames"=C_NoNames:=by unfold cA;rw[n_NoNames]
 have T:Txt K mg:=⟨by rw[ec_Barred];exact⟨HD X G n_Barred,xr_Barred⟩,by rw[ec_Loose];exact⟨HD X G n_Loose,xr_Loose⟩,by rw[ec_NoMatch];exact⟨HD X G n_NoMatch,xr_NoMatch⟩,by rw[ec_NoNames];exact⟨HD X G n_NoNames,xr_NoNames⟩,GD X G z_all,GD X G z_any,GD X G z_dict,GD X G z_enumerate,GD X G z_int,GD X G z_isinstance,GD X G z_len,GD X G z_list,GD X G z_min,GD X G z_range,GD X G z_reversed,GD X G z_set,GD X G z_sorted,GD X G z_str,GD X G z_tuple,⟨_,HD X G v_MOST_NAME_SIGNS,_,rfl⟩,⟨_,HD X G v_NAME_SIGNS,_,rfl⟩,⟨_,HD X G v_SMALL_LETTERS,_,rfl⟩⟩
 refine Bd X G Si a57 (fun{base f fd} F=>?_) λ_ _ _ _ _ _ s v=> .of_eq rfl
 have aH:eo l.prog w K mg base:=j9 X G a0 (λF=>jE T F) (by walk_at "b")
 have aq:jc l.prog w K mg base:=j9 X G a2 (λF=>nz T F) (by walk_at "b")
 have E6:Z8 l.prog w K mg base:=j9 X G a4 (λF=>sd T F) (by walk_at "b")
 have K7:Z1 l.prog w K mg base:=j9 X G a7 (λF=>ju T F) (by walk_at "b")
 have Y6:cx l.prog w K mg base:=j9 X G a11 (λF=>iN T F) (by walk_at "b")
 have xc:jK l.prog w K mg base:=j9 X G a12 (λF=>jf T F) (by walk_at "b")
 have Dw:yo l.prog w K mg base:=j9 X G a13 (λF=>uj T F) (by walk_at "b")
 have BG:vN l.prog w K mg base:=j9 X G a14 (λF=>tm T F) (by walk_at "b")
 have tV:gx l.prog w K mg base:=j9 X G a15 (λF=>fF T F) (by walk_at "b")
 have ym:mD l.prog w K mg base:=j9 X G a16 (λF=>jD T F) (by walk_at "b")
 have BL:ug l.prog w K mg base:=j9 X G a17 (λF=>rO T F) (by walk_at "b")
 have DA:yy l.prog w K mg base:=j9 X G a18 (λF=>vE T F) (by walk_at "b")
 have Cw:uH l.prog w K mg base:=j9 X G a19 (λF=>sL T F) (by walk_at "b")
 have xh:jN l.prog w K mg base:=j9 X G a20 (λF=>jq T F) (by walk_at "b")
 have Ay:ql l.prog w K mg base:=j9 X G a21 (λF=>oR T F) (by walk_at "b")
 have R5:ij l.prog w K mg base:=j9 X G a28 (λF=>rL T F) (by walk_at "b")
 have E5:U7 l.prog w K mg base:=j9 X G a38 (λF=>gw T F) (by walk_at "b")
 have K1:aG l.prog w K mg base:=j9 X G a39 (λF=>jH T F) (by walk_at "b")
 have Y7:cE l.prog w K mg base:=j9 X G a40 (λF=>iy T F) (by walk_at "b")
 have L9:bE l.prog w K mg base:=j9 X G a41 (λF=>kZ T F) (by walk_at "b")
 have M7:av l.prog w K mg base:=j9 X G a42 (λF=>jC T F) (by walk_at "b")
 have Z2:cH l.prog w K mg base:=j9 X G a44 (λF=>jw T F) (by walk_at "b")
 have cN:iD l.prog w K mg base:=j9 X G a45 (λF=>nE T F) (by walk_at "b")
 have bI:fV l.prog w K mg base:=j9 X G a48 (λF=>mr T F) (by walk_at "b")
 have bM:fQ l.prog w K mg base:=j9 X G a49 (λF=>mQ T F) (by walk_at "b")
 have X4:gj l.prog w K mg base:=j9 X G a50 (λF=>lJ T F) (by walk_at "b")
 have cP:ik l.prog w K mg base:=j9 X G a51 (λF=>oZ T F) (by walk_at "b")
 have bg:gd l.prog w K mg base:=j9 X G a52 (λF=>lX T F) (by walk_at "b")
 have bG:fZ l.prog w K mg base:=j9 X G a56 (λF=>mS T F) (by walk_at "b")
 have fD:kl l.prog w K mg base:=j9 X G a1 (λF=>pQ T aH F) (by walk_at "b")
 have D5:af l.prog w K mg base:=j9 X G a3 (λF=>sY T aq F) (by walk_at "b")
 have pw:vT l.prog w K mg base:=j9 X G a10 (λF=>xF T E6 F) (by walk_at "b")
 have qp:uI l.prog w K mg base:=j9 X G a22 (λF=>xH T E6 F) (by walk_at "b")
 have cj:la l.prog w K mg base:=j9 X G a23 (λF=>uA T E6 F) (by walk_at "b")
 have je:nM l.prog w K mg base:=j9 X G a29 (λF=>tu T Y6 F) (by walk_at "b")
 have cQ:iO l.prog w K mg base:=j9 X G a43 (λF=>oV T K1 E5 L9 F) (by walk_at "b")
 have br:fT l.prog w K mg base:=j9 X G a46 (λF=>lM T Z2 cN F) (by walk_at "b")
 have eU:kC l.prog w K mg base:=j9 X G a5 (λF=>pX T D5 F) (by walk_at "b")
 have jo:oW l.prog w K mg base:=j9 X G a6 (λF=>sC T D5 F) (by walk_at "b")
 have eZ:jS l.prog w K mg base:=j9 X G a8 (λF=>pI T K7 D5 F) (by walk_at "b")
 have cX:iT l.prog w K mg base:=j9 X G a9 (λF=>oH T E6 pw K7 F) (by walk_at "b")
 have pC:uW l.prog w K mg base:=j9 X G a24 (λF=>ya T qp F) (by walk_at "b")
 have cv:mI l.prog w K mg base:=j9 X G a25 (λF=>wJ T cj F) (by walk_at "b")
 have Q2:di l.prog w K mg base:=j9 X G a26 (λF=>pj T cj F) (by walk_at "b")
 have il:nC l.prog w K mg base:=j9 X G a27 (λF=>sh T D5 F) (by walk_at "b")
 have aT:fP l.prog w K mg base:=j9 X G a47 (λF=>lg T br F) (by walk_at "b")
 have cV:iI l.prog w K mg base:=j9 X G a55 (λF=>oJ T K1 E5 M7 cQ F) (by walk_at "b")
 have bH:gk l.prog w K mg base:=j9 X G a30 (λF=>mn T cv F) (by walk_at "b")
 have Z0:cy l.prog w K mg base:=j9 X G a31 (λF=>jt T Q2 fD F) (by walk_at "b")
 have ak:ib l.prog w K mg base:=j9 X G a34 (λF=>tQ T R5 pC Q2 E6 F) (by walk_at "b")
 have aF:eK l.prog w K mg base:=j9 X G a53 (λF=>jF T Y7 M7 L9 aT cP bg F) (by walk_at "b")
 have eQ:jR l.prog w K mg base:=j9 X G a32 (λF=>pM T cX eU bH je F) (by walk_at "b")
 have pS:vH l.prog w K mg base:=j9 X G a35 (λF=>yu T R5 cv ak il F) (by walk_at "b")
 have de:jk l.prog w K mg base:=j9 X G a54 (λF=>nB T aF bI F) (by walk_at "b")
 have pU:ve l.prog w K mg base:=j9 X G a33 (λF=>xI T eQ Z0 jo eZ ak F) (by walk_at "b")
 have V1:iU l.prog w K mg base:=j9 X G a37 (λF=>ny T pS F) (by walk_at "b")
 have O6:bQ l.prog w K mg base:=j9 X G a36 (λF=>gE T D5 pU F) (by walk_at "b")
 exact Be T cV de bM V1 O6 X4 bG F
theorem walk {l:PySem.W.OpenLaw}{q:Program}{loose:List Str}{XP:(Str->Option Value)->Heap->Prop}{YP:World->Heap->Prop}{d:DefRec}{K:Params->Kd}(hn:l.most=some 63)(OI:d.params.defaults=[])
  (hY:∀(w:World) (h:Heap),YP w h->(K w.params).In h)
  (F:∀(w:World) (mg:Str->Option Value) (fa:Addr) (h:Heap),(K w.params).In h->h.Ns mainGlobals mg->mg d.name=some (.ref fa)->
   ∃fd:FuncData,(∀(s:Shared) (u:Value),BindsTo s fd ⟨[u],[]⟩ [("_law_script",u)])/\∀base:Heap,(K w.params).In base->base.Ns mainGlobals mg->u9 l.prog w (K w.params) mg base C0 8 fa fd ["_law_script"] (lW (K w.params))):
  PySem.W.WalkO q loose XP YP l.row.toRowW d [] (λf vs=>PySem.call f vs):=
 L2.walk_of (n:=63) (k:=8) (x:="_law_script") (CX:=λ_=>C0) (sp:=λw=>lW (K w.params)) hn (by decide) OI ⟨rfl,by decide,by decide⟩ hY F (λ_ _ a ns hl _ hS=>⟨a,ns,rfl,hS,hl,λ_=>rfl⟩) λ_ _ _ _ _ z=>z
end K32
namespace PySem.W.Fast
def tw10694576420678132571:=True
def tw3044433948447622249:=True
def tw5365199274174121412:=True
def tw8156713628845708298:=True
def tw3381744189004430892:=True
def tw12385600776195000455:=True
def tw5304738450801686158:=True
def tw11348995629980651802:=True
def tw8510720636911202995:=True
def tw11126216270443731304:=True
def tw10586412472541838350:=True
def tw4916865950361534114:=True
def tw6050252898361681519:=True
def tw18350228725758960345:=True
def tw12375480574378211904:=True
def tw4518974041934558840:=True
def tw13071395353951899890:=True
def tw17713888574767603404:=True
def tw17117667255256185016:=True
def tw7878442816366666193:=True
def tw9434818557216470215:=True
def tw4592994855928126153:=True
def tw13574405385819403516:=True
def tw7269119388938642148:=True
def tw14159839781969384383:=True
def tw6673555540427882363:=True
def tw11098591636761955852:=True
def tw15570738888937444525:=True
def tw8674581704926423906:=True
def tw9585111840574780016:=True
def tw2253337725554185883:=True
def tw15906278452256019173:=True
def tw16763599822411451364:=True
def tw15208088918276681311:=True
def tw14742353454460839779:=True
def tw13164384800592212630:=True
def tw1167195110213272299:=True
def tw13322821116468923285:=True
def tw13813622024276710665:=True
def tw16650294582370569293:=True
def tw8119350670231971714:=True
def tw12517708044146300845:=True
def tw340955710317220876:=True
def tw9326066164137528651:=True
def tw8978938727809762785:=True
def tw11304412088316250139:=True
def tw9383013434588264061:=True
def tw793502496115119643:=True
def tw7689176753990280298:=True
def tw15646417047895920428:=True
def tw9876354846823418523:=True
def tw7511172106370536118:=True
def tw14006123691644562293:=True
def tw7975600463433089568:=True
def tw2138201937404270527:=True
def tw14242600805299630838:=True
def tw8421649455618675254:=True
def tw14577775749115985195:=True
def tw5678415083911666504:=True
def tw14437748016632397286:=True
def tw12505723580797136107:=True
def tw8923902781118799256:=True
def tw3786110034539173891:=True
def tw4968539017577898176:=True
def tw17753348878944339906:=True
def tw11573002189885354026:=True
def tw576973505299697593:=True
def tw4807855472331881108:=True
def tw6606693658647504154:=True
def tw10499824953174535532:=True
def tw13434747232713799358:=True
def tw773216638993155653:=True
def tw8197855039916763220:=True
def tw15772202342939418304:=True
def tw11441627377073495504:=True
def tw2353682843276854555:=True
def tw16177413216546663029:=True
def tw16079796236329323439:=True
def tw14861625887079010874:=True
def tw16838211963900136022:=True
def tw115347806818936546:=True
def tw15593203032935842644:=True
def tw17734176372577098196:=True
def tw10395107641470026825:=True
def tw9051273143636064965:=True
def tw10053454499207969728:=True
def tw10243069002687988516:=True
def tw10714816054289679992:=True
def tw8898250733283274236:=True
def tw17213813566887647128:=True
def tw17913636151168520870:=True
def tw15660738088388549165:=True
def tw17032007822318127537:=True
def tw9769828259955328964:=True
def tw16075918278106825786:=True
def tw3455626463177791575:=True
def tw16742353428861715214:=True
def tw98322443979741572:=True
def tw13996702255612179405:=True
def tw6328351626596737059:=True
def tw5205211468090771642:=True
def tw5342615581213683511:=True
def tw6418533480219188192:=True
def tw15332594372606882524:=True
def tw748638914558141465:=True
def tw6816606976328002470:=True
def tw12142111298514732115:=True
def tw4303510604147354149:=True
def tw10653943191842864671:=True
def tw8681643373948954085:=True
def tw17376993674860891094:=True
def tw123915325933569534:=True
def tw9750233553673545239:=True
def tw2935029846147562723:=True
def tw5742061763180402009:=True
def tw16110367798594514768:=True
def tw17205599065630339252:=True
def tw10875669480985520299:=True
def tw5657104471554811715:=True
def tw15050538662502393057:=True
def tw10985890183541954954:=True
def tw6726439245275058013:=True
def tw17180041637044120128:=True
def tw7533058310813300599:=True
def tw11389963284203713767:=True
def tw2614457147394759583:=True
def tw572798554201946338:=True
def tw6504244047145979996:=True
def tw4974161652091282542:=True
def tw2281482904273670815:=True
def tw10802528111232967002:=True
def tw14499211252718209214:=True
def tw9538210204741704626:=True
def tw2556529233217566379:=True
def tw901212651054541035:=True
def tw14354397417338438341:=True
def tw10837522055061573728:=True
def tw8510696651971303553:=True
def tw13632303916612004778:=True
def tw15048001511671380091:=True
def tw8764427155306740820:=True
def tw7803233384897050997:=True
def tw4960145807602039215:=True
def tw244216464945036166:=True
def tw3248350933476948986:=True
def tw255873977936922940:=True
def tw14698688384226192021:=True
def tw16157826263140439415:=True
def tw5165366775714386585:=True
def tw11877906144373197829:=True
def tw10758837720729809:=True
def tw961912572157421447:=True
def tw14225787321456421282:=True
def tw5935962556251531460:=True
def tw16078341754765889662:=True
def tw16819421840554969561:=True
def tw15590403235555656737:=True
def tw8066771543495928381:=True
def tw2772182558279778106:=True
def tw17061802536962292093:=True
def tw10870745216281955706:=True
def tw5897319448089930691:=True
def tw2502867068691808789:=True
def tw11623735284643546975:=True
def tw3695116089024942760:=True
def tw16197327207584286134:=True
def tw7951227330718959417:=True
def tw2481879405950905016:=True
def tw5533847207668532260:=True
def tw4706667352754388176:=True
def tw4094975639592280948:=True
def tw5786919949887745002:=True
def tw8304236911666601017:=True
def tw13296207631946056573:=True
def tw17040085173494197984:=True
def tw11863140234975715919:=True
def tw10970876984226940931:=True
def tw5546448058868303232:=True
def tw11440959037152257751:=True
def tw798240356478500269:=True
def tw2799124487433897084:=True
def tw3033548028177344222:=True
def tw6523902196129783241:=True
def tw14600376545657376574:=True
def tw1041306883630599828:=True
def tw1614242805300818702:=True
def tw1219726312423745023:=True
def tw3057368710456727445:=True
def tw18357078260034578548:=True
def tw17162176640121549979:=True
def tw12650868138553791275:=True
def tw17176270419558905060:=True
def tw10344522206875171914:=True
def tw5958467989165332427:=True
def tw3761411916906512433:=True
def tw2629646625136008788:=True
def tw18422363232744477866:=True
def tw7091535632389044281:=True
def tw693497211360392771:=True
def tw61492601918338477:=True
def tw14345955899374055068:=True
def tw10139553325646864950:=True
def tw17084353156385341948:=True
def tw16438463207194739323:=True
def tw8377065325399243233:=True
def tw554477937777773250:=True
def tw14819374461323839077:=True
def tw14088201220430035995:=True
def tw16617813428783146293:=True
def tw3456341689633323324:=True
def tw3312007691697455394:=True
def tw7762103323064771854:=True
def tw4554361645864969819:=True
def tw14612892267357408700:=True
def tw13539121561769285844:=True
def tw12829305204657325375:=True
def tw1039985176578252721:=True
def tw6309806770870281362:=True
def tw441135250547013184:=True
def tw17995475999831798829:=True
def tw18168325180872314812:=True
def tw16784299310278483941:=True
def tw15591608677649754144:=True
def tw7515066110677714443:=True
def tw4834352782201941964:=True
def tw347902007236107229:=True
def tw11911384510961571638:=True
def tw8126188025123656040:=True
def tw1168781847325559986:=True
def tw12168708454172963633:=True
def tw10837547781791398702:=True
def tw2270092258965592349:=True
def tw11674300565479930979:=True
def tw9396655482941905380:=True
def tw214471714669000704:=True
def tw2755934827155668147:=True
def tw2437666245713661416:=True
def tw16411658354279726102:=True
def tw4956195248992729110:=True
def tw16025641514626194378:=True
def tw6989521465695724038:=True
def tw2908173769840400422:=True
def tw14507259222159099975:=True
def tw177027860428493533:=True
def tw16969996855574826106:=True
def tw13784155728479430848:=True
def tw7999854717479656428:=True
def tw17379706902816519687:=True
def tw16395210070377960557:=True
def tw8140257963191258104:=True
def tw6604409036684821394:=True
def tw16461665317062343849:=True
def tw12219674126474402841:=True
def tw2224008704368320929:=True
def tw13827510640149016777:=True
def tw2335919162308457528:=True
def tw13169450597011734290:=True
def tw5838213643682503537:=True
def tw6566451095620445819:=True
def tw5189110558191784844:=True
def tw17679336129924184852:=True
def tw16876856485376185250:=True
def tw11345380956031963473:=True
def tw10771566459001722921:=True
def tw15388593995368069418:=True
def tw7909777727210494401:=True
def tw6091337620241929955:=True
def tw6722959338986747497:=True
def tw5708225782363318515:=True
def tw10142834200344073606:=True
def tw7011798759609606106:=True
def tw5345083868069246397:=True
def tw17971609114776480211:=True
def tw13498422145884675261:=True
def tw13349266948831968166:=True
def tw5559676974744800436:=True
def tw2321295967164128430:=True
def tw12781474878945540999:=True
def tw9112075919942041447:=True
def tw7416140139131400213:=True
def tw5666029746126181103:=True
def tw4579875279510406389:=True
def tw11205513681447848356:=True
end PySem.W.Fast
open PySem PySem.W PyProof.Rows
local macro_rules| `(tactic|walk_at "F")=> `(tactic|(refine' L2.FnIn.mk' ?a ?l ?c ?k;(case a=>k_is);(case l=>k_is);(case c=>k_is);(case k=>k_is)))
set_option maxRecDepth 100000 in
set_option maxHeartbeats 0 in
theorem PySem.Challenge.cw_gluework_k32_whole_rows_back_holds : PySem.Challenge.rw_gluework_k32_whole_rows_back.Holds := by
 w_on;o_law;k_head;(case hw=>w_witness2);k_fill;refine K32.walk (l:=PySem.Challenge.rw_gluework_k32_whole_rows_back) rfl rfl (λw h Y=>PySem.W.kIn_of Y) ?F;case F=>
  intro w mg fa h KX G hmg
  refine' K32.all_mk KX G hmg ?a0 ?a1 ?a2 ?a3 ?a4 ?a5 ?a6 ?a7 ?a8 ?a9 ?a10 ?a11 ?a12 ?a13 ?a14 ?a15 ?a16 ?a17 ?a18 ?a19 ?a20 ?a21 ?a22 ?a23 ?a24 ?a25 ?a26 ?a27 ?a28 ?a29 ?a30 ?a31 ?a32 ?a33 ?a34 ?a35 ?a36 ?a37 ?a38 ?a39 ?a40 ?a41 ?a42 ?a43 ?a44 ?a45 ?a46 ?a47 ?a48 ?a49 ?a50 ?a51 ?a52 ?a53 ?a54 ?a55 ?a56 ?a57 ?z_all ?z_any ?z_dict ?z_enumerate ?z_int ?z_isinstance ?z_len ?z_list ?z_min ?z_range ?z_reversed ?z_set ?z_sorted ?z_str ?z_tuple ?v_MOST_NAME_SIGNS ?v_NAME_SIGNS ?v_SMALL_LETTERS ?n_Barred ?n_Loose ?n_NoMatch ?n_NoNames ?xr_Barred ?xr_Loose ?xr_NoMatch ?xr_NoNames
  (case a0=>walk_at "F")
  (case a1=>walk_at "F")
  (case a2=>walk_at "F")
  (case a3=>walk_at "F")
  (case a4=>walk_at "F")
  (case a5=>walk_at "F")
  (case a6=>walk_at "F")
  (case a7=>walk_at "F")
  (case a8=>walk_at "F")
  (case a9=>walk_at "F")
  (case a10=>walk_at "F")
  (case a11=>walk_at "F")
  (case a12=>walk_at "F")
  (case a13=>walk_at "F")
  (case a14=>walk_at "F")
  (case a15=>walk_at "F")
  (case a16=>walk_at "F")
  (case a17=>walk_at "F")
  (case a18=>walk_at "F")
  (case a19=>walk_at "F")
  (case a20=>walk_at "F")
  (case a21=>walk_at "F")
  (case a22=>walk_at "F")
  (case a23=>walk_at "F")
  (case a24=>walk_at "F")
  (case a25=>walk_at "F")
  (case a26=>walk_at "F")
  (case a27=>walk_at "F")
  (case a28=>walk_at "F")
  (case a29=>walk_at "F")
  (case a30=>walk_at "F")
  (case a31=>walk_at "F")
  (case a32=>walk_at "F")
  (case a33=>walk_at "F")
  (case a34=>walk_at "F")
  (case a35=>walk_at "F")
  (case a36=>walk_at "F")
  (case a37=>walk_at "F")
  (case a38=>walk_at "F")
  (case a39=>walk_at "F")
  (case a40=>walk_at "F")
  (case a41=>walk_at "F")
  (case a42=>walk_at "F")
  (case a43=>walk_at "F")
  (case a44=>walk_at "F")
  (case a45=>walk_at "F")
  (case a46=>walk_at "F")
  (case a47=>walk_at "F")
  (case a48=>walk_at "F")
  (case a49=>walk_at "F")
  (case a50=>walk_at "F")
  (case a51=>walk_at "F")
  (case a52=>walk_at "F")
  (case a53=>walk_at "F")
  (case a54=>walk_at "F")
  (case a55=>walk_at "F")
  (case a56=>walk_at "F")
  (case a57=>walk_at "F")
  (case z_all|z_any|z_dict|z_enumerate|z_int|z_isinstance|z_len|z_list|z_min|z_range|z_reversed|z_set|z_sorted|z_str|z_tuple|v_MOST_NAME_SIGNS|v_NAME_SIGNS|v_SMALL_LETTERS|n_Barred|n_Loose|n_NoMatch|n_NoNames=>k_is)
  (case xr_Barred=>k_exc)
  (case xr_Loose=>k_exc)
  (case xr_NoMatch=>k_exc)
  (case xr_NoNames=>k_exc)
