import PyProof.Rows.All
import Wide.All
import OpenK.AllK
import Wide.FinOn
import PyProof.EqAt
import PyProof.EqKinds
import PyProof.TupleCall
import PyProof.NeKinds
import PyProof.AttrMissHeap
import PyProof.ExcClass3
import PyProof.RulesAs
import PyProof.Rows.FStr
import OpenK.KOwn
import PyProof.NsDelKeeps
import PyProof.Rows.Catch
import PyProof.Rows.SetFrom
import PyProof.SetRoads
import PyProof.FactsAll.NoneType
import PyProof.Rows.StrNews2
import PyProof.StrLawsTight
import PyProof.StrLawsNeg
import KE.KIsAll
import PyProof.ExcArgsOwn
import PySem.Challenge.RW_gluework_k73_texts_refused
set_option Elab.async false
set_option linter.all false
set_option maxRecDepth 100000
namespace L2
open PySem PySem.Spec PyProof.Rows
abbrev j6:=Sum Int Str
def df:j6→Value→Bool
 | .inl k,v=>Value.isInt k v
 | .inr x,v=>Value.isStrOf x v
def Ca (w:World):j6→Int
 | .inl k=>hashInt k
 | .inr x=>hashStr w x
theorem C6:∀{k:j6} {v:Value},df k v=true→(∃i t,k=Sum.inl i∧v=Value.int i t)∨(∃x t,k=Sum.inr x∧v=Value.str x t)
 | .inl i,v,h=>by
  obtain⟨t,e⟩:=Value.isInt_shape (k:=i) (v:=v) h
  exact .inl ⟨i,t,rfl,e⟩
 | .inr x,v,h=>by
  obtain⟨t,e⟩:=Value.isStrOf_shape (x:=x) (v:=v) h
  exact .inr ⟨x,t,rfl,e⟩
theorem qc (i:Int)(t:Tok):df (.inl i) (.int i t)=true:=by simp [df,Value.isInt]
theorem ql (x:Str)(t:Tok):df (.inr x) (.str x t)=true:=by simp [df,Value.isStrOf]
theorem uT (a b:Int):decide ((Sum.inl a:j6)=Sum.inl b)=(a==b):=by
 by_cases e:a=b
 ·subst e;simp
 ·have h:¬(Sum.inl a:j6)=Sum.inl b:=fun q=>e (Sum.inl.inj q)
  rw[decide_eq_false h]
  exact(beq_eq_false_iff_ne.mpr e).symm
theorem uA (a b:Str):decide ((Sum.inr a:j6)=Sum.inr b)=decide (a=b):=by
 by_cases e:a=b
 ·subst e;simp
 ·have h:¬(Sum.inr a:j6)=Sum.inr b:=fun q=>e (Sum.inr.inj q)
  rw[decide_eq_false h,decide_eq_false e]
theorem rO (a:Int)(b:Str):decide ((Sum.inl a:j6)=Sum.inr b)=false:=decide_eq_false (fun q=>nomatch q)
theorem rJ (a:Str)(b:Int):decide ((Sum.inr a:j6)=Sum.inl b)=false:=decide_eq_false (fun q=>nomatch q)
def q8 (prog:Program)(w:World):PySem.KeyKind prog w j6 where
 is:=df
 hash:=Ca w
 inj:=fun v a b ha hb=>by
  rcases C6 ha with⟨i,t,rfl,rfl⟩|⟨x,t,rfl,rfl⟩
  ·rcases C6 hb with⟨j,u,rfl,e⟩|⟨y,u,rfl,e⟩
   ·injection e with e1 _;rw[e1]
   ·exact nomatch e
  ·rcases C6 hb with⟨j,u,rfl,e⟩|⟨y,u,rfl,e⟩
   ·exact nomatch e
   ·injection e with e1 _;rw[e1]
 byValue:=fun k v h=>by
  rcases C6 h with⟨i,t,rfl,rfl⟩|⟨x,t,rfl,rfl⟩<;>rfl
 pyHash:=fun hv h=>by
  rcases C6 hv with⟨i,t,rfl,rfl⟩|⟨x,t,rfl,rfl⟩
  ·exact wpAny_pyHash_int h
  ·exact wpAny_pyHash_str h
 eqBool:=fun hu hv h=>by
  rcases C6 hu with⟨i,t,rfl,rfl⟩|⟨x,t,rfl,rfl⟩
  ·rcases C6 hv with⟨j,u,rfl,rfl⟩|⟨y,u,rfl,rfl⟩
   ·rw[uT] at h;exact wpAny_eqBool_int h
   ·rw[rO] at h;exact SeqAt.EqAt.int_str i t y u _ _ _ _ h
  ·rcases C6 hv with⟨j,u,rfl,rfl⟩|⟨y,u,rfl,rfl⟩
   ·rw[rJ] at h;exact SeqAt.EqAt.str_int x t j u _ _ _ _ h
   ·rw[uA] at h;exact wpAny_eqBool_str h
 «strs»:=fun k x t v h=>by
  rcases C6 h with⟨i,u,rfl,e⟩|⟨y,u,rfl,e⟩
  ·exact nomatch e
  ·injection e with e1 _
   subst e1
   cases v<;>rfl
theorem lC (prog:Program)(w:World)(i:Int)(t:Tok):(q8 prog w).is (.inl i) (.int i t)=true:=qc i t
theorem kI (prog:Program)(w:World)(x:Str)(t:Tok):(q8 prog w).is (.inr x) (.str x t)=true:=ql x t
end L2
namespace L2
open PySem PySem.Spec PyProof.Rows
inductive V where
 |non|bl (b:Bool)|int (i:Int)|str (x:Str)|byt (b:Array UInt8)|flt (b:UInt64)|ref (a:Addr)|ty (n:String)
 deriving DecidableEq
def RelV:V→Value→Prop
 | .non,u=>u=Value.none
 | .bl b,u=>u=Value.bool b
 | .int i,u=>∃t,u=Value.int i t
 | .str x,u=>∃t,u=Value.str x t
 | .byt b,u=>∃t,u=Value.bytes b t
 | .flt b,u=>∃t,u=Value.float b t
 | .ref a,u=>u=Value.ref a
 | .ty n,u=>u=Value.type n
abbrev Vals:List V→List Value→Prop:=Paired RelV
theorem Vals.length {xs:List V}{us:List Value}(r:Vals xs us):xs.length=us.length:=Paired.length r
theorem Vals.get:∀{xs:List V} {us:List Value} {i:Nat} {x:V},Vals xs us→xs[i]?=some x→∃u,us[i]?=some u∧RelV x u
 |_,_,_,_,.nil,e=>by simp at e
 |_,_,0,_,.cons r _,e=>by simp at e;subst e;exact⟨_,rfl,r⟩
 |_,_,i+1,x,.cons _ t,e=>by
  obtain⟨u,h1,h2⟩:=Vals.get (i:=i) (x:=x) t (by simpa using e)
  exact⟨u,by simpa using h1,h2⟩
theorem Vals.set {x:V}{u:Value}(r:RelV x u):∀{xs:List V} {us:List Value} (i:Nat),Vals xs us→Vals (xs.set i x) (us.set i u)
 |_,_,_,.nil=> .nil
 |_,_,0,.cons _ t=> .cons r t
 |_,_,i+1,.cons q t=> .cons q (Vals.set r i t)
theorem Vals.append:∀{xs ys:List V} {us ws:List Value},Vals xs us→Vals ys ws→Vals (xs++ys) (us++ws)
 |_,_,_,_,.nil,s=>s
 |_,_,_,_,.cons r t,s=> .cons r (Vals.append t s)
theorem Vals.take:∀{xs:List V} {us:List Value} (n:Nat),Vals xs us→Vals (xs.take n) (us.take n)
 |_,_,0,_=> .nil
 |_,_,_+1,.nil=> .nil
 |_,_,n+1,.cons r t=> .cons r (Vals.take n t)
theorem Vals.drop:∀{xs:List V} {us:List Value} (n:Nat),Vals xs us→Vals (xs.drop n) (us.drop n)
 |_,_,0,r=>r
 |_,_,_+1,.nil=> .nil
 |_,_,n+1,.cons _ t=>Vals.drop n t
def RelO:Option V→Option Value→Prop
 |some v,some u=>RelV v u
 |none,none=>True
 |_,_=>False
def KV {κ:Type}:List (κ×V)→List (κ×Value)→Prop:=Paired fun(p:κ×V) (q:κ×Value)=>p.1=q.1∧RelV p.2 q.2
def kV:j6→V
 | .inl i=> .int i
 | .inr x=> .str x
inductive HO where
 |lst (xs:List V)
 |tup (xs:List V)
 |dK (kvs:List (j6×V))|dT (kvs:List (List j6×V))
 |set (S:Int→Bool) (n:Nat)
 |ins (C dx:Addr) (fs:List (Str×V))
 |own (x:Addr)
 |xd (fs:List (Str×V))
 |met (f x:Addr)
 |rng (lo hi:Int)
 |frz (o:Obj) (u:HO)
 |tbl (ps:Array Value)
 |ext (φ:Heap→Prop)
abbrev Hp:=Addr→Option HO
def A5 (H:Hp)(a:Addr)(o:HO):Hp:=fun b=>if b=a then some o else H b
theorem g7 {H:Hp}{a:Addr}{o:HO}:A5 H a o a=some o:=by unfold A5;rw[if_pos rfl]
theorem d6 {H:Hp}{a b:Addr}{o:HO}(h:b≠a):A5 H a o b=H b:=by unfold A5;rw[if_neg h]
theorem Bj {H:Hp}{a b:Addr}{o u:HO}(h:H a=some o)(h':H b=some u)(d:o≠u):a≠b:=by
 intro e;subst e;rw[h] at h';exact d (Option.some.inj h')
theorem i6 {H:Hp}{a b:Addr}{o:HO}(h:H a=some o)(h':H b=none):a≠b:=by
 intro e;subst e;rw[h] at h';cases h'
section
variable (P:Program) (w:World)
def ObjOk (H:Hp)(h:Heap)(a:Addr):HO→Prop
 | .lst xs=>xs.length≤sizeLine∧∃(its:List Value) (n:Nat),Vals xs its∧h.get? a=some {cls:= .type "list",data:= .seq its.toArray n}
 | .tup xs=>xs.length≤sizeLine∧∃its:List Value,Vals xs its∧IsTup h a its.toArray
 | .dK kvs=>kvs.length≤sizeLine∧(a==sysModules)=false∧∃vs,KV kvs vs∧h.DictOf (q8 P w) a vs
 | .dT kvs=>kvs.length≤sizeLine∧(a==sysModules)=false∧∃xs:List (List j6×Addr×Value),
   Paired (fun(p:List j6×V) (q:List j6×Addr×Value)=>p.1=q.1∧H q.2.1=some (.tup (p.1.map kV))∧RelV p.2 q.2.2) kvs xs∧
   ∃o es ep,h.get? a=some o∧o.ExactDict∧o.data= .dict es ep∧es.toList=xs.map (entryOfKey (tupleKind (q8 P w)))∧(xs.map (·.1)).Nodup
 | .set S n=>h.SetOf (intKind P w) a S n
 | .ins C dx fs=>H dx=some (.own a)∧fs.length≤1000∧dx≠a∧h.get? a=some (PySem.W.instObj C dx)∧
   ∃mA,h.Ns1 dx mA∧(∀f,RelO (fs.lookup f) (mA f))∧PySem.Within mA (fs.map (·.1))
 | .own _=>∃o,h.get? a=some o
 | .xd fs=>∃mA,h.Ns1 a mA∧∀f,RelO (fs.lookup f) (mA f)
 | .rng lo hi=>∃t u v,h.get? a=some {cls:= .type "range",data:= .fields #[.int lo t,.int hi u,.int 1 v]}
 | .frz o u=>h.get? a=some o∧ObjOk H h a u
 | .tbl ps=>h.get? a=some {cls:= .none,data:= .fields ps}
 | .met f x=>h.get? a=some (PySem.W.methodObj (.ref f) (.ref x))
 | .ext φ=>φ h∧(∃o,h.get? a=some o)∧∀h1 h2:Heap,φ h1→(∀o,h1.get? a=some o→h2.get? a=some o)→φ h2
def HOk (H:Hp)(h:Heap):Prop:=∀a o,H a=some o→ObjOk P w H h a o
end
section
variable {P:Program} {w:World} {H H':Hp} {h h':Heap} {a:Addr} {o:HO}
theorem ObjOk.lt (x:ObjOk P w H h a o):a<h.objs.size:=by
 cases o with
 |lst xs=>obtain⟨_,_,_,_,e⟩:=x;exact Heap.lt_size e
 |tup xs=>obtain⟨_,_,_,p⟩:=x;exact p.lt
 |dK kvs=>obtain⟨_,_,_,_,o,_,_,e,_⟩:=x;exact Heap.lt_size e
 |dT kvs=>obtain⟨_,_,_,_,o,_,_,e,_⟩:=x;exact Heap.lt_size e
 |set S n=>obtain⟨o,_,_,_,e,_⟩:=x;exact Heap.lt_size e
 |ins C dx fs=>obtain⟨_,_,_,e,_⟩:=x;exact Heap.lt_size e
 |own y=>obtain⟨_,e⟩:=x;exact Heap.lt_size e
 |xd fs=>obtain⟨_,⟨_,_,_,e,_⟩,_⟩:=x;exact Heap.lt_size e
 |rng lo hi=>obtain⟨_,_,_,e⟩:=x;exact Heap.lt_size e
 |frz ob u=>obtain⟨e,_⟩:=x;exact Heap.lt_size e
 |tbl ps=>exact Heap.lt_size (show h.get? a=some _ from x)
 |met f y=>exact Heap.lt_size (show h.get? a=some _ from x)
 |ext φ=>obtain⟨_,⟨_,e⟩,_⟩:=x;exact Heap.lt_size e
theorem Paired.mapP {α β:Type}{F G:α→β→Prop}:∀{l₁:List α} {l₂:List β},Paired F l₁ l₂→(∀a b,F a b→G a b)→Paired G l₁ l₂
 |_,_,.nil,_=> .nil
 |_,_,.cons r t,f=> .cons (f _ _ r) (Paired.mapP t f)
theorem Paired.imp' {α β:Type}{F G:α→β→Prop}(f:∀a b,F a b→G a b){l₁:List α}{l₂:List β}(r:Paired F l₁ l₂):Paired G l₁ l₂:=Paired.mapP r f
theorem ObjOk.stay (x:ObjOk P w H h a o)(k:∀b u,(b=a∨H b=some (.own a))→h.get? b=some u→h'.get? b=some u)
  (ho:∀b,H b=some (.own a)→H' b=some (.own a)) (ht:∀b xs,H b=some (.tup xs)→H' b=some (.tup xs)):ObjOk P w H' h' a o:=by
 induction o with
 |lst xs=>obtain⟨z,its,n,r,e⟩:=x;exact⟨z,its,n,r,k _ _ (.inl rfl) e⟩
 |tup xs=>obtain⟨z,its,r,ob,e,c⟩:=x;exact⟨z,its,r,ob,k _ _ (.inl rfl) e,c⟩
 |dK kvs=>obtain⟨z,y,vs,r,ob,es,ep,e,c⟩:=x;exact⟨z,y,vs,r,ob,es,ep,k _ _ (.inl rfl) e,c⟩
 |dT kvs=>
  obtain⟨z,y,xs,r,ob,es,ep,e,c⟩:=x
  exact⟨z,y,xs,Paired.mapP r fun p q z=>⟨z.1,ht _ _ z.2.1,z.2.2⟩,ob,es,ep,k _ _ (.inl rfl) e,c⟩
 |set S n=>obtain⟨ob,es,ep,t,e,c⟩:=x;exact⟨ob,es,ep,t,k _ _ (.inl rfl) e,c⟩
 |ins C dx fs=>
  obtain⟨d,z,ne,e,mA,⟨od,es,ep,e2,c⟩,r⟩:=x
  exact⟨ho _ d,z,ne,k _ _ (.inl rfl) e,mA,⟨od,es,ep,k _ _ (.inr d) e2,c⟩,r⟩
 |own y=>obtain⟨ob,e⟩:=x;exact⟨ob,k _ _ (.inl rfl) e⟩
 |xd fs=>obtain⟨mA,⟨od,es,ep,e,c⟩,r⟩:=x;exact⟨mA,⟨od,es,ep,k _ _ (.inl rfl) e,c⟩,r⟩
 |rng lo hi=>obtain⟨t,u,v,e⟩:=x;exact⟨t,u,v,k _ _ (.inl rfl) e⟩
 |frz ob u ih=>obtain⟨e,q⟩:=x;exact⟨k _ _ (.inl rfl) e,ih q⟩
 |tbl ps=>
  have e:h.get? a=some {cls:= .none,data:= .fields ps}:=x
  show h'.get? a=some {cls:= .none,data:= .fields ps}
  exact k a _ (.inl rfl) e
 |met f y=>
  have e:h.get? a=some (PySem.W.methodObj (.ref f) (.ref y)):=x
  show h'.get? a=some (PySem.W.methodObj (.ref f) (.ref y))
  exact k a _ (.inl rfl) e
 |ext φ=>obtain⟨p,⟨o,e⟩,st⟩:=x;exact⟨st _ _ p fun o q=>k _ _ (.inl rfl) q,⟨o,k _ _ (.inl rfl) e⟩,st⟩
theorem HOk.lt (x:HOk P w H h)(e:H a=some o):a<h.objs.size:=(x a o e).lt
theorem HOk.fresh (x:HOk P w H h)(e:h.objs.size≤a):H a=none:=by
 cases q:H a with
 |none=>rfl
 |some u=>exact absurd (Nat.lt_of_lt_of_le (x.lt q) e) (Nat.lt_irrefl _)
theorem HOk.kept (x:HOk P w H h)(k:∀b u,h.get? b=some u→h'.get? b=some u):HOk P w H h':=fun a o e=>
 (x a o e).stay (fun b u _ q=>k b u q) (fun _ q=>q) fun _ _ q=>q
theorem HOk.laid (x:HOk P w H h)(k:∀b u,h.get? b=some u→h'.get? b=some u)(hp:h.objs.size≤a)(new:ObjOk P w (A5 H a o) h' a o):HOk P w (A5 H a o) h':=fun b u e=>by
 have hn:=x.fresh hp
 by_cases hb:b=a
 ·subst hb;rw[g7] at e;cases e;exact new
 ·rw[d6 hb] at e
  exact(x b u e).stay (fun c v _ q=>k c v q) (fun c q=>by rw[d6 (i6 q hn)];exact q) fun c xs q=>by rw[d6 (i6 q hn)];exact q
end
def Rd (H:Hp)(a:Addr)(u:HO):Prop:=H a=some u∨∃o,H a=some (.frz o u)
theorem Rd.ok {P:Program}{w:World}{H:Hp}{h:Heap}{a:Addr}{u:HO}(r:Rd H a u)(x:HOk P w H h):ObjOk P w H h a u:=by
 rcases r with r|⟨o,r⟩
 ·exact x a u r
 ·obtain⟨_,q⟩:=x a _ r
  exact q
def BV:Option HO→Prop
 |some (.lst _)=>True
 |some (.dK _)=>True
 |some (.dT _)=>True
 |some (.set _ _)=>True
 |some (.ins _ _ _)=>True
 |some (.ext _)=>True
 |_=>False
section
variable {P:Program} {w:World} {H:Hp} {h h':Heap} {x e:Addr} {o':HO}
theorem HOk.write (ok:HOk P w H h)(mu:BV (H x))(he:e=x∨H e=some (.own x))(k:∀b u,b≠e→h.get? b=some u→h'.get? b=some u)(heo:∃u,h'.get? e=some u)
  (new:ObjOk P w (A5 H x o') h' x o'):HOk P w (A5 H x o') h':=fun b u q=>by
 have nown:∀c y,H c=some (.own y)→c≠x:=fun c y r z=>by subst z;rw[r] at mu;exact mu
 have ntup:∀c xs,H c=some (.tup xs)→c≠x:=fun c xs r z=>by subst z;rw[r] at mu;exact mu
 by_cases hb:b=x
 ·subst hb;rw[g7] at q;cases q;exact new
 ·rw[d6 hb] at q
  by_cases hbe:b=e
  ·have q':H b=some (.own x):=by
    rcases he with z|z
    ·exact absurd (hbe.trans z) hb
    ·rw[hbe];exact z
   rw[q] at q';cases q'
   obtain⟨v,hv⟩:=heo
   exact⟨v,by rw[hbe];exact hv⟩
  ·refine(ok b u q).stay (fun c v hc r=>k c v ?_ r) (fun c r=>by rw[d6 (nown c b r)];exact r) fun c xs r=>by rw[d6 (ntup c xs r)];exact r
   rcases hc with rfl|hc
   ·exact hbe
   ·rintro rfl
    rcases he with z|z
    ·exact nown c b hc z
    ·rw[hc] at z;cases z;exact hb rfl
end
structure Un (fs ex:List Addr) (H H':Hp) (h h':Heap):Prop where
 keep:∀b o,h.get? b=some o→H b=none→b∉fs→b∉ex→h'.get? b=some o
 slot:∀b o,h.get? b=some o→H b=none→b∈fs→b∉ex→∃sl,h'.get? b=some {o with slots:=sl}
 free:∀b o,h.get? b=some o→H b=none→b∉ex→H' b=none
 there:∀b o,h.get? b=some o→b∉ex→∃o',h'.get? b=some o'
 tups:∀b xs,H b=some (.tup xs)→H' b=some (.tup xs)
 frzs:∀b o u,H b=some (.frz o u)→H' b=some (.frz o u)
 tbls:∀b ps,H b=some (.tbl ps)→∃more,H' b=some (.tbl (ps++more))
section
variable {fs fs' ex ex':List Addr} {H H1 H2:Hp} {h h1 h2 h':Heap} {a x e:Addr} {o:HO}
theorem Un.any (u:Un fs ex H H1 h h1){b:Addr}{ob:Obj}(q:h.get? b=some ob)(n:H b=none)(hx:b∉ex):∃sl,h1.get? b=some {ob with slots:=sl}:=by
 by_cases hb:b∈fs
 ·exact u.slot b ob q n hb hx
 ·exact⟨ob.slots,u.keep b ob q n hb hx⟩
theorem Un.kept (k:∀b u,h.get? b=some u→h'.get? b=some u):Un fs ex H H h h':=
 ⟨fun b ob q _ _ _=>k b ob q,fun b ob q _ _ _=>⟨ob.slots,k b ob q⟩,fun _ _ _ n _=>n,fun b ob q _=>⟨ob,k b ob q⟩,fun _ _ q=>q,fun _ _ _ q=>q,fun _ ps q=>⟨#[],by rw[q];simp⟩⟩
theorem Un.refl:Un fs ex H H h h:=Un.kept fun _ _ q=>q
theorem Un.laid (k:∀b u,h.get? b=some u→h'.get? b=some u)(hp:h.objs.size≤a)(hn:H a=none):Un fs ex H (A5 H a o) h h' where
 keep:=fun b u q _ _ _=>k b u q
 slot:=fun b u q _ _ _=>⟨u.slots,k b u q⟩
 free:=fun b u q n _=>by rw[d6 (Nat.ne_of_lt (Nat.lt_of_lt_of_le (Heap.lt_size q) hp))];exact n
 there:=fun b u q _=>⟨u,k b u q⟩
 tups:=fun b xs q=>by rw[d6 (i6 q hn)];exact q
 frzs:=fun b u xs q=>by rw[d6 (i6 q hn)];exact q
 tbls:=fun b ps q=>⟨#[],by rw[d6 (i6 q hn),q];simp⟩
theorem Un.write (mu:BV (H x))(he:e=x∨H e=some (.own x))(k:∀b u,b≠e→h.get? b=some u→h'.get? b=some u)(heo:∃u,h'.get? e=some u):Un fs ex H (A5 H x o) h h':=by
 have hx:∀b,H b=none→b≠x:=fun b n z=>by subst z;rw[n] at mu;exact mu
 have hb:∀b,H b=none→b≠e:=fun b n z=>by
  subst z
  rcases he with r|r
  ·exact hx b n r
  ·rw[n] at r;cases r
 have hm:∀b u,H b=some u→¬BV (some u)→b≠x:=fun b u q nm z=>by subst z;rw[q] at mu;exact nm mu
 refine⟨fun b u q n _ _=>k b u (hb b n) q,fun b u q n _ _=>⟨u.slots,k b u (hb b n) q⟩,fun b u q n _=>by rw[d6 (hx b n)];exact n,fun b u q _=>?_,
  fun b xs q=>by rw[d6 (hm b _ q fun z=>z)];exact q,fun b u xs q=>by rw[d6 (hm b _ q fun z=>z)];exact q,fun b ps q=>⟨#[],by rw[d6 (hm b _ q fun z=>z),q];simp⟩⟩
 by_cases hbe:b=e
 ·subst hbe;exact heo
 ·exact⟨u,k b u hbe q⟩
end
def Cj (h:Heap)(H:Hp):List Addr:=(List.range h.objs.size).filter fun a=>(H a).isSome
def ky (h:Heap)(H:Hp):Heap:=PySem.W.hideAll h (Cj h H)
theorem qh (h:Heap)(H:Hp):(ky h H).objs.size=h.objs.size:=PySem.W.hideAll_size _ _
theorem su {h:Heap}{H:Hp}{b:Addr}{o:Obj}(e:h.get? b=some o)(n:H b=none):(ky h H).get? b=some o:=
 PySem.W.hideAll_get _ e fun hm=>by
  have q:(H b).isSome=true:=(List.mem_filter.mp hm).2
  rw[n] at q;simp at q
theorem wJ {h:Heap}{H:Hp}{b:Addr}{o:Obj}(e:(ky h H).get? b=some o):h.get? b=some o∧H b=none:=by
 have e':h.get? b=some o:=PySem.W.of_hideAll (Cj h H) e
 refine⟨e',?_⟩
 cases q:H b with
 |none=>rfl
 |some x=>
  have hm:b∈Cj h H:=List.mem_filter.mpr ⟨List.mem_range.mpr (Heap.lt_size e'),by simp [q]⟩
  have z:(ky h H).get? b=none:=PySem.W.hideAll_none (Cj h H) hm
  rw[z] at e;cases e
def vL (g h:Heap)(L:Addr):List (Addr×Obj):=(List.range h.objs.size).filterMap fun a=>if a=L∨(g.get? a).isSome=true then none else(h.get? a).map fun o=>(a,o)
def bS (g h:Heap)(L d:Addr):List (Addr×Obj):=(vL g h L).filter fun p=>decide (p.1≠d)
end L2
namespace L2
open PySem PySem.Spec PyProof.Rows
structure Mod (K:PySem.W.Frag) (mg:Str→Option Value) (base:Heap):Prop where
 kin:K.In base
 glob:base.Ns mainGlobals mg
 blt:∃mb,base.Ns builtinsNs mb∧∀x:Str,x≠"__name__"→mb x=bootBuiltins x
 nolimit:base.NoLimit
structure Cx where
 prog:Program
 w:World
 K:PySem.W.Frag
 mg:Str→Option Value
 base:Heap
 A:Around
 N:List Str
 s₀:Shared
 H₀:Hp
 env:Env
 outer:List Env
 stack:List Env
 ex:List Addr
 fn:Str→Bool
 calm:Bool
 pn:List (Addr×Obj)
 xe:Value→Shared→Prop
def T7 (l:List Env):List Addr:=l.filterMap (·.frame)
abbrev Cx.fs (X:Cx):List Addr:=T7 X.outer
def CI (sc:Scope)(x:Str):Prop:=sc.names.lookup x=some .local∨sc.names.lookup x=some .cell∨sc.names.lookup x=some .free
def vp (sc:Scope)(x:Str):Prop:=sc.names.lookup x=some .local∨sc.names.lookup x=some .cell
def CL (env:Env)(h:Heap)(m:Str→Option Value)(x:Str)(u:Value):Prop:=
 (env.kindOf x=some .local∧m x=some u)∨((env.kindOf x=some .cell∨env.kindOf x=some .free)∧∃c,env.cells.lookup x=some c∧h.IsCell c (some u))
structure Cx.Ok (X:Cx):Prop where
 mod:Mod X.K X.mg X.base
 kind:X.env.scope.kind= .function
 glob:X.env.globals=mainGlobals
 blt:X.env.builtins=builtinsNs
 above:X.s₀.heap.objs.size≤X.env.locals
 inj:∀x y c,X.env.cells.lookup x=some c→X.env.cells.lookup y=some c→x=y
 has:∀x,(X.env.kindOf x=some .cell∨X.env.kindOf x=some .free)→∃c,X.env.cells.lookup x=some c
 cab:∀x c,X.fn x=true→X.env.cells.lookup x=some c→X.s₀.heap.objs.size≤c
 hd:X.calm=true→X.A.handled=none
 frames:X.A.frames=some X.stack
 stk:X.stack=X.outer∨(X.stack=X.env::X.outer∧X.env.frame=some X.env.locals)
 exf:∀b∈X.ex,b≠X.env.locals∧∀x c,X.env.cells.lookup x=some c→c≠b
 bs:∀b o,X.base.get? b=some o→X.s₀.heap.get? b=some o∧X.H₀ b=none
 bsz:X.base.objs.size≤X.s₀.heap.objs.size
 noex:∀b o,X.base.get? b=some o→b∉X.ex
 exfs:∀b∈X.ex,b∉X.fs
 funs:X.s₀.heap.FunFrames X.base X.outer
 frf:∀b∈X.fs,X.H₀ b=none
structure Inv (X:Cx) (pins:List (Addr×Obj)) (σ:List (Option V)) (H:Hp) (s:Shared):Prop where
 ok:X.Ok
 os:s.os=X.s₀.os
 bare:AllBare s.gens
 base:Un X.fs X.ex X.H₀ H X.s₀.heap s.heap
 loc:∃m,s.heap.Ns X.env.locals m∧∀(i:Nat) (x:Str) (v:V),X.N[i]?=some x→σ[i]?=some (some v)→CI X.env.scope x→∃u,RelV v u∧CL X.env s.heap m x u
 cell:∀x c,X.env.cells.lookup x=some c→∃v,s.heap.IsCell c v
 free:H X.env.locals=none
 freeC:∀x c,X.env.cells.lookup x=some c→H c=none
 pin:∀p∈X.pn++pins,s.heap.get? p.1=some p.2∧H p.1=none∧p.1≠X.env.locals∧p.1∉X.fs∧∀v,p.2.data≠ .cell v
 hok:HOk X.prog X.w H s.heap
 len:σ.length=X.N.length
section
variable {X:Cx} {pins:List (Addr×Obj)} {σ:List (Option V)} {H H':Hp} {s:Shared} {h':Heap}
theorem Cx.Ok.nofr (ok:X.Ok){b:Addr}{o:Obj}(e:X.base.get? b=some o):b∉X.fs:=fun hb=>by
 have:=(ok.funs.mem hb).1
 rw[e] at this;cases this
theorem Inv.bs (I:Inv X pins σ H s):∀b o,X.base.get? b=some o→s.heap.get? b=some o∧H b=none:=fun b o e=>
 ⟨I.base.keep b o (I.ok.bs b o e).1 (I.ok.bs b o e).2 (I.ok.nofr e) (I.ok.noex b o e),I.base.free b o (I.ok.bs b o e).1 (I.ok.bs b o e).2 (I.ok.noex b o e)⟩
theorem Inv.bk (I:Inv X pins σ H s):∀b o,X.base.get? b=some o→s.heap.get? b=some o:=fun b o e=>(I.bs b o e).1
theorem Inv.mod (I:Inv X pins σ H s):Mod X.K X.mg X.base:=I.ok.mod
theorem Inv.kIn (I:Inv X pins σ H s):X.K.In s.heap:=I.ok.mod.kin.keeps I.bk
theorem Inv.lt (I:Inv X pins σ H s):X.env.locals<s.heap.objs.size:=let ⟨_,hn,_⟩:=I.loc;hn.lt
theorem Inv.sz (I:Inv X pins σ H s):X.s₀.heap.objs.size≤s.heap.objs.size:=Nat.le_trans I.ok.above (Nat.le_of_lt I.lt)
theorem Inv.nofs (I:Inv X pins σ H s){a:Addr}(h:s.heap.objs.size≤a):a∉X.fs:=fun hb=>by
 obtain⟨_,o,ho,_⟩:=I.ok.funs.mem hb
 exact absurd (Nat.lt_of_lt_of_le (Heap.lt_size ho) (Nat.le_trans I.sz h)) (Nat.lt_irrefl _)
theorem Inv.cne (I:Inv X pins σ H s):∀x c,X.env.cells.lookup x=some c→c≠X.env.locals:=fun x c e z=>by
 obtain⟨v,o,ho,hd⟩:=I.cell x c e
 obtain⟨m,⟨o',es,ep,ho',hd',_⟩,_⟩:=I.loc
 rw[z,ho'] at ho;cases ho;rw[hd'] at hd;cases hd
theorem Inv.funs (I:Inv X pins σ H s):s.heap.FunFrames X.base X.outer:=by
 have all:∀(l:List Env),(∀b∈T7 l,b∈X.fs)→X.s₀.heap.FunFrames X.base l→s.heap.FunFrames X.base l:=by
  intro l
  induction l with
  |nil=>intro _ _;trivial
  |cons env r ih=>
   intro hs hl
   obtain⟨hk,⟨L,o,hf,hn,ho,hd⟩,hr⟩:=hl
   have hL:L∈X.fs:=hs L (by unfold T7;rw[List.filterMap_cons,hf];exact List.mem_cons_self)
   obtain⟨sl,e⟩:=I.base.slot L o ho (I.ok.frf L hL) hL fun z=>I.ok.exfs L z hL
   exact⟨hk,⟨L,_,hf,hn,e,hd⟩,ih (fun b hb=>hs b (by unfold T7;rw[List.filterMap_cons,hf];exact List.mem_cons_of_mem _ hb)) hr⟩
 exact all X.outer (fun _ hb=>hb) I.ok.funs
theorem Inv.stack (I:Inv X pins σ H s):s.heap.FunFrames X.base X.stack:=by
 rcases I.ok.stk with e|⟨e,hf⟩
 ·rw[e];exact I.funs
 ·rw[e]
  obtain⟨m,hn,_⟩:=I.loc
  refine .cons (by rw[I.ok.kind];decide) hf hn ?_ I.funs
  exact Heap.get?_none_of_le (Nat.le_trans I.ok.bsz I.ok.above)
theorem Inv.stkSub (I:Inv X pins σ H s):∀b∈T7 X.stack,b∈X.env.locals::X.fs:=fun b hb=>by
 rcases I.ok.stk with e|⟨e,hf⟩
 ·rw[e] at hb;exact List.mem_cons_of_mem _ hb
 ·rw[e] at hb
  unfold T7 at hb
  rw[List.filterMap_cons,hf] at hb
  exact hb
theorem Inv.stkFree (I:Inv X pins σ H s):∀b∈T7 X.stack,H b=none:=fun b hb=>by
 rcases List.mem_cons.mp (I.stkSub b hb) with e|hb
 ·rw[e];exact I.free
 ·obtain⟨_,o,ho,_⟩:=I.ok.funs.mem hb
  exact I.base.free b o ho (I.ok.frf b hb) fun z=>I.ok.exfs b z hb
theorem Inv.step {g':Array GenState}{t':Nat}{d':Drawn}{ch:List Addr}(I:Inv X pins σ H s)
  (hch:∀b∈ch,(b∈X.ex∨X.s₀.heap.objs.size≤b)∧b≠X.env.locals∧(∀x c,X.env.cells.lookup x=some c→c≠b)∧∀p∈X.pn++pins,p.1≠b)
  (keep:∀b o,b≠X.env.locals→b∉X.fs→b∉ch→s.heap.get? b=some o→H b=none→h'.get? b=some o)
  (slot:∀b o,b≠X.env.locals→b∈X.fs→b∉ch→s.heap.get? b=some o→H b=none→∃sl,h'.get? b=some {o with slots:=sl}) (free:∀b o,b∉ch→s.heap.get? b=some o→H b=none→H' b=none)
  (there:∀b o,b∉ch→s.heap.get? b=some o→∃o',h'.get? b=some o')
  (tups:∀b xs,H b=some (.tup xs)→H' b=some (.tup xs)) (frzs:∀b o u,H b=some (.frz o u)→H' b=some (.frz o u)) (tbls:∀b ps,H b=some (.tbl ps)→∃more,H' b=some (.tbl (ps++more)))
  (ns:∀m,s.heap.Ns X.env.locals m→h'.Ns X.env.locals m) (hok:HOk X.prog X.w H' h') (hg:AllBare g'):
  Inv X pins σ H' {s with heap:=h',gens:=g',drawn:=d',toks:=t'}:=by
 have neL:∀b o,X.s₀.heap.get? b=some o→b≠X.env.locals:=fun b o e=>Nat.ne_of_lt (Nat.lt_of_lt_of_le (Heap.lt_size e) I.ok.above)
 have neC:∀b o,X.s₀.heap.get? b=some o→b∉X.ex→b∉ch:=fun b o e hx hb=>by
  rcases(hch b hb).1 with z|z
  ·exact hx z
  ·exact absurd (Nat.lt_of_lt_of_le (Heap.lt_size e) z) (Nat.lt_irrefl _)
 have cellK:∀x c,X.env.cells.lookup x=some c→∀v,s.heap.IsCell c v→h'.IsCell c v:=fun x c e v ⟨o,ho,hd⟩=>by
  have nch:c∉ch:=fun z=>(hch c z).2.2.1 x c e rfl
  by_cases hc:c∈X.fs
  ·obtain⟨sl,q⟩:=slot c o (I.cne x c e) hc nch ho (I.freeC x c e)
   exact⟨_,q,hd⟩
  ·exact⟨o,keep c o (I.cne x c e) hc nch ho (I.freeC x c e),hd⟩
 refine⟨I.ok,I.os,hg,⟨fun b o e n hb hx=>?_,fun b o e n hb hx=>?_,fun b o e n hx=>?_,fun b o e hx=>?_,fun b xs e=>tups b xs (I.base.tups b xs e),fun b o xs e=>frzs b o xs (I.base.frzs b o xs e),fun b ps e=>?_⟩,?_,fun x c e=>?_,?_,fun x c e=>?_,fun p hp=>?_,hok,I.len⟩
 ·exact keep b o (neL b o e) hb (neC b o e hx) (I.base.keep b o e n hb hx) (I.base.free b o e n hx)
 ·obtain⟨sl,e1⟩:=I.base.slot b o e n hb hx
  obtain⟨sl',e2⟩:=slot b _ (neL b o e) hb (neC b o e hx) e1 (I.base.free b o e n hx)
  exact⟨sl',e2⟩
 ·obtain⟨o',e1⟩:=I.base.there b o e hx
  exact free b o' (neC b o e hx) e1 (I.base.free b o e n hx)
 ·obtain⟨o',e1⟩:=I.base.there b o e hx
  exact there b o' (neC b o e hx) e1
 ·obtain⟨m1,e1⟩:=I.base.tbls b ps e
  obtain⟨m2,e2⟩:=tbls b _ e1
  exact⟨m1++m2,by rw[e2,Array.append_assoc]⟩
 ·obtain⟨m,hn,hl⟩:=I.loc
  refine⟨m,ns m hn,fun i x v e1 e2 e3=>?_⟩
  obtain⟨u,r,l⟩:=hl i x v e1 e2 e3
  refine⟨u,r,?_⟩
  rcases l with l|⟨k,c,e,z⟩
  ·exact .inl l
  ·exact .inr ⟨k,c,e,cellK x c e _ z⟩
 ·obtain⟨v,z⟩:=I.cell x c e
  exact⟨v,cellK x c e v z⟩
 ·obtain⟨m,⟨o,_,_,ho,_⟩,_⟩:=I.loc
  exact free _ o (fun z=>(hch _ z).2.1 rfl) ho I.free
 ·obtain⟨v,o,ho,hd⟩:=I.cell x c e
  exact free c o (fun z=>(hch c z).2.2.1 x c e rfl) ho (I.freeC x c e)
 ·obtain⟨e,n,ne,nf,d⟩:=I.pin p hp
  have nch:p.1∉ch:=fun z=>(hch p.1 z).2.2.2 p hp rfl
  exact⟨keep p.1 p.2 ne nf nch e n,free p.1 p.2 nch e n,ne,nf,d⟩
theorem Inv.un {t':Nat}(I:Inv X pins σ H s)(u:Un X.fs [] H H' s.heap h')(hok:HOk X.prog X.w H' h'):Inv X pins σ H' {s with heap:=h',toks:=t'}:=by
 obtain⟨m,⟨o,es,ep,ho,r⟩,_⟩:=id I.loc
 obtain⟨sl,hL⟩:=u.any ho I.free (by simp)
 exact I.step (g':=s.gens) (d':=s.drawn) (ch:=[]) (fun _ z=>nomatch z) (fun b o _ hb _ e n=>u.keep b o e n hb (by simp)) (fun b o _ hb _ e n=>u.slot b o e n hb (by simp)) (fun b o _ e n=>u.free b o e n (by simp)) (fun b o _ e=>u.there b o e (by simp)) u.tups u.frzs u.tbls (fun m' hm=>by
  obtain⟨o',es',ep',ho',r'⟩:=hm
  rw[ho] at ho';cases ho'
  exact⟨_,es',ep',hL,r'⟩) hok I.bare
theorem Inv.call {g':Array GenState}{t':Nat}{d':Drawn}{ch:List Addr}(I:Inv X pins σ H s)(u:Un (T7 X.stack) ch H H' s.heap h')(hok:HOk X.prog X.w H' h')(hg:AllBare g')
  (hch:∀b∈ch,(b∈X.ex∨X.s₀.heap.objs.size≤b)∧b≠X.env.locals∧(∀x c,X.env.cells.lookup x=some c→c≠b)∧∀p∈X.pn++pins,p.1≠b):
  Inv X pins σ H' {s with heap:=h',gens:=g',drawn:=d',toks:=t'}:=by
 obtain⟨m,⟨o,es,ep,ho,r⟩,_⟩:=id I.loc
 obtain⟨sl,hL⟩:=u.any ho I.free fun z=>(hch _ z).2.1 rfl
 exact I.step (ch:=ch) hch (fun b o hL hb hc e n=>u.keep b o e n (fun z=>(List.mem_cons.mp (I.stkSub b z)).elim hL hb) hc) (fun b o _ _ hc e n=>u.any e n hc) (fun b o hc e n=>u.free b o e n hc) (fun b o hc e=>u.there b o e hc) u.tups u.frzs u.tbls (fun m' hm=>by
  obtain⟨o',es',ep',ho',r'⟩:=hm
  rw[ho] at ho';cases ho'
  exact⟨_,es',ep',hL,r'⟩) hok hg
theorem Inv.turned {t':Nat}{it:Addr}(I:Inv X pins σ H s)(k:∀b o,b≠it→s.heap.get? b=some o→h'.get? b=some o)(hn:H it=none)(hL:it≠X.env.locals)
  (h1:it∈X.ex∨X.s₀.heap.objs.size≤it) (h2:∀x c,X.env.cells.lookup x=some c→c≠it) (h3:∀p∈X.pn++pins,p.1≠it):Inv X pins σ H {s with heap:=h',toks:=t'}:=by
 have nit:∀b u,H b=some u→b≠it:=fun b u e z=>by rw[z,hn] at e;cases e
 refine I.step (g':=s.gens) (d':=s.drawn) (ch:=[it]) (fun b hb=>?_) (fun b o _ _ hc e _=>k b o (fun z=>hc (by simp [z])) e) (fun b o _ _ hc e _=>⟨o.slots,k b o (fun z=>hc (by simp [z])) e⟩) (fun _ _ _ _ n=>n)
  (fun b o hc e=>⟨o,k b o (fun z=>hc (by simp [z])) e⟩) (fun _ _ e=>e) (fun _ _ _ e=>e) (fun b ps e=>⟨#[],by rw[e];simp⟩) (fun m hm=>?_) (fun b u e=>?_) I.bare
 ·have e:b=it:=by simpa using hb
  subst e
  exact⟨h1,hL,h2,h3⟩
 ·obtain⟨o,es,ep,ho,r⟩:=hm
  exact⟨o,es,ep,k _ o (Ne.symm hL) ho,r⟩
 ·refine(I.hok b u e).stay (fun c v hc q=>k c v ?_ q) (fun _ q=>q) fun _ _ q=>q
  rcases hc with z|z
  ·rw[z];exact nit b u e
  ·exact nit c _ z
theorem Inv.tok (I:Inv X pins σ H s)(t:Nat):Inv X pins σ H {s with toks:=t}:=I.un (h':=s.heap) (t':=t) Un.refl I.hok
theorem Inv.kept {t':Nat}(I:Inv X pins σ H s)(k:∀b u,s.heap.get? b=some u→h'.get? b=some u):Inv X pins σ H {s with heap:=h',toks:=t'}:=I.un (Un.kept k) (I.hok.kept k)
theorem Inv.laid {a:Addr}{o:HO}{t':Nat}(I:Inv X pins σ H s)(k:∀b u,s.heap.get? b=some u→h'.get? b=some u)(hp:s.heap.objs.size≤a)(new:ObjOk X.prog X.w (A5 H a o) h' a o):
  Inv X pins σ (A5 H a o) {s with heap:=h',toks:=t'}:=I.un (Un.laid k hp (I.hok.fresh hp)) (I.hok.laid k hp new)
theorem Inv.write {x e:Addr}{o:HO}{t':Nat}(I:Inv X pins σ H s)(mu:BV (H x))(he:e=x∨H e=some (.own x))(k:∀b u,b≠e→s.heap.get? b=some u→h'.get? b=some u)(heo:∃u,h'.get? e=some u)
  (new:ObjOk X.prog X.w (A5 H x o) h' x o):Inv X pins σ (A5 H x o) {s with heap:=h',toks:=t'}:=I.un (Un.write mu he k heo) (I.hok.write mu he k heo new)
theorem Inv.weak {σ':List (Option V)}(I:Inv X pins σ H s)(hl:σ'.length=σ.length)(w:∀(i:Nat) v,σ'[i]?=some (some v)→σ[i]?=some (some v)):Inv X pins σ' H s:=
 ⟨I.ok,I.os,I.bare,I.base,let ⟨m,hn,hl'⟩:=I.loc;⟨m,hn,fun i x v e1 e2 e3=>hl' i x v e1 (w i v e2) e3⟩,I.cell,I.free,I.freeC,I.pin,I.hok,hl.trans I.len⟩
theorem Inv.pins_of {pins':List (Addr×Obj)}(I:Inv X pins σ H s)(h:∀p∈pins',s.heap.get? p.1=some p.2∧H p.1=none∧p.1≠X.env.locals∧p.1∉X.fs∧∀v,p.2.data≠ .cell v):Inv X pins' σ H s:=
 ⟨I.ok,I.os,I.bare,I.base,I.loc,I.cell,I.free,I.freeC,fun p hp=>(List.mem_append.mp hp).elim (fun z=>I.pin p (List.mem_append_left _ z)) (h p),I.hok,I.len⟩
theorem gy {N:List Str}(hN:N.Nodup){i j:Nat}{x:Str}(a:N[i]?=some x)(b:N[j]?=some x):i=j:=by
 obtain⟨h1,e1⟩:=List.getElem?_eq_some_iff.mp a
 obtain⟨h2,e2⟩:=List.getElem?_eq_some_iff.mp b
 exact(List.getElem_inj hN).mp (e1.trans e2.symm)
theorem eZ {M:Model}{A:Around}{E:Value→Shared→Prop}{i:Nat}{x:Str}{v:V}{u:Value}{Q:Unit→Shared→Prop}(I:Inv X pins σ H s)(hN:X.N.Nodup)(hi:X.N[i]?=some x)(hx:vp X.env.scope x)(r:RelV v u)
  (h:∀s',Inv X pins (σ.set i (some v)) H s'→(∃a,Heap.SameBut a s.heap s'.heap∧(a=X.env.locals∨X.env.cells.lookup x=some a))→Q () s') (hf:X.fn x=true∨X.env.scope.names.lookup x=some .local:=by first|exact .inl rfl|exact .inr rfl|assumption):wpAny M A (storeName X.env x u) Q E s:=by
 obtain⟨m,hn,hl⟩:=id I.loc
 have hcls:(X.env.scope.kind== .class||(X.env.scope.kind== .module&&X.env.locals !=X.env.globals))=false:=by rw[I.ok.kind];rfl
 have hiσ:i<σ.length:=by rw[I.len];exact(List.getElem?_eq_some_iff.mp hi).1
 have cne:=I.cne
 have tracked:∀{a:Addr} {h':Heap},(∃o,s.heap.get? a=some o∧H a=none)→Heap.SameBut a s.heap h'→HOk X.prog X.w H h':=fun{a h'} ha hs b ob e=>by
  obtain⟨_,_,hfree⟩:=ha
  refine(I.hok b ob e).stay (fun c w' hc q=>(hs.2 c ?_).trans q) (fun _ q=>q) fun _ _ q=>q
  rintro rfl
  rcases hc with rfl|hc
  ·rw[hfree] at e;cases e
  ·rw[hfree] at hc;cases hc
 rcases hx with hk|hk
 ·refine wpAny_storeName_local hk hn (fun h' hn' hs=>?_) hcls
  obtain⟨oL,_,_,hoL,_⟩:=id hn
  refine h _ ⟨I.ok,I.os,I.bare,⟨fun b o e n hb hx=>?_,fun b o e n hb hx=>?_,I.base.free,fun b o e hx=>?_,I.base.tups,I.base.frzs,I.base.tbls⟩,⟨_,hn',fun j y v' e1 e2 e3=>?_⟩,fun y c e=>?_,I.free,I.freeC,fun p hp=>?_,tracked ⟨oL,hoL,I.free⟩ hs,by simpa using I.len⟩ ⟨_,hs,.inl rfl⟩
  ·exact(hs.2 b (Nat.ne_of_lt (Nat.lt_of_lt_of_le (Heap.lt_size e) I.ok.above))).trans (I.base.keep b o e n hb hx)
  ·obtain⟨sl,e1⟩:=I.base.slot b o e n hb hx
   exact⟨sl,(hs.2 b (Nat.ne_of_lt (Nat.lt_of_lt_of_le (Heap.lt_size e) I.ok.above))).trans e1⟩
  ·obtain⟨o',e1⟩:=I.base.there b o e hx
   exact⟨o',(hs.2 b (Nat.ne_of_lt (Nat.lt_of_lt_of_le (Heap.lt_size e) I.ok.above))).trans e1⟩
  ·by_cases hj:j=i
   ·subst hj
    rw[hi] at e1;cases e1
    rw[List.getElem?_set_self hiσ] at e2
    cases e2
    exact⟨u,r,.inl ⟨hk,by simp⟩⟩
   ·rw[List.getElem?_set_ne (Ne.symm hj)] at e2
    obtain⟨u',r',q⟩:=hl j y v' e1 e2 e3
    refine⟨u',r',?_⟩
    rcases q with⟨k,e⟩|⟨k,c,e,z⟩
    ·refine .inl ⟨k,?_⟩
     have:y≠x:=fun e=>hj (gy hN e1 (e▸hi))
     simp [this,e]
    ·exact .inr ⟨k,c,e,z.sameBut hs (cne y c e)⟩
  ·obtain⟨w',z⟩:=I.cell y c e
   exact⟨w',z.sameBut hs (cne y c e)⟩
  ·obtain⟨e,n,ne,nf,d⟩:=I.pin p hp
   exact⟨(hs.2 p.1 ne).trans e,n,ne,nf,d⟩
 ·have hfn:X.fn x=true:=by
   rcases hf with z|z
   ·exact z
   ·rw[z] at hk;cases hk
  obtain⟨c,hc⟩:=I.ok.has x (.inl hk)
  obtain⟨w',z⟩:=I.cell x c hc
  refine wpAny_storeName_cell I.ok.kind hk hc z (fun h' hc' hs=>?_)
  obtain⟨oc,hoc,hocd⟩:=id z
  refine h {s with heap:=h'} ⟨I.ok,I.os,I.bare,⟨fun b o e n hb hx=>?_,fun b o e n hb hx=>?_,I.base.free,fun b o e hx=>?_,I.base.tups,I.base.frzs,I.base.tbls⟩,⟨m,hn.sameBut hs (Ne.symm (cne x c hc)),fun j y v' e1 e2 e3=>?_⟩,fun y c' e=>?_,I.free,I.freeC,fun p hp=>?_,tracked ⟨oc,hoc,I.freeC x c hc⟩ hs,by simpa using I.len⟩ ⟨c,hs,.inr hc⟩
  ·exact(hs.2 b (Nat.ne_of_lt (Nat.lt_of_lt_of_le (Heap.lt_size e) (I.ok.cab x c hfn hc)))).trans (I.base.keep b o e n hb hx)
  ·obtain⟨sl,e1⟩:=I.base.slot b o e n hb hx
   exact⟨sl,(hs.2 b (Nat.ne_of_lt (Nat.lt_of_lt_of_le (Heap.lt_size e) (I.ok.cab x c hfn hc)))).trans e1⟩
  ·obtain⟨o',e1⟩:=I.base.there b o e hx
   exact⟨o',(hs.2 b (Nat.ne_of_lt (Nat.lt_of_lt_of_le (Heap.lt_size e) (I.ok.cab x c hfn hc)))).trans e1⟩
  ·by_cases hj:j=i
   ·subst hj
    rw[hi] at e1;cases e1
    rw[List.getElem?_set_self hiσ] at e2
    cases e2
    exact⟨u,r,.inr ⟨.inl hk,c,hc,hc'⟩⟩
   ·rw[List.getElem?_set_ne (Ne.symm hj)] at e2
    obtain⟨u',r',q⟩:=hl j y v' e1 e2 e3
    refine⟨u',r',?_⟩
    rcases q with q|⟨k,c',e,z'⟩
    ·exact .inl q
    ·refine .inr ⟨k,c',e,z'.sameBut hs ?_⟩
     rintro rfl
     exact hj (gy hN e1 (I.ok.inj _ _ _ e hc▸hi))
  ·by_cases hcc:c'=c
   ·subst hcc;exact⟨_,hc'⟩
   ·obtain⟨w2,z2⟩:=I.cell y c' e
    exact⟨w2,z2.sameBut hs hcc⟩
  ·obtain⟨e,n,ne,nf,d⟩:=I.pin p hp
   refine⟨(hs.2 p.1 ?_).trans e,n,ne,nf,d⟩
   intro q
   rw[q,hoc] at e
   have q':oc=p.2:=Option.some.inj e
   exact d w' (by rw[←q'];exact hocd)
theorem gR {M:Model}{A:Around}{E:Value→Shared→Prop}{i:Nat}{x:Str}{v:V}{u:Value}{Q:Unit→Shared→Prop}(I:Inv X pins σ H s)(hN:X.N.Nodup)(hi:X.N[i]?=some x)(hx:vp X.env.scope x)(r:RelV v u)
  (h:∀s',Inv X pins (σ.set i (some v)) H s'→Q () s') (hf:X.fn x=true∨X.env.scope.names.lookup x=some .local:=by first|exact .inl rfl|exact .inr rfl|assumption):wpAny M A (storeName X.env x u) Q E s:=
 eZ I hN hi hx r (fun s' I' _=>h s' I') hf
theorem Inv.call' {s':Shared}{ch:List Addr}(I:Inv X pins σ H s)(ho:s'.os=s.os)(u:Un (T7 X.stack) ch H H' s.heap s'.heap)(hok:HOk X.prog X.w H' s'.heap)(hg:AllBare s'.gens)
  (hch:∀b∈ch,(b∈X.ex∨X.s₀.heap.objs.size≤b)∧b≠X.env.locals∧(∀x c,X.env.cells.lookup x=some c→c≠b)∧∀p∈X.pn++pins,p.1≠b):Inv X pins σ H' s':=by
 obtain⟨h',g',d',t',o'⟩:=s'
 have e:o'=s.os:=ho
 subst e
 exact I.call (g':=g') (t':=t') (d':=d') u hok hg hch
end
abbrev XK:=Value→Option Addr→Hp→Prop
abbrev St:=List (Option V)
abbrev VK:=V→Hp→Prop
abbrev TE:=St→Hp→VK→Prop
abbrev TT:=St→Hp→(Bool→Hp→Prop)→Prop
abbrev TA:=St→Hp→(List V→Hp→Prop)→Prop
structure oq where
 nx:St→Hp→Prop
 rt:VK
 bk:St→Hp→Prop:=fun _ _=>False
 ct:St→Hp→Prop:=fun _ _=>False
abbrev TS:=oq→St→Hp→Prop
def EP (X:Cx)(pins:List (Addr×Obj))(σ:St)(Q:VK)(u:Value)(s':Shared):Prop:=∃v H',Inv X pins σ H' s'∧RelV v u∧Q v H'
def TP (X:Cx)(pins:List (Addr×Obj))(σ:St)(Q:Bool→Hp→Prop)(b:Bool)(s':Shared):Prop:=∃H',Inv X pins σ H' s'∧Q b H'
def AP (X:Cx)(pins:List (Addr×Obj))(σ:St)(Q:List V→Hp→Prop)(us:List Value)(s':Shared):Prop:=∃vs H',Inv X pins σ H' s'∧Vals vs us∧Q vs H'
def SP (X:Cx)(pins:List (Addr×Obj))(D:oq)(f:Flow)(s':Shared):Prop:=
 match f with
 | .next=>∃σ' H',Inv X pins σ' H' s'∧D.nx σ' H'
 | .brk=>∃σ' H',Inv X pins σ' H' s'∧D.bk σ' H'
 | .cont=>∃σ' H',Inv X pins σ' H' s'∧D.ct σ' H'
 | .ret u=>∃v σ' H',Inv X pins σ' H' s'∧RelV v u∧D.rt v H'
def PE (X:Cx)(e:Expr)(t:TE):Prop:=
 ∀(pins:List (Addr×Obj)) (s:Shared) (σ:St) (H:Hp) (Q:VK),Inv X pins σ H s→t σ H Q→wpAny (model X.prog X.w) X.A (eval e X.env) (EP X pins σ Q) X.xe s
def PT (X:Cx)(e:Expr)(t:TT):Prop:=
 ∀(pins:List (Addr×Obj)) (s:Shared) (σ:St) (H:Hp) (Q:Bool→Hp→Prop),Inv X pins σ H s→t σ H Q→wpAny (model X.prog X.w) X.A (isTrue e X.env (eval e X.env)) (TP X pins σ Q) X.xe s
def PW (X:Cx)(e:Expr)(t:TT):Prop:=
 ∀(whole:Sem Value) (pins:List (Addr×Obj)) (s:Shared) (σ:St) (H:Hp) (Q:Bool→Hp→Prop),Inv X pins σ H s→t σ H Q→wpAny (model X.prog X.w) X.A (isTrue e X.env whole) (TP X pins σ Q) X.xe s
theorem PW.pt {X:Cx}{e:Expr}{t:TT}(h:PW X e t):PT X e t:=h _
def PA (X:Cx)(es:List Expr)(t:TA):Prop:=
 ∀(pos:Pos) (pins:List (Addr×Obj)) (s:Shared) (σ:St) (H:Hp) (Q:List V→Hp→Prop),Inv X pins σ H s→t σ H Q→wpAny (model X.prog X.w) X.A (spliced (backTo pos (starEach es X.env))) (AP X pins σ Q) X.xe s
def PS (X:Cx)(st:Stmt)(t:TS):Prop:=
 ∀(pins:List (Addr×Obj)) (s:Shared) (σ:St) (H:Hp) (D:oq),Inv X pins σ H s→t D σ H→wpAny (model X.prog X.w) X.A (exec st X.env) (SP X pins D) X.xe s
def PSs (X:Cx)(st:List Stmt)(t:TS):Prop:=
 ∀(pins:List (Addr×Obj)) (s:Shared) (σ:St) (H:Hp) (D:oq),Inv X pins σ H s→t D σ H→wpAny (model X.prog X.w) X.A (execs st X.env) (SP X pins D) X.xe s
theorem K6 {α:Type}{t:Sem α}{Q Q':α→Shared→Prop}{M:Model}{A:Around}{E:Value→Shared→Prop}{s:Shared}(h:wpAny M A t Q E s)(hQ:∀a s,Q a s→Q' a s):wpAny M A t Q' E s:=wpAny_mono h hQ fun _ _ x=>x
end L2
namespace L2
open PySem PySem.Spec PyProof.Rows
section
variable {X:Cx}
def lU (i:Nat):TE:=fun σ H Q=>∃v,σ[i]?=some (some v)∧Q v H
def tC (v:V):TE:=fun _ H Q=>Q v H
theorem zh {i:Nat}{x:Str}{pos:Pos}(hN:X.N[i]?=some x)(hv:CI X.env.scope x)(hd:(x==("__debug__":Str))=false:=by decide)(hcd:(x==("__classdict__":Str))=false:=by decide):PE X (.Name x pos) (lU i):=by
 intro pins s σ H Q I h
 obtain⟨v,e,h⟩:=h
 obtain⟨m,hn,hl⟩:=I.loc
 obtain⟨u,r,l⟩:=hl i x v hN e hv
 have fin:EP X pins σ Q u s:=⟨v,H,I,r,h⟩
 rcases l with⟨hk,hm⟩|⟨hk,c,hc,hcell⟩
 ·exact wpAny_Name (wpAny_loadName_local I.ok.kind hk hn hm fin) hd
 ·rcases hk with hk|hk
  ·exact wpAny_Name (wpAny_loadName_cell I.ok.kind hk hc hcell fin) hd
  ·exact wpAny_Name (wpAny_loadName_free I.ok.kind hk hc hcell fin hcd) hd
theorem zo {i j pos}:PE X (.Constant (.int i) j pos) (tC (.int i)):=fun _ _ _ H _ I h=>wpAny_Constant_int ⟨.int i,H,I.tok _,⟨_,rfl⟩,h⟩
theorem Bg {b j pos}:PE X (.Constant (.bool b) j pos) (tC (.bl b)):=fun _ _ _ H _ I h=>Constant_bool ⟨.bl b,H,I,rfl,h⟩
theorem yG {j pos}:PE X (.Constant .none j pos) (tC .non):=fun _ _ _ H _ I h=>Constant_none ⟨.non,H,I,rfl,h⟩
theorem zV {x j pos}:PE X (.Constant (.str x) j pos) (tC (.str x)):=fun _ _ _ H _ I h=>Calls.Constant_str ⟨.str x,H,I.tok _,⟨_,rfl⟩,h⟩
def Gl (X:Cx)(x:Str):Prop:=X.env.kindOf x=some .globalImplicit
theorem gm {E:Value→Shared→Prop}{pins:List (Addr×Obj)}{s:Shared}{σ:St}{H:Hp}{x:Str}{u:Value}{pos:Pos}{Q:Value→Shared→Prop}(I:Inv X pins σ H s)(hg:Gl X x)(hm:X.mg x=some u)(h:Q u s)
  (hd:(x==("__debug__":Str))=false:=by decide):wpAny (model X.prog X.w) X.A (eval (.Name x pos) X.env) Q E s:=
 Calls.Name_function_global I.ok.kind hg (Calls.loadGlobal_global (by rw[I.ok.glob];exact I.mod.glob.keeps I.bk) hm h) hd
theorem gX {E:Value→Shared→Prop}{pins:List (Addr×Obj)}{s:Shared}{σ:St}{H:Hp}{x:Str}{u:Value}{pos:Pos}{Q:Value→Shared→Prop}(I:Inv X pins σ H s)(hg:Gl X x)(hm:X.mg x=none)(hv:bootBuiltins x=some u)(h:Q u s)
  (hn:x≠"__name__":=by decide) (hd:(x==("__debug__":Str))=false:=by decide):wpAny (model X.prog X.w) X.A (eval (.Name x pos) X.env) Q E s:=by
 obtain⟨mb,h1,h2⟩:=I.mod.blt
 exact Calls.Name_function_global I.ok.kind hg (Calls.loadGlobal_builtin (by rw[I.ok.glob];exact I.mod.glob.keeps I.bk) hm (by rw[I.ok.blt];exact h1.keeps I.bk) ((h2 x hn).trans hv) h) hd
theorem pP {x:Str}{v:V}{u:Value}{pos:Pos}(hg:Gl X x)(hm:X.mg x=some u)(r:RelV v u)(hd:(x==("__debug__":Str))=false:=by decide):PE X (.Name x pos) (tC v):=
 fun _ _ _ H _ I h=>gm I hg hm ⟨v,H,I,r,h⟩ hd
theorem vv {x:Str}{v:V}{u:Value}{pos:Pos}(hg:Gl X x)(hm:X.mg x=none)(hv:bootBuiltins x=some u)(r:RelV v u)(hn:x≠"__name__":=by decide)(hd:(x==("__debug__":Str))=false:=by decide):PE X (.Name x pos) (tC v):=
 fun _ _ _ H _ I h=>gX I hg hm hv ⟨v,H,I,r,h⟩ hn hd
variable {a b:Expr} {ta tb:TE} {pos:Pos}
theorem RelV.none_iff {x:V}{v:Value}(r:RelV x v):(v==Value.none)=decide (x= .non):=by
 cases x with
 |non=>cases r;rfl
 |bl _=>cases r;rfl
 |int _=>obtain⟨t,rfl⟩:=r;rfl
 |str _=>obtain⟨t,rfl⟩:=r;rfl
 |byt _=>obtain⟨t,rfl⟩:=r;rfl
 |flt _=>obtain⟨t,rfl⟩:=r;rfl
 |ref _=>cases r;rfl
 |ty _=>cases r;rfl
def tB (t:TE):TT:=fun σ H Q=>t σ H fun x H1=>∃c,x= .bl c∧Q c H1
variable {tA tB':TT} {bS:List Expr}
def zD (t u:TT):TT:=fun σ H Q=>t σ H fun c H1=>if c=true then u σ H1 Q else Q false H1
def CP (t u:TT):TT:=fun σ H Q=>t σ H fun c H1=>if c=true then Q true H1 else u σ H1 Q
def zC (t:TT):TT:=fun σ H Q=>t σ H fun c H1=>Q (!c) H1
theorem vP (ha:PT X a tA):PW X (.BoolOp .And [a] pos) tA:=by
 intro wh pins s σ H Q I h
 refine isTrue_and (K6 (ha pins s σ H Q I h) fun c s1 e=>?_)
 cases c with
 |true=>exact isTrue_and_nil e
 |false=>exact e
theorem zm (ha:PT X a tA):PW X (.BoolOp .Or [a] pos) tA:=by
 intro wh pins s σ H Q I h
 refine isTrue_or (K6 (ha pins s σ H Q I h) fun c s1 e=>?_)
 cases c with
 |false=>exact isTrue_or_nil e
 |true=>exact e
theorem Ae (ha:PT X a tA)(hb:PW X (.BoolOp .And (b::bS) pos) tB'):PW X (.BoolOp .And (a::b::bS) pos) (zD tA tB'):=by
 intro wh pins s σ H Q I h
 refine isTrue_and (K6 (ha pins s σ H _ I h) fun c s1 ⟨H1,I1,q1⟩=>?_)
 cases c with
 |true=>exact hb wh pins s1 σ H1 Q I1 q1
 |false=>exact⟨H1,I1,q1⟩
theorem Bx (ha:PT X a tA)(hb:PW X (.BoolOp .Or (b::bS) pos) tB'):PW X (.BoolOp .Or (a::b::bS) pos) (CP tA tB'):=by
 intro wh pins s σ H Q I h
 refine isTrue_or (K6 (ha pins s σ H _ I h) fun c s1 ⟨H1,I1,q1⟩=>?_)
 cases c with
 |true=>exact⟨H1,I1,q1⟩
 |false=>exact hb wh pins s1 σ H1 Q I1 q1
theorem yv (ha:PT X a tA):PT X (.UnaryOp .Not a pos) (zC tA):=by
 intro pins s σ H Q I h
 exact isTrue_not (ha pins s σ H (fun c H1=>Q (!c) H1) I h)
def tW (ta tb:TE):TE:=fun σ H Q=>ta σ H fun x H1=>∃c,x= .bl c∧if c=true then tb σ H1 Q else Q (.bl false) H1
theorem zU {op}{t:TE}(h:PE X a t):PE X (.BoolOp op [a] pos) t:=fun pins s σ H Q I hw=>BoolOp_one (h pins s σ H Q I hw)
theorem zN (ha:PE X a ta)(hb:PE X (.BoolOp .And (b::bS) pos) tb):PE X (.BoolOp .And (a::b::bS) pos) (tW ta tb):=by
 intro pins s σ H Q I h
 refine BoolOp_and (K6 (ha pins s σ H _ I h) fun v s1 ⟨x,H1,I1,r1,q1⟩=>?_)
 obtain⟨c,rfl,q1⟩:=q1
 cases r1
 refine wpAny_truthy_bool ?_
 cases c with
 |true=>exact hb pins s1 σ H1 Q I1 q1
 |false=>exact⟨.bl false,H1,I1,rfl,q1⟩
end
end L2
namespace L2
open PySem PySem.Spec PyProof.Rows
def SqL (K:PySem.W.Frag)(H:Hp)(a:Addr)(xs:List V):Prop:=
 Rd H a (.lst xs)∨
  ∃(o:Obj) (its:Array Value) (n:Nat),K.lookup a=some o∧o.cls= .type "list"∧o.dict=none∧o.data= .seq its n∧its.size≤sizeLine∧Vals xs its.toList
def SqT (K:PySem.W.Frag)(H:Hp)(a:Addr)(xs:List V):Prop:=
 Rd H a (.tup xs)∨
  ∃(o:Obj) (its:Array Value) (n:Nat),K.lookup a=some o∧o.cls= .type "tuple"∧o.data= .seq its n∧its.size≤sizeLine∧Vals xs its.toList
def Df:Value→Option V
 | .none=>some .non
 | .bool b=>some (.bl b)
 | .int i _=>some (.int i)
 | .str x _=>some (.str x)
 | .bytes b _=>some (.byt b)
 | .float b _=>some (.flt b)
 | .ref a=>some (.ref a)
 | .type n=>some (.ty n)
 |_=>none
theorem RelV.abs {x:V}{u:Value}(r:RelV x u):Df u=some x:=by
 cases x with
 |non=>cases r;rfl
 |bl _=>cases r;rfl
 |int _=>obtain⟨t,rfl⟩:=r;rfl
 |str _=>obtain⟨t,rfl⟩:=r;rfl
 |byt _=>obtain⟨t,rfl⟩:=r;rfl
 |flt _=>obtain⟨t,rfl⟩:=r;rfl
 |ref _=>cases r;rfl
 |ty _=>cases r;rfl
theorem RelV.inj {x y:V}{u:Value}(r:RelV x u)(q:RelV y u):x=y:=Option.some.inj (r.abs.symm.trans q.abs)
theorem Vals.inj:∀{xs ys:List V} {us:List Value},Vals xs us→Vals ys us→xs=ys
 |_,_,_,.nil,.nil=>rfl
 |_,_,_,.cons r t,.cons r' t'=>by rw[r.inj r',Vals.inj t t']
section
variable {X:Cx} {pins:List (Addr×Obj)} {σ:St} {H:Hp} {s:Shared} {a:Addr} {xs ys:List V}
theorem SqL.of {K:PySem.W.Frag}(h:H a=some (.lst xs)):SqL K H a xs:= .inl (.inl h)
theorem SqT.of {K:PySem.W.Frag}(h:H a=some (.tup xs)):SqT K H a xs:= .inl (.inl h)
theorem Inv.list (I:Inv X pins σ H s)(h:SqL X.K H a xs):∃its:List Value,Vals xs its∧PlainL s.heap a its.toArray∧xs.length≤sizeLine:=by
 rcases h with h|⟨o,its,n,hk,hc,hd,hs,hz,r⟩
 ·obtain⟨z,its,n,r,e⟩:=h.ok I.hok
  exact⟨its,r,⟨_,n,e,rfl,rfl,rfl⟩,z⟩
 ·refine⟨its.toList,r,⟨o,n,I.kIn a o hk,hc,hd,by simpa using hs⟩,?_⟩
  have e:=r.length
  simp only[Array.length_toList] at e
  omega
theorem Inv.tuple (I:Inv X pins σ H s)(h:SqT X.K H a xs):∃its:List Value,Vals xs its∧IsTup s.heap a its.toArray∧xs.length≤sizeLine:=by
 rcases h with h|⟨o,its,n,hk,hc,hs,hz,r⟩
 ·obtain⟨z,its,r,p⟩:=h.ok I.hok
  exact⟨its,r,p,z⟩
 ·refine⟨its.toList,r,⟨o,I.kIn a o hk,hc,n,by simpa using hs⟩,?_⟩
  have e:=r.length
  simp only[Array.length_toList] at e
  omega
theorem Inv.list_inj (I:Inv X pins σ H s)(h:SqL X.K H a xs)(h':SqL X.K H a ys):xs=ys:=by
 obtain⟨its,r,⟨o,n,e,_,_,d⟩,_⟩:=I.list h
 obtain⟨its',r',⟨o',n',e',_,_,d'⟩,_⟩:=I.list h'
 rw[e] at e';cases e'
 rw[d] at d'
 injection d' with d1 _
 have:its=its':=by simpa using congrArg Array.toList d1
 subst this
 exact r.inj r'
theorem Inv.tuple_inj (I:Inv X pins σ H s)(h:SqT X.K H a xs)(h':SqT X.K H a ys):xs=ys:=by
 obtain⟨its,r,⟨o,e,_,n,d⟩,_⟩:=I.tuple h
 obtain⟨its',r',⟨o',e',_,n',d'⟩,_⟩:=I.tuple h'
 rw[e] at e';cases e'
 rw[d] at d'
 injection d' with d1 _
 have:its=its':=by simpa using congrArg Array.toList d1
 subst this
 exact r.inj r'
end
abbrev Cx.wish (X:Cx)(E:Value→Shared→Prop):Cx:={X with xe:=E}
abbrev Cx.nox (X:Cx):Cx:=X.wish fun _ _=>False
theorem Cx.Ok.wish {X:Cx}(ok:X.Ok)(E:Value→Shared→Prop):(X.wish E).Ok:=
 ⟨ok.mod,ok.kind,ok.glob,ok.blt,ok.above,ok.inj,ok.has,ok.cab,ok.hd,ok.frames,ok.stk,ok.exf,ok.bs,ok.bsz,ok.noex,ok.exfs,ok.funs,ok.frf⟩
theorem Cx.Ok.unwish {X:Cx}{E:Value→Shared→Prop}(ok:(X.wish E).Ok):X.Ok:=
 ⟨ok.mod,ok.kind,ok.glob,ok.blt,ok.above,ok.inj,ok.has,ok.cab,ok.hd,ok.frames,ok.stk,ok.exf,ok.bs,ok.bsz,ok.noex,ok.exfs,ok.funs,ok.frf⟩
section
variable {X:Cx} {pins:List (Addr×Obj)} {σ:St} {H:Hp} {s:Shared} {E:Value→Shared→Prop}
theorem Inv.wish (I:Inv X pins σ H s)(E:Value→Shared→Prop):Inv (X.wish E) pins σ H s:=⟨I.ok.wish E,I.os,I.bare,I.base,I.loc,I.cell,I.free,I.freeC,I.pin,I.hok,I.len⟩
theorem Inv.unwish (I:Inv (X.wish E) pins σ H s):Inv X pins σ H s:=⟨I.ok.unwish,I.os,I.bare,I.base,I.loc,I.cell,I.free,I.freeC,I.pin,I.hok,I.len⟩
theorem SP.unwish {D:oq}{f:Flow}{s':Shared}(h:SP (X.wish E) pins D f s'):SP X pins D f s':=by
 cases f with
 |next=>obtain⟨σ',H',I,q⟩:=h;exact⟨σ',H',I.unwish,q⟩
 |brk=>obtain⟨σ',H',I,q⟩:=h;exact⟨σ',H',I.unwish,q⟩
 |cont=>obtain⟨σ',H',I,q⟩:=h;exact⟨σ',H',I.unwish,q⟩
 |ret u=>obtain⟨v,σ',H',I,r,q⟩:=h;exact⟨v,σ',H',I.unwish,r,q⟩
theorem PSs.nox {st:List Stmt}{t:TS}(h:PSs X.nox st t):PSs X st t:=fun pins s σ H D I hw=>
 wpAny_mono (h pins s σ H D (I.wish _) hw) (fun _ _ q=>q.unwish) fun _ _ z=>False.elim z
end
section
variable {X:Cx} {st:Stmt} {bS:List Stmt} {t u:TS} {e:Expr} {te:TE} {pos:Pos}
def sV:TS:=fun D σ H=>D.nx σ H
def uj (t u:TS):TS:=fun D σ H=>t {D with nx:=u D} σ H
theorem vH:PSs X [] sV:=fun _ _ σ H _ I h=>wpAny_execs_nil ⟨σ,H,I,h⟩
theorem tV (h1:PS X st t)(h2:PSs X bS u):PSs X (st::bS) (uj t u):=by
 intro pins s σ H D I h
 refine wpAny_execs_cons (K6 (h1 pins s σ H {D with nx:=u D} I h) fun f s1 q=>?_)
 cases f with
 |next=>
  obtain⟨σ',H',I',q⟩:=q
  exact h2 pins s1 σ' H' D I' q
 |ret v=>exact q
 |brk=>exact q
 |cont=>exact q
theorem vC (h1:PS X st t):PSs X [st] t:=by
 intro pins s σ H D I h
 refine wpAny_execs_cons (K6 (h1 pins s σ H D I h) fun f s1 q=>?_)
 cases f with
 |next=>exact wpAny_execs_nil q
 |ret v=>exact q
 |brk=>exact q
 |cont=>exact q
theorem Inv.quiet {pins:List (Addr×Obj)}{σ:St}{H:Hp}{s:Shared}(I:Inv X pins σ H s):interactive X.env=false:=by simp [interactive,I.ok.kind]
def um (te:TE):TS:=fun D σ H=>te σ H fun _ H1=>D.nx σ H1
theorem wu (he:PE X e te)(hs:swapsWith e none pos.line X.env=pure false:=by rfl):PS X (.Expr e pos) (um te):=by
 intro pins s σ H D I h
 exact wpAny_Expr_any (K6 (he pins s σ H _ I h) fun v s1 ⟨x,H1,I1,r1,q1⟩=>⟨σ,H1,I1,q1⟩) I.quiet hs
def yT (te:TE):TS:=fun D σ H=>te σ H D.rt
theorem yC (he:PE X e te):PS X (.Return (some e) pos) (yT te):=by
 intro pins s σ H D I h
 exact wpAny_Return_some (K6 (he pins s σ H _ I h) fun v s1 ⟨x,H1,I1,r1,q1⟩=>⟨x,σ,H1,I1,r1,q1⟩)
def zB (c:TT)(t u:TS):TS:=fun D σ H=>c σ H fun b H1=>if b=true then t D σ H1 else u D σ H1
theorem Bw {c:Expr}{a b:List Stmt}{tc:TT}(hc:PT X c tc)(ha:PSs X a t)(hb:PSs X b u):PS X (.If c a b pos) (zB tc t u):=by
 intro pins s σ H D I h
 refine wpAny_If (K6 (hc pins s σ H _ I h) fun d s1 ⟨H1,I1,q1⟩=>?_)
 cases d with
 |true=>exact ha pins s1 σ H1 D I1 q1
 |false=>exact hb pins s1 σ H1 D I1 q1
end
abbrev TG:=V→St→Hp→(St→Hp→Prop)→Prop
abbrev nV:=List V→St→Hp→(St→Hp→Prop)→Prop
def PG (X:Cx)(target:Expr)(t:TG):Prop:=
 ∀(pins:List (Addr×Obj)) (s:Shared) (σ:St) (H:Hp) (v:V) (u:Value) (Q:St→Hp→Prop),Inv X pins σ H s→RelV v u→t v σ H Q→
  wpAny (model X.prog X.w) X.A (assign target X.env u) (fun _ s'=>∃σ' H',Inv X pins σ' H' s'∧Q σ' H') X.xe s
def xr (X:Cx)(ts:List Expr)(t:nV):Prop:=
 ∀(pins:List (Addr×Obj)) (s:Shared) (σ:St) (H:Hp) (vs:List V) (us:List Value) (Q:St→Hp→Prop),Inv X pins σ H s→Vals vs us→t vs σ H Q→
  wpAny (model X.prog X.w) X.A (assignInOrder ((assignEach ts X.env).map (·.2)) us) (fun _ s'=>∃σ' H',Inv X pins σ' H' s'∧Q σ' H') X.xe s
abbrev om:=V→V→V→Hp→(Hp→Prop)→Prop
def qQ (X:Cx)(t:om):Prop:=
 ∀(pins:List (Addr×Obj)) (s:Shared) (σ:St) (H:Hp) (o i v:V) (ov iv u:Value) (Q:Hp→Prop),Inv X pins σ H s→RelV o ov→RelV i iv→RelV v u→t o i v H Q→
  wpAny (model X.prog X.w) X.A (setItem ov iv u) (fun _ s'=>∃H',Inv X pins σ H' s'∧Q H') X.xe s
section
variable {X:Cx} {pos:Pos}
def Y9 (i:Nat):TG:=fun v σ H Q=>Q (σ.set i (some v)) H
theorem xl {i:Nat}{x:Str}(hN:X.N.Nodup)(hi:X.N[i]?=some x)(hx:vp X.env.scope x)(hf:X.fn x=true∨X.env.scope.names.lookup x=some .local:=by first|exact .inl rfl|exact .inr rfl|assumption):PG X (.Name x pos) (Y9 i):=by
 intro pins s σ H v u Q I r h
 exact wpAny_assign_Name (gR I hN hi hx r (fun s' I'=>⟨_,H,I',h⟩) hf)
def zO:nV:=fun vs σ H Q=>vs=[]∧Q σ H
def pe (t:TG)(u:nV):nV:=fun vs σ H Q=>∃v r,vs=v::r∧t v σ H fun σ' H'=>u r σ' H' Q
theorem wo:xr X [] zO:=by
 intro pins s σ H vs us Q I r h
 obtain⟨e,h⟩:=h
 subst e
 cases r
 exact assignInOrder_nil ⟨σ,H,I,h⟩
theorem uI {e:Expr}{es:List Expr}{t:TG}{u:nV}(h1:PG X e t)(h2:xr X es u)
  (hs:(assignEach (e::es) X.env).map (·.2)=assign e X.env::(assignEach es X.env).map (·.2):=by rfl):xr X (e::es) (pe t u):=by
 intro pins s σ H vs us Q I r h
 obtain⟨v,vr,e1,h⟩:=h
 subst e1
 cases r with
 |cons r rr=>
  rw[hs]
  refine assignInOrder_cons (K6 (h1 pins s σ H _ _ _ I r h) fun _ s1 ⟨σ1,H1,I1,q1⟩=>?_)
  exact h2 pins s1 σ1 H1 _ _ Q I1 rr q1
def sy (K:PySem.W.Frag)(n:Nat)(t:nV):TG:=fun v σ H Q=>∃a xs,v= .ref a∧SqT K H a xs∧xs.length=n∧t xs σ H Q
theorem yo {es:List Expr}{k:Nat}{t:nV}{n:Nat}(hc:X.calm=true)(h:xr X es t)
  (hn:(assignEach es X.env).length=n:=by rfl) (hst:(assignEach es X.env).findIdx? (·.1)=none:=by rfl):PG X (.Tuple es k pos) (sy X.K n t):=by
 intro pins s σ H v u Q I r hw
 obtain⟨a,xs,e1,hq,hl,hw⟩:=hw
 subst e1
 cases r
 obtain⟨its,rv,ht,hz⟩:=I.tuple hq
 refine assign_Tuple_tuple (I.ok.hd hc) ht (by simp [hn,←hl,rv.length]) hst fun h' hx=>?_
 have I1:Inv X pins σ H {s with heap:=h'}:=I.kept (t':=s.toks) fun b o e=>hx b o (Nat.ne_of_lt (Heap.lt_size e)) e
 exact h pins _ σ H xs _ Q I1 (by simpa using rv) hw
def yK (to ti:TE)(t:om):TG:=fun v σ H Q=>to σ H fun o H1=>ti σ H1 fun i H2=>t o i v H2 fun H3=>Q σ H3
theorem zK {o i:Expr}{to ti:TE}{t:om}(ho:PE X o to)(hi:PE X i ti)(hs:qQ X t)
  (ha:∀v,assign (.Subscript o i pos) X.env v=(do
   let ov←holding [v] (eval o X.env)
   let iv←holding [v,ov] (eval i X.env)
   standAt pos
   holding [v,ov,iv] (setItem ov iv v)
   release [v,ov,iv] []):=by intro _;rfl):PG X (.Subscript o i pos) (yK to ti t):=by
 intro pins s σ H v u Q I r h
 rw[ha]
 refine wpAny_bind (wpAny_holding (K6 (ho pins s σ H _ I h) fun ov s1 ⟨x,H1,I1,r1,q1⟩=>?_))
 refine wpAny_bind (wpAny_holding (K6 (hi pins s1 σ H1 _ I1 q1) fun iv s2 ⟨y,H2,I2,r2,q2⟩=>?_))
 refine wpAny_bind (wpAny_standAt (wpAny_bind (wpAny_holding (K6 (hs pins s2 σ H2 x y v ov iv u _ I2 r1 r2 r q2) fun _ s3 ⟨H3,I3,q3⟩=>?_))))
 exact wpAny_release ⟨σ,H3,I3,q3⟩
def iQ (te:TE)(g:TG):TS:=fun D σ H=>te σ H fun x H1=>g x σ H1 D.nx
theorem yN {tg e:Expr}{te:TE}{g:TG}(he:PE X e te)(hg:PG X tg g)(hs:swapsWithSole [tg] e pos.line X.env=pure false:=by rfl)(hw:swappedStores [tg] e X.env=pure none:=by rfl)
  (h1:(assignEach [tg] X.env).map (·.2)=[assign tg X.env]:=by rfl):PS X (.Assign [tg] e pos) (iQ te g):=by
 intro pins s σ H D I h
 refine wpAny_Assign_stores (K6 (he pins s σ H _ I h) fun v s1 ⟨x,H1,I1,r1,q1⟩=>?_) hs hw
 rw[h1]
 exact K6 (hg pins s1 σ H1 x v _ I1 r1 q1) fun _ s2 q=>q
theorem yI {i:Nat}{x:Str}{e:Expr}{te:TE}{pos':Pos}(hN:X.N.Nodup)(hi:X.N[i]?=some x)(hx:vp X.env.scope x)(he:PE X e te)(hs:swapsWith e (some (.Name x pos')) pos.line X.env=pure false:=by rfl)(hf:X.fn x=true∨X.env.scope.names.lookup x=some .local:=by first|exact .inl rfl|exact .inr rfl|assumption):
  PS X (.Assign [.Name x pos'] e pos) (iQ te (Y9 i)):=by
 intro pins s σ H D I h
 refine wpAny_Assign_Name (K6 (he pins s σ H _ I h) fun v s1 ⟨y,H1,I1,r1,q1⟩=>?_) hs
 exact gR I1 hN hi hx r1 (fun s2 I2=>⟨_,H1,I2,q1⟩) hf
end
section
variable {X:Cx} {pos:Pos}
end
structure It where
 go:Nat→Hp→Prop
 yld:Nat→Hp→V→Hp→Prop
 stop:Nat→Hp→Prop
def bQ (X:Cx)(pins:List (Addr×Obj))(H:Hp)(b:Addr):Prop:=
 H b=none∧b≠X.env.locals∧b∉X.fs∧(b∈X.ex∨X.s₀.heap.objs.size≤b)∧(∀x c,X.env.cells.lookup x=some c→c≠b)∧∀p∈X.pn++pins,p.1≠b
theorem Inv.fpOk {X:Cx}{pins:List (Addr×Obj)}{σ:St}{H H':Hp}{s:Shared}{b:Addr}(I:Inv X pins σ H s)(hb:s.heap.objs.size≤b)(hn:H' b=none):bQ X pins H' b:=by
 refine⟨hn,Nat.ne_of_gt (Nat.lt_of_lt_of_le I.lt hb),I.nofs hb,.inr (Nat.le_trans I.sz hb),fun x c e z=>?_,fun p hp z=>?_⟩
 ·obtain⟨v,q⟩:=I.cell x c e
  exact absurd (Nat.lt_of_lt_of_le q.lt (by rw[z];exact hb)) (Nat.lt_irrefl _)
 ·exact absurd (Nat.lt_of_lt_of_le (Heap.lt_size (I.pin p hp).1) (by rw[z];exact hb)) (Nat.lt_irrefl _)
structure fo (P:Program) (w:World) (K:PySem.W.Frag) (tg:Expr) (J:It) (fp:List Addr) (it:Addr) (tn:Nat→Heap→Prop):Prop where
 mem:it∈fp
 obj:∀i h,tn i h→∀b∈fp,∃o,h.get? b=some o∧∀v,o.data≠ .cell v
 keep:∀i h h',tn i h→(∀b∈fp,∀o,h.get? b=some o→h'.get? b=some o)→tn i h'
 item:∀(X:Cx),X.prog=P→X.w=w→X.K=K→X.calm=true→∀(i:Nat) (pins:List (Addr×Obj)) (s:Shared) (σ:St) (H:Hp) (E:Value→Shared→Prop),Inv X pins σ H s→(∀b∈fp,bQ X pins H b)→tn i s.heap→J.go i H→
  wpAny (model P w) X.A (pyNext (.ref it)) (fun r s1=>∃u,r=some u∧
   wpAny (model P w) X.A (letOwnedTupleGo tg (.ref it) u) (fun _ s2=>∃x H',Inv X pins σ H' s2∧RelV x u∧J.yld i H x H'∧tn (i+1) s2.heap∧∀b∈fp,H' b=none) E s1) E s
 done:∀(X:Cx),X.prog=P→X.w=w→X.K=K→X.calm=true→∀(i:Nat) (pins:List (Addr×Obj)) (s:Shared) (σ:St) (H:Hp) (E:Value→Shared→Prop),Inv X pins σ H s→(∀b∈fp,bQ X pins H b)→tn i s.heap→J.stop i H→
  wpAny (model P w) X.A (pyNext (.ref it)) (fun r s1=>r=none∧Inv X pins σ H s1) E s
 self:∀(A:Around) (i:Nat) (s:Shared) (Q:Value→Shared→Prop) (E:Value→Shared→Prop),tn i s.heap→Q (.ref it) s→wpAny (model P w) A (pyIter (.ref it)) Q E s
abbrev TI:=St→Hp→(It→Hp→Prop)→Prop
def Ci (X:Cx)(pins:List (Addr×Obj))(σ:St)(tg:Expr)(R:It→Hp→Prop)(itv:Value)(s2:Shared):Prop:=
 ∃(it:Addr) (fp:List Addr) (tn:Nat→Heap→Prop) (J:It) (H':Hp),itv= .ref it∧Inv X pins σ H' s2∧fo X.prog X.w X.K tg J fp it tn∧tn 0 s2.heap∧(∀b∈fp,bQ X pins H' b)∧R J H'
def PI (X:Cx)(tg iter:Expr)(wi:TI):Prop:=
 ∀(pins:List (Addr×Obj)) (s:Shared) (σ:St) (H:Hp) (R:It→Hp→Prop),Inv X pins σ H s→wi σ H R→
  wpAny (model X.prog X.w) X.A (eval iter X.env) (fun v s1=>wpAny (model X.prog X.w) X.A (pyIter v) (Ci X pins σ tg R) X.xe s1) X.xe s
theorem se {M : Model} {A : Around} {E : Value → Shared → Prop} {s : Shared} {tg : Expr} {it : Addr} {u : Value} {o : Obj} {n : String} {vs : Array Value} {Q : Unit → Shared → Prop} (ho : s.heap.get? it = some o) (hc : o.cls = .type n) (hd : o.data = .fields vs)
    (hn : ["enumerate", "zip", "dict_itemiterator", "dict_reverseitemiterator", "odict_iterator", "itertools.zip_longest", "itertools.pairwise"].contains n = false) (hQ : Q () s) : wpAny M A (letOwnedTupleGo tg (.ref it) u) Q E s := by
  unfold letOwnedTupleGo
  cases tg <;> first
    | exact wpAny_pure hQ
    | (cases u <;> first
        | exact wpAny_pure hQ
        | (refine wpAny_bind (wpAny_load ho ?_)
           rw [hc, hd]
           show wpAny M A (if (["enumerate", "zip", "dict_itemiterator", "dict_reverseitemiterator", "odict_iterator", "itertools.zip_longest", "itertools.pairwise"].contains n && vs[0]? == some (rawInt _)) = true then _ else _) Q E s
           rw [if_neg (by intro h; rw [hn, Bool.false_and] at h; cases h)]
           exact wpAny_pure hQ))
def Itl (K:PySem.W.Frag)(a:Addr):It:=
 ⟨fun i H=>∃xs x,SqL K H a xs∧xs[i]?=some x,fun i H x H'=>H'=H∧∀xs,SqL K H a xs→xs[i]?=some x,fun i H=>∃xs,SqL K H a xs∧xs.length≤i⟩
def DB (K:PySem.W.Frag)(a:Addr):It:=
 ⟨fun i H=>∃xs x,SqT K H a xs∧xs[i]?=some x,fun i H x H'=>H'=H∧∀xs,SqT K H a xs→xs[i]?=some x,fun i H=>∃xs,SqT K H a xs∧xs.length≤i⟩
def Cm (lo:Int)(n:Nat):It:=⟨fun i _=>i<n,fun i H x H'=>H'=H∧x= .int (lo+i),fun i _=>n≤i⟩
theorem qJ {P:Program}{w:World}{K:PySem.W.Frag}{tg:Expr}(a it:Addr):fo P w K tg (Itl K a) [it] it (fun i h=>h.IsListIter it a i) where
 mem:=by simp
 obj:=fun i h st b hb=>by
  have e:b=it:=by simpa using hb
  subst e
  obtain⟨o,e,c,d⟩:=st
  exact⟨o,e,fun v z=>by rw[d] at z;cases z⟩
 keep:=fun i h h' st k=>st.at fun o e=>k it (by simp) o e
 item:=by
  intro X hP hw hK hc i pins s σ H E I hf st hg
  subst hP hw hK
  obtain⟨xs,x,hq,hx⟩:=hg
  obtain⟨its,rv,p,hz⟩:=I.list hq
  obtain⟨u,hu,ru⟩:=rv.get hx
  obtain⟨f0,f1,f2,f3,f4,f5⟩:=hf it (by simp)
  refine wpAny_pyNext_list_item st p.isList (x:=u) (by simpa using hu) fun h' st' sb=>?_
  have I1:Inv X pins σ H {s with heap:=h'}:=I.turned (t':=s.toks) (fun b o hb e=>(sb.2 b hb).trans e) f0 f1 f3 f4 f5
  obtain⟨o,e,c,d⟩:=id st'
  exact⟨u,rfl,se (s:={s with heap:=h'}) e c d (by decide) ⟨x,H,I1,ru,⟨rfl,fun ys hy=>by rw[I.list_inj hy hq];exact hx⟩,st',fun b hb=>(hf b hb).1⟩⟩
 done:=by
  intro X hP hw hK hc i pins s σ H E I hf st hg
  subst hP hw hK
  obtain⟨xs,hq,hx⟩:=hg
  obtain⟨its,rv,p,hz⟩:=I.list hq
  obtain⟨f0,f1,f2,f3,f4,f5⟩:=hf it (by simp)
  have hl:=rv.length
  exact wpAny_pyNext_list_end (I.ok.hd hc) st p.isList (by simp;omega) fun h' eb=>⟨rfl,I.turned (t':=s.toks) (fun b o hb e=>eb b o hb e) f0 f1 f3 f4 f5⟩
 self:=fun _ _ _ _ _ st h=>wpAny_pyIter_listiter st h
theorem ny {P:Program}{w:World}{K:PySem.W.Frag}{tg:Expr}(a it:Addr):fo P w K tg (DB K a) [it] it (fun i h=>h.IsTupleIter it a i) where
 mem:=by simp
 obj:=fun i h st b hb=>by
  have e:b=it:=by simpa using hb
  subst e
  obtain⟨o,e,c,d⟩:=st
  exact⟨o,e,fun v z=>by rw[d] at z;cases z⟩
 keep:=fun i h h' st k=>st.at fun o e=>k it (by simp) o e
 item:=by
  intro X hP hw hK hc i pins s σ H E I hf st hg
  subst hP hw hK
  obtain⟨xs,x,hq,hx⟩:=hg
  obtain⟨its,rv,p,hz⟩:=I.tuple hq
  obtain⟨u,hu,ru⟩:=rv.get hx
  obtain⟨f0,f1,f2,f3,f4,f5⟩:=hf it (by simp)
  refine wpAny_pyNext_tuple_item st (show s.heap.IsTuple a its.toArray from p) (x:=u) (by simpa using hu) fun h' st' sb=>?_
  have I1:Inv X pins σ H {s with heap:=h'}:=I.turned (t':=s.toks) (fun b o hb e=>(sb.2 b hb).trans e) f0 f1 f3 f4 f5
  obtain⟨o,e,c,d⟩:=id st'
  exact⟨u,rfl,se (s:={s with heap:=h'}) e c d (by decide) ⟨x,H,I1,ru,⟨rfl,fun ys hy=>by rw[I.tuple_inj hy hq];exact hx⟩,st',fun b hb=>(hf b hb).1⟩⟩
 done:=by
  intro X hP hw hK hc i pins s σ H E I hf st hg
  subst hP hw hK
  obtain⟨xs,hq,hx⟩:=hg
  obtain⟨its,rv,p,hz⟩:=I.tuple hq
  obtain⟨f0,f1,f2,f3,f4,f5⟩:=hf it (by simp)
  have hl:=rv.length
  exact wpAny_pyNext_tuple_end (I.ok.hd hc) st (show s.heap.IsTuple a its.toArray from p) (by simp;omega) fun h' eb=>⟨rfl,I.turned (t':=s.toks) (fun b o hb e=>eb b o hb e) f0 f1 f3 f4 f5⟩
 self:=fun _ _ _ _ _ st h=>wpAny_pyIter_tupleiter st h
theorem oi {P:Program}{w:World}{K:PySem.W.Frag}{tg:Expr}(it:Addr)(lo:Int)(n:Nat):fo P w K tg (Cm lo n) [it] it (fun i h=>IsRangeIter h it (lo+(i:Nat)*1) ((n:Int) -(i:Nat)) 1) where
 mem:=by simp
 obj:=fun i h st b hb=>by
  have e:b=it:=by simpa using hb
  subst e
  exact⟨_,st,fun v z=>by
   have z':Data.fields _=Data.cell v:=z
   cases z'⟩
 keep:=fun i h h' st k=>k it (by simp) _ st
 item:=by
  intro X hP hw hK hc i pins s σ H E I hf st hg
  subst hP hw hK
  obtain⟨f0,f1,f2,f3,f4,f5⟩:=hf it (by simp)
  have W:=Walks.range (prog:=X.prog) (w:=X.w) (I.ok.hd hc) it lo 1 n
  refine W.item i s _ _ hg st fun v h' tk hv st' kk=>?_
  obtain⟨t,rfl⟩:=hv
  have I1:Inv X pins σ H {s with heap:=h',toks:=tk}:=I.turned (fun b o hb e=>kk b o (by simpa using hb) e) f0 f1 f3 f4 f5
  refine⟨_,rfl,se (s:={s with heap:=h',toks:=tk}) (n:="range_iterator") st' rfl rfl (by decide) ⟨.int (lo+i),H,I1,⟨t,?_⟩,⟨rfl,rfl⟩,st',fun b hb=>(hf b hb).1⟩⟩
  rw[Int.mul_one]
 done:=by
  intro X hP hw hK hc i pins s σ H E I hf st hg
  subst hP hw hK
  obtain⟨f0,f1,f2,f3,f4,f5⟩:=hf it (by simp)
  exact wpAny_pyNext_range_end (I.ok.hd hc) st (by have:n≤i:=hg;omega) fun h' eb=>⟨rfl,I.turned (t':=s.toks) (fun b o hb e=>eb b o hb e) f0 f1 f3 f4 f5⟩
 self:=fun _ _ _ _ _ st h=>wpAny_pyIter_rangeiter st h
end L2
namespace L2
open PySem PySem.Spec PyProof.Rows
section
variable {X:Cx} {tg:Expr}
theorem sW {pins:List (Addr×Obj)}{σ:St}{H:Hp}{s:Shared}{R:It→Hp→Prop}{E:Value→Shared→Prop}{lo hi:Int}{t u v:Tok}{tk:Nat}(I:Inv X pins σ H s)(h1: -(2 ^ 62)≤lo)(h2:lo<2 ^ 62)(h3: -(2 ^ 62)≤hi)(h4:hi<2 ^ 62)
  (q:R (Cm lo (hi -lo).toNat) H):wpAny (model X.prog X.w) X.A (pyIter (.ref s.heap.objs.size)) (Ci X pins σ tg R) E {s with heap:=s.heap.push {cls:= .type "range",data:= .fields #[.int lo t,.int hi u,.int 1 v]},toks:=tk}:=by
 refine wpAny_pyIter_range (IsRange.new ..) (small_one h1 h2 h3 h4) ?_
 have I1:Inv X pins σ H {s with heap:=s.heap.push {cls:= .type "range",data:= .fields #[.int lo t,.int hi u,.int 1 v]},toks:=tk}:=I.kept fun b o e=>Heap.get?_push_of_some _ e
 refine⟨(s.heap.push {cls:= .type "range",data:= .fields #[.int lo t,.int hi u,.int 1 v]}).objs.size,[(s.heap.push {cls:= .type "range",data:= .fields #[.int lo t,.int hi u,.int 1 v]}).objs.size],_,_,H,rfl,
  I1.kept (t':=tk) fun b o e=>Heap.get?_push_of_some _ e,oi _ lo (hi -lo).toNat,?_,fun b hb=>?_,q⟩
 ·have e1:lo+((0:Nat):Int)*1=lo:=by simp
  have e2:(((hi -lo).toNat:Nat):Int) -((0:Nat):Int)=Builtin.Range.rangeSize lo hi 1:=by rw[rangeSize_one];split<;>omega
  show IsRangeIter _ _ (lo+((0:Nat):Int)*1) ((((hi -lo).toNat:Nat):Int) -((0:Nat):Int)) 1
  rw[e1,e2]
  exact Heap.get?_push_size _ rfl
 ·have e:b=(s.heap.push {cls:= .type "range",data:= .fields #[.int lo t,.int hi u,.int 1 v]}).objs.size:=by simpa using hb
  subst e
  exact I1.fpOk (Nat.le_refl _) (I1.hok.fresh (Nat.le_refl _))
def uW (ta:TA):TI:=fun σ H R=>ta σ H fun vs H1=>∃j:Int,vs=[.int j]∧-(2 ^ 62)≤j∧j<2 ^ 62∧R (Cm 0 j.toNat) H1
theorem rg {a:Expr}{ta:TA}{p pos:Pos}(hg:Gl X "range")(hm:X.mg "range"=none)(ha:PA X [a] ta)(hs:starEach [a] X.env=[(false,eval a X.env)]:=by rfl):PI X tg (.Call (.Name "range" p) [a] [] pos) (uW ta):=by
 intro pins s σ H R I h
 refine Call_ (gX I hg hm boot_range (PyProof.Rows.callWith_type1 (K6 (ha pos pins s σ H _ I h) fun us s1 ⟨vs,H1,I1,r1,q1⟩=>?_) hs rfl))
 obtain⟨j,e,q1,q2,q⟩:=q1
 subst e
 cases r1 with
 |cons r rr=>
  cases rr
  obtain⟨t,rfl⟩:=r
  exact call_range_1 (sW I1 (by omega) (by omega) q1 q2 (by simpa using q))
def ff (fp:List Addr)(h:Heap):List (Addr×Obj):=fp.filterMap fun b=>(h.get? b).map fun o=>(b,o)
theorem U9 {fp:List Addr}{h:Heap}{b:Addr}{o:Obj}(hb:b∈fp)(e:h.get? b=some o):(b,o)∈ff fp h:=List.mem_filterMap.mpr ⟨b,hb,by rw[e];rfl⟩
theorem qy {fp:List Addr}{h:Heap}{p:Addr×Obj}(hp:p∈ff fp h):p.1∈fp∧h.get? p.1=some p.2:=by
 obtain⟨b,hb,e⟩:=List.mem_filterMap.mp hp
 cases q:h.get? b with
 |none=>rw[q] at e;cases e
 |some o=>
  rw[q] at e
  have e':(b,o)=p:=Option.some.inj e
  subst e'
  exact⟨hb,q⟩
theorem Inv.pinned {pins:List (Addr×Obj)}{σ:St}{H:Hp}{s:Shared}{fp:List Addr}(I:Inv X pins σ H s)(hf:∀b∈fp,bQ X pins H b)(ho:∀b∈fp,∃o,s.heap.get? b=some o∧∀v,o.data≠ .cell v):Inv X (pins++ff fp s.heap) σ H s:=
 I.pins_of fun p hp=>(List.mem_append.mp hp).elim (fun z=>I.pin p (List.mem_append_right _ z)) fun z=>by
  obtain⟨hb,e⟩:=qy z
  obtain⟨f0,f1,f2,_⟩:=hf p.1 hb
  obtain⟨o,e',d⟩:=ho p.1 hb
  rw[e] at e';cases e'
  exact⟨e,f0,f1,f2,d⟩
theorem Inv.unpinned {pins pl:List (Addr×Obj)}{σ:St}{H:Hp}{s:Shared}(I:Inv X (pins++pl) σ H s):Inv X pins σ H s:=I.pins_of fun p hp=>I.pin p (List.mem_append_right _ (List.mem_append_left _ hp))
end
end L2
namespace L2
open PySem PySem.Spec PyProof.Rows
abbrev R2:=V→V→Hp→VK→Prop
def OpR (X:Cx)(f:Value→Value→Sem Value)(r:R2):Prop:=
 ∀(pins:List (Addr×Obj)) (s:Shared) (σ:St) (H:Hp) (x y:V) (v u:Value) (Q:VK),Inv X pins σ H s→RelV x v→RelV y u→r x y H Q→
  wpAny (model X.prog X.w) X.A (f v u) (EP X pins σ Q) X.xe s
def Cq (X:Cx)(f:Value→Sem Value)(r:V→Hp→VK→Prop):Prop:=
 ∀(pins:List (Addr×Obj)) (s:Shared) (σ:St) (H:Hp) (x:V) (v:Value) (Q:VK),Inv X pins σ H s→RelV x v→r x H Q→
  wpAny (model X.prog X.w) X.A (f v) (EP X pins σ Q) X.xe s
def CallR (X:Cx)(f:Value)(r:List V→Hp→VK→Prop):Prop:=
 ∀(pins:List (Addr×Obj)) (s:Shared) (σ:St) (H:Hp) (xs:List V) (us:List Value) (Q:VK),Inv X pins σ H s→Vals xs us→r xs H Q→
  wpAny (model X.prog X.w) X.A (call f us) (EP X pins σ Q) X.xe s
def CO (X:Cx)(r:V→Hp→(Bool→Hp→Prop)→Prop):Prop:=
 ∀(pins:List (Addr×Obj)) (s:Shared) (σ:St) (H:Hp) (x:V) (v:Value) (Q:Bool→Hp→Prop),Inv X pins σ H s→RelV x v→r x H Q→
  wpAny (model X.prog X.w) X.A (truthy v) (TP X pins σ Q) X.xe s
def rG (r:R2)(ta tb:TE):TE:=fun σ H Q=>ta σ H fun x H1=>tb σ H1 fun y H2=>r x y H2 Q
def Di (r:V→Hp→VK→Prop)(ta:TE):TE:=fun σ H Q=>ta σ H fun x H1=>r x H1 Q
def rI (C:Int→Int→Prop)(g:Int→Int→V):R2:=fun x y H Q=>∃i j,x= .int i∧y= .int j∧C i j∧Q (g i j) H
def vm (g:Int→Int→V):R2:=fun x y H Q=>∃i j,x= .int i∧y= .int j∧Q (g i j) H
def rU (g:Int→V):V→Hp→VK→Prop:=fun x H Q=>∃i,x= .int i∧Q (g i) H
section
variable {X:Cx} {a b c:Expr} {ta tb tc:TE} {pos:Pos}
theorem zA (ha:PE X a ta)(hb:PE X b tb){pins:List (Addr×Obj)}{s:Shared}{σ:St}{H:Hp}{R:V→V→Hp→Prop}(I:Inv X pins σ H s)
  (h:ta σ H fun x H1=>tb σ H1 fun y H2=>R x y H2) {Q:Value→Shared→Prop} {f:Value→Value→Sem Value}
  (hf:∀v u s2 x y H2,Inv X pins σ H2 s2→RelV x v→RelV y u→R x y H2→wpAny (model X.prog X.w) X.A (f v u) Q X.xe s2):
  wpAny (model X.prog X.w) X.A (eval a X.env) (fun v s₁=>wpAny (model X.prog X.w) X.A (eval b X.env) (fun u s₂=>wpAny (model X.prog X.w) X.A (f v u) Q X.xe s₂) X.xe s₁) X.xe s:=by
 refine K6 (ha pins s σ H _ I h) fun v s1 ⟨x,H1,I1,r1,q1⟩=>?_
 refine K6 (hb pins s1 σ H1 _ I1 q1) fun u s2 ⟨y,H2,I2,r2,q2⟩=>?_
 exact hf v u s2 x y H2 I2 r1 r2 q2
theorem Az {op:Operator}{r:R2}(ho:OpR X (binaryOp op) r)(ha:PE X a ta)(hb:PE X b tb):PE X (.BinOp a op b pos) (rG r ta tb):=by
 intro pins s σ H Q I h
 exact wpAny_BinOp (zA ha hb I h fun v u s2 x y H2 I2 rx ry q=>ho pins s2 σ H2 x y v u Q I2 rx ry q)
theorem AU {op:UnaryOp}{r:V→Hp→VK→Prop}(ho:Cq X (unaryOp op) r)(ha:PE X a ta):PE X (.UnaryOp op a pos) (Di r ta):=by
 intro pins s σ H Q I h
 exact UnaryOp_ (K6 (ha pins s σ H _ I h) fun v s1 ⟨x,H1,I1,r1,q1⟩=>ho pins s1 σ H1 x v Q I1 r1 q1)
theorem Cg {f:Value→Value→Sem Value}{C:Int→Int→Prop}{g:Int→Int→Int}
  (rule:∀(i j:Int) (t u:Tok) (s:Shared) (Q:Value→Shared→Prop) (E:Value→Shared→Prop),C i j→Q (.int (g i j) s.toks) {s with toks:=s.toks+1}→wpAny (model X.prog X.w) X.A (f (.int i t) (.int j u)) Q E s):
  OpR X f (rI C fun i j=> .int (g i j)):=by
 intro pins s σ H x y v u Q I rx ry h
 obtain⟨i,j,rfl,rfl,hc,q⟩:=h
 obtain⟨t,rfl⟩:=rx
 obtain⟨t',rfl⟩:=ry
 exact rule i j t t' s _ _ hc ⟨.int (g i j),H,I.tok _,⟨_,rfl⟩,q⟩
theorem Bn {f:Value→Value→Sem Value}{g:Int→Int→Int}
  (rule:∀(i j:Int) (t u:Tok) (s:Shared) (Q:Value→Shared→Prop) (E:Value→Shared→Prop),Q (.int (g i j) s.toks) {s with toks:=s.toks+1}→wpAny (model X.prog X.w) X.A (f (.int i t) (.int j u)) Q E s):
  OpR X f (vm fun i j=> .int (g i j)):=by
 intro pins s σ H x y v u Q I rx ry h
 obtain⟨i,j,rfl,rfl,q⟩:=h
 obtain⟨t,rfl⟩:=rx
 obtain⟨t',rfl⟩:=ry
 exact rule i j t t' s _ _ ⟨.int (g i j),H,I.tok _,⟨_,rfl⟩,q⟩
theorem yz {f:Value→Value→Sem Value}{g:Int→Int→Bool}
  (rule:∀(i j:Int) (t u:Tok) (s:Shared) (Q:Value→Shared→Prop) (E:Value→Shared→Prop),Q (.bool (g i j)) s→wpAny (model X.prog X.w) X.A (f (.int i t) (.int j u)) Q E s):
  OpR X f (vm fun i j=> .bl (g i j)):=by
 intro pins s σ H x y v u Q I rx ry h
 obtain⟨i,j,rfl,rfl,q⟩:=h
 obtain⟨t,rfl⟩:=rx
 obtain⟨t',rfl⟩:=ry
 exact rule i j t t' s _ _ ⟨.bl (g i j),H,I,rfl,q⟩
def BH (i j:Int):Prop:=0<j∧j<1073741824
def Al (i j:Int):Prop:=0≤j∧j≤1000000∧i.natAbs<2 ^ 64
def CMul (i j:Int):Prop:=(-(2 ^ 64)<i∧i<2 ^ 64)∨(-(2 ^ 64)<j∧j<2 ^ 64)
theorem CMul.ok {i j:Int}(h:CMul i j):IntMulOk i j:=by
 rcases h with⟨h1,h2⟩|⟨h1,h2⟩
 ·exact .of_left (intBits_le_64 h1 h2)
 ·exact .of_right (intBits_le_64 h1 h2)
theorem op_add:OpR X (binaryOp .Add) (vm fun i j=> .int (i+j)):=Bn fun _ _ _ _ _ _ _ q=>add_int q
theorem uP:OpR X (binaryOp .Sub) (vm fun i j=> .int (i -j)):=Bn fun _ _ _ _ _ _ _ q=>sub_int q
theorem op_mul:OpR X (binaryOp .Mult) (rI CMul fun i j=> .int (i*j)):=Cg fun _ _ _ _ _ _ _ hc q=>mul_int q hc.ok
theorem C4:OpR X (binaryOp .FloorDiv) (rI BH fun i j=> .int (i/j)):=Cg fun i j _ _ _ _ _ hc q=>by
 have h1:(0:Int)<j:=hc.1
 have h2:j<1073741824:=hc.2
 exact floordiv_int (by omega) (by rw[Int.fdiv_eq_ediv_of_nonneg i (by omega)];exact q) (.inl (PyProof.noPylong_small (by omega)))
theorem j8:OpR X (binaryOp .Mod) (rI (fun _ j=>0<j) fun i j=> .int (i % j)):=Cg fun i j _ _ _ _ _ hc q=>by
 have h1:(0:Int)<j:=hc
 exact mod_int' (by omega) (by rw[Int.fmod_eq_emod_of_nonneg i (by omega)];exact q)
theorem oo:OpR X (binaryOp .Pow) (rI Al fun i j=> .int (i ^ j.toNat)):=Cg fun _ _ _ _ _ _ _ hc q=>pow_int_small hc.1 hc.2.1 hc.2.2 q
theorem DW {f:Value→Sem Value}{g:Int→Int}
  (rule:∀(i:Int) (t:Tok) (s:Shared) (Q:Value→Shared→Prop) (E:Value→Shared→Prop),Q (.int (g i) s.toks) {s with toks:=s.toks+1}→wpAny (model X.prog X.w) X.A (f (.int i t)) Q E s):
  Cq X f (rU fun i=> .int (g i)):=by
 intro pins s σ H x v Q I rx h
 obtain⟨i,rfl,q⟩:=h
 obtain⟨t,rfl⟩:=rx
 exact rule i t s _ _ ⟨.int (g i),H,I.tok _,⟨_,rfl⟩,q⟩
theorem oj:Cq X (unaryOp .USub) (rU fun i=> .int (-i)):=DW fun _ _ _ _ _ q=>neg_int q
end
def AE:V→V→Bool
 | .non,.non=>true| .non,.int _=>true| .int _,.non=>true| .non,.bl _=>true| .bl _,.non=>true| .non,.str _=>true| .str _,.non=>true
 | .int _,.int _=>true| .bl _,.bl _=>true| .str _,.str _=>true| .byt _,.byt _=>true
 | .int _,.str _=>true| .str _,.int _=>true| .bl _,.str _=>true| .str _,.bl _=>true
 |_,_=>false
def Cr:R2:=fun x y H Q=>AE x y=true∧Q (.bl (decide (x=y))) H
def CC:R2:=fun x y H Q=>AE x y=true∧Q (.bl (!decide (x=y))) H
theorem gq {i j:Int}:decide (V.int i=V.int j)=(i==j):=by
 rw[Bool.eq_iff_iff]
 simp
theorem rV {i j:Bool}:decide (V.bl i=V.bl j)=(i==j):=by
 rw[Bool.eq_iff_iff]
 simp
theorem jD {i j:Str}:decide (V.str i=V.str j)=(i==j):=by
 rw[Bool.eq_iff_iff]
 simp
theorem pd {i j:Array UInt8}:decide (V.byt i=V.byt j)=(i.toList==j.toList):=by
 rw[Bool.eq_iff_iff]
 cases i
 cases j
 simp
section
variable {X:Cx} {a b c:Expr} {ta tb tc:TE} {pos:Pos}
theorem B5 {pins:List (Addr×Obj)}{σ:St}{H:Hp}{s:Shared}{Q:VK}{k k':Bool}(I:Inv X pins σ H s)(q:Q (.bl k) H)(e:k=k'):EP X pins σ Q (.bool k') s:=by
 subst e
 exact⟨.bl k,H,I,rfl,q⟩
theorem op_eq:OpR X (compareOp .Eq) Cr:=by
 intro pins s σ H x y v u Q I rx ry h
 obtain⟨hs,q⟩:=h
 cases x with
 |non=>
  cases rx
  cases y with
  |non=>cases ry;exact PySem.EqNone.eq_none_none (B5 I q (by simp))
  |bl j=>cases ry;exact PySem.EqNone.eq_none_bool (B5 I q (by simp))
  |int j=>obtain⟨t',rfl⟩:=ry;exact PySem.EqNone.eq_none_int (B5 I q (by simp))
  |str j=>obtain⟨t',rfl⟩:=ry;exact PySem.EqNone.eq_none_str (B5 I q (by simp))
  |_=>exact absurd (show false=true from hs) Bool.false_ne_true
 |bl i=>
  cases rx
  cases y with
  |non=>cases ry;exact PySem.EqNone.eq_bool_none (B5 I q (by simp))
  |bl j=>cases ry;exact eq_bool (B5 I q rV)
  |str j=>obtain⟨t',rfl⟩:=ry;exact PySem.EqMixed.eq_bool_str (B5 I q (by simp))
  |_=>exact absurd (show false=true from hs) Bool.false_ne_true
 |int i=>
  obtain⟨t,rfl⟩:=rx
  cases y with
  |non=>cases ry;exact PySem.EqNone.eq_int_none (B5 I q (by simp))
  |int j=>obtain⟨t',rfl⟩:=ry;exact eq_int (B5 I q gq)
  |str j=>obtain⟨t',rfl⟩:=ry;exact PySem.EqMixed.eq_int_str (B5 I q (by simp))
  |_=>exact absurd (show false=true from hs) Bool.false_ne_true
 |str i=>
  obtain⟨t,rfl⟩:=rx
  cases y with
  |non=>cases ry;exact PySem.EqNone.eq_str_none (B5 I q (by simp))
  |bl j=>cases ry;exact PySem.EqMixed.eq_str_bool (B5 I q (by simp))
  |int j=>obtain⟨t',rfl⟩:=ry;exact PySem.EqMixed.eq_str_int (B5 I q (by simp))
  |str j=>obtain⟨t',rfl⟩:=ry;exact eq_str (B5 I q jD)
  |_=>exact absurd (show false=true from hs) Bool.false_ne_true
 |byt i=>
  obtain⟨t,rfl⟩:=rx
  cases y with
  |byt j=>obtain⟨t',rfl⟩:=ry;exact PySem.W.eq_bytes (B5 I q pd)
  |_=>exact absurd (show false=true from hs) Bool.false_ne_true
 |_=>cases y<;>exact absurd (show false=true from hs) Bool.false_ne_true
theorem op_ne:OpR X (compareOp .NotEq) CC:=by
 intro pins s σ H x y v u Q I rx ry h
 obtain⟨hs,q⟩:=h
 cases x with
 |non=>
  cases rx
  cases y with
  |non=>cases ry;exact PySem.EqNone.ne_none_none (B5 I q (by simp))
  |bl j=>cases ry;exact PySem.EqNone.ne_none_bool (B5 I q (by simp))
  |int j=>obtain⟨t',rfl⟩:=ry;exact PySem.EqNone.ne_none_int (B5 I q (by simp))
  |str j=>obtain⟨t',rfl⟩:=ry;exact PySem.EqNone.ne_none_str (B5 I q (by simp))
  |_=>exact absurd (show false=true from hs) Bool.false_ne_true
 |bl i=>
  cases rx
  cases y with
  |non=>cases ry;exact PySem.EqNone.ne_bool_none (B5 I q (by simp))
  |bl j=>cases ry;exact ne_bool (B5 I q (congrArg not rV))
  |str j=>obtain⟨t',rfl⟩:=ry;exact PySem.EqMixed.ne_bool_str (B5 I q (by simp))
  |_=>exact absurd (show false=true from hs) Bool.false_ne_true
 |int i=>
  obtain⟨t,rfl⟩:=rx
  cases y with
  |non=>cases ry;exact PySem.EqNone.ne_int_none (B5 I q (by simp))
  |int j=>obtain⟨t',rfl⟩:=ry;exact ne_int (B5 I q (congrArg not gq))
  |str j=>obtain⟨t',rfl⟩:=ry;exact PySem.EqMixed.ne_int_str (B5 I q (by simp))
  |_=>exact absurd (show false=true from hs) Bool.false_ne_true
 |str i=>
  obtain⟨t,rfl⟩:=rx
  cases y with
  |non=>cases ry;exact PySem.EqNone.ne_str_none (B5 I q (by simp))
  |bl j=>cases ry;exact PySem.EqMixed.ne_str_bool (B5 I q (by simp))
  |int j=>obtain⟨t',rfl⟩:=ry;exact PySem.EqMixed.ne_str_int (B5 I q (by simp))
  |str j=>obtain⟨t',rfl⟩:=ry;exact ne_str (B5 I q (congrArg not jD))
  |_=>exact absurd (show false=true from hs) Bool.false_ne_true
 |byt i=>
  obtain⟨t,rfl⟩:=rx
  cases y with
  |byt j=>obtain⟨t',rfl⟩:=ry;exact PySem.W.ne_bytes (B5 I q (congrArg not pd))
  |_=>exact absurd (show false=true from hs) Bool.false_ne_true
 |_=>cases y<;>exact absurd (show false=true from hs) Bool.false_ne_true
theorem op_lt:OpR X (compareOp .Lt) (vm fun i j=> .bl (decide (i<j))):=yz fun _ _ _ _ _ _ _ q=>lt_int q
theorem xI:OpR X (compareOp .LtE) (vm fun i j=> .bl (decide (i≤j))):=yz fun _ _ _ _ _ _ _ q=>le_int q
theorem ai:OpR X (compareOp .Gt) (vm fun i j=> .bl (decide (j<i))):=yz fun _ _ _ _ _ _ _ q=>gt_int q
theorem qo:OpR X (compareOp .Lt) (fun x y H Q=>∃i j,x= .str i∧y= .str j∧Q (.bl (decide (i.cps.toList<j.cps.toList))) H):=by
 intro pins s σ H x y v u Q I rx ry h
 obtain⟨i,j,rfl,rfl,q⟩:=h
 obtain⟨t,rfl⟩:=rx
 obtain⟨t',rfl⟩:=ry
 exact lt_str (B5 I q rfl)
theorem qd:OpR X (compareOp .In) (fun x y H Q=>∃i j,x= .str i∧y= .str j∧Q (.bl (!(Builtin.Str.occurrences j i 0 j.length 1).isEmpty)) H):=by
 intro pins s σ H x y v u Q I rx ry h
 obtain⟨i,j,rfl,rfl,q⟩:=h
 obtain⟨t,rfl⟩:=rx
 obtain⟨t',rfl⟩:=ry
 exact in_str (B5 I q rfl)
theorem OpR.or {f:Value→Value→Sem Value}{r r':R2}(h:OpR X f r)(h':OpR X f r'):OpR X f (fun x y H Q=>r x y H Q∨r' x y H Q):=by
 intro pins s σ H x y v u Q I rx ry q
 rcases q with q|q
 ·exact h pins s σ H x y v u Q I rx ry q
 ·exact h' pins s σ H x y v u Q I rx ry q
theorem j9 (b:Expr){op:CmpOp}(h:op≠ .In:=by decide)(h2:op≠ .NotIn:=by decide):behindInMarks op b=false:=by
 have e1:(op==CmpOp.In)=false:=by cases op<;>first|rfl|exact absurd rfl h
 have e2:(op==CmpOp.NotIn)=false:=by cases op<;>first|rfl|exact absurd rfl h2
 cases b<;>simp [behindInMarks,e1,e2]
theorem vA {op:CmpOp}{r:R2}(ho:OpR X (compareOp op) r)(ha:PE X a ta)(hb:PE X b tb)(hm:behindInMarks op b=false):PE X (.Compare a [op] [b] pos) (rG r ta tb):=by
 intro pins s σ H Q I h
 exact wpAny_Compare1 (zA ha hb I h fun v u s2 x y H2 I2 rx ry q=>ho pins s2 σ H2 x y v u Q I2 rx ry q) hm
def lT (t:TE):TT:=fun σ H Q=>t σ H fun x H'=>∃k,x= .bl k∧Q k H'
theorem xj {op:CmpOp}{r:R2}(ho:OpR X (compareOp op) r)(ha:PE X a ta)(hb:PE X b tb)(hm:behindInMarks op b=false):PT X (.Compare a [op] [b] pos) (lT (rG r ta tb)):=by
 intro pins s σ H Q I h
 refine wpAny_isTrue_Compare1 (K6 (ha pins s σ H _ I h) fun v s1 ⟨x,H1,I1,r1,q1⟩=>K6 (hb pins s1 σ H1 _ I1 q1) fun u s2 ⟨y,H2,I2,r2,q2⟩=>
  K6 (ho pins s2 σ H2 x y v u _ I2 r1 r2 q2) fun c s3 ⟨z,H3,I3,r3,k,e,q3⟩=>?_) hm
 subst e
 cases r3
 exact wpAny_truthy_bool ⟨H3,I3,q3⟩
def nW (r r':R2)(ta tb tc:TE):TE:=fun σ H Q=>ta σ H fun x H1=>tb σ H1 fun y H2=>r x y H2 fun z H3=>∃k,z= .bl k∧
 (if k=true then tc σ H3 fun w' H4=>r' y w' H4 Q else Q (.bl false) H3)
theorem sh {op op':CmpOp}{r r':R2}(ho:OpR X (compareOp op) r)(ho':OpR X (compareOp op') r')(ha:PE X a ta)(hb:PE X b tb)(hc:PE X c tc)
  (hm:lastMarks [op,op'] [b,c]=false:=by with_unfolding_all rfl):PT X (.Compare a [op,op'] [b,c] pos) (lT (nW r r' ta tb tc)):=by
 intro pins s σ H Q I h
 refine isTrue_chain (K6 (ha pins s σ H _ I h) fun v s1 ⟨x,H1,I1,r1,q1⟩=>test_link (K6 (hb pins s1 σ H1 _ I1 q1) fun u s2 ⟨y,H2,I2,r2,q2⟩=>
  K6 (ho pins s2 σ H2 x y v u _ I2 r1 r2 q2) fun d s3 ⟨z,H3,I3,r3,k,e,q3⟩=>?_)) hm
 subst e
 cases r3
 refine wpAny_truthy_bool ?_
 cases k with
 |false=>
  obtain⟨k',e',q'⟩:=q3
  cases e'
  exact ite_ff ⟨H3,I3,q'⟩
 |true=>
  refine ite_tt (test_last (K6 (hc pins s3 σ H3 _ I3 q3) fun w' s4 ⟨z',H4,I4,r4,q4⟩=>K6 (ho' pins s4 σ H4 y z' u w' _ I4 r2 r4 q4) fun d' s5 ⟨z2,H5,I5,r5,k2,e2,q5⟩=>?_))
  subst e2
  cases r5
  exact wpAny_truthy_bool ⟨H5,I5,q5⟩
def rS (K:PySem.W.Frag)(x:V)(H:Hp)(k:Bool):Prop:=
 match x with
 | .non=>k=false
 | .bl b=>k=b
 | .int i=>k=(i !=0)
 | .str y=>y.length≤sizeLine∧k=((y.length:Int) !=0)
 | .byt y=>y.size≤sizeLine∧k=((y.size:Int) !=0)
 | .ref p=>(∃xs,SqL K H p xs∧k=!xs.isEmpty)∨(∃xs,SqT K H p xs∧k=!xs.isEmpty)∨∃kvs,H p=some (.dK kvs)∧k=!kvs.isEmpty
 |_=>False
theorem nR {κ:Type}{kvs:List (κ×V)}{vs:List (κ×Value)}(r:KV kvs vs):(!vs.isEmpty)=!kvs.isEmpty:=by
 cases r<;>rfl
theorem ic {xs:List V}{its:List Value}(r:Vals xs its):(!its.toArray.isEmpty)=!xs.isEmpty:=by
 cases r<;>simp
theorem fg:(sizeLine:Nat)<2 ^ 63:=by rw[sizeLine_eq];decide
theorem yQ:CO X (fun x H Q=>∃k,rS X.K x H k∧Q k H):=by
 intro pins s σ H x v Q I rx h
 obtain⟨k,e,q⟩:=h
 have hl:=fg
 have hs:sizeLine=16777216:=sizeLine_eq
 cases x with
 |non=>
  cases rx
  have e':k=false:=e
  subst e'
  exact truthy_none ⟨H,I,q⟩
 |bl b=>
  cases rx
  have e':k=b:=e
  subst e'
  exact wpAny_truthy_bool ⟨H,I,q⟩
 |int i=>
  obtain⟨t,rfl⟩:=rx
  have e':k=(i !=0):=e
  subst e'
  exact PySem.P.truthy_int ⟨H,I,q⟩
 |str y=>
  obtain⟨t,rfl⟩:=rx
  obtain⟨hy,e'⟩:y.length≤sizeLine∧k=((y.length:Int) !=0):=e
  subst e'
  exact PySem.P.truthy_str (by omega) ⟨H,I.tok _,q⟩
 |byt y=>
  obtain⟨t,rfl⟩:=rx
  obtain⟨hy,e'⟩:y.size≤sizeLine∧k=((y.size:Int) !=0):=e
  subst e'
  exact PySem.W.truthy_bytes (by omega) ⟨H,I.tok _,q⟩
 |ref p=>
  cases rx
  have e':(∃xs,SqL X.K H p xs∧k=!xs.isEmpty)∨(∃xs,SqT X.K H p xs∧k=!xs.isEmpty)∨∃kvs,H p=some (.dK kvs)∧k=!kvs.isEmpty:=e
  rcases e' with⟨xs,hx,e'⟩|⟨xs,hx,e'⟩|⟨kvs,hx,e'⟩
  ·subst e'
   obtain⟨its,r,pl,hz⟩:=I.list hx
   have hlen:=r.length
   exact wpAny_truthy_list pl.isList (by simp only[List.size_toArray];omega) ⟨H,I.tok _,by rw[ic r];exact q⟩
  ·subst e'
   obtain⟨its,r,pl,hz⟩:=I.tuple hx
   have hlen:=r.length
   exact truthy_tuple pl (by simp only[List.size_toArray];omega) ⟨H,I.tok _,by rw[ic r];exact q⟩
  ·subst e'
   obtain⟨hz,hS,vs,r,m⟩:kvs.length≤sizeLine∧(p==sysModules)=false∧∃vs,KV kvs vs∧s.heap.DictOf (q8 X.prog X.w) p vs:=I.hok p _ hx
   have hlen:kvs.length=vs.length:=Paired.length r
   exact wpAny_truthy_dict hS m (by omega) ⟨H,I.tok _,by rw[nR r];exact q⟩
 |_=>exact(show False from e).elim
theorem tO (ha:PE X a ta)(he:∀whole,isTrue a X.env whole=(do let v←whole;standAt a.pos;holding [v] (truthy v))):
  PT X a (fun σ H Q=>ta σ H fun x H'=>∃k,rS X.K x H' k∧Q k H'):=by
 intro pins s σ H Q I h
 exact isTrue_plain (K6 (ha pins s σ H _ I h) fun v s1 ⟨x,H1,I1,r1,q1⟩=>yQ pins s1 σ H1 x v Q I1 r1 q1) (he _)
theorem op_add_str:OpR X (binaryOp .Add) (fun x y H Q=>∃i j,x= .str i∧y= .str j∧i.length+j.length≤sizeLine∧Q (.str (i++j)) H):=by
 intro pins s σ H x y v u Q I rx ry h
 obtain⟨i,j,rfl,rfl,hz,q⟩:=h
 obtain⟨t,rfl⟩:=rx
 obtain⟨t',rfl⟩:=ry
 exact add_str (fun t' tk=>⟨.str (i++j),H,I.tok _,⟨_,rfl⟩,q⟩) hz
theorem O8 {x:V}{us:List Value}(r:Vals [x] us):∃u,us=[u]∧RelV x u:=by
 cases r with
 |cons r1 r2=>cases r2;exact⟨_,rfl,r1⟩
theorem fP {x y:V}{us:List Value}(r:Vals [x,y] us):∃u w',us=[u,w']∧RelV x u∧RelV y w':=by
 cases r with
 |cons r1 r2=>
  cases r2 with
  |cons r3 r4=>cases r4;exact⟨_,_,rfl,r1,r3⟩
theorem iX:CallR X (.type "int") (fun xs H Q=>(∃i,xs=[.int i]∧Q (.int i) H)∨∃k,xs=[.bl k]∧Q (.int (if k then 1 else 0)) H):=by
 intro pins s σ H xs us Q I r h
 rcases h with⟨i,rfl,q⟩|⟨k,rfl,q⟩
 ·obtain⟨u,rfl,t,rfl⟩:=O8 r
  exact call_int_int ⟨.int i,H,I,⟨_,rfl⟩,q⟩
 ·obtain⟨u,rfl,r1⟩:=O8 r
  cases r1
  exact call_int_bool ⟨.int (if k then 1 else 0),H,I.tok _,⟨_,rfl⟩,q⟩
theorem dU:CallR X (.type "str") (fun xs H Q=>∃i,xs=[.int i]∧i.natAbs.log2<1920∧Q (.str (toString i)) H):=by
 intro pins s σ H xs us Q I r h
 obtain⟨i,rfl,hz,q⟩:=h
 obtain⟨u,rfl,t,rfl⟩:=O8 r
 exact PySem.P.str_of_int hz ⟨.str _,H,I.tok _,⟨_,rfl⟩,q⟩
def BC (K:PySem.W.Frag)(x:V)(H:Hp)(n:Nat):Prop:=
 match x with
 | .str y=>y.length≤sizeLine∧n=y.length
 | .byt y=>y.size≤sizeLine∧n=y.size
 | .ref p=>(∃xs,SqL K H p xs∧n=xs.length)∨∃xs,SqT K H p xs∧n=xs.length
 |_=>False
theorem call_len:CallR X (.builtin "len") (fun xs H Q=>∃x n,xs=[x]∧BC X.K x H n∧Q (.int n) H):=by
 intro pins s σ H xs us Q I r h
 obtain⟨x,n,rfl,e,q⟩:=h
 obtain⟨u,rfl,rx⟩:=O8 r
 have hl:=fg
 have hs:sizeLine=16777216:=sizeLine_eq
 cases x with
 |str y=>
  obtain⟨t,rfl⟩:=rx
  obtain⟨hy,e'⟩:y.length≤sizeLine∧n=y.length:=e
  subst e'
  exact len_str (by omega) ⟨.int _,H,I.tok _,⟨_,rfl⟩,q⟩
 |byt y=>
  obtain⟨t,rfl⟩:=rx
  obtain⟨hy,e'⟩:y.size≤sizeLine∧n=y.size:=e
  subst e'
  exact PySem.W.len_bytes (by omega) ⟨.int _,H,I.tok _,⟨_,rfl⟩,q⟩
 |ref p=>
  cases rx
  have e':(∃xs,SqL X.K H p xs∧n=xs.length)∨∃xs,SqT X.K H p xs∧n=xs.length:=e
  rcases e' with⟨xs,hx,e'⟩|⟨xs,hx,e'⟩
  ·subst e'
   obtain⟨its,r',pl,hz⟩:=I.list hx
   have hlen:=r'.length
   exact Calls.call_len_list pl.isList (by simp only[List.size_toArray];omega) ⟨.int xs.length,H,I.tok _,⟨_,by simp only[List.size_toArray];rw[hlen]⟩,q⟩
  ·subst e'
   obtain⟨its,r',pl,hz⟩:=I.tuple hx
   have hlen:=r'.length
   exact len_tuple pl (by simp only[List.size_toArray];omega) ⟨.int xs.length,H,I.tok _,⟨_,by simp only[List.size_toArray];rw[hlen]⟩,q⟩
 |_=>exact(show False from e).elim
end
end L2
namespace L2
open PySem PySem.Spec PyProof.Rows
structure DH (h:Heap) (x dx C:Addr) (mA:Str→Option Value):Prop where
 obj:h.get? x=some (PySem.W.instObj C dx)
 ns:h.Ns1 dx mA
 ne:dx≠x
section
variable {prog:Program} {w:World} {A:Around} {E:Value→Shared→Prop} {s:Shared} {K:PySem.W.Frag} {x dx C f:Addr} {mA:Str→Option Value} {name:Str} {v:Value}
end
theorem RelO.some_of {v:V}{o:Option Value}(r:RelO (some v) o):∃u,o=some u∧RelV v u:=by
 cases o with
 |none=>exact(show False from r).elim
 |some u=>exact⟨u,rfl,r⟩
section
variable {P:Program} {w:World} {H H':Hp} {h h':Heap} {a C dx:Addr} {fs fs':List (Str×V)}
end
structure DK (K:PySem.W.Frag) (C:Addr):Prop where
 pg:PySem.W.plainGet K C Str.empty=true
 hd:PySem.W.hasDictIn K C=true
 po:PySem.W.plainOver K C=true
 sa:PySem.W.findIn K (.ref C) "__setattr__"=some (some (.builtin "object.__setattr__"))
structure DY (K:PySem.W.Frag) (C:Addr) (f:Str) (v:V) (u:Value):Prop where
 at_:PySem.W.findIn K (.ref C) f=some (some u)
 rel:RelV v u
 get:PySem.W.specialIn K u "__get__"=some none
 cp:PySem.W.copiedNames.contains f=false
structure DM (K:PySem.W.Frag) (C:Addr) (m:Str) (f:Addr):Prop where
 at_:PySem.W.findIn K (.ref C) m=some (some (.ref f))
 fn:PySem.W.isFn K (.ref f)=true
 kp:PySem.W.keepIn K (.ref f)=true
section
variable {X:Cx} {pins:List (Addr×Obj)} {σ:St} {H:Hp} {s:Shared} {a C dx:Addr} {fs:List (Str×V)} {f:Str} {v:V} {A:Around} {E:Value→Shared→Prop}
end
section
variable {X:Cx} {o e value:Expr} {f:Str} {pos pos' tpos:Pos} {ta tv:TE}
end
section
variable {X:Cx} {pins:List (Addr×Obj)} {σ:St} {H:Hp} {s:Shared} {A:Around} {E:Value→Shared→Prop} {Q:Value→Shared→Prop} {c:Value} {b:Bool}
inductive gL (K:PySem.W.Frag) (H:Hp):V→Value→Prop where
 |non:gL K H .non (.type "NoneType")
 |bl (x:Bool):gL K H (.bl x) (.type "bool")
 |int (i:Int):gL K H (.int i) (.type "int")
 |str (x:Str):gL K H (.str x) (.type "str")
 |flt (x:UInt64):gL K H (.flt x) (.type "float")
 |lst {a:Addr} {xs:List V} (e:H a=some (.lst xs)):gL K H (.ref a) (.type "list")
 |frz {a:Addr} {o:Obj} {xs:List V} (e:H a=some (.frz o (.lst xs))):gL K H (.ref a) (.type "list")
 |tup {a:Addr} {xs:List V} (e:H a=some (.tup xs)):gL K H (.ref a) (.type "tuple")
 |dK {a:Addr} {kvs:List (j6×V)} (e:H a=some (.dK kvs)):gL K H (.ref a) (.type "dict")
 |dT {a:Addr} {kvs:List (List j6×V)} (e:H a=some (.dT kvs)):gL K H (.ref a) (.type "dict")
 |ins {a C dx:Addr} {fs:List (Str×V)} (e:H a=some (.ins C dx fs)) (cl:DK K C) (ha:PySem.W.findIn K (.ref C) "__class__"=some (some (.builtin "object.__class__")))
   (hn:PySem.W.specialIn K (.builtin "object.__class__") "__get__"=some (some (.builtin "getset_descriptor.__get__"))) (htk:PySem.W.takesIn K (.builtin "object.__class__")=some true)
   (hm:PySem.W.mroIn K C (.type "object")=some true):gL K H (.ref a) (.ref C)
end
end L2
namespace L2
open PySem PySem.Spec PyProof.Rows
structure Room (k:Nat) (A:Around):Prop where
 hd:A.handled=none
 dp:A.depth+3*k+5<recursionLimit
 un:A.units+16*k+200<cLine
theorem Room.mono {j k:Nat}{A:Around}(r:Room k A)(h:j≤k):Room j A:=⟨r.hd,by have:=r.dp;omega,by have:=r.un;omega⟩
theorem Room.deeper {k:Nat}{A:Around}(r:Room (k+1) A)(env:Env):Room k (A.deeper env):=
 ⟨r.hd,by have:=r.dp;show A.depth+1+3*k+5<_;omega,by have:=r.un;show A.units+3+16*k+200<_;omega⟩
theorem Room.depth {k:Nat}{A:Around}(r:Room k A):A.depth<recursionLimit:=by have:=r.dp;omega
theorem Room.units {k:Nat}{A:Around}(r:Room k A):A.units+64<cLine:=by have:=r.un;omega
def fS:TA:=fun _ H Q=>Q [] H
def de (ta:TE)(tr:TA):TA:=fun σ H Q=>ta σ H fun x H1=>tr σ H1 fun xs H2=>Q (x::xs) H2
section
variable {X:Cx} {e:Expr} {es:List Expr} {te:TE} {t:TA} {pos:Pos}
theorem zT:PA X [] fS:=fun _ _ _ _ H Q I h=>Calls.spliced_nil ⟨[],H,I,.nil,h⟩
theorem vw (ha:PE X e te)(hr:PA X es t)(hs:starEach (e::es) X.env=(false,eval e X.env)::starEach es X.env:=by rfl):PA X (e::es) (de te t):=by
 intro pos pins s σ H Q I h
 rw[hs]
 show wpAny _ _ (spliced ((false,eval e X.env)::backTo pos (starEach es X.env))) _ _ s
 refine Calls.spliced_cons (K6 (ha pins s σ H _ I h) fun u s1 ⟨x,H1,I1,r1,q1⟩=>?_)
 exact K6 (hr pos pins s1 σ H1 _ I1 q1) fun us s2 ⟨xs,H2,I2,r2,q2⟩=>⟨x::xs,H2,I2,.cons r1 r2,q2⟩
def zi (t:TA):TE:=fun σ H Q=>t σ H fun xs H1=>xs.length≤sizeLine∧∀p,H1 p=none→Q (.ref p) (A5 H1 p (.tup xs))
def uE (t:TA):TE:=fun σ H Q=>t σ H fun xs H1=>xs.length≤sizeLine∧∀p,H1 p=none→Q (.ref p) (A5 H1 p (.lst xs))
theorem yi {x1}(h:PA X es t):PE X (.Tuple es x1 pos) (zi t):=by
 intro pins s σ H Q I hq
 refine wpAny_Tuple_spliced (K6 (h pos pins s σ H _ I hq) fun us s1 ⟨xs,H1,I1,r,z,q⟩=>⟨by rw[←r.length];exact z,?_⟩)
 have hf:H1 s1.heap.objs.size=none:=I1.hok.fresh (Nat.le_refl _)
 refine⟨.ref s1.heap.objs.size,A5 H1 s1.heap.objs.size (.tup xs),I1.laid (t':=s1.toks) (fun b u e=>Heap.get?_push_of_some _ e) (Nat.le_refl _) ?_,rfl,q _ hf⟩
 exact⟨z,us,r,⟨_,Heap.get?_push_size _ rfl,rfl,_,rfl⟩⟩
theorem zp (h:PA X es t):PE X (.List es pos) (uE t):=by
 intro pins s σ H Q I hq
 refine wpAny_List_spliced (K6 (h pos pins s σ H _ I hq) fun us s1 ⟨xs,H1,I1,r,z,q⟩=>⟨by rw[←r.length];exact z,?_⟩)
 have hf:H1 s1.heap.objs.size=none:=I1.hok.fresh (Nat.le_refl _)
 refine⟨.ref s1.heap.objs.size,A5 H1 s1.heap.objs.size (.lst xs),I1.laid (t':=s1.toks) (fun b u e=>Heap.get?_push_of_some _ e) (Nat.le_refl _) ?_,rfl,q _ hf⟩
 exact⟨z,us,0,r,Heap.get?_push_size _ rfl⟩
end
abbrev Sp:=List V→Hp→VK→XK→Prop
abbrev kG:=List Env→Hp→Shared→XK→Value→Shared→Prop
structure xt (P:Program) (w:World) (K:PySem.W.Frag) (mg:Str→Option Value) (base:Heap) (A:Around) (outer:List Env) (s:Shared) (H:Hp):Prop where
 frames:A.frames=some outer
 mod:Mod K mg base
 bs:∀b o,base.get? b=some o→s.heap.get? b=some o∧H b=none
 bsz:base.objs.size≤s.heap.objs.size
 funs:s.heap.FunFrames base outer
 frf:∀b∈T7 outer,H b=none
 hok:HOk P w H s.heap
 bare:AllBare s.gens
def CE (outer:List Env)(P:Program)(w:World)(H:Hp)(s:Shared)(Q:VK)(u:Value)(s':Shared):Prop:=
 ∃v H',s'.os=s.os∧AllBare s'.gens∧Un (T7 outer) [] H H' s.heap s'.heap∧HOk P w H' s'.heap∧RelV v u∧Q v H'
def CR (CX:kG)(outer:List Env)(P:Program)(w:World)(H:Hp)(s:Shared)(Q:VK)(E:XK)(r:Result)(s':Shared):Prop:=
 match r with
 | .ok (.ret u)=>CE outer P w H s Q u s'
 | .ok _=>False
 | .error e=>CX outer H s E e s'
structure E3 (P:Program) (w:World) (K:PySem.W.Frag) (mg:Str→Option Value) (base:Heap) (CX:kG) (k:Nat) (f:Addr) (fd:FuncData) (ps:List Str) (sp:Sp):Prop where
 len:∀vs H Q E,sp vs H Q E→vs.length=ps.length
 run:∀(A:Around) (outer:List Env) (s:Shared) (H:Hp) (args:Args) (us:List Value) (vs:List V) (Q:VK) (E:XK),Room k A→xt P w K mg base A outer s H→BindsTo s fd args (ps.zip us)→Vals vs us→sp vs H Q E→
  codeAny (model P w) A (.call (.ref f) args) (CR CX outer P w H s Q E) s
section
variable {X:Cx} {pins:List (Addr×Obj)} {σ:St} {H:Hp} {s s':Shared}
theorem Inv.env0 (I:Inv X pins σ H s):xt X.prog X.w X.K X.mg X.base X.A X.stack s H:=
 ⟨I.ok.frames,I.ok.mod,I.bs,Nat.le_trans I.ok.bsz I.sz,I.stack,I.stkFree,I.hok,I.bare⟩
theorem Inv.after {Q:VK}{u:Value}(I:Inv X pins σ H s)(h:CE X.stack X.prog X.w H s Q u s'):EP X pins σ Q u s':=by
 obtain⟨v,H',os,bare,un,hok,r,q⟩:=h
 obtain⟨hh,g,d,t,os'⟩:=s'
 obtain rfl:os'=s.os:=os
 exact⟨v,H',I.call (h':=hh) (g':=g) (d':=d) (t':=t) (ch:=[]) un hok bare (fun b z=>absurd z (by simp)),r,q⟩
end
def kZ (sp:Sp)(dvs:List V)(E:XK)(t:TA):TE:=fun σ H Q=>t σ H fun vs H1=>sp (vs++dvs) H1 Q E
def Binds (K:PySem.W.Frag)(fd:FuncData)(ps:List Str)(ds:List Value):Prop:=
 ∀(s:Shared) (us:List Value),K.In s.heap→(us++ds).length=ps.length→BindsTo s fd ⟨us,[]⟩ (ps.zip (us++ds))
theorem Binds.all {K:PySem.W.Frag}{fd:FuncData}{ps:List Str}(h:∀us:List Value,us.length=ps.length→bindArgs fd ⟨us,[]⟩=pure (ps.zip us)):Binds K fd ps []:=fun s us _ hl=>by
 rw[List.append_nil] at hl⊢
 exact .of_eq (h us hl)
def bt (CX:kG)(X:Cx)(E:XK):Prop:=∀(pins:List (Addr×Obj)) (σ:St) (H:Hp) (s:Shared) (e:Value) (s':Shared),Inv X pins σ H s→CX X.stack H s E e s'→X.xe e s'
section
variable {X:Cx} {CX:kG} {k:Nat} {f C:Addr} {fd:FuncData} {ps:List Str} {sp:Sp} {dvs:List V} {ds:List Value} {E:XK} {x m:Str} {p pos apos:Pos} {e o:Expr} {es:List Expr} {ta:TE} {t:TA}
theorem mT {pins:List (Addr×Obj)}{σ:St}{H:Hp}{s:Shared}{Q:VK}{us:List Value}{vs:List V}(F:E3 X.prog X.w X.K X.mg X.base CX k f fd ps sp)(hr:Room k X.A)(hb:Binds X.K fd ps ds)(hd:Vals dvs ds)(hx:bt CX X E)
  (I:Inv X pins σ H s) (r:Vals vs us) (h:sp (vs++dvs) H Q E):wpAny (model X.prog X.w) X.A (call (.ref f) us) (EP X pins σ Q) X.xe s:=by
 have r2:Vals (vs++dvs) (us++ds):=r.append hd
 have hl:(us++ds).length=ps.length:=by rw[←r2.length];exact F.len _ _ _ _ h
 refine wpAny_call (codeAny_mono (F.run X.A X.stack s H ⟨us,[]⟩ (us++ds) (vs++dvs) Q E hr I.env0 (hb s us I.kIn hl) r2 h) fun r s' hq=>?_)
 cases r with
 |error e=>exact hx pins σ H s e s' I hq
 |ok fl=>
  cases fl with
  |ret u=>exact I.after hq
  |next=>exact False.elim hq
  |brk=>exact False.elim hq
  |cont=>exact False.elim hq
theorem vZ (F:E3 X.prog X.w X.K X.mg X.base CX k f fd ps sp)(hr:Room k X.A)(hg:Gl X x)(hm:X.mg x=some (.ref f))(hk:PySem.W.keepIn X.K (.ref f)=true)(hb:Binds X.K fd ps ds)(hd:Vals dvs ds)(hx:bt CX X E)
  (ha:PA X (e::es) t) (hdb:(x==("__debug__":Str))=false:=by decide) (he:starEach (e::es) X.env=(false,eval e X.env)::starEach es X.env:=by rfl) (hpl:(backTo pos (starEach es X.env)).any (·.1)=false:=by rfl):
  PE X (.Call (.Name x p) (e::es) [] pos) (kZ sp dvs E t):=by
 intro pins s σ H Q I h
 refine wpAny_Call_Name_kw (gm I hg hm ?_ hdb)
 refine PySem.W.callWith_K (h₀:=X.base) I.ok.mod.kin hk (K6 (ha pos pins s σ H _ I h) fun us s1 ⟨vs,H1,I1,r,q⟩=>⟨I1.kIn,?_⟩) he hpl
 exact mT F hr hb hd hx I1 r q
structure Mk (K:PySem.W.Frag) (C f:Addr):Prop where
 makes:PySem.W.makesIn K C=true
 init:PySem.W.findIn K (.ref C) "__init__"=some (some (.ref f))
 fn:PySem.W.isFn K (.ref f)=true
 kp:PySem.W.keepIn K (.ref C)=true
end
section
variable {X:Cx} {CX:kG} {k:Nat} {f C:Addr} {fd:FuncData} {ps ks:List Str} {sp:Sp} {E:XK} {x m:Str} {p pos apos kpos:Pos} {e o:Expr} {es:List Expr} {kws:List Keyword} {te ta:TE} {t tk:TA} {nm:Option Str}
structure Cv (K:PySem.W.Frag) (fd:FuncData) (ps ks:List Str) (g:List Value→List Value→List Value) (gV:List V→List V→List V):Prop where
 to:∀(s:Shared) (us ws:List Value),K.In s.heap→(g us ws).length=ps.length→BindsTo s fd ⟨us,ks.zip ws⟩ (ps.zip (g us ws))
 rel:∀{vs:List V} {us:List Value} {zs:List V} {ws:List Value},Vals vs us→Vals zs ws→Vals (gV vs zs) (g us ws)
variable {g:List Value→List Value→List Value} {gV:List V→List V→List V}
end
structure j7 (N P:List Str) (sc:Scope):Prop where
 kind:sc.kind= .function
 co:sc.isCoroutine=false
 gen:sc.isGenerator=false
 nd:N.Nodup
 pre:N.take P.length=P
 par:∀x∈P,sc.names.lookup x=some .local∨sc.names.lookup x=some .cell
 nofree:∀y∈sc.names,y.2≠ .free
theorem jc {kindOf:Str→Option NameKind}{x:Str}:∀{binds:List (Str×Value)} {m:Str→Option Value},(∀v,(x,v)∉binds)→bindL kindOf binds m x=m x
 |[],_,_=>rfl
 |(n,v)::r,m,h=>by
  unfold bindL
  rw[jc fun w hw=>h w (List.mem_cons_of_mem _ hw)]
  split
  ·have:x≠n:=by rintro rfl;exact h v List.mem_cons_self
   simp [this]
  ·rfl
theorem iV {kindOf:Str→Option NameKind}{x:Str}:∀{binds:List (Str×Value)} {m:Str→Option Value},(∀v,(x,v)∉binds)→bindC kindOf binds m x=m x
 |[],_,_=>rfl
 |(n,v)::r,m,h=>by
  unfold bindC
  rw[iV fun w hw=>h w (List.mem_cons_of_mem _ hw)]
  split
  ·rfl
  ·have:x≠n:=by rintro rfl;exact h v List.mem_cons_self
   simp [this]
theorem je {kindOf:Str→Option NameKind}{x:Str}{v:Value}:∀{P:List Str} {vs:List Value} {i:Nat} {m:Str→Option Value},P.Nodup→P[i]?=some x→vs[i]?=some v→kindOf x=some .local→
  bindL kindOf (P.zip vs) m x=some v
 |[],_,_,_,_,h,_,_=>by simp at h
 |_::_,[],_,_,_,_,h,_=>by simp at h
 |p::P,w::vs,0,m,nd,h1,h2,hk=>by
  simp at h1 h2;subst h1;subst h2
  show bindL kindOf ((p,w)::P.zip vs) m p=_
  unfold bindL
  rw[jc fun v hv=>(List.nodup_cons.mp nd).1 (List.of_mem_zip hv).1,if_pos hk]
  simp
 |p::P,w::vs,i+1,m,nd,h1,h2,hk=>by
  show bindL kindOf ((p,w)::P.zip vs) m x=_
  unfold bindL
  exact je (i:=i) (List.nodup_cons.mp nd).2 (by simpa using h1) (by simpa using h2) hk
theorem ja {kindOf:Str→Option NameKind}{x:Str}{v:Value}:∀{P:List Str} {vs:List Value} {i:Nat} {m:Str→Option Value},P.Nodup→P[i]?=some x→vs[i]?=some v→kindOf x≠some .local→
  bindC kindOf (P.zip vs) m x=some v
 |[],_,_,_,_,h,_,_=>by simp at h
 |_::_,[],_,_,_,_,h,_=>by simp at h
 |p::P,w::vs,0,m,nd,h1,h2,hk=>by
  simp at h1 h2;subst h1;subst h2
  show bindC kindOf ((p,w)::P.zip vs) m p=_
  unfold bindC
  rw[iV fun v hv=>(List.nodup_cons.mp nd).1 (List.of_mem_zip hv).1,if_neg hk]
  simp
 |p::P,w::vs,i+1,m,nd,h1,h2,hk=>by
  show bindC kindOf ((p,w)::P.zip vs) m x=_
  unfold bindC
  exact ja (i:=i) (List.nodup_cons.mp nd).2 (by simpa using h1) (by simpa using h2) hk
def dB (N:List Str)(vs:List V):St:=vs.map some++List.replicate (N.length -vs.length) none
def dX (CX:kG)(P:Program)(w:World)(K:PySem.W.Frag)(mg:Str→Option Value)(base:Heap)(N:List Str)(qual:Str)(scope:Scope)(f:Addr)(cd:Value)(A:Around)(outer:List Env)(s:Shared)(H:Hp)(E:XK):Cx where
 prog:=P
 w:=w
 K:=K
 mg:=mg
 base:=base
 A:=A.deeper (envOfC qual scope s.heap.objs.size f cd)
 N:=N
 s₀:=s
 H₀:=H
 env:=envOfC qual scope s.heap.objs.size f cd
 outer:=outer
 stack:=envOfC qual scope s.heap.objs.size f cd::outer
 ex:=[]
 calm:=true
 fn:=fun _=>true
 pn:=[]
 xe:=fun e s'=>wpAny (model P w) (A.deeper (envOfC qual scope s.heap.objs.size f cd)) («leaving» (envOfC qual scope s.heap.objs.size f cd) e) (fun _ s''=>CX outer H s E e s'') (fun e' s''=>CX outer H s E e' s'') s'
theorem lq {sc:Scope}{n:Nat}{x:Str}(h:sc.names.lookup x=some .cell):∃c,(cellsFrom n sc.names []).lookup x=some c:=by
 have q:=PySem.W.cellsFrom_some sc.names n [] (.inl h)
 exact Option.isSome_iff_exists.mp q
theorem qb {CX:kG}{P:Program}{w:World}{K:PySem.W.Frag}{mg:Str→Option Value}{base:Heap}{N ps:List Str}{qual:Str}{scope:Scope}{f:Addr}{cd:Value}{A:Around}{outer:List Env}{s s1:Shared}{H:Hp}{E:XK}{us:List Value}{vs:List V}
  (S:j7 N ps scope) (hd:A.handled=none) (e0:xt P w K mg base A outer s H) (hl:vs.length=ps.length) (r:Vals vs us)
  (x:InCallC s s.heap.objs.size (bindL (envOfC qual scope s.heap.objs.size f cd).kindOf (ps.zip us) fun _=>none) (cellsFrom (s.heap.objs.size+1) scope.names []) (bindC (envOfC qual scope s.heap.objs.size f cd).kindOf (ps.zip us) fun _=>none) s1):
  Inv (dX CX P w K mg base N qual scope f cd A outer s H E) [] (dB N vs) H s1:=by
 have hpl:ps.length≤N.length:=by have:=congrArg List.length S.pre;rw[List.length_take] at this;omega
 obtain⟨h1,tk,rfl,hk⟩:=x.done
 have noA:∀b:Addr,b∉(dX CX P w K mg base N qual scope f cd A outer s H E).ex:=fun b z=>absurd (show b∈([]:List Addr) from z) (by simp)
 refine⟨⟨e0.mod,S.kind,rfl,rfl,Nat.le_refl _,fun y z c h1 h2=>?_,fun y hy=>?_,fun y c _ h=>?_,fun _=>hd,Around.frames_deeper e0.frames,.inr ⟨rfl,rfl⟩,fun b z=>absurd z (noA b),e0.bs,e0.bsz,fun b _ _=>noA b,fun b z=>absurd z (noA b),e0.funs,e0.frf⟩,
  rfl,e0.bare,Un.kept hk,⟨_,x.toInCall.ns,fun i y v h1 h2 h3=>?_⟩,fun y c h=>⟨_,x.cell y c h⟩,e0.hok.fresh (Nat.le_refl _),fun y c h=>?_,fun p hp=>absurd (show p∈([]:List (Addr×Obj)) from hp) (by simp),e0.hok.kept hk,?_⟩
 ·exact name_of_addr x.apart (PySem.mem_of_lookup h1) (PySem.mem_of_lookup h2)
 ·have hy:scope.names.lookup y=some .cell∨scope.names.lookup y=some .free:=hy
  rcases hy with hy|hy
  ·exact lq hy
  ·exact absurd rfl (S.nofree _ (PySem.mem_of_lookup hy))
 ·exact Nat.le_of_lt (x.above y c (PySem.mem_of_lookup h))
 ·have hi:i<vs.length:=by
   unfold dB at h2
   by_cases hi:i<vs.length
   ·exact hi
   ·rw[List.getElem?_append_right (by simpa using hi)] at h2
    rw[List.getElem?_replicate] at h2
    split at h2<;>cases h2
  have ha:vs[i]?=some v:=by
   unfold dB at h2
   rw[List.getElem?_append_left (by simpa using hi),List.getElem?_map] at h2
   cases e:vs[i]? with
   |none=>rw[e] at h2;cases h2
   |some a=>rw[e] at h2;cases h2;rfl
  obtain⟨u,hu,rv⟩:=r.get ha
  have hp:ps[i]?=some y:=by
   rw[←S.pre,List.getElem?_take_of_lt (by omega)];exact h1
  have ndP:ps.Nodup:=by rw[←S.pre];exact S.nd.sublist (List.take_sublist _ _)
  refine⟨u,rv,?_⟩
  rcases S.par y (List.mem_of_getElem? hp) with k|k
  ·exact .inl ⟨k,je ndP hp hu k⟩
  ·obtain⟨c,e⟩:=lq (n:=s.heap.objs.size+1) k
   refine .inr ⟨.inl k,c,e,?_⟩
   have q:=x.cell y c e
   rw[ja ndP hp hu (by show scope.names.lookup y≠_;rw[k];decide)] at q
   exact q
 ·exact e0.hok.fresh (Nat.le_of_lt (x.above y c (PySem.mem_of_lookup h)))
 ·unfold dB
  show _=N.length
  rw[List.length_append,List.length_map,List.length_replicate]
  omega
theorem xv {CX:kG}{P:Program}{w:World}{K:PySem.W.Frag}{mg:Str→Option Value}{base:Heap}{k:Nat}{f:Addr}{name qual:Str}{params:Arguments}{body:List Stmt}{scope:Scope}{dV kV doc pm cdv ct oc:Value}{an od:Option Addr}
  {osl:Array (Option Value)} {N ps:List Str} {sp:Sp} (lk:K.lookup f=some ⟨oc,od,.func (PySem.W.fnOf name qual params body scope dV kV doc pm an cdv ct),osl⟩) (hcd:PySem.W.codeIn K cdv qual=true) (S:j7 N ps scope)
  (len:∀vs H Q E,sp vs H Q E→vs.length=ps.length)
  (hbody:∀(A:Around) (outer:List Env) (s:Shared) (H:Hp) (vs:List V) (Q:VK) (E:XK),Room k (A.deeper (envOfC qual scope s.heap.objs.size f cdv))→sp vs H Q E→
   ∃t,PSs (dX CX P w K mg base N qual scope f cdv A outer s H E) body t∧t {nx:=fun _ H'=>Q .non H',rt:=Q} (dB N vs) H):
  E3 P w K mg base CX (k+1) f (PySem.W.fnOf name qual params body scope dV kV doc pm an cdv ct) ps sp:=by
 refine⟨len,fun A outer s H args us vs Q E hr e0 hb r hsp=>?_⟩
 have hl:=len _ _ _ _ hsp
 have KX:K.In s.heap:=e0.mod.kin.keeps fun b o e=>(e0.bs b o e).1
 have lim:s.heap.NoLimit:=e0.mod.nolimit.keeps fun b o e=>(e0.bs b o e).1
 have hkind:∀y∈ps.zip us,scope.names.lookup y.1=some .local∨(scope.names.lookup y.1=some .cell∧((cellsFrom (s.heap.objs.size+1) scope.names []).lookup y.1).isSome=true):=fun⟨n,v⟩ hy=>by
  rcases S.par n (List.of_mem_zip hy).1 with q|q
  ·exact .inl q
  ·exact .inr ⟨q,PySem.W.cellsFrom_some _ _ _ (.inl q)⟩
 refine codeAny_call_function hr.depth (KX _ _ lk) rfl S.co S.gen rfl (PySem.W.codeRec_of KX hcd) (hb _ _ _ _ ?_)
 refine wpAny_newFunctionEnv_cells S.kind hkind fun env he s1 x=>?_
 subst he
 refine⟨lim.keeps x.toInCall.keep,codeAny_func ?_⟩
 obtain⟨t,ht,hq⟩:=hbody A outer s H vs Q E (hr.deeper _) hsp
 have I:Inv (dX CX P w K mg base N qual scope f cdv A outer s H E) [] (dB N vs) H s1:=qb S hr.hd e0 hl r x
 refine wpAny_mono (ht [] s1 (dB N vs) H _ I hq) (fun fl s' hs=>?_) fun e s' hs=>hs
 have fin:∀{σ':St} {H':Hp} {v:V} {u:Value},Inv (dX CX P w K mg base N qual scope f cdv A outer s H E) [] σ' H' s'→RelV v u→Q v H'→CE outer P w H s Q u s':=
  fun{σ' H' v u} J rv q=>⟨v,H',J.os,J.bare,J.base,J.hok,rv,q⟩
 cases fl with
 |ret u=>
  obtain⟨v,σ',H',J,rv,q⟩:=hs
  exact fin J rv q
 |next=>
  obtain⟨σ',H',J,q⟩:=hs
  exact fin (v:=V.non) (u:=Value.none) J rfl q
 |brk=>
  obtain⟨_,_,_,q⟩:=hs
  exact False.elim q
 |cont=>
  obtain⟨_,_,_,q⟩:=hs
  exact False.elim q
end L2
namespace L2
open PySem PySem.Spec PyProof.Rows
section
variable {X:Cx} {x:Str} {p pos:Pos} {e:Expr} {es:List Expr} {t:TA} {id T:String} {r:List V→Hp→VK→Prop}
def yH (r:List V→Hp→VK→Prop)(t:TA):TE:=fun σ H Q=>t σ H fun vs H1=>r vs H1 Q
theorem rH (hc:CallR X (.builtin id) r)(hg:Gl X x)(hm:X.mg x=none)(hv:bootBuiltins x=some (.builtin id))(ha:PA X (e::es) t)(hn:x≠"__name__":=by decide)(hdb:(x==("__debug__":Str))=false:=by decide)
  (he:starEach (e::es) X.env=(false,eval e X.env)::starEach es X.env:=by rfl) (hpl:(backTo pos (starEach es X.env)).any (·.1)=false:=by rfl):PE X (.Call (.Name x p) (e::es) [] pos) (yH r t):=by
 intro pins s σ H Q I h
 refine wpAny_Call_Name_kw (gX I hg hm hv ?_ hn hdb)
 exact PyProof.Rows.callWith_builtin1 (K6 (ha pos pins s σ H _ I h) fun us s1 ⟨vs,H1,I1,r1,q1⟩=>hc pins s1 σ H1 vs us Q I1 r1 q1) he hpl
theorem qY (hc:CallR X (.type T) r)(hg:Gl X x)(hm:X.mg x=none)(hv:bootBuiltins x=some (.type T))(ha:PA X (e::es) t)(hn:x≠"__name__":=by decide)(hdb:(x==("__debug__":Str))=false:=by decide)
  (he:starEach (e::es) X.env=(false,eval e X.env)::starEach es X.env:=by rfl) (hpl:(backTo pos (starEach es X.env)).any (·.1)=false:=by rfl):PE X (.Call (.Name x p) (e::es) [] pos) (yH r t):=by
 intro pins s σ H Q I h
 refine wpAny_Call_Name_kw (gX I hg hm hv ?_ hn hdb)
 exact PyProof.Rows.callWith_type1 (K6 (ha pos pins s σ H _ I h) fun us s1 ⟨vs,H1,I1,r1,q1⟩=>hc pins s1 σ H1 vs us Q I1 r1 q1) he hpl
end
end L2
namespace HT
open PySem PyProof.Rows
section
open PySem.SeqAt
open PySem.AutoSeq1 (wpAny_loadPart')
open PySem.MeetsSeq PySem.MeetsSeq2 PySem.MeetsSeq3
end
section
variable {prog:Program} {w:World} {A:Around} {E:Value→Shared→Prop} {s:Shared}
theorem cat_tup {t b:Addr}{vs ws:List Value}{Q:Value→Shared→Prop}(ht:IsTup s.heap t vs.toArray)(hb:IsTup s.heap b ws.toArray)(hv:vs≠[])
  (h1:ws=[]→Q (.ref t) s) (h2:ws≠[]→Q (.ref s.heap.objs.size) {s with heap:=s.heap.push {cls:= .type "tuple",data:= .seq (vs++ws).toArray}})
  (hsz:vs.length+ws.length≤sizeLine):wpAny (model prog w) A (binaryOp .Add (.ref t) (.ref b)) Q E s:=by
 obtain⟨⟨cls,dd,data,sl⟩,ho,hc,n,hd⟩:=id ht
 obtain⟨⟨cls2,dd2,data2,sl2⟩,ho2,hc2,n2,hd2⟩:=id hb
 simp only at hc hd hc2 hd2
 subst hc hd hc2 hd2
 have e:vs.toArray++ws.toArray=(vs++ws).toArray:=by simp
 by_cases hw:ws=[]
 ·exact concat_meets ⟨_,ho,rfl⟩ ⟨_,ho2,rfl⟩ noFill_tuple_add seq_tuple_add PySem.F.slot_tuple_add PySem.F.entry_tuple_add (PySem.F.args_tuple_add_2 _ _)
   (tuple_addW1 t b vs.toArray ws.toArray n n2 dd dd2 sl sl2 (by simpa using hv) (by simp [hw])) ⟨ho,ho2,h1 hw⟩
 ·refine concat_meets ⟨_,ho,rfl⟩ ⟨_,ho2,rfl⟩ noFill_tuple_add seq_tuple_add PySem.F.slot_tuple_add PySem.F.entry_tuple_add (PySem.F.args_tuple_add_2 _ _)
   (tuple_addW2 t b vs.toArray ws.toArray n n2 dd dd2 sl sl2 (by simpa using hv) (by simpa using hw) (by rw[List.size_toArray,List.size_toArray];exact hsz)) ⟨ho,ho2,?_⟩
  rw[e]
  exact h2 hw
def sIx (n d:Nat):Option Int→Nat
 |none=>d
 |some v=>if v<0 then(v+(n:Int)).toNat else min v.toNat n
theorem sIx_none (n d:Nat):sIx n d none=d:=rfl
theorem sIx_nat (n d k:Nat):sIx n d (some (k:Int))=min k n:=by
 show(if(k:Int)<0 then((k:Int)+(n:Int)).toNat else min (k:Int).toNat n)=min k n
 rw[if_neg (by omega),Int.toNat_natCast]
theorem yq (n d:Nat)(hd:d≤n)(o:Option Int):sIx n d o≤n:=by
 cases o with
 |none=>exact hd
 |some v=>
  show(if v<0 then(v+(n:Int)).toNat else min v.toNat n)≤n
  by_cases hv:v<0
  ·rw[if_pos hv];omega
  ·rw[if_neg hv];exact Nat.min_le_right _ _
theorem oP (v:Int)(n d:Nat):(if v<0 then max (v+(n:Int)) 0 else min v (n:Int))=((sIx n d (some v):Nat):Int):=by
 show(if v<0 then max (v+(n:Int)) 0 else min v (n:Int))=(((if v<0 then(v+(n:Int)).toNat else min v.toNat n):Nat):Int)
 by_cases hv:v<0
 ·simp only[if_pos hv];omega
 ·simp only[if_neg hv];omega
theorem ng (lo hi:Option Int)(n:Nat):Builtin.Slice.sliceAdjust lo hi 1 (n:Int)=(((sIx n 0 lo:Nat):Int),((sIx n n hi:Nat):Int)):=by
 have h1:¬((1:Int)<0):=by omega
 unfold Builtin.Slice.sliceAdjust
 simp only[h1,if_false]
 refine Prod.ext ?_ ?_
 ·cases lo with
  |none=>rfl
  |some v=>exact oP v n 0
 ·cases hi with
  |none=>rfl
  |some v=>exact oP v n n
theorem nS (i j:Nat):Builtin.Slice.slicePlaces (i:Int) (j:Int) 1=j -i:=by
 unfold Builtin.Slice.slicePlaces
 have h1:(1:Int)>0:=by omega
 simp only[h1,if_true,Int.ediv_one]
 split<;>omega
theorem il {v:Value}{o:Option Int}{Q:Option Int→Shared→Prop}(p:IsPart v o)(h:Q o s):wpAny (model prog w) A (Builtin.Slice.slicePartIndex v) Q E s:=by
 cases p with
 |none=>exact slicePart_none h
 |int i t=>exact slicePart_int h
theorem eS {sl:Addr}{vl vu:Value}{lo hi:Option Int}{n:Nat}{Q:Int×Int×Nat→Shared→Prop}(hs:s.heap.IsSliceOf sl vl vu .none)(pl:IsPart vl lo)(pu:IsPart vu hi)
  (h:Q (((sIx n 0 lo:Nat):Int),1,sIx n n hi -sIx n 0 lo) s):wpAny (model prog w) A (Builtin.Slice.sliceApplied (.ref sl) (pure (n:Int))) Q E s:=by
 obtain⟨os,hos,hcs,hds⟩:=id hs
 unfold Builtin.Slice.sliceApplied Builtin.Slice.sliceFields
 refine wpAny_bind (wpAny_bind (wpAny_field hos hds (x:=vl) rfl (wpAny_bind (wpAny_field hos hds (x:=vu) rfl (wpAny_bind (wpAny_field hos hds (x:= .none) rfl (wpAny_pure ?_)))))))
 refine wpAny_bind (slicePart_none ?_)
 show wpAny _ _ (if((1:Int)==0)=true then _ else _) _ _ s
 rw[if_neg (by decide)]
 refine wpAny_bind (il pl (wpAny_bind (il pu (wpAny_bind (wpAny_pure ?_)))))
 show wpAny _ _ (match Builtin.Slice.sliceAdjust lo hi 1 (n:Int) with|(lo,hi)=>pure (lo,(1:Int),Builtin.Slice.slicePlaces lo hi 1)) _ _ s
 rw[ng lo hi n]
 show wpAny _ _ (pure (((sIx n 0 lo:Nat):Int),(1:Int),Builtin.Slice.slicePlaces ((sIx n 0 lo:Nat):Int) ((sIx n n hi:Nat):Int) 1)) _ _ s
 rw[nS]
 exact wpAny_pure h
theorem rP (xs:Array Value)(i k:Nat):((List.range k).filterMap fun(m:Nat)=>xs[((i:Int)+(m:Int)*1).toNat]?).toArray=((xs.toList.drop i).take k).toArray:=by
 have e:(fun(m:Nat)=>xs[((i:Int)+(m:Int)*1).toNat]?)=fun m=>xs[i+m]?:=by
  funext m
  have:((i:Int)+(m:Int)*1).toNat=i+m:=by omega
  rw[this]
 rw[e]
 have:=pick_run xs i k
 rw[List.filterMap_map] at this
 have e2:((fun x=>xs[x]?)∘fun x=>i+x)=fun m=>xs[i+m]?:=rfl
 rw[e2] at this
 rw[this]
theorem getItem_tuple_cut {t sl:Addr}{items:Array Value}{vl vu:Value}{lo hi:Option Int}{Q:Value→Shared→Prop}(ht:IsTup s.heap t items)(hs:s.heap.IsSliceOf sl vl vu .none)(pl:IsPart vl lo)(pu:IsPart vu hi)
  (hw:¬(sIx items.size 0 lo=0∧sIx items.size items.size hi=items.size))
  (h:Q (.ref s.heap.objs.size) {s with heap:=s.heap.push {cls:= .type "tuple",data:= .seq ((items.toList.drop (sIx items.size 0 lo)).take (sIx items.size items.size hi -sIx items.size 0 lo)).toArray}})
  (hsz:items.size≤sizeLine):wpAny (model prog w) A (getItem (.ref t) (.ref sl)) Q E s:=by
 have htake:sizeOk (.seq ((items.toList.drop (sIx items.size 0 lo)).take (sIx items.size items.size hi -sIx items.size 0 lo)).toArray):=by
  show((items.toList.drop (sIx items.size 0 lo)).take (sIx items.size items.size hi -sIx items.size 0 lo)).toArray.size≤sizeLine
  rw[List.size_toArray,List.length_take,List.length_drop,Array.length_toList]
  omega
 have hj:sIx items.size items.size hi≤items.size:=yq _ _ (Nat.le_refl _) hi
 obtain⟨os,hos,hcs,hds⟩:=id hs
 have hTs:s.TypeIs (.ref sl) "slice":=⟨os,hos,hcs⟩
 unfold getItem
 try with_reducible refine wpAny_holding ?_
 first|refine wpAny_bind (wpAny_pure ?_)|skip
 refine wpAny_bind (wpAny_sequenceKey ht.typeIs (by decide) ?_)
 refine wpAny_bind (wpAny_callSpecial?_slot (name:=Str.ofString "__getitem__") ht.typeIs PyProof.Rows.slot_tuple_getitem
  (wpAny_call_entry PyProof.Rows.slot_tuple_getitem ht.typeIs entry_tuple_getitem ?_ (args_tuple_getitem _ _)))
 show wpAny _ _ (Builtin.Tuple.tupleItemsOf (.ref t)>>=_) _ _ s
 refine wpAny_bind (tupleItemsOf_ ht ?_)
 refine wpAny_bind (wpAny_typeOf hTs ?_)
 rw[if_pos (by decide)]
 refine wpAny_bind (eS hs pl pu ?_)
 have hno:¬((((sIx items.size 0 lo:Nat):Int)==0&&(1:Int)==1&&(sIx items.size items.size hi -sIx items.size 0 lo)==items.size)=true):=by
  intro q
  rw[Bool.and_eq_true,Bool.and_eq_true] at q
  have q1:((sIx items.size 0 lo:Nat):Int)=0:=eq_of_beq q.1.1
  have q2:sIx items.size items.size hi -sIx items.size 0 lo=items.size:=eq_of_beq q.2
  exact hw ⟨by omega,by omega⟩
 show wpAny _ _ (if(((sIx items.size 0 lo:Nat):Int)==0&&(1:Int)==1&&(sIx items.size items.size hi -sIx items.size 0 lo)==items.size)=true then _ else _) _ _ s
 rw[if_neg hno,rP]
 first
  |exact wpAny_bind (m:=Builtin.Tuple.tupleExact _) (wpAny_newObj_type (wpAny_pure ⟨_,rfl,wpAny_pure h⟩) htake)
  |exact wpAny_bind (m:=Builtin.Tuple.tupleExact _) (wpAny_newObj_type (wpAny_bind (wpAny_pure (wpAny_pure ⟨_,rfl,wpAny_pure h⟩))) htake)
  |exact wpAny_bind (wpAny_bind (m:=Builtin.Tuple.tupleExact _) (wpAny_newObj_type (wpAny_pure (wpAny_pure ⟨_,rfl,wpAny_pure h⟩)) htake))
  |exact wpAny_bind (wpAny_bind (m:=Builtin.Tuple.tupleExact _) (wpAny_newObj_type (wpAny_pure ⟨_,rfl,wpAny_pure h⟩) htake))
end
end HT
namespace L2
open PySem PySem.Spec PyProof.Rows
abbrev TO:=St→Hp→(Option Int→Hp→Prop)→Prop
def PO (X:Cx)(e:Option Expr)(t:TO):Prop:=
 ∀(pins:List (Addr×Obj)) (s:Shared) (σ:St) (H:Hp) (Q:Option Int→Hp→Prop),Inv X pins σ H s→t σ H Q→
  wpAny (model X.prog X.w) X.A (evalPart e X.env) (fun u s'=>∃o H',Inv X pins σ H' s'∧IsPart u o∧Q o H') X.xe s
def jC:TO:=fun _ H Q=>Q none H
def uB (t:TE):TO:=fun σ H Q=>t σ H fun x H1=>∃i,x= .int i∧Q (some i) H1
theorem nX {ns:List Int}:∀{us:List Value},Vals (ns.map V.int) us→IntsAre us ns:=by
 induction ns with
 |nil=>intro us r;rw[List.map_nil] at r;cases r;exact .nil
 |cons n ns ih=>
  intro us r
  rw[List.map_cons] at r
  cases r with
  |cons r1 r2=>
   obtain⟨t,e⟩:=r1
   subst e
   exact .cons n t (ih r2)
section
variable {X:Cx} {e:Expr} {te:TE} {lo hi:Option Expr} {tl th:TO} {pos p2:Pos}
theorem vT:PO X none jC:=by
 intro pins s σ H Q I h
 rw[evalPart_none]
 exact wpAny_pure ⟨none,H,I,.none,h⟩
theorem wK (h:PE X e te):PO X (some e) (uB te):=by
 intro pins s σ H Q I hw
 rw[evalPart_some]
 refine K6 (h pins s σ H _ I hw) fun u s1 ⟨x,H1,I1,r1,q1⟩=>?_
 obtain⟨i,rfl,q⟩:=q1
 obtain⟨t,rfl⟩:=r1
 exact⟨some i,H1,I1,.int i t,q⟩
def SlR (X:Cx)(r:V→Option Int→Option Int→Hp→VK→Prop):Prop:=
 ∀(pins:List (Addr×Obj)) (s:Shared) (σ:St) (H:Hp) (x:V) (v vl vu:Value) (lo hi:Option Int) (sl:Addr) (Q:VK),Inv X pins σ H s→RelV x v→s.heap.IsSliceOf sl vl vu .none→IsPart vl lo→IsPart vu hi→r x lo hi H Q→
  ∃T id,typeLookup (.type T) "__getitem__"=pure (some (.builtin id))∧s.TypeIs v T∧wpAny (model X.prog X.w) X.A (getItem v (.ref sl)) (EP X pins σ Q) X.xe s
theorem SlR.or {r r':V→Option Int→Option Int→Hp→VK→Prop}(h:SlR X r)(h':SlR X r'):SlR X (fun x lo hi H Q=>r x lo hi H Q∨r' x lo hi H Q):=by
 intro pins s σ H x v vl vu lo hi sl Q I rx hs pl pu q
 rcases q with q|q
 ·exact h pins s σ H x v vl vu lo hi sl Q I rx hs pl pu q
 ·exact h' pins s σ H x v vl vu lo hi sl Q I rx hs pl pu q
def CW (r:V→Option Int→Option Int→Hp→VK→Prop)(te:TE)(tl th:TO):TE:=fun σ H Q=>te σ H fun x H1=>tl σ H1 fun l H2=>th σ H2 fun u H3=>r x l u H3 Q
theorem tI {r:V→Option Int→Option Int→Hp→VK→Prop}(hr:SlR X r)(he:PE X e te)(hl:PO X lo tl)(hu:PO X hi th):PE X (.Subscript e (.Slice lo hi none p2) pos) (CW r te tl th):=by
 intro pins s σ H Q I h
 refine Subscript_ (K6 (he pins s σ H _ I h) fun v s1 ⟨x,H1,I1,r1,q1⟩=>?_)
 refine wpAny_Slice (K6 (hl pins s1 σ H1 _ I1 q1) fun vl s2 ⟨l,H2,I2,pl,q2⟩=>K6 (hu pins s2 σ H2 _ I2 q2) fun vu s3 ⟨u,H3,I3,pu,q3⟩=>?_)
 rw[evalPart_none]
 refine wpAny_pure ?_
 have I4:Inv X pins σ H3 {s3 with heap:=s3.heap.push {cls:= .type "slice",data:= .fields #[vl,vu,.none]}}:=I3.kept (t':=s3.toks) fun b ob q=>Heap.get?_push_of_some _ q
 obtain⟨T,id,hT,ht,hg⟩:=hr pins {s3 with heap:=s3.heap.push {cls:= .type "slice",data:= .fields #[vl,vu,.none]}} σ H3 x v vl vu l u s3.heap.objs.size Q I4 r1 (Heap.IsSliceOf.new ..) pl pu q3
 show wpAny (model X.prog X.w) X.A (subscriptTail e (.Slice lo hi none p2) v (.ref s3.heap.objs.size)) (EP X pins σ Q) X.xe {s3 with heap:=s3.heap.push {cls:= .type "slice",data:= .fields #[vl,vu,.none]}}
 exact tail_any (ops:=[.ref s3.heap.objs.size,v]) ht hT hg (by with_unfolding_all rfl)
def V9 (xs:List V)(lo hi:Option Int):List V:=(xs.drop (HT.sIx xs.length 0 lo)).take (HT.sIx xs.length xs.length hi -HT.sIx xs.length 0 lo)
theorem fO (xs:List V)(lo hi:Option Int):(V9 xs lo hi).length≤xs.length:=by
 unfold V9
 rw[List.length_take,List.length_drop]
 omega
def BO (K:PySem.W.Frag):V→Option Int→Option Int→Hp→VK→Prop:=fun x lo hi H Q=>∃a xs,x= .ref a∧SqT K H a xs∧
 ¬(HT.sIx xs.length 0 lo=0∧HT.sIx xs.length xs.length hi=xs.length)∧∀p,H p=none→Q (.ref p) (A5 H p (.tup (V9 xs lo hi)))
theorem sl_tup:SlR X (BO X.K):=by
 intro pins s σ H x v vl vu lo hi sl Q I rx hs pl pu h
 obtain⟨a,xs,rfl,hx,hw,q⟩:=h
 cases rx
 obtain⟨its,r,ht,hz⟩:=I.tuple hx
 have hlen:its.toArray.size=xs.length:=by rw[List.size_toArray];exact r.length.symm
 refine⟨"tuple",_,PyProof.Rows.slot_tuple_getitem.lookup,ht.typeIs,?_⟩
 refine HT.getItem_tuple_cut ht hs pl pu (by rw[hlen];exact hw) ?_ (by rw[hlen];exact hz)
 rw[hlen]
 refine⟨.ref s.heap.objs.size,_,I.laid (t':=s.toks) (o:= .tup (V9 xs lo hi)) (fun b ob q=>Heap.get?_push_of_some _ q) (Nat.le_refl _) ?_,rfl,q _ (I.hok.fresh (Nat.le_refl _))⟩
 exact⟨Nat.le_trans (fO xs lo hi) hz,_,(r.drop (HT.sIx xs.length 0 lo)).take (HT.sIx xs.length xs.length hi -HT.sIx xs.length 0 lo),IsTup.new _ _⟩
def yb (K:PySem.W.Frag):R2:=fun x y H Q=>∃a b xs ys,x= .ref a∧y= .ref b∧SqT K H a xs∧SqT K H b ys∧xs≠[]∧xs.length+ys.length≤sizeLine∧
 (ys=[]→Q (.ref a) H)∧(ys≠[]→∀p,H p=none→Q (.ref p) (A5 H p (.tup (xs++ys))))
theorem Vals.nil_iff {xs:List V}{us:List Value}(r:Vals xs us):us=[]↔xs=[]:=by
 cases r with
 |nil=>simp
 |cons _ _=>simp
theorem wG:OpR X (binaryOp .Add) (yb X.K):=by
 intro pins s σ H x y v u Q I rx ry h
 obtain⟨a,b,xs,ys,rfl,rfl,ha,hb,hx,hz,q1,q2⟩:=h
 cases rx
 cases ry
 obtain⟨its,r1,p1,_⟩:=I.tuple ha
 obtain⟨its2,r2,p2,_⟩:=I.tuple hb
 refine HT.cat_tup p1 p2 (fun z=>hx (r1.nil_iff.mp z)) (fun z=>⟨.ref a,H,I,rfl,q1 (r2.nil_iff.mp z)⟩) (fun z=>?_) (by rw[←r1.length,←r2.length];exact hz)
 refine⟨.ref s.heap.objs.size,_,I.laid (t':=s.toks) (o:= .tup (xs++ys)) (fun b ob q=>Heap.get?_push_of_some _ q) (Nat.le_refl _) ?_,rfl,q2 (fun w=>z (r2.nil_iff.mpr w)) _ (I.hok.fresh (Nat.le_refl _))⟩
 exact⟨by rw[List.length_append];exact hz,_,r1.append r2,IsTup.new _ _⟩
end
end L2
namespace L2
open PySem PySem.Spec PyProof.Rows
def zY (n:Nat)(i:Int):Option Nat:=if 0≤i then(if i<n then some i.toNat else none) else if -(n:Int)≤i then some (i+n).toNat else none
def mx {α:Type}(xs:List α)(i:Int):Option α:=(zY xs.length i).bind fun j=>xs[j]?
theorem pE {n:Nat}{i:Int}{j:Nat}(h:zY n i=some j):seqIndex? i n=some j∧j<n∧-(n:Int)≤i∧i<n:=by
 unfold zY at h
 by_cases h0:0≤i
 ·rw[if_pos h0] at h
  by_cases h1:i<n
  ·rw[if_pos h1] at h
   have e:i.toNat=j:=Option.some.inj h
   exact⟨by rw[seqIndex_of h0 h1,e],by omega,by omega,h1⟩
  ·rw[if_neg h1] at h;cases h
 ·rw[if_neg h0] at h
  by_cases h1: -(n:Int)≤i
  ·rw[if_pos h1] at h
   have e:(i+n).toNat=j:=Option.some.inj h
   exact⟨by rw[seqIndex_neg (by omega) h1,e],by omega,h1,by omega⟩
  ·rw[if_neg h1] at h;cases h
theorem jS {α:Type}{xs:List α}{i:Int}{v:α}(h:mx xs i=some v):∃j,seqIndex? i xs.length=some j∧xs[j]?=some v∧j<xs.length∧-(xs.length:Int)≤i∧i<xs.length:=by
 unfold mx at h
 cases e:zY xs.length i with
 |none=>rw[e] at h;cases h
 |some j=>
  rw[e] at h
  obtain⟨h1,h2,h3,h4⟩:=pE e
  exact⟨j,h1,h,h2,h3,h4⟩
theorem b9 {α:Type}{xs:List α}{j:Nat}{v:α}(h:xs[j]?=some v):mx xs (j:Int)=some v:=by
 have hj:j<xs.length:=(List.getElem?_eq_some_iff.mp h).1
 have e:zY xs.length (j:Int)=some j:=by
  unfold zY
  rw[if_pos (by omega),if_pos (by omega)];simp
 unfold mx;rw[e];exact h
def pZ (b:Expr):Prop:=∀o i,subscripted b false o i=operate [o,i] (getItem o i)
def IxR (X:Cx)(r:R2):Prop:=
 ∀(value slice:Expr) (pins:List (Addr×Obj)) (s:Shared) (σ:St) (H:Hp) (x y:V) (v u:Value) (Q:VK),Inv X pins σ H s→RelV x v→RelV y u→r x y H Q→
  subscripted slice false v u=operate [v,u] (getItem v u)→wpAny (model X.prog X.w) X.A (subscriptTail value slice v u) (EP X pins σ Q) X.xe s
def vo (X:Cx)(id:String)(r:V→List V→Hp→VK→Prop):Prop:=
 ∀(pins:List (Addr×Obj)) (s:Shared) (σ:St) (H:Hp) (x:V) (xs:List V) (v:Value) (us:List Value) (Q:VK),Inv X pins σ H s→RelV x v→Vals xs us→r x xs H Q→
  wpAny (model X.prog X.w) X.A (call (.builtin id) (v::us)) (EP X pins σ Q) X.xe s
section
variable {X:Cx} {a b:Expr} {ta tb:TE} {pos:Pos}
theorem IxR.or {r r':R2}(h:IxR X r)(h':IxR X r'):IxR X (fun x y H Q=>r x y H Q∨r' x y H Q):=by
 intro value slice pins s σ H x y v u Q I rx ry q hs
 rcases q with q|q
 ·exact h value slice pins s σ H x y v u Q I rx ry q hs
 ·exact h' value slice pins s σ H x y v u Q I rx ry q hs
theorem Bi {r:R2}(hr:IxR X r)(ha:PE X a ta)(hb:PE X b tb)(hs:pZ b):PE X (.Subscript a b pos) (rG r ta tb):=by
 intro pins s σ H Q I h
 exact Subscript_ (zA ha hb I h fun v u s2 x y H2 I2 rx ry q=>hr a b pins s2 σ H2 x y v u Q I2 rx ry q (hs _ _))
def BX (K:PySem.W.Frag):R2:=fun x y H Q=>∃p xs i v,x= .ref p∧y= .int i∧SqL K H p xs∧mx xs i=some v∧Q v H
def BQ (K:PySem.W.Frag):R2:=fun x y H Q=>∃p xs i v,x= .ref p∧y= .int i∧SqT K H p xs∧mx xs i=some v∧Q v H
def BF:R2:=fun x y H Q=>∃z i c,x= .str z∧y= .int i∧z.length≤sizeLine∧mx z.cps.toList i=some c∧Q (.str ⟨#[c]⟩) H
theorem ix_list:IxR X (BX X.K):=by
 intro value slice pins s σ H x y v u Q I rx ry h hs
 obtain⟨p,xs,i,z,rfl,rfl,hq,he,q⟩:=h
 cases rx
 obtain⟨t,rfl⟩:=ry
 obtain⟨its,r,pl,hz⟩:=I.list hq
 obtain⟨j,h1,h2,h3,h4,h5⟩:=jS he
 obtain⟨w,ew,rw'⟩:=r.get h2
 have hl:=r.length
 have hn:=fg
 have fin:EP X pins σ Q w s:=⟨z,H,I,rw',q⟩
 by_cases h0:0≤i
 ·have hj:i.toNat=j:=by
   rw[seqIndex_of h0 h5] at h1
   exact Option.some.inj h1
  exact item_listR pl.isList h0 (by omega) (by rw[hj];simpa using ew) fin hs
 ·have hj:(i+(its.toArray.size:Int)).toNat=j:=by
   rw[seqIndex_neg (by omega) h4] at h1
   rw[List.size_toArray,←hl]
   exact Option.some.inj h1
  exact subscriptTail_builtinR (x:=w) pl.isList.typeIs slot_list_getitem.lookup
   (wpAny_getItem_list_neg (Q:=fun r s'=>r=w∧EP X pins σ Q r s') pl.isList (by omega) (by rw[List.size_toArray]<;>omega) (by omega) (by rw[hj];simpa using ew) ⟨rfl,fin⟩) hs
theorem ix_tup:IxR X (BQ X.K):=by
 intro value slice pins s σ H x y v u Q I rx ry h hs
 obtain⟨p,xs,i,z,rfl,rfl,hq,he,q⟩:=h
 cases rx
 obtain⟨t,rfl⟩:=ry
 obtain⟨its,r,pl,hz⟩:=I.tuple hq
 obtain⟨j,h1,h2,h3,h4,h5⟩:=jS he
 obtain⟨w,ew,rw'⟩:=r.get h2
 have hl:=r.length
 have hn:=fg
 have fin:EP X pins σ Q w s:=⟨z,H,I,rw',q⟩
 exact subscriptTail_builtinR (x:=w) pl.typeIs slot_tuple_getitem.lookup
  (getItem_tuple (j:=j) (Q:=fun r s'=>r=w∧EP X pins σ Q r s') pl (by omega) (by omega) (by rw[List.size_toArray,←hl];exact h1) (by simpa using ew) ⟨rfl,fin⟩) hs
theorem yt:IxR X BF:=by
 intro value slice pins s σ H x y v u Q I rx ry h hs
 obtain⟨z,i,c,rfl,rfl,hz,he,q⟩:=h
 obtain⟨t,rfl⟩:=rx
 obtain⟨t',rfl⟩:=ry
 obtain⟨j,h1,h2,h3,h4,h5⟩:=jS he
 have hl:z.cps.toList.length=z.length:=by simp [Str.length]
 rw[hl] at h1 h4 h5
 have hn:=fg
 exact tail_any (typeIs_str s z t) slot_str_getitem.lookup (getItem_str (c:=c) (by
  have e1:decide (i< -(2 ^ 63:Int))=false:=decide_eq_false (by omega)
  have e2:decide (i≥2 ^ 63)=false:=decide_eq_false (by omega)
  rw[e1,e2,Bool.or_false]) (by rw[h1];simpa using h2) ⟨.str ⟨#[c]⟩,H,I.tok _,⟨_,rfl⟩,q⟩) hs
def Dx (K:PySem.W.Frag):R2:=fun x y H Q=>BX K x y H Q∨BQ K x y H Q∨BF x y H Q
theorem ix_seq:IxR X (Dx X.K):=ix_list.or (ix_tup.or yt)
theorem oG (its:List Value)(n j:Nat)(u:Value):Obj.mapSeq (·.setIfInBounds j u) {cls:= .type "list",data:= .seq its.toArray n}={cls:= .type "list",data:= .seq (its.set j u).toArray n}:=by
 simp [Obj.mapSeq]
theorem Inv.lst {pins:List (Addr×Obj)}{σ:St}{H:Hp}{s:Shared}{p:Addr}{xs:List V}(I:Inv X pins σ H s)(h:H p=some (.lst xs)):
  ∃(its:List Value) (n:Nat),Vals xs its∧s.heap.get? p=some {cls:= .type "list",data:= .seq its.toArray n}∧xs.length≤sizeLine:=by
 obtain⟨z,its,n,r,e⟩:=I.hok p _ h
 exact⟨its,n,r,e,z⟩
theorem Inv.lstUpd {pins:List (Addr×Obj)}{σ:St}{H:Hp}{s:Shared}{p:Addr}{xs ys:List V}{its its':List Value}{n n':Nat}{f:Obj→Obj}(I:Inv X pins σ H s)(h:H p=some (.lst xs))
  (ho:s.heap.get? p=some {cls:= .type "list",data:= .seq its.toArray n}) (hf:f {cls:= .type "list",data:= .seq its.toArray n}={cls:= .type "list",data:= .seq its'.toArray n'}) (r:Vals ys its') (hz:ys.length≤sizeLine) (t:Nat):
  Inv X pins σ (A5 H p (.lst ys)) {s with heap:=s.heap.update p f,toks:=t}:=by
 have e:(s.heap.update p f).get? p=some {cls:= .type "list",data:= .seq its'.toArray n'}:=by
  rw[Heap.get?_update_self f ho (by rw[hf]<;>rfl),hf]
 refine I.write (x:=p) (e:=p) (by rw[h];trivial) (.inl rfl) (fun b u hb q=>(Heap.get?_update_other _ _ (Ne.symm hb)).trans q) ⟨_,e⟩ ?_
 exact⟨hz,its',n',r,e⟩
def xK:V→V→V→Hp→(Hp→Prop)→Prop:=fun o i v H Q=>∃p xs k j,o= .ref p∧i= .int k∧H p=some (.lst xs)∧zY xs.length k=some j∧Q (A5 H p (.lst (xs.set j v)))
theorem vh:qQ X xK:=by
 intro pins s σ H o i v ov iv u Q I ro ri rv h
 obtain⟨p,xs,k,j,rfl,rfl,hp,hj,q⟩:=h
 cases ro
 obtain⟨t,rfl⟩:=ri
 obtain⟨its,n,r,ho,hz⟩:=I.lst hp
 obtain⟨h1,h2,h3,h4⟩:=pE hj
 have hl:=r.length
 have hn:=fg
 have I':Inv X pins σ (A5 H p (.lst (xs.set j v))) {s with heap:=s.heap.update p (Obj.mapSeq (·.setIfInBounds j u))}:=
  I.lstUpd hp ho (oG its n j u) (r.set rv j) (by rw[List.length_set];exact hz) s.toks
 by_cases h0:0≤k
 ·have hk:k.toNat=j:=by
   rw[seqIndex_of h0 h4] at h1
   exact Option.some.inj h1
  exact PySem.W.ki_setAt ho h0 (by omega) (by rw[List.size_toArray,←hl];exact h4) (by rw[hk];exact⟨_,I',q⟩)
 ·have hk:(k+(its.toArray.size:Int)).toNat=j:=by
   rw[seqIndex_neg (by omega) h3] at h1
   rw[List.size_toArray,←hl]
   exact Option.some.inj h1
  exact PySem.W.ki_setBack ho (by omega) (by rw[List.size_toArray,←hl];exact h3) (by omega) (by rw[hk];exact⟨_,I',q⟩)
theorem jo (lo hi:Option Int)(n:Nat):(sliceBounds lo hi none n).1=((HT.sIx n 0 lo:Nat):Int)∧(sliceBounds lo hi none n).2.1=((HT.sIx n n hi:Nat):Int)∧(sliceBounds lo hi none n).2.2=1:=by
 refine⟨?_,?_,rfl⟩
 ·cases lo with
  |none=>simp [sliceBounds,HT.sIx]
  |some i=>
   simp only[sliceBounds,HT.sIx,Option.getD_none,show(1:Int)>0 by decide,if_true]
   by_cases h:i<0
   ·simp only[h,if_true]<;>omega
   ·simp only[h,if_false]<;>omega
 ·cases hi with
  |none=>simp [sliceBounds,HT.sIx]
  |some i=>
   simp only[sliceBounds,HT.sIx,Option.getD_none,show(1:Int)>0 by decide,if_true]
   by_cases h:i<0
   ·simp only[h,if_true]<;>omega
   ·simp only[h,if_false]<;>omega
theorem iD (its:List Value)(lo hi:Option Int):slicePick its.toArray lo hi none=((its.drop (HT.sIx its.length 0 lo)).take (HT.sIx its.length its.length hi -HT.sIx its.length 0 lo)).toArray:=by
 obtain⟨h1,h2,h3⟩:=jo lo hi its.toArray.size
 unfold slicePick
 rw[h1,h2,h3]
 simp only[sliceRange_one,pick_run,List.size_toArray]<;>rfl
def BA (K:PySem.W.Frag):V→Option Int→Option Int→Hp→VK→Prop:=fun x lo hi H Q=>∃a xs,x= .ref a∧SqL K H a xs∧∀p,H p=none→Q (.ref p) (A5 H p (.lst (V9 xs lo hi)))
theorem sl_list:SlR X (BA X.K):=by
 intro pins s σ H x v vl vu lo hi sl Q I rx hs pl pu h
 obtain⟨a,xs,rfl,hx,q⟩:=h
 cases rx
 obtain⟨its,r,ht,hz⟩:=I.list hx
 have hlen:=r.length
 refine⟨"list",_,slot_list_getitem.lookup,ht.isList.typeIs,?_⟩
 refine wpAny_getItem_list_slice ht.isList hs pl pu .none (by simp) ?_ (by rw[List.size_toArray]<;>omega)
 rw[iD,←hlen]
 refine⟨.ref s.heap.objs.size,_,I.laid (t':=s.toks) (o:= .lst (V9 xs lo hi)) (fun b ob q=>Heap.get?_push_of_some _ q) (Nat.le_refl _) ?_,rfl,q _ (I.hok.fresh (Nat.le_refl _))⟩
 exact⟨Nat.le_trans (fO xs lo hi) hz,_,0,(r.drop (HT.sIx xs.length 0 lo)).take (HT.sIx xs.length xs.length hi -HT.sIx xs.length 0 lo),Heap.get?_push_size _ rfl⟩
def E8:V→Bool
 | .non=>true
 | .bl _=>true
 | .int _=>true
 | .str _=>true
 |_=>false
def gs:V→V→Bool
 | .non,.non=>true
 | .bl a,.bl b=>a==b
 | .bl a,.int b=>(if a then 1 else 0)==b
 | .int a,.bl b=>a==(if b then 1 else 0)
 | .int a,.int b=>a==b
 | .str a,.str b=>a==b
 |_,_=>false
theorem dh {A:Around}{s:Shared}{y x:V}{u v:Value}(ry:RelV y u)(rx:RelV x v)(fy:E8 y=true)(fx:E8 x=true):SeqAt.EqAt A s u v (gs y x):=by
 cases y with
 |non=>
  cases ry
  cases x with
  |non=>cases rx;exact SeqAt.EqAt.same _
  |bl b=>cases rx;exact SeqAt.EqAt.none_bool b
  |int b=>obtain⟨t,rfl⟩:=rx;exact SeqAt.EqAt.none_int b t
  |str b=>obtain⟨t,rfl⟩:=rx;exact SeqAt.EqAt.none_str b t
  |_=>exact absurd (show false=true from fx) Bool.false_ne_true
 |bl a=>
  cases ry
  cases x with
  |non=>cases rx;exact SeqAt.EqAt.bool_none a
  |bl b=>cases rx;exact SeqAt.EqAt.bool_bool a b
  |int b=>obtain⟨t,rfl⟩:=rx;exact SeqAt.EqAt.bool_int a b t
  |str b=>obtain⟨t,rfl⟩:=rx;exact SeqAt.EqAt.bool_str a b t
  |_=>exact absurd (show false=true from fx) Bool.false_ne_true
 |int a=>
  obtain⟨t',rfl⟩:=ry
  cases x with
  |non=>cases rx;exact SeqAt.EqAt.int_none a t'
  |bl b=>cases rx;exact SeqAt.EqAt.int_bool a t' b
  |int b=>obtain⟨t,rfl⟩:=rx;exact SeqAt.EqAt.int_int a t' b t
  |str b=>obtain⟨t,rfl⟩:=rx;exact SeqAt.EqAt.int_str a t' b t
  |_=>exact absurd (show false=true from fx) Bool.false_ne_true
 |str a=>
  obtain⟨t',rfl⟩:=ry
  cases x with
  |non=>cases rx;exact SeqAt.EqAt.str_none a t'
  |bl b=>cases rx;exact SeqAt.EqAt.str_bool a t' b
  |int b=>obtain⟨t,rfl⟩:=rx;exact SeqAt.EqAt.str_int a t' b t
  |str b=>obtain⟨t,rfl⟩:=rx;exact SeqAt.EqAt.str_str a t' b t
  |_=>exact absurd (show false=true from fx) Bool.false_ne_true
 |_=>exact absurd (show false=true from fy) Bool.false_ne_true
def ou (x:V)(u:Value):Bool:=match u with
 | .none=>gs .non x
 | .bool b=>gs (.bl b) x
 | .int i _=>gs (.int i) x
 | .str z _=>gs (.str z) x
 |_=>false
theorem vi {x y:V}{u:Value}(r:RelV y u)(f:E8 y=true):ou x u=gs y x:=by
 cases y with
 |non=>cases r;rfl
 |bl b=>cases r;rfl
 |int i=>obtain⟨t,rfl⟩:=r;rfl
 |str z=>obtain⟨t,rfl⟩:=r;rfl
 |_=>exact absurd (show false=true from f) Bool.false_ne_true
theorem eh {x:V}:∀{xs:List V} {us:List Value},Vals xs us→xs.all E8=true→us.any (ou x)=xs.any fun y=>gs y x
 |_,_,.nil,_=>rfl
 |y::xs,u::us,.cons r t,f=>by
  rw[List.all_cons,Bool.and_eq_true] at f
  rw[List.any_cons,List.any_cons,vi r f.1,eh t f.2]
theorem cv {A:Around}{s:Shared}{x:V}{v:Value}(rx:RelV x v)(fx:E8 x=true):∀{xs:List V} {us:List Value},Vals xs us→xs.all E8=true→∀u∈us,SeqAt.EqAt A s u v (ou x u)
 |_,_,.nil,_=>fun u hu=>by cases hu
 |y::xs,u::us,.cons r t,f=>fun u' hu=>by
  rw[List.all_cons,Bool.and_eq_true] at f
  rcases List.mem_cons.mp hu with rfl|hu
  ·rw[vi r f.1];exact dh r rx f.1 fx
  ·exact cv rx fx t f.2 u' hu
def Dt (x:V)(xs:List V):Bool:=xs.any fun y=>gs y x
def Co (K:PySem.W.Frag)(neg:Bool):R2:=fun x y H Q=>∃p xs,y= .ref p∧(SqL K H p xs∨SqT K H p xs)∧E8 x=true∧xs.all E8=true∧Q (.bl (if neg then !Dt x xs else Dt x xs)) H
theorem op_in_seq:OpR X (compareOp .In) (Co X.K false):=by
 intro pins s σ H x y v u Q I rx ry h
 obtain⟨p,xs,rfl,hq,fx,fs,q⟩:=h
 cases ry
 rcases hq with hq|hq
 ·obtain⟨its,r,pl,hz⟩:=I.list hq
  refine SeqAt.in_listAt (ou x) pl.isList (fun w hw=>cv rx fx r fs w (by simpa using hw)) ⟨.bl _,H,I,rfl,?_⟩
  rw[show its.toArray.any (ou x)=its.any (ou x) by simp,eh r fs]
  exact q
 ·obtain⟨its,r,pl,hz⟩:=I.tuple hq
  refine SeqAt.in_tupleAt (ou x) pl (fun w hw=>cv rx fx r fs w (by simpa using hw)) ⟨.bl _,H,I,rfl,?_⟩
  rw[show its.toArray.any (ou x)=its.any (ou x) by simp,eh r fs]
  exact q
theorem op_notIn_seq:OpR X (compareOp .NotIn) (Co X.K true):=by
 intro pins s σ H x y v u Q I rx ry h
 obtain⟨p,xs,rfl,hq,fx,fs,q⟩:=h
 cases ry
 rcases hq with hq|hq
 ·obtain⟨its,r,pl,hz⟩:=I.list hq
  refine SeqAt.notIn_listAt (ou x) pl.isList (fun w hw=>cv rx fx r fs w (by simpa using hw)) ⟨.bl _,H,I,rfl,?_⟩
  rw[show its.toArray.any (ou x)=its.any (ou x) by simp,eh r fs]
  exact q
 ·obtain⟨its,r,pl,hz⟩:=I.tuple hq
  refine SeqAt.notIn_tupleAt (ou x) pl (fun w hw=>cv rx fx r fs w (by simpa using hw)) ⟨.bl _,H,I,rfl,?_⟩
  rw[show its.toArray.any (ou x)=its.any (ou x) by simp,eh r fs]
  exact q
theorem jT:OpR X (compareOp .NotIn) (fun x y H Q=>∃i j,x= .str i∧y= .str j∧Q (.bl (!(!(Builtin.Str.occurrences j i 0 j.length 1).isEmpty))) H):=by
 intro pins s σ H x y v u Q I rx ry h
 obtain⟨i,j,rfl,rfl,q⟩:=h
 obtain⟨t,rfl⟩:=rx
 obtain⟨t',rfl⟩:=ry
 exact notIn_str ⟨.bl _,H,I,rfl,q⟩
theorem CallR.or {f:Value}{r r':List V→Hp→VK→Prop}(h:CallR X f r)(h':CallR X f r'):CallR X f (fun xs H Q=>r xs H Q∨r' xs H Q):=by
 intro pins s σ H xs us Q I rs q
 rcases q with q|q
 ·exact h pins s σ H xs us Q I rs q
 ·exact h' pins s σ H xs us Q I rs q
theorem call_list_of:CallR X (.type "list") (fun xs H Q=>∃p ys,xs=[.ref p]∧(SqL X.K H p ys∨SqT X.K H p ys)∧∀l,H l=none→Q (.ref l) (A5 H l (.lst ys))):=by
 intro pins s σ H xs us Q I r h
 obtain⟨p,ys,rfl,hq,q⟩:=h
 obtain⟨u,rfl,rx⟩:=O8 r
 cases rx
 have fin:∀(its:List Value),Vals ys its→ys.length≤sizeLine→∀(h':Heap) (c':Nat),(∀b o',s.heap.get? b=some o'→h'.get? b=some o')→
   h'.get? s.heap.objs.size=some {cls:= .type "list",dict:=none,data:= .seq its.toArray c',slots:= #[]}→EP X pins σ Q (.ref s.heap.objs.size) {s with heap:=h'}:=fun its r' hz h' c' kp e=>
  ⟨.ref s.heap.objs.size,_,I.laid (t':=s.toks) kp (Nat.le_refl _) (show ObjOk X.prog X.w _ h' _ (.lst ys) from⟨hz,its,c',r',e⟩),rfl,q _ (I.hok.fresh (Nat.le_refl _))⟩
 rcases hq with hq|hq
 ·obtain⟨its,r',pl,hz⟩:=I.list hq
  have hlen:=r'.length
  obtain⟨o,ho,hc,n,hd⟩:=pl.isList
  exact call_list_seq p (.inl rfl) ho hc hd (fun h' c' kp e=>fin its r' hz h' c' kp e) (by simp only[List.size_toArray]<;>omega)
 ·obtain⟨its,r',pl,hz⟩:=I.tuple hq
  have hlen:=r'.length
  obtain⟨o,ho,hc,n,hd⟩:=pl
  exact call_list_seq p (.inr rfl) ho hc hd (fun h' c' kp e=>fin its r' hz h' c' kp e) (by simp only[List.size_toArray]<;>omega)
def CU (K:PySem.W.Frag)(T:String)(x:V)(H:Hp):Prop:=match x with
 | .str _=>T="str"
 | .int _=>T="int"
 | .ref p=>(T="list"∧∃xs,SqL K H p xs)∨(T="tuple"∧∃o,K.lookup p=some o∧o.cls= .type "tuple"∧o.dict=none)∨
   (T="dict"∧((∃kvs,H p=some (.dK kvs))∨∃kvs,H p=some (.dT kvs)))∨(T="set"∧∃S n,H p=some (.set S n))
 |_=>False
theorem ye {pins:List (Addr×Obj)}{σ:St}{H:Hp}{s:Shared}{T:String}{x:V}{v:Value}(I:Inv X pins σ H s)(r:RelV x v)(ty:CU X.K T x H):
  s.TypeIs v T∧∀a,v= .ref a→∃ob,s.heap.get? a=some ob∧ob.dict=none:=by
 cases x with
 |str z=>
  obtain⟨t,rfl⟩:=r
  cases (show T="str" from ty)
  exact⟨typeIs_str s z t,fun _ e=>nomatch e⟩
 |int i=>
  obtain⟨t,rfl⟩:=r
  cases (show T="int" from ty)
  exact⟨typeIs_int s i t,fun _ e=>nomatch e⟩
 |ref p=>
  cases r
  rcases ty with⟨rfl,xs,hq⟩|⟨rfl,o,hk,hc,hd⟩|⟨rfl,hk⟩|⟨rfl,S,n,hk⟩
  ·obtain⟨its,_,pl,_⟩:=I.list hq
   refine⟨pl.isList.typeIs,fun a e=>?_⟩
   cases e
   obtain⟨o,n,e,c,hd,_⟩:=pl
   exact⟨o,e,hd⟩
  ·refine⟨⟨o,I.kIn p o hk,hc⟩,fun a e=>?_⟩
   cases e
   exact⟨o,I.kIn _ o hk,hd⟩
  ·have z:∃o,s.heap.get? p=some o∧o.ExactDict:=by
    rcases hk with⟨kvs,hk⟩|⟨kvs,hk⟩
    ·obtain⟨_,_,_,_,o,_,_,e,ex,_⟩:=I.hok p _ hk
     exact⟨o,e,ex⟩
    ·obtain⟨_,_,_,_,o,_,_,e,ex,_⟩:=I.hok p _ hk
     exact⟨o,e,ex⟩
   obtain⟨o,e,ex⟩:=z
   refine⟨⟨o,e,ex.1⟩,fun a e2=>?_⟩
   cases e2
   exact⟨o,e,ex.2.1⟩
  ·obtain⟨o,_,_,_,e,ex,_⟩:=I.hok p _ hk
   refine⟨⟨o,e,ex.1⟩,fun a e2=>?_⟩
   cases e2
   exact⟨o,e,ex.2.1⟩
 |_=>exact False.elim ty
def Dl (K:PySem.W.Frag)(T:String)(r:V→List V→Hp→VK→Prop)(to:TE)(t:TA):TE:=fun σ H Q=>to σ H fun x H1=>CU K T x H1∧t σ H1 fun xs H2=>r x xs H2 Q
variable {o e:Expr} {es:List Expr} {to:TE} {t:TA} {name:Str} {apos cpos:Pos} {T id:String} {r:V→List V→Hp→VK→Prop}
theorem BG (pa:PlainAttrs T)(slot:Slot T name id)(hty:typeOf (.builtin id)=pure (.type "method_descriptor"))(hm:vo X id r)(ho:PE X o to)(ha:PA X (e::es) t)
  (hbase:attributeBase o name X.env (eval o X.env)=eval o X.env:=by rfl)
  (hfew:((backTo cpos (starEach (e::es) X.env)).all (fun x=>!x.1)&&(backToKw cpos (keywordEach [] X.env)).all (fun x=>x.1.isSome)
   &&decide ((e::es).length+([]:List Keyword).length+(if([]:List Keyword).isEmpty then 0 else 1)<30))=true:=by rfl)
  (hline:(apos.endLine==cpos.line)=true:=by rfl) (hs:starEach (e::es) X.env=(false,eval e X.env)::starEach es X.env:=by rfl) (hplain:(backTo cpos (starEach es X.env)).any (·.1)=false:=by rfl):
  PE X (.Call (.Attribute o name apos) (e::es) [] cpos) (Dl X.K T r to t):=by
 intro pins s σ H Q I h
 refine wpAny_Call_method_late hbase hfew hline rfl (K6 (ho pins s σ H _ I h) fun v s1 ⟨x,H1,I1,r1,ty,q1⟩=>?_)
 obtain⟨h1,h2⟩:=ye I1 r1 ty
 refine⟨T,id,pa,slot,hty,h1,h2,?_⟩
 have hA:=ha cpos pins s1 σ H1 _ I1 q1
 rw[hs] at hA⊢
 refine Calls.callWith_builtin (by show(false||(backTo cpos (starEach es X.env)).any (·.1))=false;rw[hplain]<;>rfl) (Calls.evalArgs_plain ?_)
 exact K6 hA fun us s2 ⟨vs,H2,I2,r2,q2⟩=>hm pins s2 σ H2 x vs v us Q I2 r1 r2 q2
end
end L2
namespace L2
open PySem PySem.Spec PyProof.Rows
def DR (X:Cx)(id:String)(r:V→List V→Hp→VK→Prop):Prop:=
 ∀(pins:List (Addr×Obj)) (s:Shared) (σ:St) (H:Hp) (x:V) (xs:List V) (v:Value) (us:List Value) (Q:VK),Inv X pins σ H s→RelV x v→Vals xs us→r x xs H Q→
  wpAny (model X.prog X.w) X.A (call (.builtin id) (v::us)) (EP X pins σ Q) X.xe s
theorem Vals.one:∀{x:V} {us:List Value},Vals [x] us→∃u,us=[u]∧RelV x u
 |_,_,.cons r .nil=>⟨_,rfl,r⟩
theorem Vals.rep {xs:List V}{us:List Value}(h:Vals xs us):∀k:Nat,Vals (List.replicate k xs).flatten (List.replicate k us).flatten
 |0=> .nil
 |k+1=>by
  rw[List.replicate_succ,List.replicate_succ,List.flatten_cons,List.flatten_cons]
  exact Vals.append h (Vals.rep h k)
theorem ji (its:List Value):∀(k:Nat) (acc:List Value),
  List.foldl (fun x1 x2=>x1++x2) acc.toArray (List.replicate k its.toArray)=(acc++(List.replicate k its).flatten).toArray
 |0,acc=>by simp
 |k+1,acc=>by
  have e:acc.toArray++its.toArray=(acc++its).toArray:=by simp
  have e2:(acc++its)++(List.replicate k its).flatten=acc++(List.replicate (k+1) its).flatten:=by
   rw[List.replicate_succ,List.flatten_cons,List.append_assoc]
  rw[←e2,←ji its k (acc++its),←e,List.replicate_succ,List.foldl_cons]
section
variable {X:Cx} {pins:List (Addr×Obj)} {σ:St} {H:Hp} {s:Shared} {l b:Addr} {xs ys zs:List V}
theorem Inv.lset {its its':List Value}{n:Nat}{f:Array Value→Array Value}{t':Nat}(I:Inv X pins σ H s)(hH:H l=some (.lst xs))
  (e:s.heap.get? l=some {cls:= .type "list",data:= .seq its.toArray n}) (hf:f its.toArray=its'.toArray) (hv:Vals ys its') (hz:ys.length≤sizeLine):
  Inv X pins σ (A5 H l (.lst ys)) {s with heap:=s.heap.update l (Obj.mapSeq f),toks:=t'}:=by
 have q:=PySem.IsL.update e f
 rw[hf] at q
 refine I.write (x:=l) (e:=l) (by rw[hH];exact trivial) (.inl rfl) (fun b' u hb hu=>(Heap.get?_update_other s.heap (Obj.mapSeq f) (Ne.symm hb)).trans hu) ⟨_,q⟩ ?_
 exact⟨hz,its',_,hv,q⟩
theorem Inv.lnew {its:List Value}{t':Nat}(I:Inv X pins σ H s)(hv:Vals ys its)(hz:ys.length≤sizeLine):
  Inv X pins σ (A5 H s.heap.objs.size (.lst ys)) {s with heap:=s.heap.push {cls:= .type "list",data:= .seq its.toArray},toks:=t'}:=
 I.laid (fun _ _ q=>Heap.get?_push_of_some _ q) (Nat.le_refl _) ⟨hz,its,0,hv,Heap.get?_push_size _ rfl⟩
theorem Inv.fresh (I:Inv X pins σ H s):H s.heap.objs.size=none:=I.hok.fresh (Nat.le_refl _)
theorem Inv.lstM (I:Inv X pins σ H s)(hH:H l=some (.lst xs)):xs.length≤sizeLine∧∃(its:List Value) (n:Nat),Vals xs its∧xs.length=its.length∧s.heap.get? l=some {cls:= .type "list",data:= .seq its.toArray n}:=by
 obtain⟨z,its,n,r,e⟩:=I.hok l _ hH
 exact⟨z,its,n,r,r.length,e⟩
theorem uf {n:Nat}(h:n≤sizeLine):Builtin.List.listTooLong n=false:=by
 unfold Builtin.List.listTooLong
 exact decide_eq_false (by omega)
end
section
variable {X:Cx}
def oK:V→List V→Hp→VK→Prop:=fun x vs H Q=>∃l xs y,x= .ref l∧vs=[y]∧H l=some (.lst xs)∧xs.length<sizeLine∧Q .non (A5 H l (.lst (xs++[y])))
theorem qA:DR X "list.append" oK:=by
 intro pins s σ H x vs v us Q I rx rv h
 obtain⟨l,xs,y,rfl,rfl,hH,hz,q⟩:=h
 cases rx
 obtain⟨u,rfl,ru⟩:=rv.one
 obtain⟨z,its,n,r,hl,e⟩:=I.lstM hH
 refine call_meets F.slot_list_append ⟨_,e,rfl⟩ F.entry_list_append (F.args_list_append_2 _ _) (PySem.list_append l its.toArray n u (by rw[List.size_toArray];omega)) ⟨e,?_⟩
 refine⟨.non,_,I.lset (its':=its++[u]) hH e (by simp) (r.append (.cons ru .nil)) ?_,rfl,q⟩
 rw[List.length_append,List.length_singleton]
 omega
def BN:R2:=fun x y H Q=>∃l b xs zs,x= .ref l∧y= .ref b∧H l=some (.lst xs)∧H b=some (.lst zs)∧xs.length+zs.length≤sizeLine∧∀p,H p=none→Q (.ref p) (A5 H p (.lst (xs++zs)))
theorem op_cat:OpR X (binaryOp .Add) BN:=by
 intro pins s σ H x y v u Q I rx ry h
 obtain⟨l,b,xs,zs,rfl,rfl,hH,hB,hz,q⟩:=h
 cases rx
 cases ry
 obtain⟨z,its,n,r,hl,e⟩:=I.lstM hH
 obtain⟨z2,its2,n2,r2,hl2,e2⟩:=I.lstM hB
 refine PySem.P.add_list e e2 ?_ (by rw[List.size_toArray,List.size_toArray];omega)
 have ea:its.toArray++its2.toArray=(its++its2).toArray:=by simp
 rw[ea]
 exact⟨.ref _,_,I.lnew (t':=s.toks) (r.append r2) (by rw[List.length_append];omega),rfl,q _ I.fresh⟩
def Bf:R2:=fun x y H Q=>∃l k xs,x= .ref l∧y= .int k∧H l=some (.lst xs)∧-(2 ^ 63)≤k∧k<2 ^ 63∧xs.length*k.toNat≤sizeLine∧
 ∀p,H p=none→Q (.ref p) (A5 H p (.lst (List.replicate k.toNat xs).flatten))
theorem vV {α:Type}(xs:List α)(k:Nat):(List.replicate k xs).flatten.length=k*xs.length:=by
 induction k with
 |zero=>simp
 |succ k ih=>rw[List.replicate_succ,List.flatten_cons,List.length_append,ih,Nat.succ_mul,Nat.add_comm]
theorem zR:OpR X (binaryOp .Mult) Bf:=by
 intro pins s σ H x y v u Q I rx ry h
 obtain⟨l,k,xs,rfl,rfl,hH,h1,h2,hz,q⟩:=h
 cases rx
 obtain⟨t,rfl⟩:=ry
 obtain⟨z,its,n,r,hl,e⟩:=I.lstM hH
 have hlen:its.toArray.size*k.toNat≤sizeLine:=by rw[List.size_toArray,←hl];exact hz
 have hcap:¬its.toArray.size*k.toNat>(2 ^ 63 -1)/8:=by
  have:(sizeLine:Nat)≤(2 ^ 63 -1)/8:=by decide
  omega
 have hfit:¬(!Builtin.List.listFitsIndex k)=true:=by
  rw[fitsIndex_both h1 h2]
  exact Bool.false_ne_true
 have hlong:¬Builtin.List.listTooLong (its.toArray.size*k.toNat)=true:=by
  rw[uf hlen]
  exact Bool.false_ne_true
 have hnew:List.foldl (fun x1 x2=>x1++x2) #[] (List.replicate (if its.toArray.isEmpty=true then 0 else k.toNat) its.toArray)=(List.replicate k.toNat its).flatten.toArray:=by
  have f0:∀m:Nat,List.foldl (fun x1 x2=>x1++x2) #[] (List.replicate m its.toArray)=(List.replicate m its).flatten.toArray:=fun m=>by
   have:=ji its m []
   rw[List.nil_append] at this
   exact this
  rw[f0]
  cases its with
  |nil=>simp
  |cons a r'=>rw[if_neg (by simp)]
 refine wpAny_binaryOp_repeat_ref (T:="list") (U:="int") (by decide) ⟨_,e,rfl⟩ (fun s'=>typeIs_int s' k t) noFill_list_mul F.fills_int_mul F.slot_int_rmul repeat_list F.slot_int_index.lookup
  (call_meets F.slot_int_rmul (typeIs_int s k t) F.entry_int_rmul (F.args_int_rmul_2 _ _) (int___rmul___int_list k t l its.toArray n)
   ⟨e,rfl,⟨_,e,rfl⟩,call_meets F.slot_list_mul ⟨_,e,rfl⟩ F.entry_list_mul (F.args_list_mul_2 _ _) (AutoListH.list___mul___list_int_3 l its.toArray n k t hfit hcap hlong) ⟨e,?_⟩⟩)
 rw[hnew]
 exact⟨.ref _,_,I.lnew (t':=s.toks) (r.rep k.toNat) (by rw[vV,Nat.mul_comm];exact hz),rfl,q _ I.fresh⟩
end
section
variable {prog:Program} {w:World} {A:Around} {E:Value→Shared→Prop} {s:Shared}
end
section
variable {X:Cx}
end
end L2
namespace L2
open PySem PySem.Spec PyProof.Rows
section
variable {κ:Type} [DecidableEq κ]
def D0 (kvs:List (κ×V))(k:κ):Option V:=(kvs.find? fun kv=>decide (kv.1=k)).map (·.2)
def N0 (kvs:List (κ×V))(k:κ)(v:V):List (κ×V):=
 if(kvs.any fun kv=>decide (kv.1=k))=true then kvs.map (fun kv=>if kv.1=k then(kv.1,v) else kv) else kvs++[(k,v)]
theorem aQ {p:κ×V}{r:List (κ×V)}{k:κ}(e:p.1=k):D0 (p::r) k=some p.2:=by simp [D0,List.find?_cons,e]
theorem aU {p:κ×V}{r:List (κ×V)}{k:κ}(e:¬p.1=k):D0 (p::r) k=D0 r k:=by simp [D0,List.find?_cons,e]
theorem cF (k:κ):∀kvs:List (κ×V),(kvs.any fun kv=>decide (kv.1=k))=(D0 kvs k).isSome
 |[]=>rfl
 |p::r=>by
  rw[List.any_cons]
  by_cases e:p.1=k
  ·simp only[aQ e,decide_eq_true e,Bool.true_or,Option.isSome_some]
  ·rw[aU e,decide_eq_false e,Bool.false_or];exact cF k r
theorem cc (kvs:List (κ×V))(k:κ)(v:V):(N0 kvs k v).length≤kvs.length+1:=by
 unfold N0
 split
 ·rw[List.length_map];omega
 ·rw[List.length_append,List.length_cons,List.length_nil];omega
theorem W7 {kvs:List (κ×V)}{k:κ}(v:V)(h:D0 kvs k=none):N0 kvs k v=kvs++[(k,v)]:=by
 unfold N0
 rw[cF,h]
 exact if_neg (by decide)
theorem RelO.isSome_eq {o:Option V}{u:Option Value}(r:RelO o u):o.isSome=u.isSome:=by
 cases o with
 |none=>cases u with
  |none=>rfl
  |some _=>exact(show False from r).elim
 |some _=>cases u with
  |none=>exact(show False from r).elim
  |some _=>rfl
theorem RelO.getD {o:Option V}{u:Option Value}{d:V}{d':Value}(r:RelO o u)(rd:RelV d d'):RelV (o.getD d) (u.getD d'):=by
 cases o with
 |none=>cases u with
  |none=>exact rd
  |some _=>exact(show False from r).elim
 |some _=>cases u with
  |none=>exact(show False from r).elim
  |some _=>exact r
theorem KV.val {kvs:List (κ×V)}{vs:List (κ×Value)}(r:KV kvs vs)(k:κ):RelO (D0 kvs k) (valueAt vs k):=by
 unfold KV at r
 induction r with
 |nil=>exact True.intro
 | @cons p q ps qs h t ih=>
  obtain⟨h1,h2⟩:=h
  by_cases e:p.1=k
  ·have e':q.1=k:=h1.symm.trans e
   have b:valueAt (q::qs) k=some q.2:=by simp [valueAt,List.find?_cons,e']
   rw[aQ e,b];exact h2
  ·have e':¬q.1=k:=fun z=>e (h1.trans z)
   have b:valueAt (q::qs) k=valueAt qs k:=by simp [valueAt,List.find?_cons,e']
   rw[aU e,b];exact ih
theorem KV.any {kvs:List (κ×V)}{vs:List (κ×Value)}(r:KV kvs vs)(k:κ):(kvs.any fun kv=>decide (kv.1=k))=vs.any fun kv=>decide (kv.1=k):=by
 unfold KV at r
 induction r with
 |nil=>rfl
 |cons h t ih=>rw[List.any_cons,List.any_cons,ih,h.1]
theorem KV.repl {kvs:List (κ×V)}{vs:List (κ×Value)}(r:KV kvs vs)(k:κ){y:V}{u:Value}(ry:RelV y u):
  KV (kvs.map fun kv=>if kv.1=k then(kv.1,y) else kv) (vs.map fun kv=>if kv.1=k then(kv.1,u) else kv):=by
 unfold KV at r⊢
 induction r with
 |nil=>exact .nil
 | @cons p q ps qs h t ih=>
  rw[List.map_cons,List.map_cons]
  refine .cons ?_ ih
  obtain⟨h1,h2⟩:=h
  by_cases e:p.1=k
  ·rw[if_pos e,if_pos (h1.symm.trans e)];exact⟨h1,ry⟩
  ·rw[if_neg e,if_neg (fun z=>e (h1.trans z))];exact⟨h1,h2⟩
theorem KV.put {kvs:List (κ×V)}{vs:List (κ×Value)}(r:KV kvs vs)(k:κ){y:V}{u:Value}(ry:RelV y u):KV (N0 kvs k y) (stored vs k u):=by
 unfold N0 stored
 rw[r.any k]
 by_cases e:(vs.any fun kv=>decide (kv.1=k))=true
 ·rw[if_pos e,if_pos e];exact r.repl k ry
 ·rw[if_neg e,if_neg e];exact Paired.snoc r ⟨rfl,ry⟩
theorem KV.keys {kvs:List (κ×V)}{vs:List (κ×Value)}(r:KV kvs vs):kvs.map (·.1)=vs.map (·.1):=by
 unfold KV at r
 induction r with
 |nil=>rfl
 |cons h t ih=>rw[List.map_cons,List.map_cons,ih,h.1]
theorem KV.length {kvs:List (κ×V)}{vs:List (κ×Value)}(r:KV kvs vs):kvs.length=vs.length:=Paired.length r
end
theorem fD {P:Program}{w:World}{k:j6}{u:Value}(r:RelV (kV k) u):(q8 P w).is k u=true:=by
 cases k with
 |inl i=>obtain⟨t,e⟩:=(show ∃t,u=Value.int i t from r);subst e;exact lC P w i t
 |inr x=>obtain⟨t,e⟩:=(show ∃t,u=Value.str x t from r);subst e;exact kI P w x t
theorem iZ {P:Program}{w:World}:∀{ks:List j6} {us:List Value},Vals (ks.map kV) us→ItemsAre (q8 P w) ks us
 |[],_,r=>by rw[List.map_nil] at r;cases r;exact .nil
 |k::ks,_,r=>by
  rw[List.map_cons] at r
  cases r with
  |cons h t=>exact .cons (fD h) (iZ t)
abbrev KT (H:Hp):List (List j6×V)→List (List j6×Addr×Value)→Prop:=Paired fun p q=>p.1=q.1∧H q.2.1=some (.tup (p.1.map kV))∧RelV p.2 q.2.2
theorem KT.val {H:Hp}{kvs:List (List j6×V)}{xs:List (List j6×Addr×Value)}(r:KT H kvs xs)(k:List j6):RelO (D0 kvs k) ((atKey xs k).map (·.2)):=by
 induction r with
 |nil=>exact True.intro
 | @cons p q ps qs h t ih=>
  obtain⟨h1,_,h2⟩:=h
  by_cases e:p.1=k
  ·have e':q.1=k:=h1.symm.trans e
   have b:atKey (q::qs) k=some q.2:=by simp [atKey,List.find?_cons,e']
   rw[aQ e,b];exact h2
  ·have e':¬q.1=k:=fun z=>e (h1.trans z)
   have b:atKey (q::qs) k=atKey qs k:=by simp [atKey,List.find?_cons,e']
   rw[aU e,b];exact ih
theorem KT.repl {H:Hp}{kvs:List (List j6×V)}{xs:List (List j6×Addr×Value)}(r:KT H kvs xs)(k:List j6){y:V}{u:Value}(ry:RelV y u):
  KT H (kvs.map fun kv=>if kv.1=k then(kv.1,y) else kv) (xs.map (putAt k u)):=by
 induction r with
 |nil=>exact .nil
 | @cons p q ps qs h t ih=>
  rw[List.map_cons,List.map_cons]
  refine .cons ?_ ih
  obtain⟨h1,h2,h3⟩:=h
  unfold putAt
  by_cases e:p.1=k
  ·rw[if_pos e,if_pos (h1.symm.trans e)];exact⟨h1,h2,ry⟩
  ·rw[if_neg e,if_neg (fun z=>e (h1.trans z))];exact⟨h1,h2,h3⟩
theorem KT.put {H:Hp}{kvs:List (List j6×V)}{xs:List (List j6×Addr×Value)}(r:KT H kvs xs)(k:List j6){b:Addr}{y:V}{u:Value}(hb:H b=some (.tup (k.map kV)))(ry:RelV y u):
  KT H (N0 kvs k y) (storedH xs k b u):=by
 have e:(kvs.any fun kv=>decide (kv.1=k))=(atKey xs k).isSome:=by
  rw[cF,(r.val k).isSome_eq,Option.isSome_map]
 unfold N0 storedH
 rw[e]
 by_cases q:(atKey xs k).isSome=true
 ·rw[if_pos q,if_pos q];exact r.repl k ry
 ·rw[if_neg q,if_neg q];exact Paired.snoc r ⟨rfl,hb,ry⟩
theorem KT.keeps {H H':Hp}{kvs:List (List j6×V)}{xs:List (List j6×Addr×Value)}(r:KT H kvs xs)(ht:∀b ys,H b=some (.tup ys)→H' b=some (.tup ys)):KT H' kvs xs:=
 Paired.mapP r fun _ _ z=>⟨z.1,ht _ _ z.2.1,z.2.2⟩
section
variable {P:Program} {w:World} {H:Hp} {h:Heap} {a:Addr}
theorem xX {u:HO}(ok:HOk P w H h)(e:Rd H a u):ObjOk P w H h a u:=e.ok ok
theorem R7 {kvs:List (j6×V)}(ok:HOk P w H h)(e:Rd H a (.dK kvs)):kvs.length≤sizeLine∧(a==sysModules)=false∧∃vs,KV kvs vs∧h.DictOf (q8 P w) a vs:=
 show ObjOk P w H h a (.dK kvs) from xX ok e
theorem xU {kvs:List (j6×V)}(ok:HOk P w H h)(e:H a=some (.dK kvs)):kvs.length≤sizeLine∧(a==sysModules)=false∧∃vs,KV kvs vs∧h.DictOf (q8 P w) a vs:=R7 ok (.inl e)
theorem dy {ks:List j6}(ok:HOk P w H h)(e:H a=some (.tup (ks.map kV))):(tupleKind (q8 P w)).is h ks a:=by
 obtain⟨_,its,r,o,h1,h2,n,h3⟩:=(show ObjOk P w H h a (.tup (ks.map kV)) from ok a _ e)
 exact⟨o,its.toArray,n,h1,h2,h3,by simpa using iZ r⟩
theorem fw {kvs:List (List j6×V)}(ok:HOk P w H h)(e:Rd H a (.dT kvs)):kvs.length≤sizeLine∧(a==sysModules)=false∧
  ∃xs,KT H kvs xs∧h.DictOfH (tupleKind (q8 P w)) a xs:=by
 obtain⟨z,y,xs,r,o,es,ep,h1,h2,h3,h4,h5⟩:=(show ObjOk P w H h a (.dT kvs) from xX ok e)
 refine⟨z,y,xs,r,o,es,ep,h1,h2,h3,h4,fun x hx=>?_,h5⟩
 have all:∀{l:List (List j6×V)} {m:List (List j6×Addr×Value)},KT H l m→∀x∈m,(tupleKind (q8 P w)).is h x.1 x.2.1:=by
  intro l m q
  induction q with
  |nil=>intro x hx;exact nomatch hx
  | @cons p q ps qs hq t ih=>
   intro x hx
   rcases List.mem_cons.mp hx with e|hx
   ·subst e
    exact dy ok (by rw[←hq.1];exact hq.2.1)
   ·exact ih x hx
 exact all r x hx
theorem Bh {kvs:List (List j6×V)}(ok:HOk P w H h)(e:H a=some (.dT kvs)):kvs.length≤sizeLine∧(a==sysModules)=false∧
  ∃xs,KT H kvs xs∧h.DictOfH (tupleKind (q8 P w)) a xs:=fw ok (.inl e)
end
def aA (H:Hp)(a:Addr)(y:V)(r:Option V):Prop:=
 (∃kvs k,Rd H a (.dK kvs)∧y=kV k∧r=D0 kvs k)∨∃kvs k b,Rd H a (.dT kvs)∧y= .ref b∧H b=some (.tup (k.map kV))∧r=D0 kvs k
def DPut (H:Hp)(a:Addr)(y v:V)(H':Hp):Prop:=
 (∃kvs k,H a=some (.dK kvs)∧y=kV k∧kvs.length<sizeLine∧H'=A5 H a (.dK (N0 kvs k v)))∨
 ∃kvs k b,H a=some (.dT kvs)∧y= .ref b∧H b=some (.tup (k.map kV))∧kvs.length<sizeLine∧H'=A5 H a (.dT (N0 kvs k v))
theorem DPut.k {H:Hp}{a:Addr}{kvs:List (j6×V)}{k:j6}{v:V}(e:H a=some (.dK kvs))(hl:kvs.length<sizeLine):DPut H a (kV k) v (A5 H a (.dK (N0 kvs k v))):= .inl ⟨kvs,k,e,rfl,hl,rfl⟩
section
variable {X:Cx} {pins:List (Addr×Obj)} {σ:St} {H:Hp} {s:Shared} {a:Addr} {y v:V} {u r:Value} {o:Option V} {A:Around} {E:Value→Shared→Prop}
theorem Inv.big (I:Inv X pins σ H s):sysModules<s.heap.objs.size:=by
 have h:mainGlobals<s.heap.objs.size:=(I.mod.glob.keeps I.bk).lt
 exact Nat.lt_trans (by decide) h
theorem qX {Q:Value→Shared→Prop}(hu:A.units+1<cLine)(I:Inv X pins σ H s)(g:aA H a y (some v))(ry:RelV y u)(h:∀w' s',Inv X pins σ H s'→RelV v w'→Q w' s'):
  wpAny (model X.prog X.w) A (getItem (.ref a) u) Q E s:=by
 rcases g with⟨kvs,k,e,ey,l⟩|⟨kvs,k,b,e,ey,eb,l⟩
 ·subst ey
  obtain⟨z,hd,vs,rel,dd⟩:=R7 I.hok e
  obtain⟨w',hw,rw'⟩:=RelO.some_of (v:=v) (o:=valueAt vs k) (by rw[l];exact rel.val k)
  exact wpAny_getItem_of (fD ry) dd.mapOf hw (h w' _ (I.tok _) rw')
 ·subst ey
  cases (show u=Value.ref b from ry)
  obtain⟨z,hd,xs,rel,dd⟩:=fw I.hok e
  obtain⟨w',hw,rw'⟩:=RelO.some_of (v:=v) (o:=(atKey xs k).map (·.2)) (by rw[l];exact rel.val k)
  obtain⟨p,hp,hp2⟩:=Option.map_eq_some_iff.mp hw
  refine wpAny_getItem_heap (tupleKind_room_in1 hu) (dy I.hok eb) dd hp ?_
  rw[hp2]
  exact h w' _ (I.tok _) rw'
theorem CT {Q:Value→Shared→Prop}(hu:A.units+1<cLine)(I:Inv X pins σ H s)(g:aA H a y o)(ry:RelV y u)(h:∀s',Inv X pins σ H s'→Q (.bool o.isSome) s'):
  wpAny (model X.prog X.w) A (compareOp .In u (.ref a)) Q E s:=by
 rcases g with⟨kvs,k,e,ey,l⟩|⟨kvs,k,b,e,ey,eb,l⟩
 ·subst ey
  obtain⟨z,hd,vs,rel,dd⟩:=R7 I.hok e
  refine wpAny_in_of (fD ry) hd dd.mapOf ?_
  rw[←(rel.val k).isSome_eq,←l]
  exact h _ (I.tok _)
 ·subst ey
  cases (show u=Value.ref b from ry)
  obtain⟨z,hd,xs,rel,dd⟩:=fw I.hok e
  refine wpAny_in_heap (tupleKind_room_in1 hu) (dy I.hok eb) hd dd ?_
  have q:=(rel.val k).isSome_eq
  rw[Option.isSome_map] at q
  rw[←q,←l]
  exact h _ (I.tok _)
theorem vU {Q:Value→Shared→Prop}(hu:A.units+1<cLine)(I:Inv X pins σ H s)(g:aA H a y o)(ry:RelV y u)(h:∀s',Inv X pins σ H s'→Q (.bool (!o.isSome)) s'):
  wpAny (model X.prog X.w) A (compareOp .NotIn u (.ref a)) Q E s:=by
 rcases g with⟨kvs,k,e,ey,l⟩|⟨kvs,k,b,e,ey,eb,l⟩
 ·subst ey
  obtain⟨z,hd,vs,rel,dd⟩:=R7 I.hok e
  refine wpAny_notIn_of (fD ry) hd dd.mapOf ?_
  rw[←(rel.val k).isSome_eq,←l]
  exact h _ (I.tok _)
 ·subst ey
  cases (show u=Value.ref b from ry)
  obtain⟨z,hd,xs,rel,dd⟩:=fw I.hok e
  refine wpAny_notIn_heap (tupleKind_room_in1 hu) (dy I.hok eb) hd dd ?_
  have q:=(rel.val k).isSome_eq
  rw[Option.isSome_map] at q
  rw[←q,←l]
  exact h _ (I.tok _)
theorem jv {h':Heap}{t':Nat}{ob:HO}(I:Inv X pins σ H s)(mu:BV (H a))(hs:Heap.SameBut a s.heap h')(he:∃q,h'.get? a=some q)(new:ObjOk X.prog X.w (A5 H a ob) h' a ob):
  Inv X pins σ (A5 H a ob) {s with heap:=h',toks:=t'}:=
 I.write (x:=a) (e:=a) mu (.inl rfl) (fun b q hb z=>(hs.2 b hb).trans z) he new
theorem mK {P:Program}{w:World}{H':Hp}{h':Heap}{kvs:List (j6×V)}{vs:List (j6×Value)}(z:kvs.length≤sizeLine)(hd:(a==sysModules)=false)(rel:KV kvs vs)(dd:h'.DictOf (q8 P w) a vs):
  ObjOk P w H' h' a (.dK kvs):=⟨z,hd,vs,rel,dd⟩
theorem qi {H':Hp}{Q:Unit→Shared→Prop}(hu:A.units+1<cLine)(I:Inv X pins σ H s)(g:DPut H a y v H')(ry:RelV y u)(rv:RelV v r)(h:∀s',Inv X pins σ H' s'→Q () s'):
  wpAny (model X.prog X.w) A (setItem (.ref a) u r) Q E s:=by
 rcases g with⟨kvs,k,e,ey,l,eH⟩|⟨kvs,k,b,e,ey,eb,l,eH⟩
 ·subst ey eH
  obtain⟨z,hd,vs,rel,dd⟩:=xU I.hok e
  have hz:vs.length≤sizeLine:=by rw[←rel.length];exact z
  have hl:(N0 kvs k v).length≤sizeLine:=by have:=cc kvs k v;omega
  refine wpAny_setItem_pairs (hsz:=hz) (fD ry) dd fun h' dd' hs=>h _ ?_
  have he:∃q,h'.get? a=some q:=let ⟨q,_,_,hq,_⟩:=dd';⟨q,hq⟩
  exact jv I (by rw[e];exact True.intro) hs he (mK hl hd (rel.put k rv) dd')
 ·subst ey eH
  cases (show u=Value.ref b from ry)
  obtain⟨z,hd,xs,rel,dd⟩:=Bh I.hok e
  have hz:xs.length≤sizeLine:=by rw[←Paired.length rel];exact z
  have hl:(N0 kvs k v).length≤sizeLine:=by have:=cc kvs k v;omega
  refine wpAny_setItem_heap (hsz:=hz) (tupleKind_room_in1 hu) (dy I.hok eb) dd fun h' dd' hs=>h _ ?_
  obtain⟨q,es,ep,hq,h2,h3,h4,_,h5⟩:=dd'
  refine jv I (by rw[e];exact True.intro) hs ⟨q,hq⟩ ⟨hl,hd,_,(rel.put k eb rv).keeps fun c ys ec=>?_,q,es,ep,hq,h2,h3,h4,h5⟩
  rw[d6 (Bj ec e (fun z=>nomatch z))]
  exact ec
end
section
variable {X:Cx} {pins:List (Addr×Obj)} {σ:St} {H:Hp} {s:Shared} {a:Addr} {kvs:List (j6×V)} {k:j6} {u:Value} {A:Around} {E:Value→Shared→Prop}
theorem AQ {Q:Value→Shared→Prop}(I:Inv X pins σ H s)(e:Rd H a (.dK kvs))(h:∀t s',Inv X pins σ H s'→Q (.int kvs.length t) s'):wpAny (model X.prog X.w) A (call (.builtin "len") [.ref a]) Q E s:=by
 obtain⟨z,hd,vs,rel,dd⟩:=R7 I.hok e
 refine call_len_dict hd dd (by rw[←rel.length];rw[sizeLine_eq] at z;omega) ?_
 rw[←rel.length]
 exact h _ _ (I.tok _)
end
theorem kM {X:Cx}{pins:List (Addr×Obj)}{σ:St}{H:Hp}{s:Shared}{a:Addr}{y:V}{o:Option V}(I:Inv X pins σ H s)(g:aA H a y o):s.TypeIs (.ref a) "dict":=by
 rcases g with⟨kvs,k,e,_,_⟩|⟨kvs,k,b,e,_,_,_⟩
 ·obtain⟨_,_,vs,_,dd⟩:=R7 I.hok e
  exact dd.typeIs
 ·obtain⟨_,_,xs,_,dd⟩:=fw I.hok e
  exact dd.typeIs
section
variable {X:Cx} {o i e value:Expr} {pos pos' tpos:Pos} {td ty tv:TE}
end
theorem tf {P:Program}{w:World}{H:Hp}(h:Heap)(hb:sysModules<h.objs.size):ObjOk P w H (h.push {cls:= .type "dict",data:= .dict #[]}) h.objs.size (.dK []):=
 ⟨Nat.zero_le _,beq_eq_false_iff_ne.mpr (Ne.symm (Nat.ne_of_lt hb)),[],.nil,Heap.DictOf.new h⟩
def tE:TE:=fun _ H Q=>∀p,H p=none→Q (.ref p) (A5 H p (.dK []))
section
variable {X:Cx} {pos:Pos}
theorem uH:PE X (.Dict [] [] pos) tE:=fun pins s σ H Q I h=>
 wpAny_Dict_empty ⟨.ref s.heap.objs.size,_,I.laid (a:=s.heap.objs.size) (o:= .dK []) (t':=s.toks) (fun _ _ q=>Heap.get?_push_of_some _ q) (Nat.le_refl _) (tf s.heap I.big),rfl,h _ (I.hok.fresh (Nat.le_refl _))⟩
end
def uu:List (TE×TE)→St→Hp→(List (V×V)→Hp→Prop)→Prop
 |[],_,H,Q=>Q [] H
 |(tk,tv)::r,σ,H,Q=>tk σ H fun x H1=>tv σ H1 fun y H2=>uu r σ H2 fun ps H3=>Q ((x,y)::ps) H3
abbrev VV:List (V×V)→List (Value×Value)→Prop:=Paired fun p q=>RelV p.1 q.1∧RelV p.2 q.2
def DP (X:Cx)(pos:Pos)(keys:List (Option Expr))(values:List Expr)(trs:List (TE×TE)):Prop:=
 ∀(pins:List (Addr×Obj)) (s:Shared) (σ:St) (H:Hp) (Q:List (V×V)→Hp→Prop),Inv X pins σ H s→uu trs σ H Q→
  wpAny (model X.prog X.w) X.A (evalPairs (pairTrees keys values X.env pos)) (fun vs s'=>∃ps H',Inv X pins σ H' s'∧VV ps vs∧Q ps H') X.xe s
structure M1 (X:Cx) (o:Expr) (m:Str) (apos:Pos) (e:Expr) (cpos:Pos):Prop where
 base:attributeBase o m X.env (eval o X.env)=eval o X.env
 few:((backTo cpos (starEach [e] X.env)).all (fun x=>!x.1)&&(backToKw cpos (keywordEach [] X.env)).all (fun x=>x.1.isSome)
  &&decide (([e]:List Expr).length+([]:List Keyword).length+(if([]:List Keyword).isEmpty then 0 else 1)<30))=true
 line:(apos.endLine==cpos.line)=true
 trees:backTo cpos (starEach [e] X.env)=[(false,eval e X.env)]
structure M2 (X:Cx) (o:Expr) (m:Str) (apos:Pos) (e f:Expr) (cpos:Pos):Prop where
 base:attributeBase o m X.env (eval o X.env)=eval o X.env
 few:((backTo cpos (starEach [e,f] X.env)).all (fun x=>!x.1)&&(backToKw cpos (keywordEach [] X.env)).all (fun x=>x.1.isSome)
  &&decide (([e,f]:List Expr).length+([]:List Keyword).length+(if([]:List Keyword).isEmpty then 0 else 1)<30))=true
 line:(apos.endLine==cpos.line)=true
 trees:backTo cpos (starEach [e,f] X.env)=[(false,eval e X.env),(false,eval f X.env)]
def AW (H:Hp)(a:Addr):Prop:=(∃kvs,Rd H a (.dK kvs))∨∃kvs,Rd H a (.dT kvs)
theorem uC {X:Cx}{pins:List (Addr×Obj)}{σ:St}{H:Hp}{s:Shared}{a:Addr}(I:Inv X pins σ H s)(d:AW H a):
  s.TypeIs (.ref a) "dict"∧(∀b,Value.ref a= .ref b→∃ob,s.heap.get? b=some ob∧ob.dict=none)∧(a==sysModules)=false:=by
 rcases d with⟨kvs,e⟩|⟨kvs,e⟩
 ·obtain⟨_,hd,vs,_,dd⟩:=R7 I.hok e
  refine⟨dd.typeIs,fun b q=>?_,hd⟩
  cases q
  obtain⟨ob,_,_,h1,h2,_⟩:=dd
  exact⟨ob,h1,h2.2.1⟩
 ·obtain⟨_,hd,xs,_,dd⟩:=fw I.hok e
  refine⟨dd.typeIs,fun b q=>?_,hd⟩
  cases q
  obtain⟨ob,_,_,h1,h2,_⟩:=dd
  exact⟨ob,h1,h2.2.1⟩
section
variable {X:Cx} {pins:List (Addr×Obj)} {σ:St} {H:Hp} {s:Shared} {a:Addr} {y d:V} {u r:Value} {o:Option V} {A:Around} {E:Value→Shared→Prop}
theorem yl {Q:Value→Shared→Prop}(hu:A.units+1<cLine)(I:Inv X pins σ H s)(g:aA H a y o)(ry:RelV y u)(h:∀w' s',Inv X pins σ H s'→RelV (o.getD .non) w'→Q w' s'):
  wpAny (model X.prog X.w) A (call (.builtin "dict.get") [.ref a,u]) Q E s:=by
 rcases g with⟨kvs,k,e,ey,l⟩|⟨kvs,k,b,e,ey,eb,l⟩
 ·subst ey
  obtain⟨z,hd,vs,rel,dd⟩:=R7 I.hok e
  refine call_meetsIn PySem.F.slot_dict_get dd.typeIs PySem.F.entry_dict_get (PySem.F.args_dict_get_2 _ _) (meets_dict_get (q8 X.prog X.w) a (fD ry) hd) ⟨_,dd.mapOf,h _ _ (I.tok _) ?_⟩
  rw[l]
  exact(rel.val k).getD rfl
 ·subst ey
  cases (show u=Value.ref b from ry)
  obtain⟨z,hd,xs,rel,dd⟩:=fw I.hok e
  refine call_meetsIn PySem.F.slot_dict_get dd.typeIs PySem.F.entry_dict_get (PySem.F.args_dict_get_2 _ _) (meetsH_dict_get (tupleKind (q8 X.prog X.w)) a b hd) ⟨tupleKind_room_in1 hu,k,xs,dy I.hok eb,dd,h _ _ (I.tok _) ?_⟩
  rw[l]
  exact(rel.val k).getD rfl
theorem zt {Q:Value→Shared→Prop}(hu:A.units+1<cLine)(I:Inv X pins σ H s)(g:aA H a y o)(ry:RelV y u)(rd:RelV d r)(h:∀w' s',Inv X pins σ H s'→RelV (o.getD d) w'→Q w' s'):
  wpAny (model X.prog X.w) A (call (.builtin "dict.get") [.ref a,u,r]) Q E s:=by
 rcases g with⟨kvs,k,e,ey,l⟩|⟨kvs,k,b,e,ey,eb,l⟩
 ·subst ey
  obtain⟨z,hd,vs,rel,dd⟩:=R7 I.hok e
  refine call_meetsIn PySem.F.slot_dict_get dd.typeIs PySem.F.entry_dict_get (PySem.F.args_dict_get_3 _ _ _) (meets_dict_get_default (q8 X.prog X.w) a (fD ry) hd r) ⟨_,dd.mapOf,h _ _ (I.tok _) ?_⟩
  rw[l]
  exact(rel.val k).getD rd
 ·subst ey
  cases (show u=Value.ref b from ry)
  obtain⟨z,hd,xs,rel,dd⟩:=fw I.hok e
  refine call_meetsIn PySem.F.slot_dict_get dd.typeIs PySem.F.entry_dict_get (PySem.F.args_dict_get_3 _ _ _) (meetsH_dict_get_default (tupleKind (q8 X.prog X.w)) a b hd r) ⟨tupleKind_room_in1 hu,k,xs,dy I.hok eb,dd,h _ _ (I.tok _) ?_⟩
  rw[l]
  exact(rel.val k).getD rd
end
def nH (td ty:TE):TE:=fun σ H Q=>td σ H fun x H1=>∃a,x= .ref a∧AW H1 a∧ty σ H1 fun y H2=>∃o,aA H2 a y o∧Q (o.getD .non) H2
def mU (td ty tx:TE):TE:=fun σ H Q=>td σ H fun x H1=>∃a,x= .ref a∧AW H1 a∧ty σ H1 fun y H2=>tx σ H2 fun z H3=>∃o,aA H3 a y o∧Q (o.getD z) H3
section
variable {X:Cx} {o e f:Expr} {apos cpos:Pos} {td ty tx:TE}
theorem tF (hu:X.A.units+1<cLine)(ho:PE X o td)(he:PE X e ty)(m:M1 X o "get" apos e cpos):PE X (.Call (.Attribute o "get" apos) [e] [] cpos) (nH td ty):=by
 intro pins s σ H Q I h
 refine wpAny_Call_method m.base m.few m.line PySem.F.plainAttrs_dict PySem.F.slot_dict_get PySem.F.type_dict_get (K6 (ho pins s σ H _ I h) fun u s1 ⟨x,H1,I1,rx,a,ex,d,q1⟩=>?_)
 subst ex
 obtain rfl:u=Value.ref a:=rx
 obtain⟨t1,t2,_⟩:=uC I1 d
 refine⟨t1,t2,?_⟩
 rw[m.trees]
 refine Calls.callWith_builtin rfl (Calls.evalArgs_plain (Calls.spliced_cons (K6 (he pins s1 σ H1 _ I1 q1) fun iv s2 ⟨y,H2,I2,ry,ov,g,q2⟩=>Calls.spliced_nil ?_)))
 exact yl hu I2 g ry fun w' s3 I3 rw'=>⟨_,H2,I3,rw',q2⟩
theorem uO (hu:X.A.units+1<cLine)(ho:PE X o td)(he:PE X e ty)(hf:PE X f tx)(m:M2 X o "get" apos e f cpos):PE X (.Call (.Attribute o "get" apos) [e,f] [] cpos) (mU td ty tx):=by
 intro pins s σ H Q I h
 refine wpAny_Call_method m.base m.few m.line PySem.F.plainAttrs_dict PySem.F.slot_dict_get PySem.F.type_dict_get (K6 (ho pins s σ H _ I h) fun u s1 ⟨x,H1,I1,rx,a,ex,d,q1⟩=>?_)
 subst ex
 obtain rfl:u=Value.ref a:=rx
 obtain⟨t1,t2,_⟩:=uC I1 d
 refine⟨t1,t2,?_⟩
 rw[m.trees]
 refine Calls.callWith_builtin rfl (Calls.evalArgs_plain (Calls.spliced_cons (K6 (he pins s1 σ H1 _ I1 q1) fun iv s2 ⟨y,H2,I2,ry,q2⟩=>
  Calls.spliced_cons (K6 (hf pins s2 σ H2 _ I2 q2) fun fv s3 ⟨z,H3,I3,rz,ov,g,q3⟩=>Calls.spliced_nil ?_))))
 exact zt hu I3 g ry rz fun w' s4 I4 rw'=>⟨_,H3,I4,rw',q3⟩
end
section
variable {X:Cx} {pins:List (Addr×Obj)} {σ:St} {H:Hp} {s:Shared} {a:Addr} {kvs:List (j6×V)} {A:Around} {E:Value→Shared→Prop}
theorem sj {Q:Value→Shared→Prop}(I:Inv X pins σ H s)(e:Rd H a (.dK kvs))(h:∀p s',H p=none→Inv X pins σ (A5 H p (.dK kvs)) s'→Q (.ref p) s'):wpAny (model X.prog X.w) A (call (.type "dict") [.ref a]) Q E s:=by
 obtain⟨z,hd,vs,rel,dd⟩:=R7 I.hok e
 refine kt_call_dict hd dd (by rw[←rel.length];exact z) fun h' dd' hs=>?_
 refine h _ _ (I.hok.fresh (Nat.le_refl _)) (I.laid (a:=s.heap.objs.size) (o:= .dK kvs) (t':=s.toks) (fun b q hq=>?_) (Nat.le_refl _) (mK z (beq_eq_false_iff_ne.mpr (Ne.symm (Nat.ne_of_lt I.big))) rel dd'))
 exact(hs.2 b (Nat.ne_of_lt (Heap.lt_size hq))).trans (Heap.get?_push_of_some _ hq)
end
section
variable {X:Cx} {pins:List (Addr×Obj)} {σ:St} {H:Hp} {s:Shared} {a:Addr} {y:V} {u:Value} {A:Around} {E:Value→Shared→Prop}
end
end L2
namespace Att
open PySem PySem.W PySem.Calls PyProof.Rows
theorem fU {P:Params}{h:Heap}:∀(ns:List Int) (vs:List Value),WellAll P h vs (ns.map WData.int)→IntsAre vs ns:=by
 intro ns
 induction ns with
 |nil=>
  intro vs w
  rw[List.map_nil] at w
  cases w
  exact .nil
 |cons n ns ih=>
  intro vs w
  rw[List.map_cons] at w
  cases w with
  |cons a b=>
   cases a
   exact .cons _ _ (ih _ b)
theorem qK {l:OpenLaw}{n:Nat}(hn:l.most=some n){P:Params}{h:Heap}{args:List WData}{vals:List Value}
  (hpre:l.row.toRowW.claim.pre args=true) (hwl:WellAll P h vals args):
  ∃a vs ns,vals=[Value.ref a]∧args=[WData.list (ns.map WData.int)]∧h.get? a=some {cls:= .type "list",data:= .seq vs.toArray}∧IntsAre vs ns∧ns.length≤n:=by
 have hsh:WShape.hasAll [] args [.list .int]=true:=(pre_splitW hpre).1
 have hc:l.pre.holds [] {args:=args}=true:=(pre_splitW hpre).2
 obtain⟨d,r,rfl,h1,h2⟩:=hasAllW_cons hsh
 obtain rfl:=hasAllW_nil h2
 obtain⟨xs,rfl,h3⟩:=hasW_list h1
 obtain⟨ns,rfl⟩:=items_int h3
 have hlen:ns.length≤n:=by
  unfold OpenLaw.pre at hc
  have h4:(WTm.not (.lt (.lit (.int (n:Int))) (.len (.arg 0)))).holds [] {args:=[.list (ns.map .int)]}=true:=by
   have h4:=(holds_andW hc).1
   rw[hn] at h4
   exact h4
  have h5:=condW_of h4 (w_not (w_lt w_lit (w_len_list (w_arg rfl))))
  rw[List.length_map] at h5
  refine Nat.le_of_not_lt fun q=>?_
  have q':(n:Int)<((ns.length:Nat):Int):=by omega
  first
   |(rw[decide_eq_true q'] at h5;exact absurd h5 (by decide))
   |(simp at h5;omega)
 cases hwl with
 |cons w1 w2=>
  cases w2
  cases w1 with
  |list ho hall=>exact⟨_,_,ns,rfl,rfl,ho,fU ns _ hall,hlen⟩
theorem qe (l:OpenLaw)(args:List WData):l.row.toRowW.claim.post args (.bool true) args=true:=
 postW_of (r:=l.row.toRowW) (X:=(true==true))
  (show WShape.has [] (.bool true) .bool=true by first|rfl|decide|simp [WShape.has,WShape.arms,WShape.armsAll])
  (show(WTm.eq .res (.lit (.bool true))).value [] {args:=args,res:=some (.bool true),after:=args}=some (.bool (true==true)) from w_eq_bool (w_res rfl) w_lit) rfl
theorem attach_call {l:OpenLaw}{n:Nat}{q:Program}{loose:List Str}{XP:(Str→Option Value)→Heap→Prop}{YP:World→Heap→Prop}{d:DefRec}
  (hn:l.most=some n) (hdf:d.params.defaults=[])
  (call:∀(w:World) (s₀ s₁:Shared) (mg mb:Str→Option Value) (fa:Addr) (o:Obj) (pm cd doc:Value) (a:Addr) (vs:List Value) (ns:List Int),
   Ground q loose [] XP w s₀ mg mb s₁.heap→YP w s₁.heap→
   s₁.heap.get? fa=some o→o.data= .func (docDef d.name d.params d.body d.scope pm cd doc)→s₁.heap.CodeRec cd d.name→mg d.name=some (.ref fa)→
   s₁.heap.get? a=some {cls:= .type "list",data:= .seq vs.toArray}→IntsAre vs ns→ns.length≤n→s₁.gens= #[]→
   codeAny (model l.prog w) callerA (.call (.ref fa) ⟨[.ref a],[]⟩) (fun r s'=>r= .ok (.ret (.bool true))∧OldK s₁.heap s'.heap∧s'.os=s₁.os∧AllBare s'.gens) s₁):
  WalkO q loose XP YP l.row.toRowW d [] (fun f vs=>PySem.call f vs):=by
 intro w s₀ s₁ mg mb G Y fa o pm cd doc dV kV ho hd hcd hD hmg hg args vals as hpre hlay hrd hwl hlo
 obtain rfl:dV= .none:=Dflts.none hD hdf
 obtain rfl:kV= .none:=Dflts.noKw hD
 obtain⟨a,vs,ns,rfl,rfl,hobj,hints,hlen⟩:=qK hn hpre hwl
 refine enter_call (codeAny_mono (call w s₀ s₁ mg mb fa o pm cd doc a vs ns G Y ho (fd_plain hd) hcd hmg hobj hints hlen hg) fun r s' hq=>?_)
 obtain⟨rfl,h2,h3,h4⟩:=hq
 exact⟨.inl ⟨.bool true,.bool true,[],rfl,fun _=>rfl,.bool true,qe l _,fun _=>⟨List.Pairwise.nil,fun _ hm=>(nomatch hm)⟩⟩,h2,h3,h4⟩
section
variable {prog:Program} {w:World} {A:Around} {E:Value→Shared→Prop} {s:Shared} {K:Frag}
end
end Att
namespace L2
open PySem PySem.Spec PyProof.Rows
theorem jb:∀{vs:List Value} {ns:List Int},IntsAre vs ns→Vals (ns.map V.int) vs
 |_,_,.nil=> .nil
 |_,_,.cons n t h=> .cons ⟨t,rfl⟩ (jb h)
def yJ (H:Hp):Prop:=∀b,H b=none∨∃o xs,H b=some (.frz o (.lst xs))
theorem ue {P:Program}{w:World}{K:PySem.W.Frag}{mg mb:Str→Option Value}{CX:kG}{k:Nat}{fa a:Addr}{fd:FuncData}{x:Str}{sp:Sp}{s₁:Shared}{vs:List Value}{ns:List Int}
  (KX:K.In s₁.heap) (hns:s₁.heap.Ns mainGlobals mg) (hb:s₁.heap.Ns builtinsNs mb) (hbb:∀x:Str,x≠"__name__"→mb x=bootBuiltins x) (hlim:s₁.heap.NoLimit) (hg:s₁.gens= #[])
  (ha:s₁.heap.get? a=some {cls:= .type "list",data:= .seq vs.toArray}) (hi:IntsAre vs ns) (hl:ns.length≤sizeLine) (hr:Room k callerA)
  (F:∀base:Heap,K.In base→base.Ns mainGlobals mg→E3 P w K mg base CX k fa fd [x] sp) (hbind:∀(s:Shared) (u:Value),BindsTo s fd ⟨[u],[]⟩ [(x,u)])
  (hsp:∀H:Hp,yJ H→SqL K H a (ns.map V.int)→sp [.ref a] H (fun v _=>v= .bl true) fun _ _ _=>False)
  (hCX:∀H e s',CX [] H s₁ (fun _ _ _=>False) e s'→False):
  codeAny (model P w) callerA (.call (.ref fa) ⟨[.ref a],[]⟩) (fun r s'=>r= .ok (.ret (.bool true))∧OldK s₁.heap s'.heap∧s'.os=s₁.os∧AllBare s'.gens) s₁:=by
 have rv:=jb hi
 have lenV:=hi.length
 have core:∀H:Hp,yJ H→SqL K H a (ns.map V.int)→HOk P w H s₁.heap→(∀b,H b≠none→b=a)→(H a≠none→K.lookup a=none)→
   codeAny (model P w) callerA (.call (.ref fa) ⟨[.ref a],[]⟩) (fun r s'=>r= .ok (.ret (.bool true))∧OldK s₁.heap s'.heap∧s'.os=s₁.os∧AllBare s'.gens) s₁:=by
  intro H hO hS hok hA hK
  have base_of:∀{b:Addr} {o:Obj},s₁.heap.get? b=some o→H b=none→(ky s₁.heap H).get? b=some o:=fun e n=>su e n
  have noA:∀{b:Addr} {o:Obj} {es:Array DictEntry} {ep:Nat},s₁.heap.get? b=some o→o.data= .dict es ep→H b=none:=fun{b o es ep} e d=>by
   cases q:H b with
   |none=>rfl
   |some u=>
    have e':b=a:=hA b (by rw[q];simp)
    subst e'
    rw[ha] at e;cases e
    have d':Data.seq vs.toArray _=Data.dict es ep:=d
    cases d'
  have nsK:∀{b:Addr} {m:Str→Option Value},s₁.heap.Ns b m→(ky s₁.heap H).Ns b m:=fun{b m} ⟨o,es,ep,e,d,r⟩=>⟨o,es,ep,base_of e (noA e d),d,r⟩
  have hKb:K.In (ky s₁.heap H):=fun b o e=>base_of (KX b o e) (by
   cases q:H b with
   |none=>rfl
   |some u=>
    have e':b=a:=hA b (by rw[q];simp)
    subst e'
    rw[hK (by rw[q];simp)] at e;cases e)
  have hM:Mod K mg (ky s₁.heap H):=⟨hKb,nsK hns,⟨mb,nsK hb,hbb⟩,let ⟨mc,h1,h2⟩:=hlim;⟨mc,nsK h1,h2⟩⟩
  have e0:xt P w K mg (ky s₁.heap H) callerA [] s₁ H:=⟨rfl,hM,fun b o e=>wJ e,Nat.le_of_eq (qh _ _),trivial,fun b hb=>absurd (show b∈([]:List Addr) from hb) (by simp),hok,.of_eq hg⟩
  refine codeAny_mono ((F _ hKb (nsK hns)).run callerA [] s₁ H ⟨[.ref a],[]⟩ [.ref a] [.ref a] _ _ hr e0 (hbind s₁ (.ref a)) (.cons rfl .nil) (hsp H hO hS)) fun r s' h=>?_
  cases r with
  |error e=>exact(hCX H e s' h).elim
  |ok fl=>
   cases fl with
   |next=>exact False.elim h
   |brk=>exact False.elim h
   |cont=>exact False.elim h
   |ret u=>
    obtain⟨v,H',os,bare,un,hok',r',q⟩:=h
    have q':v= .bl true:=q
    subst q'
    obtain rfl:u=Value.bool true:=r'
    refine⟨rfl,OldK.of_keep fun b o e=>?_,os,bare⟩
    cases q:H b with
    |none=>exact un.keep b o e q (by intro z;exact absurd (show b∈([]:List Addr) from z) (by simp)) (by simp)
    |some u=>
     rcases hO b with z|⟨ob,xs,z⟩
     ·rw[q] at z;cases z
     ·have z2:=un.frzs b ob _ z
      obtain⟨e1,_⟩:=hok b _ z
      obtain⟨e2,_⟩:=hok' b _ z2
      rw[e] at e1;cases e1
      exact e2
 cases hk:K.lookup a with
 |some o=>
  have e:=KX a o hk
  rw[ha] at e
  cases e
  refine core (fun _=>none) (fun _=> .inl rfl) (.inr ⟨_,vs.toArray,_,hk,rfl,rfl,rfl,by rw[List.size_toArray,lenV];exact hl,by simpa using rv⟩) (fun b u z=>by have z':(none:Option HO)=some u:=z;cases z') (fun b z=>absurd rfl z) fun z=>absurd rfl z
 |none=>
  refine core (fun b=>if b=a then some (.frz {cls:= .type "list",data:= .seq vs.toArray} (.lst (ns.map V.int))) else none) (fun b=>?_) (.inl (.inr ⟨{cls:= .type "list",data:= .seq vs.toArray},if_pos rfl⟩)) (fun b u z=>?_) (fun b z=>?_) fun _=>hk
  ·by_cases hb:b=a
   ·exact .inr ⟨_,_,if_pos hb⟩
   ·exact .inl (if_neg hb)
  ·by_cases hb:b=a
   ·have z':=(if_pos hb).symm.trans z
    cases z'
    subst hb
    exact⟨ha,by rw[List.length_map];exact hl,vs,_,rv,ha⟩
   ·have z':=(if_neg hb).symm.trans z
    cases z'
  ·by_cases hb:b=a
   ·exact hb
   ·exact absurd (if_neg hb) z
end L2
namespace L2
open PySem PySem.Spec PyProof.Rows
theorem walk_of {l:PySem.W.OpenLaw}{n k:Nat}{q:Program}{loose:List Str}{XP:(Str→Option Value)→Heap→Prop}{YP:World→Heap→Prop}{d:DefRec}{K:Params→PySem.W.Frag}{CX:World→kG}{sp:World→Sp}{x:Str}
  (hn:l.most=some n) (hn2:n≤sizeLine) (hdf:d.params.defaults=[]) (hr:Room k callerA)
  (hY:∀(w:World) (h:Heap),YP w h→(K w.params).In h)
  (F:∀(w:World) (mg:Str→Option Value) (fa:Addr) (h:Heap),(K w.params).In h→h.Ns mainGlobals mg→mg d.name=some (.ref fa)→
   ∃fd:FuncData,(∀(s:Shared) (u:Value),BindsTo s fd ⟨[u],[]⟩ [(x,u)])∧
    ∀base:Heap,(K w.params).In base→base.Ns mainGlobals mg→E3 l.prog w (K w.params) mg base (CX w) k fa fd [x] (sp w))
  (hsp:∀(w:World) (H:Hp) (a:Addr) (ns:List Int),ns.length≤n→yJ H→SqL (K w.params) H a (ns.map V.int)→sp w [.ref a] H (fun v _=>v= .bl true) fun _ _ _=>False)
  (hCX:∀(w:World) (H:Hp) (s:Shared) (e:Value) (s':Shared),CX w [] H s (fun _ _ _=>False) e s'→False):
  PySem.W.WalkO q loose XP YP l.row.toRowW d [] (fun f vs=>PySem.call f vs):=by
 refine Att.attach_call hn hdf fun w s₀ s₁ mg mb fa o pm cd doc a vs ns G Y ho hd hcd hmg hobj hints hlen hg=>?_
 have KX:=hY w _ Y
 obtain⟨fd,hb,hF⟩:=F w mg fa _ KX G.T.g hmg
 exact ue KX G.T.g G.T.b G.T.builtins G.T.nolimit hg hobj hints (Nat.le_trans hlen hn2) hr hF hb (fun H hO hS=>hsp w H a ns hlen hO hS) fun H e s'=>hCX w H s₁ e s'
end L2
namespace L2
open PySem PySem.Spec PyProof.Rows
def j5 (s:Stmt):Arguments:=match s with
 | .FunctionDef _ a _ _ _ _ _ _ _ _=>a
 |_=>{posonlyargs:=[],args:=[],vararg:=none,kwonlyargs:=[],kw_defaults:=[],kwarg:=none,defaults:=[]}
def i9 (s:Stmt):List Stmt:=match s with
 | .FunctionDef _ _ b _ _ _ _ _ _ _=>b
 |_=>[]
def b0 (s:Stmt):Scope:=match s with
 | .FunctionDef _ _ _ _ _ _ sc _ _ _=>sc
 |_=>{kind:= .function,names:=[],isGenerator:=false,isCoroutine:=false}
abbrev B4:kG:=fun _ _ _ _ _ _=>False
abbrev E0:XK:=fun _ _ _=>False
theorem j0 {X:Cx}:bt B4 X E0:=fun _ _ _ _ _ _ _ h=>h.elim
structure Fun (K:PySem.W.Frag) (x qual:Str) (st:Stmt) (f:Addr) (fd:FuncData):Prop where
 ex:∃(oc:Value) (od:Option Addr) (kV doc pm:Value) (an:Option Addr) (cdv ct:Value) (osl:Array (Option Value)),
  fd=PySem.W.fnOf x qual (j5 st) (i9 st) (b0 st) .none kV doc pm an cdv ct∧K.lookup f=some ⟨oc,od,.func fd,osl⟩∧PySem.W.codeIn K cdv qual=true
 kp:PySem.W.keepIn K (.ref f)=true
section
variable {P:Program} {w:World} {K:PySem.W.Frag} {mg:Str→Option Value} {base:Heap}
theorem Fun.ok {x qual:Str}{st:Stmt}{f:Addr}{fd:FuncData}{N ps:List Str}{k:Nat}{sp:Sp}(F:Fun K x qual st f fd)(S:j7 N ps (b0 st))(len:∀vs H Q E,sp vs H Q E→vs.length=ps.length)
  (hbody:∀(cdv:Value) (A:Around) (outer:List Env) (s:Shared) (H:Hp) (vs:List V) (Q:VK) (E:XK),Room k (A.deeper (envOfC qual (b0 st) s.heap.objs.size f cdv))→sp vs H Q E→
   ∃t,PSs (dX B4 P w K mg base N qual (b0 st) f cdv A outer s H E).nox (i9 st) t∧t {nx:=fun _ H'=>Q .non H',rt:=Q} (dB N vs) H):E3 P w K mg base B4 (k+1) f fd ps sp:=by
 obtain⟨oc,od,kV,doc,pm,an,cdv,ct,osl,rfl,lk,hcd⟩:=F.ex
 refine xv lk hcd S len fun A outer s H vs Q E hr hsp=>?_
 obtain⟨t,h,q⟩:=hbody cdv A outer s H vs Q E hr hsp
 exact⟨t,h.nox,q⟩
theorem Fun.binds {x qual:Str}{st:Stmt}{f:Addr}{fd:FuncData}{ps:List Str}(F:Fun K x qual st f fd)
  (h:∀(kV doc pm:Value) (an:Option Addr) (cdv ct:Value) (us:List Value),us.length=ps.length→bindArgs (PySem.W.fnOf x qual (j5 st) (i9 st) (b0 st) .none kV doc pm an cdv ct) ⟨us,[]⟩=pure (ps.zip us)):Binds K fd ps []:=by
 obtain⟨oc,od,kV,doc,pm,an,cdv,ct,osl,rfl,lk,hcd⟩:=F.ex
 exact .all (h kV doc pm an cdv ct)
theorem u9 {x qual:Str}{st:Stmt}{f:Addr}{oc:Value}{od an:Option Addr}{osl:Array (Option Value)}{kV doc pm cdv ct:Value}(l:K.lookup f=some ⟨oc,od,.func (PySem.W.fnOf x qual (j5 st) (i9 st) (b0 st) .none kV doc pm an cdv ct),osl⟩)
  (c:PySem.W.codeIn K cdv qual=true) (k:PySem.W.keepIn K (.ref f)=true):Fun K x qual st f (PySem.W.fnOf x qual (j5 st) (i9 st) (b0 st) .none kV doc pm an cdv ct):=⟨⟨oc,od,kV,doc,pm,an,cdv,ct,osl,rfl,l,c⟩,k⟩
end
theorem qk {n:Nat}(h:n≤1000):n<sizeLine:=Nat.lt_of_le_of_lt h (by decide)
section
variable {X:Cx}
end
theorem Cs {A B:Prop}(h:B):if false=true then A else B:=by
 rw[if_neg Bool.false_ne_true]
 exact h
theorem Dk {A B:Prop}(h:A):if true=true then A else B:=by
 rw[if_pos rfl]
 exact h
def Same (H H':Hp):Prop:=∀b o,H b=some o→H' b=some o
theorem Same.refl (H:Hp):Same H H:=fun _ _ h=>h
theorem Same.trans {H H1 H2:Hp}(a:Same H H1)(b:Same H1 H2):Same H H2:=fun c o h=>b c o (a c o h)
theorem Same.free {H H':Hp}(e:Same H H'){l:Addr}(h:H' l=Option.none):H l=Option.none:=by
 cases q:H l with
 |none=>rfl
 |some o=>
  rw[e l o q] at h
  cases h
theorem Same.seq {K:PySem.W.Frag}{H H':Hp}{a:Addr}{xs:List V}(e:Same H H')(h:SqL K H a xs):SqL K H' a xs:=by
 rcases h with(h|⟨o,h⟩)|h
 ·exact .inl (.inl (e _ _ h))
 ·exact .inl (.inr ⟨o,e _ _ h⟩)
 ·exact .inr h
section
variable {κ:Type} [DecidableEq κ]
theorem oQ {kvs:List (κ×V)}{k:κ}{v:V}(h:D0 kvs k=some v):k∈kvs.map (·.1):=by
 have q:(kvs.any fun kv=>decide (kv.1=k))=true:=by
  rw[cF,h]
  all_goals rfl
 obtain⟨p,hp,e⟩:=List.any_eq_true.mp q
 exact List.mem_map.mpr ⟨p,hp,of_decide_eq_true e⟩
theorem gc:∀{l:List κ} {k:κ},l.Nodup→¬k∈l→(l++[k]).Nodup
 |[],k,_,_=>by simp
 |a::r,k,h,hk=>by
  obtain⟨h1,h2⟩:=List.nodup_cons.mp h
  show(a::(r++[k])).Nodup
  refine List.nodup_cons.mpr ⟨fun m=>?_,gc h2 fun m=>hk (List.mem_cons.mpr (Or.inr m))⟩
  rcases List.mem_append.mp m with q|q
  ·exact h1 q
  ·exact hk (List.mem_cons.mpr (Or.inl (List.mem_singleton.mp q).symm))
end
end L2
set_option Elab.async false
set_option linter.all false
set_option maxRecDepth 100000
set_option maxHeartbeats 4000000
namespace L2
open PySem PySem.Spec PyProof.Rows
def aZ (scope:Scope)(env:Env):List (Str×Addr):=(scope.names.filter fun x=>x.2== .free).reverse.map fun x=>(x.1,(env.cells.lookup x.1).getD 0)
theorem cq {env:Env}:∀(l:List (Str×NameKind)) (cs:List (Str×Addr)),(∀x∈l,x.2= .free→∃c,env.cells.lookup x.1=some c)→
  (forIn l cs fun(x:Str×NameKind) (r:List (Str×Addr))=>if(x.2==NameKind.free)=true then(do let a←cellOf env x.1;pure (ForInStep.yield ((x.1,a)::r))) else(pure (ForInStep.yield r):Sem (ForInStep (List (Str×Addr)))))=
   pure (((l.filter fun x=>x.2== .free).reverse.map fun x=>(x.1,(env.cells.lookup x.1).getD 0))++cs)
 |[],cs,_=>rfl
 |(n,k)::l,cs,h=>by
  rw[List.forIn_cons]
  by_cases hk:k= .free
  ·subst hk
   obtain⟨c,hc⟩:=h (n,.free) List.mem_cons_self rfl
   simp only[beq_self_eq_true,if_true]
   have hc':env.cells.lookup n=some c:=hc
   have e0:cellOf env n=pure c:=by unfold cellOf;rw[hc']
   simp only[e0,pure_bind]
   rw[cq l _ fun x hx=>h x (List.mem_cons_of_mem _ hx)]
   rw[List.filter_cons,if_pos (by rfl),List.reverse_cons,List.map_append,List.append_assoc]
   simp only[List.map_cons,List.map_nil,hc',Option.getD_some,List.cons_append,List.nil_append]
  ·have hb:(k==NameKind.free)=false:=by simpa using hk
   simp only[hb,Bool.false_eq_true,if_false,pure_bind]
   rw[cq l cs fun x hx=>h x (List.mem_cons_of_mem _ hx)]
   rw[List.filter_cons,if_neg (by simp [hb])]
theorem bL {scope:Scope}{env:Env}(h:∀x∈scope.names,x.2= .free→∃c,env.cells.lookup x.1=some c):closureFor scope env=pure (aZ scope env):=by
 have e:=cq (env:=env) scope.names [] h
 rw[List.append_nil] at e
 unfold closureFor aZ
 simp only[]
 refine Eq.trans ?_ (congrArg (fun m=>m>>=fun r=>(pure r:Sem (List (Str×Addr)))) e)
 rfl
theorem W8 {env:Env}{x:Str}:∀(l:List (Str×NameKind)),(∀y∈l,∃c,env.cells.lookup y.1=some c)→(x∈l.map (·.1)→(l.map fun y=>(y.1,(env.cells.lookup y.1).getD 0)).lookup x=env.cells.lookup x)∧(x∉l.map (·.1)→(l.map fun y=>(y.1,(env.cells.lookup y.1).getD 0)).lookup x=none)
 |[],_=>⟨fun h=>by simp at h,fun _=>rfl⟩
 |(n,k)::l,h=>by
  have ih:=W8 (x:=x) l fun y hy=>h y (List.mem_cons_of_mem _ hy)
  obtain⟨c,hc⟩:=h (n,k) List.mem_cons_self
  have hc':env.cells.lookup n=some c:=hc
  by_cases e:x=n
  ·subst e
   refine⟨fun _=>?_,fun z=>absurd (by simp) z⟩
   simp [List.lookup_cons,hc']
  ·have eb:(x==n)=false:=by simpa using e
   refine⟨fun hm=>?_,fun hm=>?_⟩
   ·simp only[List.map_cons,List.lookup_cons,eb]
    exact ih.1 (by simpa [e] using hm)
   ·simp only[List.map_cons,List.lookup_cons,eb]
    exact ih.2 (fun z=>hm (by simp [z]))
theorem T1 {scope:Scope}{env:Env}(h:∀x∈scope.names,x.2= .free→∃c,env.cells.lookup x.1=some c){x:Str}{c:Addr}(e:(aZ scope env).lookup x=some c):env.cells.lookup x=some c:=by
 have hl:∀y∈(scope.names.filter fun x=>x.2== .free).reverse,∃c,env.cells.lookup y.1=some c:=fun y hy=>by
  obtain⟨h1,h2⟩:=List.mem_filter.mp (List.mem_reverse.mp hy)
  exact h y h1 (by simpa using h2)
 have a:=W8 (x:=x) _ hl
 by_cases hm:x∈(scope.names.filter fun x=>x.2== .free).reverse.map (·.1)
 ·rw[←a.1 hm];exact e
 ·have z:=a.2 hm
  unfold aZ at e
  rw[z] at e;cases e
theorem kJ {scope:Scope}{env:Env}(h:∀x∈scope.names,x.2= .free→∃c,env.cells.lookup x.1=some c){x:Str}(hx:(x,NameKind.free)∈scope.names):(aZ scope env).lookup x=env.cells.lookup x:=by
 have hl:∀y∈(scope.names.filter fun x=>x.2== .free).reverse,∃c,env.cells.lookup y.1=some c:=fun y hy=>by
  obtain⟨h1,h2⟩:=List.mem_filter.mp (List.mem_reverse.mp hy)
  exact h y h1 (by simpa using h2)
 exact(W8 (x:=x) _ hl).1 (List.mem_map.mpr ⟨(x,.free),List.mem_reverse.mpr (List.mem_filter.mpr ⟨hx,rfl⟩),rfl⟩)
theorem jE {scope:Scope}{env:Env}(hc:∀y∈scope.names,y.2≠ .cell){x:Str}(h:(relabel scope env).names.lookup x=some .cell∨(relabel scope env).names.lookup x=some .free):(x,NameKind.free)∈scope.names:=by
 have key:∀(l:List (Str×NameKind)),(∀y∈l,y.2≠ .cell)→∀k,(k=NameKind.cell∨k=NameKind.free)→(l.map fun(n,k)=>if(k==NameKind.free&&env.scope.kind== .function&&env.kindOf n==some .cell) then(n,NameKind.cell) else(n,k)).lookup x=some k→(x,NameKind.free)∈l:=by
  intro l
  induction l with
  |nil=>intro _ k _ e;simp at e
  |cons y r ih=>
   obtain⟨n,k0⟩:=y
   intro hl k hk e
   have ih':=ih (fun y hy=>hl y (List.mem_cons_of_mem _ hy)) k hk
   rw[List.map_cons] at e
   have hk0:k0≠ .cell:=hl (n,k0) List.mem_cons_self
   dsimp only at e
   by_cases hcnd:(k0==NameKind.free&&env.scope.kind== .function&&env.kindOf n==some .cell)=true
   ·rw[if_pos hcnd] at e
    cases hx:x==n with
    |true=>
     have:x=n:=by simpa using hx
     subst this
     have:k0= .free:=by
      simp only[Bool.and_eq_true,beq_iff_eq] at hcnd
      exact hcnd.1.1
     subst this
     exact List.mem_cons_self
    |false=>
     simp only[List.lookup_cons,hx] at e
     exact List.mem_cons_of_mem _ (ih' e)
   ·rw[if_neg hcnd] at e
    cases hx:x==n with
    |true=>
     have:x=n:=by simpa using hx
     subst this
     simp only[List.lookup_cons,hx] at e
     have e':k0=k:=Option.some.inj e
     subst e'
     rcases hk with z|z
     ·exact absurd z hk0
     ·subst z;exact List.mem_cons_self
    |false=>
     simp only[List.lookup_cons,hx] at e
     exact List.mem_cons_of_mem _ (ih' e)
 rcases h with h|h
 ·exact key _ hc _ (.inl rfl) h
 ·exact key _ hc _ (.inr rfl) h
def R8 (X:Cx)(own:List Str)(js:List Nat)(scope:Scope)(C:Addr)(s:Shared)(H:Hp)(fp:List Addr):Cx:=
 {X with N:=own++js.map (fun j=>X.N.getD j Str.empty),s₀:=s,H₀:=H,env:=compEnvC scope (aZ scope X.env) C X.env,outer:=X.stack,stack:=X.stack,ex:=fp,fn:=fun _=>false,pn:=[],xe:=fun _ _=>False}
def pX (own:List Str)(js:List Nat)(σ:St):St:=own.map (fun _=>none)++js.map (fun j=>(σ[j]?).join)
def vk (X:Cx)(own:List Str)(js:List Nat)(scope:Scope):Bool:=
 (scope.kind== .function)&&(scope.names.all fun x=>x.2 != .cell)&&(scope.names.all fun x=>x.2 != .local||scope.names.lookup x.1==some .local)&&
 (scope.names.all fun x=>x.2 != .free||(X.env.kindOf x.1==some .cell||X.env.kindOf x.1==some .free))&&
 (js.all fun j=>decide (j<X.N.length)&&scope.names.any (fun y=>y.1==X.N.getD j Str.empty&&y.2== .free))&&
 (scope.names.all fun x=>x.2 != .free||scope.names.lookup x.1 !=some .local)
theorem jM {own:List Str}{js:List Nat}{σ:St}{X:Cx}{scope:Scope}{C:Addr}{s:Shared}{H:Hp}{fp:List Addr}:(pX own js σ).length=(R8 X own js scope C s H fp).N.length:=by
 show(pX own js σ).length=(own++js.map (fun j=>X.N.getD j Str.empty)).length
 unfold pX;simp
section
variable {X:Cx} {pins:List (Addr×Obj)} {σ:St} {H:Hp} {s:Shared} {own:List Str} {js:List Nat} {scope:Scope} {fp:List Addr} {C D:Addr} {h1:Heap}
structure ScB (X:Cx) (own:List Str) (js:List Nat) (scope:Scope):Prop where
 kind:scope.kind= .function
 nocell:∀y∈scope.names,y.2≠ .cell
 names:∀x∈scope.names,x.2= .local→scope.names.lookup x.1=some .local
 free:∀x∈scope.names,x.2= .free→X.env.kindOf x.1=some .cell∨X.env.kindOf x.1=some .free
 js:∀j∈js,j<X.N.length∧(X.N.getD j Str.empty,NameKind.free)∈scope.names
 one:∀x,(x,NameKind.free)∈scope.names→scope.names.lookup x≠some .local
theorem kr (h:vk X own js scope=true):ScB X own js scope:=by
 unfold vk at h
 simp only[Bool.and_eq_true,List.all_eq_true,Bool.or_eq_true,bne_iff_ne,beq_iff_eq,decide_eq_true_eq,List.any_eq_true] at h
 obtain⟨⟨⟨⟨⟨h1,h2⟩,h3⟩,h4⟩,h5⟩,h6⟩:=h
 refine⟨h1,h2,fun x hx e=>?_,fun x hx e=>?_,fun j hj=>?_,fun x hx=>?_⟩
 ·rcases h3 x hx with z|z
  ·exact absurd e z
  ·exact z
 ·rcases h4 x hx with z|z
  ·exact absurd e z
  ·exact z
 ·obtain⟨a,y,hy,e1,e2⟩:=h5 j hj
  refine⟨a,?_⟩
  obtain⟨n,k⟩:=y
  simp only at e1 e2
  rw[←e1,←e2];exact hy
 ·rcases h6 _ hx with z|z
  ·exact absurd rfl z
  ·exact z
theorem ScB.cells (S:ScB X own js scope)(I:Inv X pins σ H s):∀x∈scope.names,x.2= .free→∃c,X.env.cells.lookup x.1=some c:=fun x hx e=>I.ok.has x.1 (S.free x hx e)
theorem Inv.block (S:ScB X own js scope)(I:Inv X pins σ H s)(hf:∀b∈fp,bQ X pins H b)(hob:∀b∈fp,∃o,s.heap.get? b=some o)(hC:s.heap.objs.size≤C){m:Str→Option Value}{t':Nat}(hn:h1.Ns C m)(k:∀b u,s.heap.get? b=some u→h1.get? b=some u):
  Inv (R8 X own js scope C s H fp) (X.pn++pins) (pX own js σ) H {s with heap:=h1,toks:=t'}:=by
 have hcl:=S.cells I
 have below:∀b o,s.heap.get? b=some o→b≠C:=fun b o e=>Nat.ne_of_lt (Nat.lt_of_lt_of_le (Heap.lt_size e) hC)
 have stk:∀b,b≠X.env.locals→b∉X.fs→b∉T7 X.stack:=fun b h1 h2 z=>by
  rcases List.mem_cons.mp (I.stkSub b z) with e|e
  ·exact h1 e
  ·exact h2 e
 have noex:∀b o,X.base.get? b=some o→b∉fp:=fun b o e z=>by
  rcases(hf b z).2.2.2.1 with q|q
  ·exact I.ok.noex b o e q
  ·exact absurd (Nat.lt_of_lt_of_le (Heap.lt_size e) (Nat.le_trans I.ok.bsz q)) (Nat.lt_irrefl _)
 refine⟨⟨I.ok.mod,S.kind,I.ok.glob,I.ok.blt,hC,fun x y c e1 e2=>?_,fun x hx=>?_,fun x c z _=>(Bool.false_ne_true z).elim,I.ok.hd,I.ok.frames,.inl rfl,fun b hb=>⟨?_,fun x c e=>?_⟩,I.bs,Nat.le_trans I.ok.bsz I.sz,noex,fun b hb=>?_,I.stack,I.stkFree⟩,
  rfl,I.bare,Un.kept k,⟨m,hn,fun i x v e1 e2 e3=>?_⟩,fun x c e=>?_,?_,fun x c e=>?_,fun p hp=>?_,I.hok.kept k,jM⟩
 ·exact I.ok.inj x y c (T1 hcl e1) (T1 hcl e2)
 ·have hm:=jE S.nocell (x:=x) (env:=X.env) hx
  obtain⟨c,e⟩:=hcl (x,.free) hm rfl
  exact⟨c,(kJ hcl hm).trans e⟩
 ·obtain⟨o,e⟩:=hob b hb;exact below b o e
 ·exact(hf b hb).2.2.2.2.1 x c (T1 hcl e)
 ·exact stk b (hf b hb).2.1 (hf b hb).2.2.1
 ·have e1':(own++js.map (fun j=>X.N.getD j Str.empty))[i]?=some x:=e1
  unfold pX at e2
  by_cases hi:i<own.length
  ·rw[List.getElem?_append_left (by simpa using hi),List.getElem?_map] at e2
   rw[List.getElem?_eq_getElem hi] at e2
   simp at e2
  ·rw[List.getElem?_append_right (by simpa using hi),List.getElem?_map] at e2
   rw[List.getElem?_append_right (by simpa using hi),List.getElem?_map] at e1'
   have el:(own.map fun _=>(none:Option V)).length=own.length:=by simp
   rw[el] at e2
   cases hj:js[i -own.length]? with
   |none=>rw[hj] at e1';simp at e1'
   |some j=>
    rw[hj] at e1' e2
    simp only[Option.map_some,Option.some.injEq] at e1' e2
    have hjm:j∈js:=List.mem_of_getElem? hj
    obtain⟨hlt,hmem⟩:=S.js j hjm
    have hNj:X.N[j]?=some x:=by
     rw[←e1',List.getD_eq_getElem?_getD,List.getElem?_eq_getElem hlt];simp
    have hσ:σ[j]?=some (some v):=by
     cases q:σ[j]? with
     |none=>rw[q] at e2;simp at e2
     |some w=>rw[q] at e2;simp at e2;rw[e2]
    rw[e1'] at hmem
    obtain⟨m0,hn0,hl0⟩:=I.loc
    have hkx:X.env.kindOf x=some .cell∨X.env.kindOf x=some .free:=S.free (x,.free) hmem rfl
    obtain⟨u,r,l⟩:=hl0 j x v hNj hσ (by rcases hkx with z|z;exact .inr (.inl z);exact .inr (.inr z))
    refine⟨u,r,?_⟩
    rcases l with⟨z,_⟩|⟨_,c,hc,hcell⟩
    ·rcases hkx with q|q
     ·rw[q] at z;cases z
     ·rw[q] at z;cases z
    ·have hc':(aZ scope X.env).lookup x=some c:=(kJ hcl hmem).trans hc
     obtain⟨oc,hoc,hocd⟩:=hcell
     refine .inr ⟨?_,c,hc',⟨oc,k _ _ hoc,hocd⟩⟩
     rcases e3 with z|z|z
     ·exfalso
      have hmm:(relabel scope X.env).names.lookup x=some .local:=z
      exact absurd hmm (by
       intro hh
       have key:∀l:List (Str×NameKind),(∀y∈l,y.2= .local→scope.names.lookup y.1=some .local)→(l.map fun(n,k)=>if(k==NameKind.free&&X.env.scope.kind== .function&&X.env.kindOf n==some .cell) then(n,NameKind.cell) else(n,k)).lookup x=some .local→scope.names.lookup x=some .local:=by
        intro l
        induction l with
        |nil=>intro _ e;simp at e
        |cons y r ih=>
         obtain⟨n,k0⟩:=y
         intro hl e
         rw[List.map_cons] at e
         dsimp only at e
         by_cases hcnd:(k0==NameKind.free&&X.env.scope.kind== .function&&X.env.kindOf n==some .cell)=true
         ·rw[if_pos hcnd] at e
          cases hx:x==n with
          |true=>simp only[List.lookup_cons,hx] at e;cases e
          |false=>simp only[List.lookup_cons,hx] at e;exact ih (fun y hy=>hl y (List.mem_cons_of_mem _ hy)) e
         ·rw[if_neg hcnd] at e
          cases hx:x==n with
          |true=>
           simp only[List.lookup_cons,hx] at e
           have e':k0= .local:=Option.some.inj e
           have:x=n:=by simpa using hx
           subst this
           exact hl (x,k0) List.mem_cons_self e'
          |false=>simp only[List.lookup_cons,hx] at e;exact ih (fun y hy=>hl y (List.mem_cons_of_mem _ hy)) e
       have a:=key scope.names S.names hh
       exact S.one x hmem a)
     ·exact .inl z
     ·exact .inr z
 ·obtain⟨v,o,ho,hd⟩:=I.cell x c (T1 hcl e)
  exact⟨v,o,k _ _ ho,hd⟩
 ·exact I.hok.fresh hC
 ·exact I.freeC x c (T1 hcl e)
 ·obtain⟨e,n,ne,nf,d⟩:=I.pin p hp
  exact⟨k _ _ e,n,below _ _ e,stk _ ne nf,d⟩
end
end L2
set_option Elab.async false
set_option linter.all false
set_option maxRecDepth 100000
set_option maxHeartbeats 4000000
namespace L2
open PySem PySem.Spec PyProof.Rows
theorem HOk.track {P:Program}{w:World}{H:Hp}{h h':Heap}{a C:Addr}{o:HO}(x:HOk P w H h)(hC:H C=none)(k:∀b,b≠C→h'.get? b=h.get? b)(hn:H a=none)(new:ObjOk P w (A5 H a o) h' a o):HOk P w (A5 H a o) h':=fun b u e=>by
 by_cases hb:b=a
 ·subst hb;rw[g7] at e;cases e;exact new
 ·rw[d6 hb] at e
  refine(x b u e).stay (fun c v hc q=>?_) (fun c q=>by rw[d6 (i6 q hn)];exact q) fun c xs q=>by rw[d6 (i6 q hn)];exact q
  have hcC:c≠C:=by
   rcases hc with z|z
   ·subst z;exact i6 e hC
   ·exact i6 z hC
  rw[k c hcC];exact q
abbrev uS (ifs:List Expr)(env:Env):Sem Bool:=forIn ifs true fun c r=>if r=true then do let ok←isTrue c env (eval c env);pure (ForInStep.yield ok) else pure (ForInStep.yield r)
def iE (X:Cx)(ifs:List Expr)(t:TT):Prop:=
 ∀(pins:List (Addr×Obj)) (s:Shared) (σ:St) (H:Hp) (Q:Bool→Hp→Prop),Inv X pins σ H s→t σ H Q→wpAny (model X.prog X.w) X.A (uS ifs X.env) (TP X pins σ Q) X.xe s
theorem Dc {X:Cx}:iE X [] (fun _ H Q=>Q true H):=fun pins s σ H Q I h=>wpAny_tests_nil ⟨H,I,h⟩
theorem CQ {X:Cx}{c:Expr}{t:TT}(h:PT X c t):iE X [c] t:=fun pins s σ H Q I hq=>wpAny_tests_one (h pins s σ H Q I hq)
section
variable {X:Cx} {pins:List (Addr×Obj)} {σ:St} {H:Hp} {s:Shared} {own:List Str} {js:List Nat} {scope:Scope}
variable {tg iter elt:Expr} {ifs:List Expr} {pos:Pos} {g:TG} {ti:TT} {te:TE}
structure BlockEnd (X:Cx) (pins:List (Addr×Obj)) (own:List Str) (js:List Nat) (scope:Scope) (σ:St) (H:Hp) (s:Shared) (fp:List Addr) (C D:Addr) (out:List V) (H':Hp) (s':Shared):Prop where
 inv:Inv (R8 X own js scope C s H fp) (X.pn++pins) (pX own js σ) H' s'
 free:H' D=none
 obj:∃(its:List Value) (n:Nat),Vals out its∧s'.heap.get? D=some {cls:= .type "list",data:= .seq its.toArray n}
theorem BlockEnd.out {fp:List Addr}{C D:Addr}{out:List V}{H':Hp}{s':Shared}{h':Heap}(e:BlockEnd X pins own js scope σ H s fp C D out H' s')(I:Inv X pins σ H s)(hf:∀b∈fp,bQ X pins H b)(hD:s.heap.objs.size≤D)(hC:s.heap.objs.size≤C)(hDC:D≠C)
  (hl:out.length≤sizeLine) (sb:Heap.SameBut C s'.heap h'):Inv X pins σ (A5 H' D (.lst out)) {s' with heap:=h'}:=by
 obtain⟨its,n,rv,ob⟩:=e.obj
 have J:=e.inv
 have U:Un (T7 X.stack) fp H H' s.heap s'.heap:=J.base
 have same:∀b,b≠C→h'.get? b=s'.heap.get? b:=fun b hb=>sb.2 b hb
 have old:∀b o,s.heap.get? b=some o→b≠C∧b≠D:=fun b o q=>⟨Nat.ne_of_lt (Nat.lt_of_lt_of_le (Heap.lt_size q) hC),Nat.ne_of_lt (Nat.lt_of_lt_of_le (Heap.lt_size q) hD)⟩
 have hHC:H' C=none:=J.free
 refine I.call' (s':={s' with heap:=h'}) (ch:=fp) J.os ?_ ?_ J.bare fun b hb=>?_
 ·refine⟨fun b o q n hb hx=>?_,fun b o q n hb hx=>?_,fun b o q n hx=>?_,fun b o q hx=>?_,fun b xs q=>?_,fun b o u q=>?_,fun b ps q=>?_⟩
  ·show h'.get? b=_
   rw[same b (old b o q).1];exact U.keep b o q n hb hx
  ·show ∃sl,h'.get? b=_
   rw[same b (old b o q).1];exact U.slot b o q n hb hx
  ·rw[d6 (old b o q).2];exact U.free b o q n hx
  ·show ∃o',h'.get? b=_
   rw[same b (old b o q).1];exact U.there b o q hx
  ·rw[d6 (i6 (U.tups b xs q) e.free)];exact U.tups b xs q
  ·rw[d6 (i6 (U.frzs b o u q) e.free)];exact U.frzs b o u q
  ·obtain⟨mo,z⟩:=U.tbls b ps q
   exact⟨mo,by rw[d6 (i6 z e.free)];exact z⟩
 ·refine HOk.track J.hok hHC same e.free ?_
  exact⟨hl,its,n,rv,by rw[same D hDC];exact ob⟩
 ·exact⟨(hf b hb).2.2.2.1,(hf b hb).2.1,(hf b hb).2.2.2.2.1,(hf b hb).2.2.2.2.2⟩
theorem jd (S:ScB X own js scope)(hc:X.calm=true){fp:List Addr}{it C D:Addr}{tn:Nat→Heap→Prop}{J:It}(T:fo X.prog X.w X.K tg J fp it tn)(I:Inv X pins σ H s)(hf:∀b∈fp,bQ X pins H b)
  (hD:s.heap.objs.size≤D) (hC:s.heap.objs.size≤C) (hDC:D≠C) (hob:∀b∈fp,∃o,s.heap.get? b=some o)
  (hg:PG (R8 X own js scope C s H fp) tg g) (hi:iE (R8 X own js scope C s H fp) ifs ti) (he:PE (R8 X own js scope C s H fp) elt te)
  (W:Nat→Nat→List V→Hp→Prop) {K:List V→Hp→Prop}
  (turn:∀i m out H,W i m out H→(J.stop i H∧(H D=none→out.length≤sizeLine∧K out H))∨
   (J.go i H∧∀x H',J.yld i H x H'→g x (pX own js σ) H' fun σ2 H2=>σ2.drop own.length=js.map (fun j=>(σ[j]?).join)∧ti σ2 H2 fun b H3=>
    if b=true then te σ2 H3 fun v H4=>out.length≤sizeLine∧∃m',m'<m∧W (i+1) m' (out++[v]) H4 else ∃m',m'<m∧W (i+1) m' out H3))
  {R:Result→Shared→Prop} (hR:∀out H' s',BlockEnd X pins own js scope σ H s fp C D out H' s'→out.length≤sizeLine→K out H'→R (.ok .next) s')
  {m0:Nat} {H1:Hp} {s1:Shared} (w0:W 0 m0 [] H1) (B:BlockEnd X pins own js scope σ H s fp C D [] H1 s1) (st:tn 0 s1.heap) (fr:∀b∈fp,H1 b=none):
  codeAny (model X.prog X.w) X.A (.compLoop (.ListComp elt [⟨tg,iter,ifs,0⟩] scope pos) 0 (.ref it) (.ref D) (compEnvC scope (aZ scope X.env) C X.env)) R s1:=by
 have stat:∀{H':Hp},(∀b∈fp,H' b=none)→∀b∈fp,bQ (R8 X own js scope C s H fp) (X.pn++pins) H' b:=fun hn b hb=>by
  obtain⟨o,ho⟩:=hob b hb
  refine⟨hn b hb,Nat.ne_of_lt (Nat.lt_of_lt_of_le (Heap.lt_size ho) hC),?_,.inl hb,fun x c e=>(hf b hb).2.2.2.2.1 x c (T1 (S.cells I) e),fun p hp=>(hf b hb).2.2.2.2.2 p hp⟩
  intro z
  rcases List.mem_cons.mp (I.stkSub b z) with e|e
  ·exact(hf b hb).2.1 e
  ·exact(hf b hb).2.2.1 e
 have Dfp:D∉fp:=fun z=>by
  obtain⟨o,ho⟩:=hob D z
  exact absurd (Nat.lt_of_lt_of_le (Heap.lt_size ho) hD) (Nat.lt_irrefl _)
 have Dcell:∀x c,(R8 X own js scope C s H fp).env.cells.lookup x=some c→c≠D:=fun x c e z=>by
  obtain⟨v,o,ho,_⟩:=I.cell x c (T1 (S.cells I) e)
  rw[z] at ho
  exact absurd (Nat.lt_of_lt_of_le (Heap.lt_size ho) hD) (Nat.lt_irrefl _)
 have Dpin:∀p∈X.pn++pins,p.1≠D:=fun p hp z=>by
  have ho:=(I.pin p hp).1
  rw[z] at ho
  exact absurd (Nat.lt_of_lt_of_le (Heap.lt_size ho) hD) (Nat.lt_irrefl _)
 have Dfs:D∉(R8 X own js scope C s H fp).fs:=fun z=>by
  obtain⟨_,o,ho,_⟩:=I.stack.mem z
  exact absurd (Nat.lt_of_lt_of_le (Heap.lt_size ho) hD) (Nat.lt_irrefl _)
 refine codeAny_loop rfl (fun n s'=>∃i out H',BlockEnd X pins own js scope σ H s fp C D out H' s'∧tn i s'.heap∧(∀b∈fp,H' b=none)∧W i n out H') (fun n s3 hI=>?_) m0 ⟨0,[],H1,B,st,fr,w0⟩
 obtain⟨i,out,H3,B3,st3,fr3,w3⟩:=hI
 obtain⟨its,nD,rv,obD⟩:=B3.obj
 have pinD:∀{σ':St} {H':Hp} {s':Shared},Inv (R8 X own js scope C s H fp) (X.pn++pins) σ' H' s'→H' D=none→s'.heap.get? D=some {cls:= .type "list",data:= .seq its.toArray nD}→
   Inv (R8 X own js scope C s H fp) (X.pn++pins++[(D,{cls:= .type "list",data:= .seq its.toArray nD})]) σ' H' s':=fun{σ' H' s'} I' n' e'=>I'.pins_of fun p hp=>by
  rcases List.mem_append.mp hp with z|z
  ·exact I'.pin p (by show p∈([]:List (Addr×Obj))++_;exact List.mem_append_right _ z)
  ·have z':p=(D,{cls:= .type "list",data:= .seq its.toArray nD}):=by simpa using z
   subst z'
   exact⟨e',n',hDC,Dfs,fun v q=>by cases q⟩
 have stat':∀{H':Hp},(∀b∈fp,H' b=none)→∀b∈fp,bQ (R8 X own js scope C s H fp) (X.pn++pins++[(D,{cls:= .type "list",data:= .seq its.toArray nD})]) H' b:=fun hn b hb=>by
  obtain⟨a1,a2,a3,a4,a5,a6⟩:=stat hn b hb
  refine⟨a1,a2,a3,a4,a5,fun p hp=>?_⟩
  have hp':p∈X.pn++pins++[(D,{cls:= .type "list",data:= .seq its.toArray nD})]:=hp
  rcases List.mem_append.mp hp' with z|z
  ·exact a6 p (by show p∈([]:List (Addr×Obj))++_;exact z)
  ·have z':p=(D,{cls:= .type "list",data:= .seq its.toArray nD}):=by simpa using z
   subst z'
   rintro rfl
   exact Dfp hb
 have thx:∀{α:Type} {t:Sem α} {Q Q':α→Shared→Prop} {E:Value→Shared→Prop} {s:Shared},wpAny (model X.prog X.w) X.A t Q (fun _ _=>False) s→(∀a s,Q a s→Q' a s)→wpAny (model X.prog X.w) X.A t Q' E s:=
  fun h hQ=>wpAny_mono h hQ fun _ _ x=>x.elim
 have unD:∀{pl:List (Addr×Obj)} {σ':St} {H':Hp} {s':Shared},Inv (R8 X own js scope C s H fp) (X.pn++pins++[(D,{cls:= .type "list",data:= .seq its.toArray nD})]++pl) σ' H' s'→Inv (R8 X own js scope C s H fp) (X.pn++pins) σ' H' s'∧H' D=none∧s'.heap.get? D=some {cls:= .type "list",data:= .seq its.toArray nD}:=fun{pl σ' H' s'} I'=>by
  have q:=I'.pin (D,{cls:= .type "list",data:= .seq its.toArray nD}) (List.mem_append_right _ (List.mem_append_left _ (List.mem_append_right _ (by simp))))
  exact⟨I'.unpinned.unpinned,q.2.1,q.1⟩
 show wpAny _ X.A ((compTurn (.ListComp elt [⟨tg,iter,ifs,0⟩] scope pos) 0 (.ref it) (.ref D) (compEnvC scope (aZ scope X.env) C X.env)).onRaise (fun x=>do noteFrame x (compEnvC scope (aZ scope X.env) C X.env);theTreesLotGoes x)) _ _ s3
 refine wpAny_noted ?_
 rw[compTurn_list]
 refine wpAny_bind (wpAny_standAt (wpAny_bind ?_))
 rcases turn i n out H3 w3 with⟨stop,fin⟩|⟨go,step⟩
 ·refine K6 (T.done (R8 X own js scope C s H fp) rfl rfl rfl hc i _ s3 _ H3 _ (pinD B3.inv B3.free obD) (stat' fr3) st3 stop) fun r s4 ⟨hr,I4⟩=>?_
  subst hr
  obtain⟨J4,n4,o4⟩:=unD (pl:=[]) (by rw[List.append_nil];exact I4)
  obtain⟨hl,k⟩:=fin B3.free
  exact wpAny_pure (hR out H3 s4 ⟨J4,n4,its,nD,rv,o4⟩ hl k)
 ·refine K6 (T.item (R8 X own js scope C s H fp) rfl rfl rfl hc i _ s3 _ H3 _ (pinD B3.inv B3.free obD) (stat' fr3) st3 go) fun r s4 ⟨u,hr,h4⟩=>?_
  subst hr
  refine wpAny_bind (K6 h4 fun _ s5 ⟨x,H5,I5,r5,y5,st5,fr5⟩=>?_)
  have I5':=I5.pinned (stat' fr5) (T.obj _ _ st5)
  refine wpAny_bind (thx (hg _ s5 _ H5 x u _ I5' r5 (step x H5 y5)) fun _ s6 ⟨σ6,H6,I6,q6⟩=>?_)
  obtain⟨ed,q6⟩:=q6
  refine wpAny_bind (thx (hi _ s6 σ6 H6 _ I6 q6) fun ok s7 ⟨H7,I7,q7⟩=>?_)
  have stay:∀{H':Hp} {s':Shared},Inv (R8 X own js scope C s H fp) (X.pn++pins++[(D,{cls:= .type "list",data:= .seq its.toArray nD})]++ff fp s5.heap) σ6 H' s'→tn (i+1) s'.heap∧∀b∈fp,H' b=none:=fun{H' s'} I'=>by
   refine⟨T.keep _ _ _ st5 fun b hb o e=>(I'.pin (b,o) (List.mem_append_right _ (List.mem_append_right _ (U9 hb e)))).1,fun b hb=>?_⟩
   obtain⟨o,e,d⟩:=T.obj _ _ st5 b hb
   exact(I'.pin (b,o) (List.mem_append_right _ (List.mem_append_right _ (U9 hb e)))).2.1
  have wk:∀{H':Hp} {s':Shared},Inv (R8 X own js scope C s H fp) (X.pn++pins) σ6 H' s'→Inv (R8 X own js scope C s H fp) (X.pn++pins) (pX own js σ) H' s':=fun{H' s'} I'=>by
   refine I'.weak (by rw[I'.len];exact jM) fun k v e=>?_
   unfold pX at e
   by_cases hk:k<own.length
   ·rw[List.getElem?_append_left (by simpa using hk),List.getElem?_map,List.getElem?_eq_getElem hk] at e
    simp at e
   ·rw[List.getElem?_append_right (by simpa using hk)] at e
    have el:(own.map fun _=>(none:Option V)).length=own.length:=by simp
    rw[el,←ed,List.getElem?_drop] at e
    have ek:own.length+(k -own.length)=k:=by lia
    rw[ek] at e
    exact e
  cases ok with
  |false=>
   rw[if_neg Bool.false_ne_true] at q7
   obtain⟨m',hm,w7⟩:=q7
   obtain⟨J7,n7,o7⟩:=unD I7
   exact wpAny_pure ⟨rfl,m',hm,i+1,out,H7,⟨wk J7,n7,its,nD,rv,o7⟩,(stay I7).1,(stay I7).2,w7⟩
  |true=>
   rw[if_pos rfl] at q7
   refine wpAny_bind (wpAny_bind (thx (he _ s7 σ6 H7 _ I7 q7) fun y s8 ⟨v,H8,I8,r8,hl8,m',hm,w8⟩=>?_))
   obtain⟨J8,n8,o8⟩:=unD I8
   have isl:s8.heap.IsList D its.toArray:=⟨_,o8,rfl,nD,rfl⟩
   refine wpAny_bind (wpAny_list_append_plain (hsz:=by have:=rv.length;simp;lia) ⟨nD,o8⟩ fun h' hp' hs'=>?_)
   obtain⟨nn,ob'⟩:=hp'
   have ob2:h'.get? D=some {cls:= .type "list",data:= .seq (its++[y]).toArray nn}:=by
    rw[ob',List.push_toArray]
   have keep:∀b o,b≠D→s8.heap.get? b=some o→h'.get? b=some o:=fun b o hb e=>(hs'.2 b hb).trans e
   have J9:Inv (R8 X own js scope C s H fp) (X.pn++pins) σ6 H8 {s8 with heap:=h'}:=J8.turned (t':=s8.toks) keep n8 hDC (.inr hD) Dcell (fun p hp=>Dpin p (by
    have hp':p∈([]:List (Addr×Obj))++(X.pn++pins):=hp
    rw[List.nil_append] at hp'
    exact hp'))
   refine wpAny_pure (wpAny_pure ⟨rfl,m',hm,i+1,out++[v],H8,⟨wk J9,n8,its++[y],nn,rv.append (.cons r8 .nil),ob2⟩,?_,(stay I8).2,w8⟩)
   exact T.keep _ _ _ (stay I8).1 fun b hb o e=>keep b o (by rintro rfl;exact Dfp hb) e
end
end L2
set_option Elab.async false
set_option linter.all false
set_option maxRecDepth 100000
set_option maxHeartbeats 4000000
namespace L2
open PySem PySem.Spec PyProof.Rows
def Dq (n:Nat)(PV:Nat→V→Prop):It:=⟨fun i _=>i<n,fun i H x H'=>H'=H∧PV i x,fun i _=>n≤i⟩
theorem oW {M:Model}{A:Around}{E:Value→Shared→Prop}{s:Shared}{tg:Expr}{it:Addr}{u:Value}{Q:Unit→Shared→Prop}(hu:∀a,u≠ .ref a)(hQ:Q () s):wpAny M A (letOwnedTupleGo tg (.ref it) u) Q E s:=by
 unfold letOwnedTupleGo
 cases tg<;>first
  |exact wpAny_pure hQ
  |(cases u<;>first
    |exact wpAny_pure hQ
    |exact absurd rfl (hu _))
theorem gY {P:Program}{w:World}{K:PySem.W.Frag}{tg:Expr}{it:Addr}{n:Nat}{Pv:Nat→Value→Prop}{PV:Nat→V→Prop}{St:Nat→Heap→Prop}
  (W:∀A:Around,A.handled=none→Walks P w A it [it] [it] n Pv St) (hv:∀i u,Pv i u→(∀a,u≠ .ref a)∧∃x,RelV x u∧PV i x)
  (ho:∀i h,St i h→∃o,h.get? it=some o∧∀v,o.data≠ .cell v)
  (hk:∀i h h',St i h→(∀o,h.get? it=some o→h'.get? it=some o)→St i h')
  (hself:∀(A:Around) (i:Nat) (s:Shared) (Q:Value→Shared→Prop) (E:Value→Shared→Prop),St i s.heap→Q (.ref it) s→wpAny (model P w) A (pyIter (.ref it)) Q E s):
  fo P w K tg (Dq n PV) [it] it (fun i h=>St i h∧i≤n) where
 mem:=by simp
 obj:=fun i h st b hb=>by
  have e:b=it:=by simpa using hb
  subst e
  exact ho i h st.1
 keep:=fun i h h' st k=>⟨hk i h h' st.1 fun o e=>k it (by simp) o e,st.2⟩
 item:=by
  intro X hP hw hK hc i pins s σ H E I hf st hg
  subst hP hw hK
  obtain⟨f0,f1,f2,f3,f4,f5⟩:=hf it (by simp)
  refine(W X.A (I.ok.hd hc)).item i s _ _ hg st.1 fun v h' tk hv' st' kk=>?_
  obtain⟨hne,x,rx,px⟩:=hv i v hv'
  have I1:Inv X pins σ H {s with heap:=h',toks:=tk}:=I.turned (fun b o hb e=>kk b o (by simpa using hb) e) f0 f1 f3 f4 f5
  exact⟨v,rfl,oW hne ⟨x,H,I1,rx,⟨rfl,px⟩,⟨st',hg⟩,fun b hb=>(hf b hb).1⟩⟩
 done:=by
  intro X hP hw hK hc i pins s σ H E I hf st hg
  subst hP hw hK
  obtain⟨f0,f1,f2,f3,f4,f5⟩:=hf it (by simp)
  have e:i=n:=Nat.le_antisymm st.2 hg
  subst e
  exact(W X.A (I.ok.hd hc)).done s _ _ st.1 fun h' tk kk=>⟨rfl,I.turned (fun b o hb e=>kk b o (by simpa using hb) e) f0 f1 f3 f4 f5⟩
 self:=fun A i s Q E st h=>hself A i s Q E st.1 h
def vq (c:Nat):V:= .str ⟨#[c]⟩
def xS (x:Str)(i:Nat)(v:V):Prop:=∃c,x.cps[i]?=some c∧v=vq c
def Its (x:Str):It:=Dq x.cps.size (xS x)
theorem rY {x:Str}{i:Nat}{u:Value}(h:SignAt x i u):(∀a,u≠ .ref a)∧∃v,RelV v u∧xS x i v:=by
 obtain⟨c,t,hc,rfl⟩:=h
 exact⟨fun a z=>(by cases z),vq c,⟨t,rfl⟩,c,hc,rfl⟩
theorem qN {P:Program}{w:World}{K:PySem.W.Frag}{tg:Expr}(it:Addr)(x:Str)(t:Tok):fo P w K tg (Its x) [it] it (fun i h=>h.IsStrIter it "str_ascii_iterator" x t i∧i≤x.cps.size):=
 gY (fun A hh=>Walks.strAscii hh it x t) (fun i u h=>rY h)
  (fun i h st=>by obtain⟨o,e,c,d⟩:=st;exact⟨o,e,fun v z=>by rw[d] at z;cases z⟩)
  (fun i h h' st k=>let ⟨o,e,r⟩:=st;⟨o,k o e,r⟩)
  (fun A i s Q E st h=>wpAny_pyIter_striter_ascii st h)
theorem rF {P:Program}{w:World}{K:PySem.W.Frag}{tg:Expr}(it:Addr)(x:Str)(t:Tok):fo P w K tg (Its x) [it] it (fun i h=>h.IsStrIter it "str_iterator" x t i∧i≤x.cps.size):=
 gY (fun A hh=>Walks.strWide hh it x t) (fun i u h=>rY h)
  (fun i h st=>by obtain⟨o,e,c,d⟩:=st;exact⟨o,e,fun v z=>by rw[d] at z;cases z⟩)
  (fun i h h' st k=>let ⟨o,e,r⟩:=st;⟨o,k o e,r⟩)
  (fun A i s Q E st h=>wpAny_pyIter_striter_wide st h)
section
variable {X:Cx} {tg:Expr}
def rIter (K:PySem.W.Frag)(v:V)(H:Hp)(R:It→Hp→Prop):Prop:=
 (∃a,v= .ref a∧(∃xs,SqL K H a xs)∧R (Itl K a) H)∨(∃a,v= .ref a∧(∃xs,SqT K H a xs)∧R (DB K a) H)∨(∃x,v= .str x∧R (Its x) H)
theorem uy {pins:List (Addr×Obj)}{σ:St}{H1:Hp}{s1:Shared}{x:V}{v:Value}{R:It→Hp→Prop}(I1:Inv X pins σ H1 s1)(r1:RelV x v)(q1:rIter X.K x H1 R):
  wpAny (model X.prog X.w) X.A (pyIter v) (Ci X pins σ tg R) X.xe s1:=by
 have fp0:∀b∈[s1.heap.objs.size],bQ X pins H1 b:=fun b hb=>by
  have e:b=s1.heap.objs.size:=by simpa using hb
  subst e
  exact I1.fpOk (Nat.le_refl _) (I1.hok.fresh (Nat.le_refl _))
 rcases q1 with⟨a,e,⟨xs,hq⟩,q⟩|⟨a,e,⟨xs,hq⟩,q⟩|⟨z,e,q⟩
 ·subst e
  cases r1
  obtain⟨its,rv,p,hz⟩:=I1.list hq
  refine wpAny_pyIter_list p.isList ?_
  exact⟨s1.heap.objs.size,[s1.heap.objs.size],_,_,H1,rfl,I1.kept (t':=s1.toks) fun b o e=>Heap.get?_push_of_some _ e,qJ a _,⟨_,Heap.get?_push_size _ rfl,rfl,rfl⟩,fp0,q⟩
 ·subst e
  cases r1
  obtain⟨its,rv,p,hz⟩:=I1.tuple hq
  refine wpAny_pyIter_tuple (show s1.heap.IsTuple a its.toArray from p) ?_
  exact⟨s1.heap.objs.size,[s1.heap.objs.size],_,_,H1,rfl,I1.kept (t':=s1.toks) fun b o e=>Heap.get?_push_of_some _ e,ny a _,⟨_,Heap.get?_push_size _ rfl,rfl,rfl⟩,fp0,q⟩
 ·subst e
  obtain⟨t,rfl⟩:=r1
  cases ha:z.cps.all (·<128) with
  |false=>exact wpAny_pyIter_wide ha ⟨s1.heap.objs.size,[s1.heap.objs.size],_,_,H1,rfl,I1.kept (t':=s1.toks) fun b o e=>Heap.get?_push_of_some _ e,rF _ z t,⟨⟨_,Heap.get?_push_size _ rfl,rfl,rfl⟩,Nat.zero_le _⟩,fp0,q⟩
  |true=>exact wpAny_pyIter_ascii ha ⟨s1.heap.objs.size,[s1.heap.objs.size],_,_,H1,rfl,I1.kept (t':=s1.toks) fun b o e=>Heap.get?_push_of_some _ e,qN _ z t,⟨⟨_,Heap.get?_push_size _ rfl,rfl,rfl⟩,Nat.zero_le _⟩,fp0,q⟩
end
section
variable {X:Cx}
theorem oS:∀{bs:List Bool} {us:List Value},Vals (bs.map V.bl) us→us=bs.map Value.bool
 |[],_,.nil=>rfl
 |b::bs,_,.cons r t=>by
  have e:_=Value.bool b:=r
  rw[e,oS t];rfl
theorem nk (bs:List Bool):((List.range bs.length).all fun i=>(bs[i]?).getD true)=bs.all id:=by
 rw[Bool.eq_iff_iff,List.all_eq_true,List.all_eq_true]
 constructor
 ·intro h b hb
  obtain⟨i,hi,rfl⟩:=List.getElem_of_mem hb
  have:=h i (List.mem_range.mpr hi)
  simpa [List.getElem?_eq_getElem hi] using this
 ·intro h i hi
  have hi':=List.mem_range.mp hi
  simpa [List.getElem?_eq_getElem hi'] using h _ (List.getElem_mem hi')
theorem vY {s:Shared}{h':Heap}{o:Obj}(hk:∀b x,b∉[s.heap.objs.size]→(s.heap.push o).get? b=some x→h'.get? b=some x):∀b x,s.heap.get? b=some x→h'.get? b=some x:=
 fun b x e=>hk b x (fun hm=>by rw[List.mem_singleton.mp hm] at e;exact Nat.lt_irrefl _ (Heap.lt_size e)) (Heap.get?_push_of_some _ e)
def mz (K:PySem.W.Frag):List V→Hp→VK→Prop:=fun xs H Q=>∃(p:Addr) (bs:List Bool),xs=[.ref p]∧SqL K H p (bs.map V.bl)∧Q (.bl (bs.all id)) H
theorem qS (hc:X.calm=true):CallR X (.builtin "all") (mz X.K):=by
 intro pins s σ H xs us Q I r h
 obtain⟨l,bs,rfl,hx,q⟩:=h
 obtain⟨u,rfl,ru⟩:=O8 r
 cases ru
 obtain⟨its,rv,ht,hz⟩:=I.list hx
 have e:=oS rv
 subst e
 have hl:=ht.isList
 have hlt:l<s.heap.objs.size:=ht.lt
 refine call_all_walk (wpAny_pyIter_list hl ?_)
 refine⟨s.heap.objs.size,[s.heap.objs.size,l],[s.heap.objs.size],(bs.map Value.bool).toArray.size,_,_,fun i=>(bs[i]?).getD true,rfl,Walks.list (A:=X.A.in1) (I.ok.hd hc) _ l (Nat.ne_of_lt hlt) (bs.map Value.bool).toArray,
  ⟨⟨_,Heap.get?_push_size _ rfl,rfl,rfl⟩,hl.push _⟩,fun i v s' Q' E' hP hQ=>?_,fun h' tk hk=>?_⟩
 ·have hP':(bs.map Value.bool)[i]?=some v:=by simpa using hP
  rw[List.getElem?_map] at hP'
  cases e:bs[i]? with
  |none=>rw[e] at hP';cases hP'
  |some b=>
   rw[e] at hP'
   cases hP'
   simp only[e,Option.getD_some] at hQ
   exact wpAny_truthy_bool hQ
 ·have e:((List.range (bs.map Value.bool).toArray.size).all fun i=>(bs[i]?).getD true)=bs.all id:=by
   rw[List.size_toArray,List.length_map];exact nk bs
  rw[e]
  exact⟨.bl (bs.all id),H,I.kept (vY hk),rfl,q⟩
def An:V→Option Int→Option Int→Hp→VK→Prop:=fun x lo hi H Q=>∃z,x= .str z∧z.length≤sizeLine∧Q (.str (Txt.slice z lo hi)) H
theorem yL:SlR X An:=by
 intro pins s σ H x v vl vu lo hi sl Q I rx hs pl pu h
 obtain⟨z,rfl,hz,q⟩:=h
 obtain⟨t,rfl⟩:=rx
 refine⟨"str",_,F.slot_str_getitem.lookup,typeIs_str _ _ _,?_⟩
 have fin:∀t' k,EP X pins σ Q (.str (Txt.slice z lo hi) t') {s with toks:=k}:=fun t' k=>⟨.str _,H,I.tok _,⟨t',rfl⟩,q⟩
 cases pl with
 |none=>
  cases pu with
  |none=>exact wpAny_getItem_str_slice (l:=none) (u:=none) (st:=none) hs rfl (post_val_or_str ⟨Nat.le_trans (Txt.slice_le z _ _) hz,fin⟩)
  |int j tj=>exact wpAny_getItem_str_slice (l:=none) (u:=some (j,tj)) (st:=none) hs rfl (post_val_or_str ⟨Nat.le_trans (Txt.slice_le z _ _) hz,fin⟩)
 |int i ti=>
  cases pu with
  |none=>exact wpAny_getItem_str_slice (l:=some (i,ti)) (u:=none) (st:=none) hs rfl (post_val_or_str ⟨Nat.le_trans (Txt.slice_le z _ _) hz,fin⟩)
  |int j tj=>exact wpAny_getItem_str_slice (l:=some (i,ti)) (u:=some (j,tj)) (st:=none) hs rfl (post_val_or_str ⟨Nat.le_trans (Txt.slice_le z _ _) hz,fin⟩)
def Br (K:PySem.W.Frag):V→Option Int→Option Int→Hp→VK→Prop:=fun x lo hi H Q=>BA K x lo hi H Q∨BO K x lo hi H Q∨An x lo hi H Q
theorem zd:SlR X (Br X.K):=sl_list.or (sl_tup.or yL)
theorem RelV.plainB {x:V}{v:Value}(r:RelV x v)(b:Bool):plainIs v (.bool b)=true∧(v==Value.bool b)=decide (x= .bl b):=by
 cases x with
 |non=>cases r;exact⟨rfl,rfl⟩
 |bl c=>cases r;exact⟨rfl,by cases b<;>cases c<;>rfl⟩
 |int _=>obtain⟨t,rfl⟩:=r;exact⟨rfl,rfl⟩
 |str _=>obtain⟨t,rfl⟩:=r;exact⟨rfl,rfl⟩
 |byt _=>obtain⟨t,rfl⟩:=r;exact⟨rfl,rfl⟩
 |flt _=>obtain⟨t,rfl⟩:=r;exact⟨rfl,rfl⟩
 |ref _=>cases r;exact⟨rfl,rfl⟩
 |ty _=>cases r;exact⟨rfl,rfl⟩
def DA (neg:Bool):R2:=fun x y H Q=>(y= .non∨∃b,y= .bl b)∧Q (.bl (if neg then !decide (x=y) else decide (x=y))) H
theorem xF:OpR X (compareOp .Is) (DA false):=by
 intro pins s σ H x y v u Q I rx ry h
 obtain⟨hy,q⟩:=h
 rcases hy with rfl|⟨b,rfl⟩
 ·cases ry;exact is_none_gen ⟨.bl _,H,I,by rw[rx.none_iff];rfl,q⟩
 ·cases ry
  exact wpAny_is_plain (rx.plainB b).1 ⟨.bl _,H,I,by rw[(rx.plainB b).2];rfl,q⟩
def TyB (K:PySem.W.Frag)(H:Hp):V→String→Prop
 | .non,t=>t="NoneType"
 | .bl _,t=>t="bool"
 | .int _,t=>t="int"
 | .str _,t=>t="str"
 | .ref a,t=>(t="list"∧∃xs,SqL K H a xs)∨(t="tuple"∧∃xs,SqT K H a xs)∨(t="dict"∧∃kvs,Rd H a (.dK kvs))
 |_,_=>False
def Y8 (t T:String):Bool:=t==T||(t=="bool"&&T=="int")
def wN (K:PySem.W.Frag):List V→Hp→VK→Prop:=fun xs H Q=>∃x T t,xs=[x,.ty T]∧TyB K H x t∧(T="str"∨T="int"∨T="bool"∨T="list"∨T="tuple"∨T="dict")∧Q (.bl (Y8 t T)) H
theorem Z7 {K:PySem.W.Frag}{t T:String}(ht:t="NoneType"∨t="bool"∨t="int"∨t="str"∨t="list"∨t="tuple"∨t="dict")(hT:T="str"∨T="int"∨T="bool"∨T="list"∨T="tuple"∨T="dict"):
  PySem.W.kitOne K (.type t) (.type T)=some (Y8 t T):=by
 rcases ht with rfl|rfl|rfl|rfl|rfl|rfl|rfl<;>rcases hT with rfl|rfl|rfl|rfl|rfl|rfl<;>rfl
theorem call_isi:CallR X (.builtin "isinstance") (wN X.K):=by
 intro pins s σ H xs us Q I r h
 obtain⟨x,T,t,rfl,ty,hT,q⟩:=h
 obtain⟨u,c,rfl,rx,rc⟩:=fP r
 cases rc
 have fin:∀tk,EP X pins σ Q (.bool (Y8 t T)) {s with toks:=tk}:=fun tk=>⟨.bl _,H,I.tok tk,rfl,q⟩
 cases x with
 |non=>cases ty;cases (show u=Value.none from rx);exact PySem.W.kia_one PySem.W.kitx_none I.kIn True.intro (Z7 (by simp) hT) (fun z=>nomatch z) fin
 |bl y=>cases ty;cases (show u=Value.bool y from rx);exact PySem.W.kia_one PySem.W.kitx_bool I.kIn True.intro (Z7 (by simp) hT) (fun z=>nomatch z) fin
 |int i=>cases ty;obtain⟨t,q⟩:=(show ∃t,u=Value.int i t from rx);cases q;exact PySem.W.kia_one PySem.W.kitx_int I.kIn True.intro (Z7 (by simp) hT) (fun z=>nomatch z) fin
 |str y=>cases ty;obtain⟨t,q⟩:=(show ∃t,u=Value.str y t from rx);cases q;exact PySem.W.kia_one PySem.W.kitx_str I.kIn True.intro (Z7 (by simp) hT) (fun z=>nomatch z) fin
 |byt _=>exact False.elim ty
 |flt _=>exact False.elim ty
 |ty _=>exact False.elim ty
 |ref a=>
  cases (show u=Value.ref a from rx)
  rcases ty with⟨rfl,ys,hy⟩|⟨rfl,ys,hy⟩|⟨rfl,kvs,hy⟩
  ·obtain⟨its,_,⟨o,n,e,c,_,_⟩,_⟩:=I.list hy
   exact PySem.W.kia_one PySem.W.kitx_list I.kIn ⟨o,e,c⟩ (Z7 (by simp) hT) (fun z=>nomatch z) fin
  ·obtain⟨its,_,⟨o,e,c,_⟩,_⟩:=I.tuple hy
   exact PySem.W.kia_one PySem.W.kitx_tuple I.kIn ⟨o,e,c⟩ (Z7 (by simp) hT) (fun z=>nomatch z) fin
  ·obtain⟨_,_,vs,_,o,es,ep,h1,h2,_⟩:=R7 I.hok hy
   exact PySem.W.kia_one PySem.W.kitx_dict I.kIn ⟨o,h1,h2.1⟩ (Z7 (by simp) hT) (fun z=>nomatch z) fin
end
end L2
set_option Elab.async false
set_option linter.all false
set_option maxRecDepth 100000
set_option maxHeartbeats 4000000
namespace L2
open PySem PySem.Spec PyProof.Rows
section
variable {X:Cx}
def dF (K:PySem.W.Frag):R2:=fun x y H Q=>vm (fun i j=> .int (i+j)) x y H Q∨(∃i j,x= .str i∧y= .str j∧i.length+j.length≤sizeLine∧Q (.str (i++j)) H)∨BN x y H Q∨yb K x y H Q
theorem vz:OpR X (binaryOp .Add) (dF X.K):=op_add.or (op_add_str.or (op_cat.or wG))
theorem op_in_sgn:OpR X (compareOp .In) (fun x y H Q=>∃c j,x=vq c∧y= .str j∧Q (.bl (decide (c∈j.cps.toList))) H):=by
 intro pins s σ H x y v u Q I rx ry h
 obtain⟨c,j,rfl,rfl,q⟩:=h
 refine qd pins s σ H _ _ v u Q I rx ry ⟨⟨#[c]⟩,j,rfl,rfl,?_⟩
 rw[StrLaws.found_one];exact q
theorem op_notIn_sgn:OpR X (compareOp .NotIn) (fun x y H Q=>∃c j,x=vq c∧y= .str j∧Q (.bl (!decide (c∈j.cps.toList))) H):=by
 intro pins s σ H x y v u Q I rx ry h
 obtain⟨c,j,rfl,rfl,q⟩:=h
 refine jT pins s σ H _ _ v u Q I rx ry ⟨⟨#[c]⟩,j,rfl,rfl,?_⟩
 rw[StrLaws.found_one];exact q
theorem oF (hu:X.A.units+1<cLine):OpR X (compareOp .In) (fun y x H Q=>∃a o,x= .ref a∧aA H a y o∧Q (.bl o.isSome) H):=by
 intro pins s σ H y x v u Q I ry rx h
 obtain⟨a,o,rfl,g,q⟩:=h
 cases rx
 exact CT hu I g ry fun s' I'=>⟨.bl _,H,I',rfl,q⟩
theorem iB (hu:X.A.units+1<cLine):OpR X (compareOp .NotIn) (fun y x H Q=>∃a o,x= .ref a∧aA H a y o∧Q (.bl (!o.isSome)) H):=by
 intro pins s σ H y x v u Q I ry rx h
 obtain⟨a,o,rfl,g,q⟩:=h
 cases rx
 exact vU hu I g ry fun s' I'=>⟨.bl _,H,I',rfl,q⟩
def vK (K:PySem.W.Frag):R2:=fun x y H Q=>(∃c j,x=vq c∧y= .str j∧Q (.bl (decide (c∈j.cps.toList))) H)∨Co K false x y H Q∨(∃a o,y= .ref a∧aA H a x o∧Q (.bl o.isSome) H)
def gk (K:PySem.W.Frag):R2:=fun x y H Q=>(∃c j,x=vq c∧y= .str j∧Q (.bl (!decide (c∈j.cps.toList))) H)∨Co K true x y H Q∨(∃a o,y= .ref a∧aA H a x o∧Q (.bl (!o.isSome)) H)
theorem yE (hu:X.A.units+1<cLine):OpR X (compareOp .In) (vK X.K):=op_in_sgn.or (op_in_seq.or (oF hu))
theorem qu (hu:X.A.units+1<cLine):OpR X (compareOp .NotIn) (gk X.K):=op_notIn_sgn.or (op_notIn_seq.or (iB hu))
def BL:R2:=fun x y H Q=>vm (fun i j=> .bl (decide (i<j))) x y H Q∨(∃i j,x= .str i∧y= .str j∧Q (.bl (decide (i.cps.toList<j.cps.toList))) H)
theorem jQ:OpR X (compareOp .Lt) BL:=op_lt.or qo
theorem vF (hu:X.A.units+1<cLine):IxR X (fun x y H Q=>∃a v,x= .ref a∧aA H a y (some v)∧Q v H):=by
 intro value slice pins s σ H x y v u Q I rx ry h hs
 obtain⟨a,z,rfl,g,q⟩:=h
 cases rx
 exact tail_any (kM I g) PySem.F.slot_dict_getitem.lookup (qX hu I g ry fun w2 s' I' r'=>⟨z,H,I',r',q⟩) hs
def gB (K:PySem.W.Frag):R2:=fun x y H Q=>Dx K x y H Q∨(∃a v,x= .ref a∧aA H a y (some v)∧Q v H)
theorem yF (hu:X.A.units+1<cLine):IxR X (gB X.K):=ix_seq.or (vF hu)
def nQ (K:PySem.W.Frag):List V→Hp→VK→Prop:=fun xs H Q=>(∃x n,xs=[x]∧BC K x H n∧Q (.int n) H)∨(∃a kvs,xs=[V.ref a]∧Rd H a (.dK kvs)∧Q (.int kvs.length) H)
theorem call_lenX:CallR X (.builtin "len") (nQ X.K):=by
 refine call_len.or ?_
 intro pins s σ H xs us Q I r h
 obtain⟨a,kvs,rfl,ha,q⟩:=h
 obtain⟨u,rfl,ru⟩:=O8 r
 cases ru
 exact AQ I ha fun t s' I'=>⟨.int kvs.length,H,I',⟨t,rfl⟩,q⟩
end
def E2 (P:Program)(w:World)(K:PySem.W.Frag)(mg:Str→Option Value)(base:Heap)(CX:kG)(k:Nat)(x:Str)(ps:List Str)(dvs:List V)(sp:Sp):Prop:=
 ∃f fd ds,E3 P w K mg base CX k f fd ps sp∧mg x=some (.ref f)∧PySem.W.keepIn K (.ref f)=true∧Binds K fd ps ds∧Vals dvs ds
section
variable {X:Cx} {CX:kG} {k:Nat} {x:Str} {ps:List Str} {dvs:List V} {sp:Sp} {E:XK} {e:Expr} {es:List Expr} {t:TA} {p pos:Pos}
theorem sS (C:E2 X.prog X.w X.K X.mg X.base CX k x ps dvs sp)(hr:Room k X.A)(hx:bt CX X E)(ha:PA X (e::es) t)(hg:Gl X x:=by rfl)
  (hdb:(x==("__debug__":Str))=false:=by decide) (he:starEach (e::es) X.env=(false,eval e X.env)::starEach es X.env:=by rfl) (hpl:(backTo pos (starEach es X.env)).any (·.1)=false:=by rfl):
  PE X (.Call (.Name x p) (e::es) [] pos) (kZ sp dvs E t):=by
 obtain⟨f,fd,ds,F,hm,hk,hb,hd⟩:=C
 exact vZ F hr hg hm hk hb hd hx ha hdb he hpl
def rj (mg:Str→Option Value)(x:Str)(v:V):Prop:=∃u,mg x=some u∧RelV v u
theorem zX {v:V}(h:rj X.mg x v)(hg:Gl X x:=by rfl)(hd:(x==("__debug__":Str))=false:=by decide):PE X (.Name x pos) (tC v):=by
 obtain⟨u,hm,r⟩:=h
 exact pP hg hm r hd
theorem C0 {k:Nat}{A:Around}(r:Room k A):A.units+1<cLine:=by have:=r.un;lia
end
section
variable {K:PySem.W.Frag} {σ:St} {H:Hp} {Q:VK} {D:oq} {nx bk ct:St→Hp→Prop} {rt:VK}
theorem Bc {i:Nat}{v:V}(h:σ[i]?=some (some v))(q:Q v H):lU i σ H Q:=⟨v,h,q⟩
theorem DV {v:V}(q:Q v H):tC v σ H Q:=q
theorem CN {r:R2}{ta tb:TE}(q:ta σ H fun x H1=>tb σ H1 fun y H2=>r x y H2 Q):rG r ta tb σ H Q:=q
theorem yV {t:TE}{Qb:Bool→Hp→Prop}(q:t σ H fun x H'=>∃k,x= .bl k∧Qb k H'):lT t σ H Qb:=q
theorem CM {b:Bool}{Qb:Bool→Prop}(q:Qb b):∃k,V.bl b= .bl k∧Qb k:=⟨b,rfl,q⟩
theorem AG {b:Bool}{Qb:Bool→Prop}(q:Qb b):∃k,rS K (V.bl b) H k∧Qb k:=⟨b,rfl,q⟩
theorem AK {t:TT}{Qb:Bool→Hp→Prop}(q:t σ H fun c H1=>Qb (!c) H1):zC t σ H Qb:=q
theorem AX {t u:TT}{Qb:Bool→Hp→Prop}(q:t σ H fun c H1=>if c=true then u σ H1 Qb else Qb false H1):zD t u σ H Qb:=q
theorem Cw {t u:TT}{Qb:Bool→Hp→Prop}(q:t σ H fun c H1=>if c=true then Qb true H1 else u σ H1 Qb):CP t u σ H Qb:=q
theorem yZ {ta tb:TE}(q:ta σ H fun x H1=>∃c,x= .bl c∧if c=true then tb σ H1 Q else Q (.bl false) H1):tW ta tb σ H Q:=q
theorem BS {Qa:List V→Hp→Prop}(q:Qa [] H):fS σ H Qa:=q
theorem zH {ta:TE}{tr:TA}{Qa:List V→Hp→Prop}(q:ta σ H fun x H1=>tr σ H1 fun xs H2=>Qa (x::xs) H2):de ta tr σ H Qa:=q
theorem yx {sp:Sp}{dvs:List V}{E:XK}{t:TA}(q:t σ H fun vs H1=>sp (vs++dvs) H1 Q E):kZ sp dvs E t σ H Q:=q
theorem Dd {r:List V→Hp→VK→Prop}{t:TA}(q:t σ H fun vs H1=>r vs H1 Q):yH r t σ H Q:=q
theorem CG {r:V→Option Int→Option Int→Hp→VK→Prop}{te:TE}{tl th:TO}(q:te σ H fun x H1=>tl σ H1 fun l H2=>th σ H2 fun u H3=>r x l u H3 Q):CW r te tl th σ H Q:=q
theorem uU {Qo:Option Int→Hp→Prop}(q:Qo none H):jC σ H Qo:=q
theorem yp {t:TE}{Qo:Option Int→Hp→Prop}(q:t σ H fun x H1=>∃i,x= .int i∧Qo (some i) H1):uB t σ H Qo:=q
theorem Ax {i:Int}{Qo:Int→Prop}(q:Qo i):∃j,V.int i= .int j∧Qo j:=⟨i,rfl,q⟩
theorem vI {r r':R2}{ta tb tc:TE}(q:ta σ H fun x H1=>tb σ H1 fun y H2=>r x y H2 fun z H3=>∃k,z= .bl k∧(if k=true then tc σ H3 fun w' H4=>r' y w' H4 Q else Q (.bl false) H3)):nW r r' ta tb tc σ H Q:=q
theorem qt {i j:Int}(q:Q (.int (i+j)) H):dF K (.int i) (.int j) H Q:= .inl ⟨i,j,rfl,rfl,q⟩
theorem o3 {i j:Str}(h:i.length+j.length≤sizeLine)(q:Q (.str (i++j)) H):dF K (.str i) (.str j) H Q:= .inr (.inl ⟨i,j,rfl,rfl,h,q⟩)
theorem Dj {g:Int→Int→V}{i j:Int}(q:Q (g i j) H):vm g (.int i) (.int j) H Q:=⟨i,j,rfl,rfl,q⟩
theorem DU {C:Int→Int→Prop}{g:Int→Int→V}{i j:Int}(h:C i j)(q:Q (g i j) H):rI C g (.int i) (.int j) H Q:=⟨i,j,rfl,rfl,h,q⟩
theorem tS {i j:Int}(q:Q (.bl (decide (i<j))) H):BL (.int i) (.int j) H Q:= .inl ⟨i,j,rfl,rfl,q⟩
theorem kO {i j:Int}(q:Q (.bl (decide (i=j))) H):Cr (.int i) (.int j) H Q:=⟨rfl,by rw[gq];rw[show(i==j)=decide (i=j) from Bool.beq_eq_decide_eq i j];exact q⟩
theorem lO {i j:Str}(q:Q (.bl (decide (i=j))) H):Cr (.str i) (.str j) H Q:=⟨rfl,by rw[jD];rw[show(i==j)=decide (i=j) from Bool.beq_eq_decide_eq i j];exact q⟩
theorem uc {c:Nat}{j:Str}(q:Q (.bl (decide (c∈j.cps.toList))) H):vK K (vq c) (.str j) H Q:= .inl ⟨c,j,rfl,rfl,q⟩
theorem ml {c:Nat}{j:Str}(q:Q (.bl (!decide (c∈j.cps.toList))) H):gk K (vq c) (.str j) H Q:= .inl ⟨c,j,rfl,rfl,q⟩
theorem Q6 {y:Str}(h:y.length≤sizeLine)(q:Q (.int y.length) H):nQ K [.str y] H Q:= .inl ⟨.str y,y.length,rfl,⟨h,rfl⟩,q⟩
theorem K3 {p:Addr}{xs:List V}(h:SqL K H p xs)(q:Q (.int xs.length) H):nQ K [.ref p] H Q:= .inl ⟨.ref p,xs.length,rfl,.inl ⟨xs,h,rfl⟩,q⟩
theorem eX {p:Addr}{xs:List V}(h:SqT K H p xs)(q:Q (.int xs.length) H):nQ K [.ref p] H Q:= .inl ⟨.ref p,xs.length,rfl,.inr ⟨xs,h,rfl⟩,q⟩
theorem G9 {p:Addr}{kvs:List (j6×V)}(h:Rd H p (.dK kvs))(q:Q (.int kvs.length) H):nQ K [.ref p] H Q:= .inr ⟨p,kvs,rfl,h,q⟩
theorem x6 {p:Addr}{xs:List V}{i:Int}{v:V}(h:SqL K H p xs)(e:mx xs i=some v)(q:Q v H):gB K (.ref p) (.int i) H Q:= .inl (.inl ⟨p,xs,i,v,rfl,rfl,h,e,q⟩)
theorem d4 {p:Addr}{xs:List V}{i:Int}{v:V}(h:SqT K H p xs)(e:mx xs i=some v)(q:Q v H):gB K (.ref p) (.int i) H Q:= .inl (.inr (.inl ⟨p,xs,i,v,rfl,rfl,h,e,q⟩))
theorem M3 {z:Str}{i:Int}{c:Nat}(hz:z.length≤sizeLine)(e:mx z.cps.toList i=some c)(q:Q (vq c) H):gB K (.str z) (.int i) H Q:= .inl (.inr (.inr ⟨z,i,c,rfl,rfl,hz,e,q⟩))
theorem L6 {p:Addr}{y v:V}(g:aA H p y (some v))(q:Q v H):gB K (.ref p) y H Q:= .inr ⟨p,v,rfl,g,q⟩
theorem P4 {p:Addr}{xs:List V}{lo hi:Option Int}(h:SqL K H p xs)(q:∀p,H p=none→Q (.ref p) (A5 H p (.lst (V9 xs lo hi)))):Br K (.ref p) lo hi H Q:= .inl ⟨p,xs,rfl,h,q⟩
theorem z8 {z:Str}{lo hi:Option Int}(hz:z.length≤sizeLine)(q:Q (.str (Txt.slice z lo hi)) H):Br K (.str z) lo hi H Q:= .inr (.inr ⟨z,rfl,hz,q⟩)
theorem ip {l b:Addr}{xs zs:List V}(h1:H l=some (.lst xs))(h2:H b=some (.lst zs))(hz:xs.length+zs.length≤sizeLine)(q:∀p,H p=none→Q (.ref p) (A5 H p (.lst (xs++zs)))):dF K (.ref l) (.ref b) H Q:= .inr (.inr (.inl ⟨l,b,xs,zs,rfl,rfl,h1,h2,hz,q⟩))
theorem BZ {neg:Bool}{x:V}(q:Q (.bl (if neg then !decide (x= .non) else decide (x= .non))) H):DA neg x .non H Q:=⟨.inl rfl,q⟩
theorem U1 {x:V}{t T:String}(ty:TyB K H x t)(hT:T="str"∨T="int"∨T="bool"∨T="list"∨T="tuple"∨T="dict")(q:Q (.bl (Y8 t T)) H):wN K [x,.ty T] H Q:=⟨x,T,t,rfl,ty,hT,q⟩
theorem cZ {p:Addr}{bs:List Bool}(h:SqL K H p (bs.map V.bl))(q:Q (.bl (bs.all id)) H):mz K [.ref p] H Q:=⟨p,bs,rfl,h,q⟩
theorem Bv {t:TA}(q:t σ H fun xs H1=>xs.length≤sizeLine∧∀p,H1 p=none→Q (.ref p) (A5 H1 p (.tup xs))):zi t σ H Q:=q
theorem Bs {t:TA}(q:t σ H fun xs H1=>xs.length≤sizeLine∧∀p,H1 p=none→Q (.ref p) (A5 H1 p (.lst xs))):uE t σ H Q:=q
theorem jf {t u:TS}(q:t ⟨u ⟨nx,rt,bk,ct⟩,rt,bk,ct⟩ σ H):uj t u ⟨nx,rt,bk,ct⟩ σ H:=q
theorem zM (q:nx σ H):sV ⟨nx,rt,bk,ct⟩ σ H:=q
theorem Am {te:TE}(q:te σ H rt):yT te ⟨nx,rt,bk,ct⟩ σ H:=q
theorem zz {te:TE}(q:te σ H fun _ H1=>nx σ H1):um te ⟨nx,rt,bk,ct⟩ σ H:=q
theorem BJ {c:TT}{t u:TS}(q:c σ H fun b H1=>if b=true then t ⟨nx,rt,bk,ct⟩ σ H1 else u ⟨nx,rt,bk,ct⟩ σ H1):zB c t u ⟨nx,rt,bk,ct⟩ σ H:=q
theorem Au {te:TE}{g:TG}(q:te σ H fun x H1=>g x σ H1 nx):iQ te g ⟨nx,rt,bk,ct⟩ σ H:=q
theorem yR {i:Nat}{v:V}{Qs:St→Hp→Prop}(q:Qs (σ.set i (some v)) H):Y9 i v σ H Qs:=q
end
end L2
set_option Elab.async false
set_option linter.all false
set_option maxRecDepth 100000
set_option maxHeartbeats 4000000
namespace L2
open PySem PySem.Spec PyProof.Rows
section
variable {X:Cx} {pins:List (Addr×Obj)} {σ:St} {H:Hp} {s:Shared} {d:Addr} {kvs:List (j6×V)} {o:Obj}
abbrev K1 (d:Addr)(o:Obj)(kvs:List (j6×V))(H:Hp):Hp:=A5 H d (.frz o (.dK kvs))
theorem Inv.freeze (I:Inv X pins σ H s)(h:H d=some (.dK kvs))(ho:s.heap.get? d=some o):Inv X pins σ (K1 d o kvs H) s:=by
 have nd:∀b u,H b=some u→u≠ .dK kvs→b≠d:=fun b u e n z=>by
  subst z;rw[h] at e;exact n (Option.some.inj e).symm
 have hok:HOk X.prog X.w (K1 d o kvs H) s.heap:=fun b u e=>by
  have st:∀{a:Addr} {u:HO},ObjOk X.prog X.w H s.heap a u→ObjOk X.prog X.w (K1 d o kvs H) s.heap a u:=fun{a u} x=>
   x.stay (fun c v _ q=>q) (fun c q=>by unfold K1;rw[d6 (nd c _ q (by intro z;cases z))];exact q) fun c xs q=>by unfold K1;rw[d6 (nd c _ q (by intro z;cases z))];exact q
  by_cases hb:b=d
  ·subst hb
   unfold K1 at e
   rw[g7] at e
   cases e
   exact⟨ho,st (I.hok _ _ h)⟩
  ·unfold K1 at e
   rw[d6 hb] at e
   exact st (I.hok b u e)
 have q:=I.un (H':=K1 d o kvs H) (h':=s.heap) (t':=s.toks) ⟨fun b o e n hb hx=>e,fun b o e n hb hx=>⟨o.slots,e⟩,fun b o e n hx=>by
  unfold K1;rw[d6 (fun z=>by subst z;rw[h] at n;cases n)];exact n,fun b o e _=>⟨o,e⟩,fun b xs e=>by unfold K1;rw[d6 (nd b _ e (by intro z;cases z))];exact e,
  fun b o u e=>by unfold K1;rw[d6 (nd b _ e (by intro z;cases z))];exact e,fun b ps e=>⟨#[],by unfold K1;rw[d6 (nd b _ e (by intro z;cases z))];simpa using e⟩⟩ hok
 exact q
def AS:Option HO→Option HO
 |some (.frz _ u)=>some u
 |o=>o
def thaw (d:Addr)(H:Hp):Hp:=fun b=>if b=d then AS (H d) else H b
theorem X4 {b:Addr}(h:b≠d):thaw d H b=H b:=by unfold thaw;rw[if_neg h]
theorem jB {u:HO}(h:H d=some (.frz o u)):thaw d H d=some u:=by unfold thaw;rw[if_pos rfl,h];rfl
theorem uM {u:HO}(h:H d=some (.frz o u)):thaw d H=A5 H d u:=by
 funext b
 by_cases hb:b=d
 ·subst hb;rw[jB h,g7]
 ·rw[X4 hb,d6 hb]
theorem oM (h:∀o u,H d≠some (.frz o u)):thaw d H=H:=by
 funext b
 by_cases hb:b=d
 ·subst hb
  unfold thaw
  rw[if_pos rfl]
  cases q:H b with
  |none=>rfl
  |some u=>cases u with
   |frz o u=>exact absurd q (h o u)
   |_=>rfl
 ·exact X4 hb
def wy (X:Cx)(th:Hp→Hp):Prop:=∀(pins:List (Addr×Obj)) (σ:St) (H:Hp) (s:Shared),Inv X pins σ H s→Inv X pins σ (th H) s
theorem gj:wy X id:=fun _ _ _ _ I=>I
theorem qI (hn:∀o u,X.H₀ d≠some (.frz o u)):wy X (thaw d):=fun pins σ H s I=>by
 by_cases hf:∃o u,H d=some (.frz o u)
 ·obtain⟨o,u,h⟩:=hf
  rw[uM h]
  have nd:∀b v,H b=some v→v≠ .frz o u→b≠d:=fun b v e n z=>by
   subst z;rw[h] at e;exact n (Option.some.inj e).symm
  have nn:∀b,H b=none→b≠d:=fun b e z=>by subst z;rw[h] at e;cases e
  have st:∀{a:Addr} {v:HO},ObjOk X.prog X.w H s.heap a v→ObjOk X.prog X.w (A5 H d u) s.heap a v:=fun{a v} x=>
   x.stay (fun c v _ q=>q) (fun c q=>by rw[d6 (nd c _ q (by intro z;cases z))];exact q) fun c xs q=>by rw[d6 (nd c _ q (by intro z;cases z))];exact q
  refine⟨I.ok,I.os,I.bare,⟨I.base.keep,I.base.slot,fun b ob e n hx=>?_,I.base.there,fun b xs e=>?_,fun b ob v e=>?_,fun b ps e=>?_⟩,I.loc,I.cell,?_,fun x c e=>?_,fun p hp=>?_,fun b v e=>?_,I.len⟩
  ·have q:=I.base.free b ob e n hx
   rw[d6 (nn b q)];exact q
  ·have q:=I.base.tups b xs e
   rw[d6 (nd b _ q (by intro z;cases z))];exact q
  ·have q:=I.base.frzs b ob v e
   rw[d6 (fun z=>by subst z;exact hn ob v e)];exact q
  ·obtain⟨m,q⟩:=I.base.tbls b ps e
   exact⟨m,by rw[d6 (nd b _ q (by intro z;cases z))];exact q⟩
  ·rw[d6 (nn _ I.free)];exact I.free
  ·have q:=I.freeC x c e
   rw[d6 (nn _ q)];exact q
  ·obtain⟨a1,a2,a3⟩:=I.pin p hp
   exact⟨a1,by rw[d6 (nn _ a2)];exact a2,a3⟩
  ·by_cases hb:b=d
   ·subst hb
    rw[g7] at e
    cases e
    exact st (I.hok _ _ h).2
   ·rw[d6 hb] at e
    exact st (I.hok b v e)
 ·rw[oM fun o u e=>hf ⟨o,u,e⟩];exact I
theorem Same.thaw {H H':Hp}(h:H d=some (.dK kvs))(e:Same (K1 d o kvs H) H'):Same H (thaw d H'):=fun b u q=>by
 by_cases hb:b=d
 ·subst hb
  rw[h] at q;cases q
  have z:=e b _ (show K1 b o kvs H b=some _ from g7)
  exact jB z
 ·rw[X4 hb]
  exact e b u (by unfold K1;rw[d6 hb];exact q)
end
abbrev jm:=St→Hp→(It→(Hp→Hp)→Hp→Prop)→Prop
def rN (X:Cx)(tg iter:Expr)(wi:jm):Prop:=
 ∀(pins:List (Addr×Obj)) (s:Shared) (σ:St) (H:Hp) (R:It→(Hp→Hp)→Hp→Prop),Inv X pins σ H s→wi σ H R→
  wpAny (model X.prog X.w) X.A (eval iter X.env) (fun v s1=>wpAny (model X.prog X.w) X.A (pyIter v) (Ci X pins σ tg fun J H'=>∃th,wy X th∧R J th H') X.xe s1) X.xe s
theorem PI.two {X:Cx}{tg iter:Expr}{wi:TI}(h:PI X tg iter wi):rN X tg iter (fun σ H R=>wi σ H fun J H'=>R J id H'):=by
 intro pins s σ H R I q
 refine K6 (h pins s σ H _ I q) fun v s1 h1=>K6 h1 fun itv s2 h2=>?_
 obtain⟨it,fp,tn,J,H',e,I',T,st,f,q⟩:=h2
 exact⟨it,fp,tn,J,H',e,I',T,st,f,id,gj,q⟩
def wC (J:It)(th:Hp→Hp)(g:TG)(tb:TS)(nx:St→Hp→Prop)(rt:VK)(σ:St)(H1:Hp):Prop:=∃W:Nat→Nat→St→Hp→Prop,(∃m,W 0 m σ H1)∧∀i m σ H,W i m σ H→
 (J.stop i H∧nx σ (th H))∨(J.go i H∧∃N:St→Hp→Prop,(∀σ' H',N σ' H'→∃m',m'<m∧W (i+1) m' σ' H')∧∀x H',J.yld i H x H'→g x σ H' fun σ2 H2=>tb ⟨N,fun v H=>rt v (th H),fun σ H=>nx σ (th H),N⟩ σ2 H2)
def vc (wi:jm)(g:TG)(tb:TS):TS:=fun D σ H=>wi σ H fun J th H1=>wC J th g tb D.nx D.rt σ H1
theorem wO {X:Cx}{tg iter:Expr}{body:List Stmt}{wi:jm}{g:TG}{tb:TS}{pos:Pos}(hp:PassesOwn (model X.prog X.w) X.A X.env X.xe)(hc:X.calm=true)(hi:rN X tg iter wi)(hg:PG X tg g)(hb:PSs X body tb)
  (hs:∀x,foldedSetIterable iter X.env x=pure x:=by intro _;rfl):PS X (.For tg iter body [] pos) (vc wi g tb):=by
 intro pins s σ H D I h
 refine wpAny_For (K6 (hi pins s σ H _ I h) fun v s1 h1=>K6 h1 fun itv s2 h2=>?_) hs
 obtain⟨it,fp,tn,J,H2,e,I2,T,st2,f2,th,hth,W,⟨m0,w0⟩,turn⟩:=h2
 subst e
 have stat:∀{H':Hp},(∀b∈fp,H' b=none)→∀b∈fp,bQ X pins H' b:=fun hn b hb=>⟨hn b hb,(f2 b hb).2⟩
 refine codeAny_forLoop_any (fun n s'=>∃i σ' H',Inv X pins σ' H' s'∧tn i s'.heap∧(∀b∈fp,H' b=none)∧W i n σ' H') ?_ m0 ⟨0,σ,H2,I2,st2,fun b hb=>(f2 b hb).1,w0⟩
 rintro n s3 ⟨i,σ3,H3,I3,st3,fr3,w3⟩
 rcases turn i n σ3 H3 w3 with⟨stop,qn⟩|⟨go,N,hN,step⟩
 ·refine wpAny_passesOwn hp (K6 (T.done X rfl rfl rfl hc i pins s3 σ3 H3 X.xe I3 (stat fr3) st3 stop) fun r s4 ⟨hr,I4⟩=>?_)
  subst hr
  exact wpAny_execs_nil ⟨σ3,th H3,hth _ _ _ _ I4,qn⟩
 ·refine wpAny_passesOwn hp (K6 (T.item X rfl rfl rfl hc i pins s3 σ3 H3 X.xe I3 (stat fr3) st3 go) fun r s4 ⟨u,hr,h4⟩=>?_)
  subst hr
  refine wpAny_passesOwn hp (K6 h4 fun _ s5 ⟨x,H5,I5,r5,y5,st5,fr5⟩=>?_)
  have I5':=I5.pinned (stat fr5) (T.obj _ _ st5)
  refine wpAny_passesOwn hp (K6 (hg _ s5 σ3 H5 x u _ I5' r5 (step x H5 y5)) fun _ s6 ⟨σ6,H6,I6,q6⟩=>?_)
  refine wpAny_passesOwn hp (K6 (hb _ s6 σ6 H6 _ I6 q6) fun f s7 q7=>?_)
  have again:∀{σ7:St} {H7:Hp},Inv X (pins++ff fp s5.heap) σ7 H7 s7→N σ7 H7→∃m,m<n∧∃i σ' H',Inv X pins σ' H' s7∧tn i s7.heap∧(∀b∈fp,H' b=none)∧W i m σ' H':=fun{σ7 H7} I7 n7=>by
   obtain⟨m',hm,w7⟩:=hN σ7 H7 n7
   refine⟨m',hm,i+1,σ7,H7,I7.unpinned,T.keep _ _ _ st5 fun b hb o e=>(I7.pin (b,o) (List.mem_append_right _ (List.mem_append_right _ (U9 hb e)))).1,fun b hb=>?_,w7⟩
   obtain⟨o,e,d⟩:=T.obj _ _ st5 b hb
   exact(I7.pin (b,o) (List.mem_append_right _ (List.mem_append_right _ (U9 hb e)))).2.1
  cases f with
  |next=>obtain⟨σ7,H7,I7,n7⟩:=q7;exact again I7 n7
  |cont=>obtain⟨σ7,H7,I7,n7⟩:=q7;exact again I7 n7
  |brk=>obtain⟨σ7,H7,I7,q7⟩:=q7;exact⟨σ7,th H7,hth _ _ _ _ I7.unpinned,q7⟩
  |ret v=>obtain⟨x7,σ7,H7,I7,r7,q7⟩:=q7;exact⟨x7,σ7,th H7,hth _ _ _ _ I7.unpinned,r7,q7⟩
def pv (own:List Str)(js:List Nat)(J:It)(th:Hp→Hp)(g:TG)(ti:TT)(te:TE)(Q:VK)(σ:St)(H1:Hp):Prop:=∃W:Nat→Nat→List V→Hp→Prop,(∃m,W 0 m [] H1)∧∀i m out H,W i m out H→
 (J.stop i H∧∀D,H D=none→out.length≤sizeLine∧Q (.ref D) (th (A5 H D (.lst out))))∨
 (J.go i H∧∀x H',J.yld i H x H'→g x (pX own js σ) H' fun σ2 H2=>σ2.drop own.length=js.map (fun j=>(σ[j]?).join)∧ti σ2 H2 fun b H3=>
  if b=true then te σ2 H3 fun v H4=>out.length≤sizeLine∧∃m',m'<m∧W (i+1) m' (out++[v]) H4 else ∃m',m'<m∧W (i+1) m' out H3)
def bj (own:List Str)(js:List Nat)(wi:jm)(g:TG)(ti:TT)(te:TE):TE:=fun σ H Q=>wi σ H fun J th H1=>pv own js J th g ti te Q σ H1
def xo:TT:=fun _ H Q=>Q true H
theorem Ar {X:Cx}:iE X [] xo:=Dc
theorem rf {X:Cx}{own:List Str}{js:List Nat}{scope:Scope}{tg iter elt:Expr}{ifs:List Expr}{pos:Pos}{g:TG}{ti:TT}{te:TE}{wi:jm}(S:vk X own js scope=true)(hc:X.calm=true)(hit:rN X tg iter wi)
  (hg:∀C s H fp,PG (R8 X own js scope C s H fp) tg g) (hi:∀C s H fp,iE (R8 X own js scope C s H fp) ifs ti) (he:∀C s H fp,PE (R8 X own js scope C s H fp) elt te)
  (hs:∀x,foldedSetIterable iter X.env x=pure x:=by intro _;rfl):
  PE X (.ListComp elt [⟨tg,iter,ifs,0⟩] scope pos) (bj own js wi g ti te):=by
 have SB:=kr S
 intro pins s σ H Q I h
 rw[eval_ListComp]
 refine wpAny_comprehension_free (use:=none) rfl hs (bL (SB.cells I)) SB.kind SB.names (K6 (hit pins s σ H _ I h) fun v s1 h1=>K6 h1 fun itv s2 h2=>?_)
 obtain⟨it,fp,tn,J,H2,e,I2,T,st2,f2,th,hth,W,⟨m0,w0⟩,turn⟩:=h2
 subst e
 refine wpAny_newObj_type (wpAny_newFunctionEnv SB.nocell (by intro y hy;simp at hy) (fun h₁ hns₁ hsb₁=>?_) SB.kind)
 dsimp only at hns₁ hsb₁⊢
 generalize hH2:s2.heap.push {cls:= .type "list",dict:=none,data:= .seq ([]:List Value).toArray}=G2 at hns₁ hsb₁⊢
 have hCs:G2.objs.size=s2.heap.objs.size+1:=by rw[←hH2,Heap.size_push]
 have hDC:s2.heap.objs.size≠G2.objs.size:=by rw[hCs];exact Nat.ne_of_lt (Nat.lt_succ_self _)
 have hC:s2.heap.objs.size≤G2.objs.size:=by rw[hCs];exact Nat.le_succ _
 have old:∀b o,s2.heap.get? b=some o→h₁.get? b=some o:=fun b o e=>
  hsb₁.extBut b o (Nat.ne_of_lt (Nat.lt_of_lt_of_le (Heap.lt_size e) hC)) (Heap.get?_push_of_some _ (hH2▸Heap.get?_push_of_some _ e))
 have hob:∀b∈fp,∃o,s2.heap.get? b=some o:=fun b hb=>let ⟨o,e,_⟩:=T.obj _ _ st2 b hb;⟨o,e⟩
 have hacc:h₁.get? s2.heap.objs.size=some {cls:= .type "list",data:= .seq ([]:List Value).toArray}:=
  hsb₁.extBut _ _ hDC (Heap.get?_push_of_some _ (hH2▸Heap.get?_push_size _ rfl))
 have loop:∀s3:Shared,s3={s2 with heap:=h₁,toks:=s2.toks+([]:List (Str×Value)).length}→
   codeAny (model X.prog X.w) X.A (.compLoop (.ListComp elt [⟨tg,iter,ifs,0⟩] scope pos) 0 (.ref it) (.ref s2.heap.objs.size) (compEnvC scope (aZ scope X.env) G2.objs.size X.env))
    (compPost (model X.prog X.w) X.A X.xe none (EP X pins σ Q) (.ref s2.heap.objs.size) G2.objs.size) s3:=by
  rintro s3 rfl
  refine jd (K:=fun out H'=>Q (.ref s2.heap.objs.size) (th (A5 H' s2.heap.objs.size (.lst out)))) SB hc T I2 f2 (Nat.le_refl _) hC hDC hob (hg _ _ _ _) (hi _ _ _ _) (he _ _ _ _) W (fun i m out H' w=>?_) (fun out H' s' B hl k=>?_) w0
   ⟨Inv.block SB I2 f2 hob hC hns₁ old,I2.hok.fresh (Nat.le_refl _),[],_,.nil,hacc⟩ (T.keep _ _ _ st2 fun b _ o e=>old b o e) (fun b hb=>(f2 b hb).1)
  ·rcases turn i m out H' w with⟨a,b⟩|c
   ·exact .inl ⟨a,fun n=>b _ n⟩
   ·exact .inr c
  ·obtain⟨mm,hn,_⟩:=B.inv.loc
   exact⟨mm,hn,fun h' sb=>⟨.ref s2.heap.objs.size,_,hth _ _ _ _ (B.out I2 f2 (Nat.le_refl _) hC hDC hl sb),rfl,k⟩⟩
 exact codeAny_compStart_list (loop _ rfl) (T.self _ 0 _ _ _ (T.keep _ _ _ st2 fun b _ o e=>old b o e) (loop _ rfl))
theorem B8 {α β : Type} {F : α → β → Prop} : ∀ {l₁ : List α} {l₂ : List β} {i : Nat} {a : α}, Paired F l₁ l₂ → l₁[i]? = some a → ∃ b, l₂[i]? = some b ∧ F a b
 := by
  intro l₁ l₂ i a hp e
  induction hp generalizing i with
  | nil => cases e
  | cons r _ ih => cases i with
    | zero => cases e; exact ⟨_, rfl, r⟩
    | succ i => exact ih e
section
variable {P:Program} {w:World}
theorem dC {k:j6}{v:Value}(h:(q8 P w).is k v=true):RelV (kV k) v:=by
 rcases C6 (show df k v=true from h) with⟨i,t,rfl,rfl⟩|⟨x,t,rfl,rfl⟩
 ·exact⟨t,rfl⟩
 ·exact⟨t,rfl⟩
theorem tH {k:j6}{v:Value}(h:(q8 P w).is k v=true):∀a,v≠ .ref a:=by
 rcases C6 (show df k v=true from h) with⟨i,t,rfl,rfl⟩|⟨x,t,rfl,rfl⟩<;>exact fun a z=>by cases z
structure tM (P:Program) (w:World) (d:Addr) (o:Obj) (kvs:List (j6×V)) (vs:List (j6×Value)) (ep:Nat):Prop where
 kv:KV kvs vs
 at_:∀h:Heap,h.get? d=some o→h.DictAt (q8 P w) d vs ep
 nd:(kvs.map (·.1)).Nodup
theorem dG {H:Hp}{h:Heap}{d:Addr}{kvs:List (j6×V)}(ok:HOk P w H h)(e:Rd H d (.dK kvs)):(d==sysModules)=false∧∃o vs ep,h.get? d=some o∧tM P w d o kvs vs ep:=by
 obtain⟨z,hd,vs,rel,o,es,ep,h1,r⟩:=R7 ok e
 refine⟨hd,o,vs,ep,h1,rel,fun h' e'=>⟨o,es,e',r⟩,?_⟩
 rw[KV.keys rel]
 exact r.2.2.2.2
def Dw (d:Addr)(o:Obj)(kvs:List (j6×V))(f:j6×V→V):It:=
 ⟨fun i H=>H d=some (.frz o (.dK kvs))∧i<kvs.length,fun i H x H'=>H'=H∧∃kv,kvs[i]?=some kv∧x=f kv,fun i H=>H d=some (.frz o (.dK kvs))∧kvs.length≤i⟩
def Bb (d:Addr)(o:Obj)(kvs:List (j6×V)):It:=
 ⟨fun i H=>H d=some (.frz o (.dK kvs))∧i<kvs.length,fun i H x H'=>∃t kv,kvs[i]?=some kv∧H t=none∧x= .ref t∧H'=A5 H t (.tup [kV kv.1,kv.2]),fun i H=>H d=some (.frz o (.dK kvs))∧kvs.length≤i⟩
theorem qU {K:PySem.W.Frag}{tg:Expr}{d:Addr}{o:Obj}{kvs:List (j6×V)}{vs:List (j6×Value)}{ep:Nat}(D:tM P w d o kvs vs ep)(it:Addr):
  fo P w K tg (Dw d o kvs fun kv=>kV kv.1) [it] it (fun i h=>h.IsKeyIter it d i vs.length ep) where
 mem:=by simp
 obj:=fun i h st b hb=>by
  have e:b=it:=by simpa using hb
  subst e
  obtain⟨o,e,c,dd⟩:=st
  exact⟨o,e,fun v z=>by rw[dd] at z;cases z⟩
 keep:=fun i h h' st k=>st.at fun o e=>k it (by simp) o e
 item:=by
  intro X hP hw hK hc i pins s σ H E I hf st hg
  subst hP hw hK
  obtain⟨hfz,hi⟩:=hg
  obtain⟨f0,f1,f2,f3,f4,f5⟩:=hf it (by simp)
  have dat:=D.at_ s.heap (I.hok d _ hfz).1
  have hl:=KV.length D.kv
  obtain⟨kv,hkv⟩:∃kv,kvs[i]?=some kv:=⟨kvs[i],by simp [hi]⟩
  obtain⟨⟨k,x⟩,hx⟩:∃p,vs[i]?=some p:=⟨vs[i]'(by lia),by simp [show i<vs.length by lia]⟩
  have hkk:kv.1=k:=by
   have e1:(kvs.map (·.1))[i]?=some kv.1:=by rw[List.getElem?_map,hkv];rfl
   rw[KV.keys D.kv,List.getElem?_map,hx] at e1
   exact(Option.some.inj e1).symm
  refine wpAny_pyNext_dict_item st dat hx fun key h' hkey hit' hs'=>?_
  have I1:Inv X pins σ H {s with heap:=h'}:=I.turned (t':=s.toks) (fun b o hb e=>hs'.extBut b o hb e) f0 f1 f3 f4 f5
  exact⟨key,rfl,oW (tH hkey) ⟨kV kv.1,H,I1,by rw[hkk];exact dC hkey,⟨rfl,kv,hkv,rfl⟩,hit',fun b hb=>(hf b hb).1⟩⟩
 done:=by
  intro X hP hw hK hc i pins s σ H E I hf st hg
  subst hP hw hK
  obtain⟨hfz,hi⟩:=hg
  obtain⟨f0,f1,f2,f3,f4,f5⟩:=hf it (by simp)
  have dat:=D.at_ s.heap (I.hok d _ hfz).1
  have hl:=KV.length D.kv
  exact wpAny_pyNext_dict_end (I.ok.hd hc) st dat (by simp;lia) fun h' eb=>⟨rfl,I.turned (t':=s.toks) (fun b o hb e=>eb b o hb e) f0 f1 f3 f4 f5⟩
 self:=fun _ _ _ _ _ st h=>wpAny_pyIter_keyiter st h
theorem nu {K:PySem.W.Frag}{elts:List Expr}{x1}{tpos:Pos}{d:Addr}{o:Obj}{kvs:List (j6×V)}{vs:List (j6×Value)}{ep:Nat}(D:tM P w d o kvs vs ep)(it:Addr):
  fo P w K (.Tuple elts x1 tpos) (Bb d o kvs) [it] it (fun i h=>∃ok ov,IsItemIter h it d i vs.length ep ok ov) where
 mem:=by simp
 obj:=fun i h st b hb=>by
  have e:b=it:=by simpa using hb
  subst e
  obtain⟨ok,ov,e⟩:=st
  exact⟨_,e,fun v z=>by
   have z':Data.fields _=Data.cell v:=z
   cases z'⟩
 keep:=fun i h h' st k=>let ⟨ok,ov,e⟩:=st;⟨ok,ov,k it (by simp) _ e⟩
 item:=by
  intro X hP hw hK hc i pins s σ H E I hf st hg
  subst hP hw hK
  obtain⟨hfz,hi⟩:=hg
  obtain⟨ok,ov,st⟩:=st
  obtain⟨f0,f1,f2,f3,f4,f5⟩:=hf it (by simp)
  have dat:=D.at_ s.heap (I.hok d _ hfz).1
  have hl:=KV.length D.kv
  obtain⟨kv,hkv⟩:∃kv,kvs[i]?=some kv:=⟨kvs[i],by simp [hi]⟩
  obtain⟨⟨k,x⟩,hx⟩:∃p,vs[i]?=some p:=⟨vs[i]'(by lia),by simp [show i<vs.length by lia]⟩
  obtain⟨hkk,rx⟩:kv.1=k∧RelV kv.2 x:=by
   have q:=B8 D.kv hkv
   obtain⟨p,hp,r⟩:=q
   rw[hx] at hp;cases hp
   exact r
  refine wpAny_pyNext_items_item st dat hx fun key h' hkey hout htup hsz hk=>?_
  have hitlt:it<s.heap.objs.size:=Heap.lt_size st
  refine⟨.ref s.heap.objs.size,rfl,wpAny_letOwnedTupleGo_items (s:={s with heap:=h'}) hout fun h'' hit'' hs''=>?_⟩
  have hs2:Heap.SameBut it h' h'':=hs''
  have kp:∀b o,b≠it→s.heap.get? b=some o→h''.get? b=some o:=fun b o hb e=>hs2.extBut b o hb (hk b o hb e)
  have tupAt:h''.get? s.heap.objs.size=some {cls:= .type "tuple",data:= .seq #[key,x]}:=hs2.extBut _ _ (Nat.ne_of_gt hitlt) htup
  have fresh:H s.heap.objs.size=none:=I.hok.fresh (Nat.le_refl _)
  have nsz:∀b o,s.heap.get? b=some o→b≠s.heap.objs.size:=fun b o e=>Nat.ne_of_lt (Heap.lt_size e)
  have hH:∀b u,H b=some u→b≠s.heap.objs.size∧b≠it:=fun b u e=>⟨i6 e fresh,i6 e f0⟩
  have hok:HOk X.prog X.w (A5 H s.heap.objs.size (.tup [kV kv.1,kv.2])) h'':=fun b u e=>by
   by_cases hb:b=s.heap.objs.size
   ·subst hb
    rw[g7] at e;cases e
    refine⟨by show 2≤sizeLine;decide,[key,x],.cons (by rw[hkk];exact dC hkey) (.cons rx .nil),⟨_,tupAt,rfl,_,rfl⟩⟩
   ·rw[d6 hb] at e
    refine(I.hok b u e).stay (fun c v hc q=>kp c v ?_ q) (fun c q=>by rw[d6 (hH c _ q).1];exact q) fun c xs q=>by rw[d6 (hH c _ q).1];exact q
    rcases hc with z|z
    ·rw[z];exact(hH b _ e).2
    ·exact(hH c _ z).2
  have I1:Inv X pins σ (A5 H s.heap.objs.size (.tup [kV kv.1,kv.2])) {s with heap:=h''}:=by
   refine I.call' (s':={s with heap:=h''}) (ch:=[it]) rfl ⟨fun b o e n hb hx=>kp b o (by simpa using hx) e,fun b o e n hb hx=>⟨o.slots,kp b o (by simpa using hx) e⟩,fun b o e n hx=>by rw[d6 (nsz b o e)];exact n,
    fun b o e hx=>⟨o,kp b o (by simpa using hx) e⟩,fun b xs e=>by rw[d6 (hH b _ e).1];exact e,fun b ob v e=>by rw[d6 (hH b _ e).1];exact e,fun b ps e=>⟨#[],by rw[d6 (hH b _ e).1];simpa using e⟩⟩ hok I.bare fun b hb=>?_
   have e:b=it:=by simpa using hb
   subst e
   exact⟨f3,f1,f4,f5⟩
  refine⟨.ref s.heap.objs.size,_,I1,rfl,⟨_,kv,hkv,fresh,rfl,rfl⟩,⟨_,_,hit''⟩,fun b hb=>?_⟩
  have e:b=it:=by simpa using hb
  subst e
  rw[d6 (Nat.ne_of_lt hitlt)];exact f0
 done:=by
  intro X hP hw hK hc i pins s σ H E I hf st hg
  subst hP hw hK
  obtain⟨hfz,hi⟩:=hg
  obtain⟨ok,ov,st⟩:=st
  obtain⟨f0,f1,f2,f3,f4,f5⟩:=hf it (by simp)
  have dat:=D.at_ s.heap (I.hok d _ hfz).1
  have hl:=KV.length D.kv
  exact wpAny_pyNext_items_end (I.ok.hd hc) st dat (by simp;lia) fun h' eb=>⟨rfl,I.turned (t':=s.toks) (fun b o hb e=>eb b o hb e) f0 f1 f3 f4 f5⟩
 self:=fun _ _ _ _ _ st h=>by
  obtain⟨ok,ov,st⟩:=st
  exact PySem.W.kcp_self st h
end
section
variable {X:Cx} {tg:Expr}
def rIterD (mk:Addr→Obj→List (j6×V)→It)(v:V)(H:Hp)(R:It→(Hp→Hp)→Hp→Prop):Prop:=
 ∃d kvs,v= .ref d∧((H d=some (.dK kvs)∧((kvs.map (·.1)).Nodup→∀o,R (mk d o kvs) (thaw d) (K1 d o kvs H)))∨(∃o,H d=some (.frz o (.dK kvs))∧((kvs.map (·.1)).Nodup→R (mk d o kvs) id H)))
theorem rIterD.go {mk:Addr→Obj→List (j6×V)→It}{x:V}{u:Value}{pins:List (Addr×Obj)}{σ:St}{H:Hp}{s:Shared}{R:It→(Hp→Hp)→Hp→Prop}(I:Inv X pins σ H s)(r:RelV x u)(h:rIterD mk x H R):
  ∃d kvs o vs ep th H',u= .ref d∧(d==sysModules)=false∧s.heap.get? d=some o∧tM X.prog X.w d o kvs vs ep∧Inv X pins σ H' s∧wy X th∧R (mk d o kvs) th H':=by
 obtain⟨d,kvs,e,h⟩:=h
 subst e
 cases r
 rcases h with⟨h,q⟩|⟨o,h,q⟩
 ·obtain⟨hd,o,vs,ep,ho,D⟩:=dG I.hok (.inl h)
  refine⟨d,kvs,o,vs,ep,thaw d,_,rfl,hd,ho,D,I.freeze h ho,qI fun ob v z=>?_,q D.nd o⟩
  have z':=I.base.frzs d ob v z
  rw[h] at z';cases z'
 ·obtain⟨hd,o',vs,ep,ho,D⟩:=dG I.hok (.inr ⟨o,h⟩)
  have e:=(I.hok d _ h).1
  rw[ho] at e;cases e
  exact⟨d,kvs,_,vs,ep,id,H,rfl,hd,ho,D,I,gj,q D.nd⟩
theorem rIter.mono {K:PySem.W.Frag}{v:V}{H:Hp}{R R':It→Hp→Prop}(h:rIter K v H R)(k:∀J H,R J H→R' J H):rIter K v H R':=by
 rcases h with⟨a,e,hq,q⟩|⟨a,e,hq,q⟩|⟨x,e,q⟩
 ·exact .inl ⟨a,e,hq,k _ _ q⟩
 ·exact .inr (.inl ⟨a,e,hq,k _ _ q⟩)
 ·exact .inr (.inr ⟨x,e,k _ _ q⟩)
abbrev Ds (d:Addr)(o:Obj)(kvs:List (j6×V)):It:=Dw d o kvs fun kv=>kV kv.1
def uQ (K:PySem.W.Frag)(v:V)(H:Hp)(R:It→(Hp→Hp)→Hp→Prop):Prop:=rIter K v H (fun J H'=>R J id H')∨rIterD Ds v H R
def Cf (K:PySem.W.Frag)(tl:TE):jm:=fun σ H R=>tl σ H fun v H1=>uQ K v H1 R
theorem AY {l:Expr}{tl:TE}(hl:PE X l tl):rN X tg l (Cf X.K tl):=by
 intro pins s σ H R I h
 refine K6 (hl pins s σ H _ I h) fun v s1 ⟨x,H1,I1,r1,q1⟩=>?_
 rcases q1 with q1|q1
 ·exact uy I1 r1 (q1.mono fun J H' q=>⟨id,gj,q⟩)
 ·obtain⟨d,kvs,o,vs,ep,th,H',rfl,hd,ho,D,I2,hth,q⟩:=rIterD.go I1 r1 q1
  refine wpAny_pyIter_dict hd (D.at_ _ ho) ?_
  refine⟨s1.heap.objs.size,[s1.heap.objs.size],_,_,H',rfl,I2.kept (t':=s1.toks) fun b o e=>Heap.get?_push_of_some _ e,qU D _,⟨_,Heap.get?_push_size _ rfl,rfl,rfl⟩,fun b hb=>?_,th,hth,q⟩
  have e:b=s1.heap.objs.size:=by simpa using hb
  subst e
  exact I2.fpOk (Nat.le_refl _) (I2.hok.fresh (Nat.le_refl _))
def nO (tl:TE):jm:=fun σ H R=>tl σ H fun v H1=>rIterD Bb v H1 R
theorem uD {elts:List Expr}{x1}{tpos:Pos}{o:Expr}{tl:TE}{apos cpos:Pos}(ho:PE X o tl)
  (hbase:attributeBase o "items" X.env (eval o X.env)=eval o X.env:=by rfl) (hline:(apos.endLine==cpos.line)=true:=by rfl):
  rN X (.Tuple elts x1 tpos) (.Call (.Attribute o "items" apos) [] [] cpos) (nO tl):=by
 intro pins s σ H R I h
 refine wpAny_Call_method0_late hbase hline (K6 (ho pins s σ H _ I h) fun v s1 ⟨x,H1,I1,r1,q1⟩=>?_)
 obtain⟨d,kvs,ob,vs,ep,th,H',rfl,hd,hob,D,I2,hth,q⟩:=rIterD.go I1 r1 q1
 have dof:=(D.at_ _ hob).dictOf
 refine⟨"dict","dict.items",F.plainAttrs_dict,F.slot_dict_items,F.type_dict_items,dof.typeIs,dof.mapOf.noDict,Calls.callWith_builtin rfl (PySem.evalArgs_none ?_)⟩
 refine call_meetsIn F.slot_dict_items dof.typeIs F.entry_dict_items (F.args_dict_items_1 _) (meets_dict_items (q8 X.prog X.w) d hd) ⟨⟨vs,dof⟩,?_⟩
 have I3:Inv X pins σ H' {s1 with heap:=s1.heap.push {cls:= .type "dict_items",data:= .fields #[.ref d]}}:=I2.kept (t':=s1.toks) fun b o e=>Heap.get?_push_of_some _ e
 refine wpAny_pyIter_items (s:={s1 with heap:=s1.heap.push {cls:= .type "dict_items",data:= .fields #[.ref d]}}) (knd:=q8 X.prog X.w) ⟨_,Heap.get?_push_size _ rfl,rfl,rfl⟩ (D.at_ _ (Heap.get?_push_of_some _ hob)) ?_
 generalize hG:s1.heap.push {cls:= .type "dict_items",data:= .fields #[.ref d]}=G at I3⊢
 refine⟨G.objs.size,[G.objs.size],_,_,H',rfl,I3.kept (t':=s1.toks) fun b o e=>Heap.get?_push_of_some _ e,nu D _,⟨.none,.none,Heap.get?_push_size _ rfl⟩,fun b hb=>?_,th,hth,q⟩
 have e:b=G.objs.size:=by simpa using hb
 subst e
 exact I3.fpOk (Nat.le_refl _) (I3.hok.fresh (Nat.le_refl _))
end
end L2
set_option Elab.async false
set_option linter.all false
set_option maxRecDepth 100000
set_option maxHeartbeats 4000000
namespace L2
open PySem PySem.Spec PyProof.Rows
section
variable {J:It} {th:Hp→Hp} {n:Nat} {g:TG} {tb:TS} {nx bk ct:St→Hp→Prop} {rt:VK} {σ:St} {H:Hp} {own:List Str} {js:List Nat} {ti:TT} {te:TE} {Q:VK} {K:PySem.W.Frag}
theorem yA (Pv:Nat→St→Hp→Prop)(h0:Pv 0 σ H)(hgo:∀i σ H,i<n→Pv i σ H→J.go i H)
  (hs:∀i x σ H H',i<n→Pv i σ H→J.yld i H x H'→g x σ H' fun σ2 H2=>tb ⟨Pv (i+1),fun v H=>rt v (th H),fun σ H=>nx σ (th H),Pv (i+1)⟩ σ2 H2)
  (hd:∀σ H,Pv n σ H→J.stop n H∧nx σ (th H)):
  wC J th g tb nx rt σ H:=by
 refine⟨fun i m σ H=>m=n -i∧i≤n∧Pv i σ H,⟨n,by simp,Nat.zero_le _,h0⟩,?_⟩
 rintro i m σ H ⟨rfl,hi,p⟩
 by_cases hlt:i<n
 ·exact .inr ⟨hgo i σ H hlt p,Pv (i+1),fun σ' H' p'=>⟨n -(i+1),by lia,rfl,hlt,p'⟩,fun x H' y=>hs i x σ H H' hlt p y⟩
 ·have e:i=n:=by lia
  subst e
  exact .inl (hd σ H p)
theorem B7 (Pv:Nat→List V→Hp→Prop)(h0:Pv 0 [] H)(hgo:∀i out H,i<n→Pv i out H→J.go i H)
  (hs:∀(N:List V→Hp→Prop) i x out H H',i<n→Pv i out H→J.yld i H x H'→(∀out' H',Pv (i+1) out' H'→N out' H')→g x (pX own js σ) H' fun σ2 H2=>σ2.drop own.length=js.map (fun j=>(σ[j]?).join)∧ti σ2 H2 fun b H3=>
   if b=true then te σ2 H3 fun v H4=>out.length≤sizeLine∧N (out++[v]) H4 else N out H3)
  (hd:∀out H,Pv n out H→J.stop n H∧∀D,H D=none→out.length≤sizeLine∧Q (.ref D) (th (A5 H D (.lst out)))):
  pv own js J th g ti te Q σ H:=by
 refine⟨fun i m out H=>m=n -i∧i≤n∧Pv i out H,⟨n,by simp,Nat.zero_le _,h0⟩,?_⟩
 rintro i m out H ⟨rfl,hi,p⟩
 by_cases hlt:i<n
 ·exact .inr ⟨hgo i out H hlt p,fun x H' y=>hs (fun out' H'=>∃m',m'<n -i∧m'=n -(i+1)∧i+1≤n∧Pv (i+1) out' H') i x out H H' hlt p y fun out' H' q=>⟨n -(i+1),by lia,rfl,hlt,q⟩⟩
 ·have e:i=n:=by lia
  subst e
  exact .inl (hd out H p)
theorem AF {wi:jm}(q:wi σ H fun J th H1=>wC J th g tb nx rt σ H1):vc wi g tb ⟨nx,rt,bk,ct⟩ σ H:=q
theorem zP {wi:jm}(q:wi σ H fun J th H1=>pv own js J th g ti te Q σ H1):bj own js wi g ti te σ H Q:=q
theorem BR {Qb:Bool→Hp→Prop}(q:Qb true H):xo σ H Qb:=q
theorem CB {tl:TE}{R:It→(Hp→Hp)→Hp→Prop}(q:tl σ H fun v H1=>uQ K v H1 R):Cf K tl σ H R:=q
theorem uJ {x:Str}{R:It→(Hp→Hp)→Hp→Prop}(q:R (Its x) id H):uQ K (.str x) H R:= .inl (.inr (.inr ⟨x,rfl,q⟩))
theorem C7 {a:Addr}{xs:List V}{R:It→(Hp→Hp)→Hp→Prop}(h:SqL K H a xs)(q:R (Itl K a) id H):uQ K (.ref a) H R:= .inl (.inl ⟨a,rfl,⟨xs,h⟩,q⟩)
theorem cx {d:Addr}{kvs:List (j6×V)}{R:It→(Hp→Hp)→Hp→Prop}(h:H d=some (.dK kvs))(q:(kvs.map (·.1)).Nodup→∀o,R (Ds d o kvs) (thaw d) (K1 d o kvs H)):uQ K (.ref d) H R:=
 .inr ⟨d,kvs,rfl,.inl ⟨h,q⟩⟩
theorem vO {tl:TE}{R:It→(Hp→Hp)→Hp→Prop}(q:tl σ H fun v H1=>rIterD Bb v H1 R):nO tl σ H R:=q
theorem Z9 {d:Addr}{kvs:List (j6×V)}{R:It→(Hp→Hp)→Hp→Prop}(h:H d=some (.dK kvs))(q:(kvs.map (·.1)).Nodup→∀o,R (Bb d o kvs) (thaw d) (K1 d o kvs H)):rIterD Bb (.ref d) H R:=⟨d,kvs,rfl,.inl ⟨h,q⟩⟩
theorem yX {ta:TA}{R:It→Hp→Prop}(q:ta σ H fun vs H1=>∃j:Int,vs=[.int j]∧-(2 ^ 62)≤j∧j<2 ^ 62∧R (Cm 0 j.toNat) H1):uW ta σ H R:=q
theorem P8 {i:Int}{R:Int→Prop}(h0:0≤i)(h1:i<1000000)(q:R i):∃j:Int,[V.int i]=[.int j]∧-(2 ^ 62)≤j∧j<2 ^ 62∧R j:=⟨i,rfl,by lia,by lia,q⟩
theorem P5 {p:Prop}[Decidable p]{A B:Prop}(h1:p→A)(h2:¬p→B):if decide p=true then A else B:=by
 by_cases h:p
 ·rw[if_pos (decide_eq_true h)];exact h1 h
 ·rw[if_neg (by simp [h])];exact h2 h
theorem zc {p:Prop}[Decidable p]{A B:Prop}(h1:¬p→A)(h2:p→B):if(!decide p)=true then A else B:=by
 by_cases h:p
 ·rw[if_neg (by simp [h])];exact h2 h
 ·rw[if_pos (by simp [h])];exact h1 h
theorem jW {b:Bool}{A B:Prop}(h1:b=true→A)(h2:b=false→B):if b=true then A else B:=by
 cases b with
 |true=>rw[if_pos rfl];exact h1 rfl
 |false=>rw[if_neg Bool.false_ne_true];exact h2 rfl
theorem BI {A B:Prop}(h:A):if(!false)=true then A else B:=by rw[if_pos (by rfl)];exact h
theorem BM {A B:Prop}(h:B):if(!true)=true then A else B:=by rw[if_neg (by decide)];exact h
theorem Ao {t u:TS}(P:St→Hp→Prop)(h1:∀σ H,P σ H→u ⟨nx,rt,bk,ct⟩ σ H)(h2:∀nx':St→Hp→Prop,(∀σ H,P σ H→nx' σ H)→t ⟨nx',rt,bk,ct⟩ σ H):uj t u ⟨nx,rt,bk,ct⟩ σ H:=h2 _ h1
theorem b6 {o:HO}{p:Addr}(hp:H p=none):∃H',A5 H p o=H'∧H' p=some o∧Same H H'∧∀b,b≠p→H' b=H b:=⟨_,rfl,g7,fun b u e=>by rw[d6 (i6 e hp)];exact e,fun b hb=>d6 hb⟩
theorem kx {α:Type}{xs:List α}{i:Int}(h0:0≤i)(h1:i<xs.length):∃v,mx xs i=some v∧xs[i.toNat]?=some v:=by
 obtain⟨j,rfl⟩:=Int.eq_ofNat_of_zero_le h0
 have hj:j<xs.length:=by lia
 exact⟨xs[j],b9 (by simp [hj]),by simp [hj]⟩
theorem i7 (x y:Str):(x++y).length=x.length+y.length:=by
 show(x.cps++y.cps).size=_
 simp [Str.length]
theorem o9 (c:Nat):(⟨#[c]⟩:Str).length=1:=rfl
theorem jL (x:Str):x.length=x.cps.toList.length:=by simp [Str.length]
theorem d7 {n:Nat}(h:n≤1000):n≤sizeLine:=Nat.le_trans h (by decide)
theorem Same.rd {H H':Hp}{a:Addr}{u:HO}(s:Same H H')(h:Rd H a u):Rd H' a u:=by
 rcases h with h|⟨o,h⟩
 ·exact .inl (s _ _ h)
 ·exact .inr ⟨o,s _ _ h⟩
theorem Same.tup {H H':Hp}{a:Addr}{xs:List V}(s:Same H H')(h:SqT K H a xs):SqT K H' a xs:=by
 rcases h with h|h
 ·exact .inl (s.rd h)
 ·exact .inr h
theorem TyB.mono {H H':Hp}{v:V}{t:String}(h:TyB K H v t)(s:Same H H'):TyB K H' v t:=by
 cases v with
 |ref a=>
  rcases h with⟨e,xs,h⟩|⟨e,xs,h⟩|⟨e,kvs,h⟩
  ·exact .inl ⟨e,xs,s.seq h⟩
  ·exact .inr (.inl ⟨e,xs,s.tup h⟩)
  ·exact .inr (.inr ⟨e,kvs,s.rd h⟩)
 |_=>exact h
theorem Its.lt {x:Str}{i:Nat}{H H':Hp}{v:V}(h:(Its x).yld i H v H'):H'=H∧∃c,x.cps.toList[i]?=some c∧v=vq c:=by
 obtain⟨e,c,hc,hv⟩:=h
 exact⟨e,c,by simpa using hc,hv⟩
theorem Itl.get {a:Addr}{xs:List V}{i:Nat}{H H':Hp}{v:V}(h:(Itl K a).yld i H v H')(hx:SqL K H a xs):H'=H∧xs[i]?=some v:=⟨h.1,h.2 xs hx⟩
theorem cY {α β:Type}{l:List α}{i:Nat}{a:α}(f:α→β)(h:l[i]?=some a):(l.take i).map f++[f a]=(l.take (i+1)).map f:=by
 rw[List.take_succ,h];simp
end
end L2
set_option Elab.async false
set_option linter.all false
set_option maxRecDepth 100000
set_option maxHeartbeats 4000000
namespace L2
open PySem PySem.Spec PyProof.Rows
section
variable {X:Cx} (K:PySem.W.Frag) {a e:Expr} {ta te:TE} {tg:Expr} {pos:Pos}
theorem t7 (h:X.K=K:=by rfl):OpR X (binaryOp .Add) (dF K):=h▸vz
theorem kIn (hu:X.A.units+1<cLine)(h:X.K=K:=by rfl):OpR X (compareOp .In) (vK K):=h▸yE hu
theorem iw (hu:X.A.units+1<cLine)(h:X.K=K:=by rfl):OpR X (compareOp .NotIn) (gk K):=h▸qu hu
theorem C8 (hu:X.A.units+1<cLine)(h:X.K=K:=by rfl):IxR X (gB K):=h▸yF hu
theorem bU (h:X.K=K:=by rfl):SlR X (Br K):=h▸zd
theorem iG (hc:X.calm=true)(h:X.K=K:=by rfl):CallR X (.builtin "all") (mz K):=h▸qS hc
def yU (ta:TE):TT:=fun σ H Q=>ta σ H fun x H'=>∃k,rS K x H' k∧Q k H'
theorem CJ (ha:PE X a ta)(h:X.K=K:=by rfl)(he:∀whole,isTrue a X.env whole=(do let v←whole;standAt a.pos;holding [v] (truthy v)):=by intro _;rfl):PT X a (yU K ta):=h▸tO ha he
theorem yw {σ:St}{H:Hp}{Qb:Bool→Hp→Prop}(q:ta σ H fun x H'=>∃k,rS K x H' k∧Qb k H'):yU K ta σ H Qb:=q
theorem DN (hl:PE X a ta)(h:X.K=K:=by rfl):rN X tg a (Cf K ta):=h▸AY hl
theorem De {es:List Expr}{k:Nat}{t:nV}{n:Nat}(hc:X.calm=true)(hg:xr X es t)(h:X.K=K:=by rfl)
  (hn:(assignEach es X.env).length=n:=by rfl) (hst:(assignEach es X.env).findIdx? (·.1)=none:=by rfl):PG X (.Tuple es k pos) (sy K n t):=h▸yo hc hg hn hst
end
end L2
set_option Elab.async false
set_option linter.all false
set_option maxRecDepth 100000
set_option maxHeartbeats 4000000
namespace L2
open PySem PySem.Spec PyProof.Rows
def A9:Expr→Bool
 | .Starred _ _=>false
 |_=>true
def A7 (es:List Expr):Bool:=es.all A9
theorem Z1 {e:Expr}{es:List Expr}{env:Env}(h:A9 e=true):starEach (e::es) env=(false,eval e env)::starEach es env:=by
 cases e<;>first|rfl|cases h
theorem av {env:Env}{pos:Pos}:∀{es:List Expr},A7 es=true→(backTo pos (starEach es env)).any (·.1)=false
 |[],_=>rfl
 |e::es,h=>by
  have h':(A9 e&&A7 es)=true:=h
  rw[Bool.and_eq_true] at h'
  rw[Z1 h'.1]
  show(false||(backTo pos (starEach es env)).any (·.1))=false
  rw[av h'.2];rfl
theorem oR {e:Expr}{es:List Expr}{env:Env}(h:A9 e=true):assignEach (e::es) env=(false,assign e env)::assignEach es env:=by
 cases e<;>first|rfl|cases h
theorem tR {env:Env}:∀{es:List Expr},A7 es=true→(assignEach es env).length=es.length
 |[],_=>rfl
 |e::es,h=>by
  have h':(A9 e&&A7 es)=true:=h
  rw[Bool.and_eq_true] at h'
  rw[oR h'.1,List.length_cons,tR h'.2,List.length_cons]
theorem ui {env:Env}:∀{es:List Expr},A7 es=true→(assignEach es env).findIdx? (·.1)=none
 |[],_=>rfl
 |e::es,h=>by
  have h':(A9 e&&A7 es)=true:=h
  rw[Bool.and_eq_true] at h'
  rw[oR h'.1,List.findIdx?_cons]
  simp [ui h'.2]
section
variable {X:Cx} {K:PySem.W.Frag} {e:Expr} {es:List Expr} {te:TE} {t:TA} {x:Str} {p pos:Pos} {id T:String} {r:List V→Hp→VK→Prop}
theorem DL (ha:PE X e te)(hr:PA X es t)(h:A9 e=true:=by rfl):PA X (e::es) (de te t):=vw ha hr (Z1 h)
theorem cB (hc:CallR X (.builtin id) r)(hm:X.mg x=none)(hv:bootBuiltins x=some (.builtin id))(ha:PA X (e::es) t)(hg:Gl X x:=by rfl)(hn:x≠"__name__":=by decide)(hdb:(x==("__debug__":Str))=false:=by decide)
  (h:A7 (e::es)=true:=by rfl):PE X (.Call (.Name x p) (e::es) [] pos) (yH r t):=by
 have h':(A9 e&&A7 es)=true:=h
 rw[Bool.and_eq_true] at h'
 exact rH hc hg hm hv ha hn hdb (Z1 h'.1) (av h'.2)
theorem DF (hc:CallR X (.type T) r)(hm:X.mg x=none)(hv:bootBuiltins x=some (.type T))(ha:PA X (e::es) t)(hg:Gl X x:=by rfl)(hn:x≠"__name__":=by decide)(hdb:(x==("__debug__":Str))=false:=by decide)
  (h:A7 (e::es)=true:=by rfl):PE X (.Call (.Name x p) (e::es) [] pos) (yH r t):=by
 have h':(A9 e&&A7 es)=true:=h
 rw[Bool.and_eq_true] at h'
 exact qY hc hg hm hv ha hn hdb (Z1 h'.1) (av h'.2)
theorem cC {CX:kG}{k:Nat}{ps:List Str}{dvs:List V}{sp:Sp}{E:XK}(C:E2 X.prog X.w X.K X.mg X.base CX k x ps dvs sp)(hr:Room k X.A)(hx:bt CX X E)(ha:PA X (e::es) t)(hg:Gl X x:=by rfl)
  (hdb:(x==("__debug__":Str))=false:=by decide) (h:A7 (e::es)=true:=by rfl):PE X (.Call (.Name x p) (e::es) [] pos) (kZ sp dvs E t):=by
 have h':(A9 e&&A7 es)=true:=h
 rw[Bool.and_eq_true] at h'
 exact sS C hr hx ha hg hdb (Z1 h'.1) (av h'.2)
theorem gT {tg:Expr}{k:Nat}{u:nV}(hc:X.calm=true)(hg:xr X es u)(hK:X.K=K:=by rfl)(h:A7 es=true:=by rfl):PG X (.Tuple es k pos) (sy K es.length u):=De K hc hg hK (tR h) (ui h)
theorem gC {g:TG}{u:nV}(h1:PG X e g)(h2:xr X es u)(h:A9 e=true:=by rfl):xr X (e::es) (pe g u):=uI h1 h2 (by rw[oR h];rfl)
end
end L2
set_option Elab.async false
set_option linter.all false
set_option maxRecDepth 100000
set_option maxHeartbeats 4000000
namespace L2
open PySem PySem.Spec PyProof.Rows
structure QE (X:Cx) (e:Expr) (t:TE):Prop where
 r:PE X e t
structure QT (X:Cx) (e:Expr) (t:TT):Prop where
 r:PT X e t
structure QW (X:Cx) (e:Expr) (t:TT):Prop where
 r:PW X e t
structure QA (X:Cx) (es:List Expr) (t:TA):Prop where
 r:PA X es t
structure QS (X:Cx) (st:Stmt) (t:TS):Prop where
 r:PS X st t
structure QSs (X:Cx) (st:List Stmt) (t:TS):Prop where
 r:PSs X st t
structure QG (X:Cx) (tg:Expr) (t:TG):Prop where
 r:PG X tg t
structure Cp (X:Cx) (tg:List Expr) (t:nV):Prop where
 r:xr X tg t
structure QI (X:Cx) (tg iter:Expr) (t:jm):Prop where
 r:rN X tg iter t
structure Ah (X:Cx) (ifs:List Expr) (t:TT):Prop where
 r:iE X ifs t
structure QO (X:Cx) (e:Option Expr) (t:TO):Prop where
 r:PO X e t
structure QP (X:Cx) (pos:Pos) (keys:List (Option Expr)) (values:List Expr) (trs:List (TE×TE)):Prop where
 r:DP X pos keys values trs
section
variable {X:Cx} {a b c e o:Expr} {es:List Expr} {ta tb tc te to:TE} {tA tB':TT} {t:TA} {bS:List Expr} {pos apos cpos p2:Pos} {x:Str} {p:Pos} {bid T:String}
theorem fj {j}:QE X (.Constant .none j pos) (tC .non):=⟨yG⟩
theorem eG {b:Bool}{j}:QE X (.Constant (.bool b) j pos) (tC (.bl b)):=⟨Bg⟩
theorem b5 {i:Int}{j}:QE X (.Constant (.int i) j pos) (tC (.int i)):=⟨zo⟩
theorem z9 {x:Str}{j}:QE X (.Constant (.str x) j pos) (tC (.str x)):=⟨zV⟩
theorem qV (i:Nat)(hN:X.N[i]?=some x:=by rfl)(hv:CI X.env.scope x:=by first|exact Or.inl rfl|exact Or.inr (Or.inl rfl)|exact Or.inr (Or.inr rfl))(hd:(x==("__debug__":Str))=false:=by decide)
  (hcd:(x==("__classdict__":Str))=false:=by decide):QE X (.Name x pos) (lU i):=⟨zh hN hv hd hcd⟩
theorem qg {v:V}(h:rj X.mg x v)(hg:Gl X x:=by rfl)(hd:(x==("__debug__":Str))=false:=by decide):QE X (.Name x pos) (tC v):=⟨zX h hg hd⟩
theorem qr (n:String)(hm:X.mg x=none)(hv:bootBuiltins x=some (.type n))(hg:Gl X x:=by rfl)(hn:x≠"__name__":=by decide)(hd:(x==("__debug__":Str))=false:=by decide):QE X (.Name x pos) (tC (.ty n)):=⟨vv hg hm hv rfl hn hd⟩
theorem p0 {op:Operator}{r:R2}(ho:OpR X (binaryOp op) r)(ha:QE X a ta)(hb:QE X b tb):QE X (.BinOp a op b pos) (rG r ta tb):=⟨Az ho ha.r hb.r⟩
theorem Cu {op:UnaryOp}{r:V→Hp→VK→Prop}(ho:Cq X (unaryOp op) r)(ha:QE X a ta):QE X (.UnaryOp op a pos) (Di r ta):=⟨AU ho ha.r⟩
theorem qz {op}(h:QE X a ta):QE X (.BoolOp op [a] pos) ta:=⟨zU h.r⟩
theorem mY (ha:QE X a ta)(hb:QE X (.BoolOp .And (b::bS) pos) tb):QE X (.BoolOp .And (a::b::bS) pos) (tW ta tb):=⟨zN ha.r hb.r⟩
theorem ke {op:CmpOp}{r:R2}(ho:OpR X (compareOp op) r)(ha:QE X a ta)(hb:QE X b tb)(hm:behindInMarks op b=false):QE X (.Compare a [op] [b] pos) (rG r ta tb):=⟨vA ho ha.r hb.r hm⟩
theorem r6 {op:CmpOp}{r:R2}(ho:OpR X (compareOp op) r)(ha:QE X a ta)(hb:QE X b tb)(hm:behindInMarks op b=false):QT X (.Compare a [op] [b] pos) (lT (rG r ta tb)):=⟨xj ho ha.r hb.r hm⟩
theorem xc {op op':CmpOp}{r r':R2}(ho:OpR X (compareOp op) r)(ho':OpR X (compareOp op') r')(ha:QE X a ta)(hb:QE X b tb)(hc:QE X c tc)(hm:lastMarks [op,op'] [b,c]=false:=by with_unfolding_all rfl):QT X (.Compare a [op,op'] [b,c] pos) (lT (nW r r' ta tb tc)):=⟨sh ho ho' ha.r hb.r hc.r hm⟩
theorem dA:QO X none jC:=⟨vT⟩
theorem aM (h:QE X e te):QO X (some e) (uB te):=⟨wK h.r⟩
theorem bT {lo hi:Option Expr}{tl th:TO}{r:V→Option Int→Option Int→Hp→VK→Prop}(hr:SlR X r)(he:QE X e te)(hl:QO X lo tl)(hu:QO X hi th):QE X (.Subscript e (.Slice lo hi none p2) pos) (CW r te tl th):=⟨tI hr he.r hl.r hu.r⟩
theorem C9 {r:R2}(hr:IxR X r)(ha:QE X a ta)(hb:QE X b tb)(hs:pZ b):QE X (.Subscript a b pos) (rG r ta tb):=⟨Bi hr ha.r hb.r hs⟩
theorem aI (h:QA X es t):QE X (.List es pos) (uE t):=⟨zp h.r⟩
theorem bR {x1}(h:QA X es t):QE X (.Tuple es x1 pos) (zi t):=⟨yi h.r⟩
theorem xu:QE X (.Dict [] [] pos) tE:=⟨uH⟩
theorem i8:QA X [] fS:=⟨zT⟩
theorem d9 (ha:QE X e te)(hr:QA X es t)(h:A9 e=true:=by rfl):QA X (e::es) (de te t):=⟨DL ha.r hr.r h⟩
theorem qB {r:List V→Hp→VK→Prop}(hc:CallR X (.builtin bid) r)(hm:X.mg x=none)(hv:bootBuiltins x=some (.builtin bid))(ha:QA X (e::es) t)(hg:Gl X x:=by rfl)(hn:x≠"__name__":=by decide)(hdb:(x==("__debug__":Str))=false:=by decide)
  (h:A7 (e::es)=true:=by rfl):QE X (.Call (.Name x p) (e::es) [] pos) (yH r t):=⟨cB hc hm hv ha.r hg hn hdb h⟩
theorem qj {r:List V→Hp→VK→Prop}(hc:CallR X (.type T) r)(hm:X.mg x=none)(hv:bootBuiltins x=some (.type T))(ha:QA X (e::es) t)(hg:Gl X x:=by rfl)(hn:x≠"__name__":=by decide)(hdb:(x==("__debug__":Str))=false:=by decide)
  (h:A7 (e::es)=true:=by rfl):QE X (.Call (.Name x p) (e::es) [] pos) (yH r t):=⟨DF hc hm hv ha.r hg hn hdb h⟩
theorem qC {CX:kG}{k:Nat}{ps:List Str}{dvs:List V}{sp:Sp}{E:XK}(C:E2 X.prog X.w X.K X.mg X.base CX k x ps dvs sp)(hr:Room k X.A)(hx:bt CX X E)(ha:QA X (e::es) t)(hg:Gl X x:=by rfl)
  (hdb:(x==("__debug__":Str))=false:=by decide) (h:A7 (e::es)=true:=by rfl):QE X (.Call (.Name x p) (e::es) [] pos) (kZ sp dvs E t):=⟨cC C hr hx ha.r hg hdb h⟩
theorem qM {name:Str}{r:V→List V→Hp→VK→Prop}(pa:PlainAttrs T)(slot:Slot T name bid)(hty:typeOf (.builtin bid)=pure (.type "method_descriptor"))(hm:vo X bid r)(K:PySem.W.Frag)(ho:QE X o to)(ha:QA X (e::es) t)(hK:X.K=K:=by rfl)
  (hbase:attributeBase o name X.env (eval o X.env)=eval o X.env:=by rfl)
  (h:A7 (e::es)=true:=by rfl) (h2:decide ((e::es).length<30)=true:=by rfl) (hline:(apos.endLine==cpos.line)=true:=by rfl):QE X (.Call (.Attribute o name apos) (e::es) [] cpos) (Dl K T r to t):=by
 have h':(A9 e&&A7 es)=true:=h
 rw[Bool.and_eq_true] at h'
 have hall:∀{l:List Expr},A7 l=true→(backTo cpos (starEach l X.env)).all (fun x=>!x.1)=true:=fun{l} hl=>by
  have q:=av (env:=X.env) (pos:=cpos) hl
  rw[List.all_eq_true]
  intro y hy
  rw[List.any_eq_false] at q
  simpa using q y hy
 subst hK
 refine⟨BG pa slot hty hm ho.r ha.r hbase ?_ hline (Z1 h'.1) (av h'.2)⟩
 rw[hall h]
 show(true&&true&&decide ((e::es).length+0+0<30))=true
 simpa using h2
theorem O7 {own:List Str}{js:List Nat}{scope:Scope}{tg iter elt:Expr}{ifs:List Expr}{g:TG}{ti:TT}{wi:jm}(S:vk X own js scope=true)(hc:X.calm=true)(hit:QI X tg iter wi)
  (hg:∀C s H fp,QG (R8 X own js scope C s H fp) tg g) (hi:∀C s H fp,Ah (R8 X own js scope C s H fp) ifs ti) (he:∀C s H fp,QE (R8 X own js scope C s H fp) elt te)
  (hs:∀x,foldedSetIterable iter X.env x=pure x:=by intro _;rfl):QE X (.ListComp elt [⟨tg,iter,ifs,0⟩] scope pos) (bj own js wi g ti te):=
 ⟨rf S hc hit.r (fun C s H fp=>(hg C s H fp).r) (fun C s H fp=>(hi C s H fp).r) (fun C s H fp=>(he C s H fp).r) hs⟩
theorem X3:Ah X [] xo:=⟨Ar⟩
theorem yg (h:QT X c tA):Ah X [c] tA:=⟨CQ h.r⟩
theorem E6 (ha:QT X a tA):QT X (.UnaryOp .Not a pos) (zC tA):=⟨yv ha.r⟩
theorem D2 (K:PySem.W.Frag)(ha:QE X a ta)(h:X.K=K:=by rfl)(he:∀whole,isTrue a X.env whole=(do let v←whole;standAt a.pos;holding [v] (truthy v)):=by intro _;rfl):QT X a (yU K ta):=⟨CJ K ha.r h he⟩
theorem fV (h:QW X a tA):QT X a tA:=⟨h.r.pt⟩
theorem tK (ha:QT X a tA):QW X (.BoolOp .And [a] pos) tA:=⟨vP ha.r⟩
theorem M5 (ha:QT X a tA):QW X (.BoolOp .Or [a] pos) tA:=⟨zm ha.r⟩
theorem sO (ha:QT X a tA)(hb:QW X (.BoolOp .And (b::bS) pos) tB'):QW X (.BoolOp .And (a::b::bS) pos) (zD tA tB'):=⟨Ae ha.r hb.r⟩
theorem Q0 (ha:QT X a tA)(hb:QW X (.BoolOp .Or (b::bS) pos) tB'):QW X (.BoolOp .Or (a::b::bS) pos) (CP tA tB'):=⟨Bx ha.r hb.r⟩
theorem T6 {i:Nat}(hN:X.N.Nodup)(hi:X.N[i]?=some x)(hx:vp X.env.scope x)(hf:X.fn x=true∨X.env.scope.names.lookup x=some .local:=by first|exact .inl rfl|exact .inr rfl|assumption):QG X (.Name x pos) (Y9 i):=⟨xl hN hi hx hf⟩
theorem wV:Cp X [] zO:=⟨wo⟩
theorem jV {g:TG}{u:nV}(h1:QG X e g)(h2:Cp X es u)(h:A9 e=true:=by rfl):Cp X (e::es) (pe g u):=⟨gC h1.r h2.r h⟩
theorem wF (K:PySem.W.Frag){k:Nat}{u:nV}(hc:X.calm=true)(hg:Cp X es u)(hK:X.K=K:=by rfl)(h:A7 es=true:=by rfl):QG X (.Tuple es k pos) (sy K es.length u):=⟨gT (tg:= .Name Str.empty pos) hc hg.r hK h⟩
theorem xD {i:Expr}{ti:TE}{u:om}(ho:QE X o to)(hi:QE X i ti)(hs:qQ X u)
  (ha:∀v,assign (.Subscript o i pos) X.env v=(do
   let ov←holding [v] (eval o X.env)
   let iv←holding [v,ov] (eval i X.env)
   standAt pos
   holding [v,ov,iv] (setItem ov iv v)
   release [v,ov,iv] []):=by intro _;rfl):QG X (.Subscript o i pos) (yK to ti u):=⟨zK ho.r hi.r hs ha⟩
theorem U2 (K:PySem.W.Frag){tg:Expr}(hl:QE X a ta)(h:X.K=K:=by rfl):QI X tg a (Cf K ta):=⟨DN K hl.r h⟩
def Bk (wi:TI):jm:=fun σ H R=>wi σ H fun J H'=>R J id H'
theorem Bo {wi:TI}{σ:St}{H:Hp}{R:It→(Hp→Hp)→Hp→Prop}(q:wi σ H fun J H'=>R J id H'):Bk wi σ H R:=q
theorem fX {tg:Expr}(hm:X.mg "range"=none)(ha:QA X [a] t)(hg:Gl X "range":=by rfl)(h:A9 a=true:=by rfl):QI X tg (.Call (.Name "range" p) [a] [] pos) (Bk (uW t)):=⟨(rg hg hm ha.r (Z1 h)).two⟩
theorem gd {elts:List Expr}{x1}{tpos:Pos}(ho:QE X o to)
  (hbase:attributeBase o "items" X.env (eval o X.env)=eval o X.env:=by rfl) (hline:(apos.endLine==cpos.line)=true:=by rfl):QI X (.Tuple elts x1 tpos) (.Call (.Attribute o "items" apos) [] [] cpos) (nO to):=⟨uD ho.r hbase hline⟩
variable {st:Stmt} {sts body orelse:List Stmt} {u u':TS} {g:TG}
theorem T8:QSs X [] sV:=⟨vH⟩
theorem B9 (h:QS X st u):QSs X [st] u:=⟨vC h.r⟩
theorem A0 (h1:QS X st u)(h2:QSs X sts u'):QSs X (st::sts) (uj u u'):=⟨tV h1.r h2.r⟩
theorem u6 {i:Nat}{pos':Pos}(hN:X.N.Nodup)(hi:X.N[i]?=some x)(hx:vp X.env.scope x)(he:QE X e te)(hs:swapsWith e (some (.Name x pos')) pos.line X.env=pure false:=by rfl)(hf:X.fn x=true∨X.env.scope.names.lookup x=some .local:=by first|exact .inl rfl|exact .inr rfl):
  QS X (.Assign [.Name x pos'] e pos) (iQ te (Y9 i)):=⟨yI hN hi hx he.r hs hf⟩
theorem kA {tg:Expr}(he:QE X e te)(hg:QG X tg g)(hs:swapsWithSole [tg] e pos.line X.env=pure false:=by rfl)(hw:swappedStores [tg] e X.env=pure none:=by rfl)(h:A9 tg=true:=by rfl):QS X (.Assign [tg] e pos) (iQ te g):=
 ⟨yN he.r hg.r hs hw (by rw[oR h];rfl)⟩
theorem S2 (hc:QT X c tA)(ht:QSs X body u)(he:QSs X orelse u'):QS X (.If c body orelse pos) (zB tA u u'):=⟨Bw hc.r ht.r he.r⟩
theorem x5 (he:QE X e te):QS X (.Return (some e) pos) (yT te):=⟨yC he.r⟩
theorem CD (he:QE X e te)(hs:swapsWith e none pos.line X.env=pure false:=by rfl):QS X (.Expr e pos) (um te):=⟨wu he.r hs⟩
theorem aP {tg iter:Expr}{wi:jm}(hp:PassesOwn (model X.prog X.w) X.A X.env X.xe)(hc:X.calm=true)(hi:QI X tg iter wi)(hg:QG X tg g)(hb:QSs X body u)(hs:∀x,foldedSetIterable iter X.env x=pure x:=by intro _;rfl):QS X (.For tg iter body [] pos) (vc wi g u):=
 ⟨wO hp hc hi.r hg.r hb.r hs⟩
end
end L2
set_option Elab.async false
set_option linter.all false
set_option maxRecDepth 100000
set_option maxHeartbeats 4000000
namespace L2
open PySem PySem.Spec PyProof.Rows
theorem bE:∀{ss:List Str} {us:List Value},Vals (ss.map V.str) us→StrsAre us ss
 |[],_,.nil=> .nil
 |x::ss,_,.cons r t=>by
  obtain⟨k,rfl⟩:=r
  exact .cons x k (bE t)
theorem bp:∀{us:List Value} {ss:List Str},StrsAre us ss→Vals (ss.map V.str) us
 |_,_,.nil=> .nil
 |_,_,.cons y t r=> .cons ⟨t,rfl⟩ (bp r)
theorem ah:∀{xs:List V} {us:List Value},xs.length=us.length→(∀(i:Nat) x u,xs[i]?=some x→us[i]?=some u→RelV x u)→Vals xs us
 |[],[],_,_=> .nil
 |[],_::_,h,_=>by simp at h
 |_::_,[],h,_=>by simp at h
 |x::xs,u::us,h,k=> .cons (k 0 x u rfl rfl) (ah (by simpa using h) fun i y v e1 e2=>k (i+1) y v (by simpa using e1) (by simpa using e2))
section
variable {X:Cx}
theorem Inv.newL {pins:List (Addr×Obj)}{σ:St}{H:Hp}{s:Shared}{h':Heap}{tk:Nat}{a:Addr}{xs:List V}{out:Array Value}{e:Nat}(I:Inv X pins σ H s)(k:∀b u,s.heap.get? b=some u→h'.get? b=some u)(ha:s.heap.objs.size≤a)
  (ho:h'.get? a=some {cls:= .type "list",data:= .seq out e}) (rv:Vals xs out.toList) (hz:xs.length≤sizeLine):Inv X pins σ (A5 H a (.lst xs)) {s with heap:=h',toks:=tk}:=
 I.laid k ha ⟨hz,out.toList,e,rv,by rw[ho]⟩
theorem ObjOk.live {P:Program}{w:World}{H:Hp}{h:Heap}{a:Addr}{o:HO}(x:ObjOk P w H h a o):∃ob,h.get? a=some ob:=by
 cases o with
 |lst xs=>obtain⟨_,_,_,_,e⟩:=x;exact⟨_,e⟩
 |tup xs=>obtain⟨_,_,_,o,e,_⟩:=x;exact⟨_,e⟩
 |dK kvs=>obtain⟨_,_,_,_,o,_,_,e,_⟩:=x;exact⟨_,e⟩
 |dT kvs=>obtain⟨_,_,_,_,o,_,_,e,_⟩:=x;exact⟨_,e⟩
 |set S n=>obtain⟨o,_,_,_,e,_⟩:=x;exact⟨_,e⟩
 |ins C dx fs=>obtain⟨_,_,_,e,_⟩:=x;exact⟨_,e⟩
 |own y=>exact x
 |xd fs=>obtain⟨_,⟨_,_,_,e,_⟩,_⟩:=x;exact⟨_,e⟩
 |rng lo hi=>obtain⟨_,_,_,e⟩:=x;exact⟨_,e⟩
 |frz ob u=>obtain⟨e,_⟩:=x;exact⟨_,e⟩
 |tbl ps=>exact⟨_,(show h.get? a=some _ from x)⟩
 |met f y=>exact⟨_,(show h.get? a=some _ from x)⟩
 |ext φ=>obtain⟨_,e,_⟩:=x;exact e
theorem Inv.newN {pins:List (Addr×Obj)}{σ:St}{H:Hp}{s:Shared}{h':Heap}{tk:Nat}{a:Addr}{xs:List V}{out:Array Value}{e:Nat}(I:Inv X pins σ H s)(k:∀b u,s.heap.get? b=some u→h'.get? b=some u)(hn:s.heap.get? a=none)
  (ho:h'.get? a=some {cls:= .type "list",data:= .seq out e}) (rv:Vals xs out.toList) (hz:xs.length≤sizeLine):H a=none∧Inv X pins σ (A5 H a (.lst xs)) {s with heap:=h',toks:=tk}:=by
 have hH:H a=none:=by
  cases q:H a with
  |none=>rfl
  |some u=>
   obtain⟨ob,z⟩:=(I.hok a u q).live
   rw[hn] at z;cases z
 have na:∀b o,s.heap.get? b=some o→b≠a:=fun b o z w=>by rw[w,hn] at z;cases z
 have nh:∀b u,H b=some u→b≠a:=fun b u z=>i6 z hH
 refine⟨hH,I.un ⟨fun b o z n _ _=>k b o z,fun b o z n _ _=>⟨o.slots,k b o z⟩,fun b o z n _=>by rw[d6 (na b o z)];exact n,fun b o z _=>⟨o,k b o z⟩,fun b ys z=>by rw[d6 (nh b _ z)];exact z,
  fun b ob u z=>by rw[d6 (nh b _ z)];exact z,fun b ps z=>⟨#[],by rw[d6 (nh b _ z)];simpa using z⟩⟩ fun b u z=>?_⟩
 by_cases hb:b=a
 ·subst hb
  rw[g7] at z;cases z
  exact⟨hz,out.toList,e,rv,by rw[ho]⟩
 ·rw[d6 hb] at z
  exact(I.hok b u z).stay (fun c v _ y=>k c v y) (fun c y=>by rw[d6 (nh c _ y)];exact y) fun c ys y=>by rw[d6 (nh c _ y)];exact y
def jH (K:PySem.W.Frag):List V→Hp→VK→Prop:=fun xs H Q=>∃(p:Addr) (ss:List Str),xs=[.ref p]∧(SqL K H p (ss.map V.str)∨∃kvs:List (j6×V),Rd H p (.dK kvs)∧kvs.map (·.1)=ss.map Sum.inr)∧ss.length<64∧
 ∀ss':List Str,ss'.Perm ss→sortedS ss'=true→∀l,H l=none→Q (.ref l) (A5 H l (.lst (ss'.map V.str)))
theorem qD {M:Program}{w:World}{A:Around}{E:Value→Shared→Prop}{s:Shared}{a:Addr}{vs:List Value}{ss:List Str}{n:Nat}{Q:Value→Shared→Prop}(ho:s.heap.get? a=some (seqObj "list" vs.toArray n))(hS:StrsAre vs ss)(h64:vs.length<64)
  (h:∀(out:Array Value) (ss':List Str),StrsAre out.toList ss'→ss'.Perm ss→sortedS ss'=true→Q .none {s with heap:=sortedHeap s.heap a vs out}):
  wpAny (model M w) A (call (.builtin "list.sort") [.ref a]) Q E s:=by
 refine wpAny_call_entry PySem.F.slot_list_sort ⟨_,ho,rfl⟩ PySem.F.entry_list_sort ?_ (PySem.F.args_list_sort_1 _)
 refine list_sort_treeK strKind_oneLt ho hS.keysOf (fun v₁ v₂ bS e=>keyKind_strs (by rw[←e];exact hS)) h64 fun st' hp hs=>?_
 obtain⟨ss',h1,h2,h3⟩:=sorted_out_str hS hp hs
 exact⟨_,rfl,h _ ss' h1 h2 h3⟩
theorem jN (hc:X.calm=true):CallR X (.builtin "sorted") (jH X.K):=by
 intro pins s σ H xs us Q I r h
 obtain⟨p,ss,rfl,hx,h64,q⟩:=h
 obtain⟨u,rfl,ru⟩:=O8 r
 cases ru
 have hsl:(64:Nat)≤sizeLine:=by decide
 rcases hx with hx|⟨kvs,hx,hk⟩
 ·obtain⟨its,rv,ht,hz⟩:=I.list hx
  have hS:=bE rv
  have hl:its.length=ss.length:=by have:=rv.length;simpa using this.symm
  refine sorted_strs ht.isList hS (by lia) fun out ss' a1 a2 a3=>?_
  obtain⟨e,he⟩:=sortedAll_at s.heap its out
  have hl':=a2.length_eq
  exact⟨.ref (s.heap.objs.size+1),_,I.newL (tk:=s.toks) (fun _ _=>sortedAll_old) (Nat.le_succ _) he (bp a1) (by rw[List.length_map];lia),rfl,q ss' a2 a3 _ (I.hok.fresh (Nat.le_succ _))⟩
 ·obtain⟨hd,o,vs,ep,ho,D⟩:=dG I.hok hx
  have dat:=D.at_ _ ho
  have hlen:kvs.length=ss.length:=by have:=congrArg List.length hk;simpa using this
  have hlv:=KV.length D.kv
  refine Calls.call_function_entry kind_sorted plain_sorted entry_sorted (args_sorted1 _) ?_
  unfold Builtin.«sorted»
  refine wpAny_bind (m:=checkCount "sorted" 1 1 _) (wpAny_pure ?_)
  refine wpAny_bind (PySem.W.kdu_collect (A:=X.A.in1) (PySem.W.kdl_dict (knd:=q8 X.prog X.w) (kvs:=vs) (ep:=ep) hd) (I.ok.hd hc) dat (by lia) fun h' tk acc hkp hacc=>?_)
  have hl:acc.toList.length=vs.length:=by rw[Array.length_toList];exact hacc.1
  have hS:StrsAre acc.toList ss:=by
   refine bE (ah (by rw[List.length_map];lia) fun i x u e1 e2=>?_)
   obtain⟨k,y,hy,hky⟩:=hacc.2 i u (by rw[←Array.getElem?_toList];exact e2)
   have e3:(kvs.map (·.1))[i]?=some k:=by rw[KV.keys D.kv,List.getElem?_map,hy];rfl
   rw[hk,List.getElem?_map] at e3
   rw[List.getElem?_map] at e1
   cases e4:ss[i]? with
   |none=>rw[e4] at e1;cases e1
   |some z=>
    rw[e4] at e1 e3
    cases e1
    cases e3
    exact dC hky
  refine wpAny_bind (wpAny_newList ?_ (by rw[hl];lia))
  refine wpAny_bind (wpAny_holding (qD (s:={s with heap:=h'.push {cls:= .type "list",data:= .seq acc.toList.toArray},toks:=tk}) (n:=0) (Heap.get?_push_size _ rfl) hS (by lia) fun out ss' a1 a2 a3=>?_))
  obtain⟨e,he⟩:=sortedHeap_at (h:=h'.push {cls:= .type "list",data:= .seq acc.toList.toArray}) (a:=h'.objs.size) (vs:=acc.toList) (n:=0) (out:=out) (Heap.get?_push_size _ rfl)
  have hno:s.heap.get? h'.objs.size=none:=by
   cases z:s.heap.get? h'.objs.size with
   |none=>rfl
   |some ob=>exact absurd (Heap.lt_size (hkp _ _ z)) (Nat.lt_irrefl _)
  have hl':=a2.length_eq
  obtain⟨hH,I2⟩:=I.newN (tk:=tk) (h':=sortedHeap (h'.push {cls:= .type "list",data:= .seq acc.toList.toArray}) h'.objs.size acc.toList out) (xs:=ss'.map V.str) (fun b u eb=>by
   have hb:=Heap.lt_size (hkp b u eb)
   rw[sortedHeap_old (b:=b) (Nat.ne_of_lt hb) (by rw[Heap.size_push];exact Nat.lt_succ_of_lt hb)]
   exact Heap.get?_push_of_some _ (hkp b u eb)) hno he (bp a1) (by rw[List.length_map];lia)
  exact wpAny_pure ⟨_,rfl,.ref h'.objs.size,_,I2,rfl,q ss' a2 a3 _ hH⟩
def pD (K:PySem.W.Frag):List V→Hp→VK→Prop:=fun xs H Q=>(∃p ys,xs=[.ref p]∧(SqL K H p ys∨SqT K H p ys)∧∀l,H l=none→Q (.ref l) (A5 H l (.lst ys)))∨
 (∃(p:Addr) (kvs:List (j6×V)),xs=[.ref p]∧Rd H p (.dK kvs)∧∀l,H l=none→Q (.ref l) (A5 H l (.lst (kvs.map fun kv=>kV kv.1))))
theorem nj (hc:X.calm=true):CallR X (.type "list") (pD X.K):=by
 refine call_list_of.or ?_
 intro pins s σ H xs us Q I r h
 obtain⟨p,kvs,rfl,hx,q⟩:=h
 obtain⟨u,rfl,ru⟩:=O8 r
 cases ru
 obtain⟨hd,o,vs,ep,ho,D⟩:=dG I.hok hx
 have hlv:=KV.length D.kv
 have hz:kvs.length≤sizeLine:=(R7 I.hok hx).1
 refine PySem.W.kdl_call (PySem.W.kdl_dict (knd:=q8 X.prog X.w) (kvs:=vs) (ep:=ep) hd) (I.ok.hd hc) (D.at_ _ ho) (by lia) fun h' tk acc c hkp hS hacc=>?_
 refine⟨.ref s.heap.objs.size,_,I.newL (tk:=tk) hkp (Nat.le_refl _) hS (ah (by have:=hacc.1;simp;lia) fun i x u e1 e2=>?_) (by rw[List.length_map];exact hz),rfl,q _ (I.hok.fresh (Nat.le_refl _))⟩
 obtain⟨k,y,hy,hky⟩:=hacc.2 i u (by rw[←Array.getElem?_toList];exact e2)
 rw[List.getElem?_map] at e1
 cases e4:kvs[i]? with
 |none=>rw[e4] at e1;cases e1
 |some kv=>
  rw[e4] at e1
  cases e1
  have e3:(kvs.map (·.1))[i]?=some kv.1:=by rw[List.getElem?_map,e4];rfl
  rw[KV.keys D.kv,List.getElem?_map,hy] at e3
  cases e3
  exact dC hky
def xE:List V→Hp→VK→Prop:=fun xs H Q=>∃(p:Addr) (kvs:List (j6×V)),xs=[.ref p]∧Rd H p (.dK kvs)∧∀l,H l=none→Q (.ref l) (A5 H l (.dK kvs))
theorem nP:CallR X (.type "dict") xE:=by
 intro pins s σ H xs us Q I r h
 obtain⟨p,kvs,rfl,hx,q⟩:=h
 obtain⟨u,rfl,ru⟩:=O8 r
 cases ru
 exact sj I hx fun l s' hl I'=>⟨.ref l,_,I',rfl,q l hl⟩
def ym (K:PySem.W.Frag):List V→Hp→VK→Prop:=fun xs H Q=>∃(p:Addr) (ns:List Int),xs=[.ref p]∧SqL K H p (ns.map V.int)∧Q (.int ns.sum) H
theorem qx (hc:X.calm=true):CallR X (.builtin "sum") (ym X.K):=by
 intro pins s σ H xs us Q I r h
 obtain⟨p,ns,rfl,hx,q⟩:=h
 obtain⟨u,rfl,ru⟩:=O8 r
 cases ru
 obtain⟨its,rv,ht,hz⟩:=I.list hx
 have hi:=nX rv
 obtain⟨ys,hy⟩:=hi.allInts.items
 have hl:s.heap.IsList p (intItems ys):=hy▸ht.isList
 refine sum_intListG (I.ok.hd hc) hl fun h' tk t' hk=>?_
 have e1:ns=ys.toList.map (·.1):=by
  rw[←nums_intItems,←hy]
  exact(show numsOf its.toArray.toList=ns from hi.numsOf).symm
 have e2:preSum (numAt ys) ys.size=ns.sum:=by
  rw[preSum_eq,List.take_of_length_le (by simp),e1]
 rw[e2]
 exact⟨.int ns.sum,H,I.kept hk,⟨t',rfl⟩,q⟩
def pf:R2:=fun x y H Q=>rI CMul (fun i j=> .int (i*j)) x y H Q∨(∃z n,x= .str z∧y= .int n∧z.length≤1000∧-1000≤n∧n≤1000∧Q (.str (Txt.mul z n)) H)
theorem op_mulY:OpR X (binaryOp .Mult) pf:=by
 refine op_mul.or ?_
 intro pins s σ H x y v u Q I rx ry h
 obtain⟨z,n,rfl,rfl,h1,h2,h3,q⟩:=h
 obtain⟨t,rfl⟩:=rx
 obtain⟨t',rfl⟩:=ry
 exact SB.mul (mulOk_of 1000 1000 h1 h3 (by lia) (by decide) (by decide)) fun t2 k=>⟨.str _,H,I.tok _,⟨t2,rfl⟩,q⟩
def pK:om:=fun o i v H Q=>xK o i v H Q∨(∃a H',o= .ref a∧DPut H a i v H'∧Q H')
theorem xp (hu:X.A.units+1<cLine):qQ X pK:=by
 intro pins s σ H o i v ov iv u Q I ro ri rv h
 rcases h with h|⟨a,H',rfl,g,q⟩
 ·exact vh pins s σ H o i v ov iv u Q I ro ri rv h
 ·cases ro
  exact qi hu I g ri rv fun s' I'=>⟨H',I',q⟩
end
end L2
set_option Elab.async false
set_option linter.all false
set_option maxRecDepth 100000
set_option maxHeartbeats 4000000
namespace L2
open PySem PySem.Spec PyProof.Rows
section
variable {X:Cx}
theorem Inv.pairNew {pins:List (Addr×Obj)}{σ:St}{H:Hp}{s:Shared}{fp:List Addr}{h':Heap}{tk:Nat}{x y:V}{u v:Value}{e:Nat}(I:Inv X pins σ H s)(hf:∀b∈fp,bQ X pins H b)
  (kp:∀b o,b∉fp→s.heap.get? b=some o→h'.get? b=some o) (there:∀b∈fp,b<s.heap.objs.size) (tup:h'.get? s.heap.objs.size=some {cls:= .type "tuple",data:= .seq #[u,v] e}) (rx:RelV x u) (ry:RelV y v):
  H s.heap.objs.size=none∧Inv X pins σ (A5 H s.heap.objs.size (.tup [x,y])) {s with heap:=h',toks:=tk}∧∀b∈fp,A5 H s.heap.objs.size (.tup [x,y]) b=none:=by
 have fresh:H s.heap.objs.size=none:=I.hok.fresh (Nat.le_refl _)
 have nsz:∀b o,s.heap.get? b=some o→b≠s.heap.objs.size:=fun b o z=>Nat.ne_of_lt (Heap.lt_size z)
 have hH:∀b w,H b=some w→b≠s.heap.objs.size∧b∉fp:=fun b w z=>⟨i6 z fresh,fun m=>by rw[(hf b m).1] at z;cases z⟩
 have hok:HOk X.prog X.w (A5 H s.heap.objs.size (.tup [x,y])) h':=fun b w z=>by
  by_cases hb:b=s.heap.objs.size
  ·subst hb
   rw[g7] at z;cases z
   exact⟨by show 2≤sizeLine;decide,[u,v],.cons rx (.cons ry .nil),⟨_,tup,rfl,_,rfl⟩⟩
  ·rw[d6 hb] at z
   refine(I.hok b w z).stay (fun c ob hc q=>kp c ob ?_ q) (fun c q=>by rw[d6 (hH c _ q).1];exact q) fun c ys q=>by rw[d6 (hH c _ q).1];exact q
   rcases hc with m|m
   ·rw[m];exact(hH b _ z).2
   ·exact(hH c _ m).2
 refine⟨fresh,I.call' (s':={s with heap:=h',toks:=tk}) (ch:=fp) rfl ⟨fun b o z n _ hx=>kp b o hx z,fun b o z n _ hx=>⟨o.slots,kp b o hx z⟩,fun b o z n _=>by rw[d6 (nsz b o z)];exact n,
  fun b o z hx=>⟨o,kp b o hx z⟩,fun b ys z=>by rw[d6 (hH b _ z).1];exact z,fun b ob w z=>by rw[d6 (hH b _ z).1];exact z,fun b ps z=>⟨#[],by rw[d6 (hH b _ z).1];simpa using z⟩⟩ hok I.bare fun b hb=>?_,fun b hb=>?_⟩
 ·obtain⟨f0,f1,f2,f3,f4,f5⟩:=hf b hb
  exact⟨f3,f1,f4,f5⟩
 ·rw[d6 (Nat.ne_of_lt (there b hb))];exact(hf b hb).1
theorem Inv.turnedAll {pins:List (Addr×Obj)}{σ:St}{H:Hp}{s:Shared}{fp:List Addr}{h':Heap}{tk:Nat}(I:Inv X pins σ H s)(hf:∀b∈fp,bQ X pins H b)
  (kp:∀b o,b∉fp→s.heap.get? b=some o→h'.get? b=some o):Inv X pins σ H {s with heap:=h',toks:=tk}:=by
 have hH:∀b w,H b=some w→b∉fp:=fun b w z m=>by rw[(hf b m).1] at z;cases z
 refine I.call' (s':={s with heap:=h',toks:=tk}) (ch:=fp) rfl ⟨fun b o z n _ hx=>kp b o hx z,fun b o z n _ hx=>⟨o.slots,kp b o hx z⟩,fun b o z n _=>n,
  fun b o z hx=>⟨o,kp b o hx z⟩,fun b ys z=>z,fun b ob w z=>z,fun b ps z=>⟨#[],by simpa using z⟩⟩ (fun b w z=>?_) I.bare fun b hb=>?_
 ·refine(I.hok b w z).stay (fun c ob hc q=>kp c ob ?_ q) (fun c q=>q) fun c ys q=>q
  rcases hc with m|m
  ·rw[m];exact hH b _ z
  ·exact hH c _ m
 ·obtain⟨f0,f1,f2,f3,f4,f5⟩:=hf b hb
  exact⟨f3,f1,f4,f5⟩
end
def CA (K:PySem.W.Frag)(l:Addr):It:=
 ⟨fun i H=>∃xs x,SqL K H l xs∧xs[i]?=some x,fun i H x H'=>∃t v,(∀xs,SqL K H l xs→xs[i]?=some v)∧H t=none∧x= .ref t∧H'=A5 H t (.tup [.int i,v]),fun i H=>∃xs,SqL K H l xs∧xs.length≤i⟩
theorem qp {P:Program}{w:World}{K:PySem.W.Frag}{elts:List Expr}{x1}{tpos:Pos}{en it l:Addr}(hne:en≠it):fo P w K (.Tuple elts x1 tpos) (CA K l) [en,it] en (fun i h=>∃old,IsEnum h en it i old∧h.IsListIter it l i) where
 mem:=by simp
 obj:=fun i h st b hb=>by
  obtain⟨old,h1,o,e,c,d⟩:=st
  have hb':b=en∨b=it:=by simpa using hb
  rcases hb' with rfl|rfl
  ·exact⟨_,h1,fun v z=>by
    have z':Data.fields _=Data.cell v:=z
    cases z'⟩
  ·exact⟨o,e,fun v z=>by rw[d] at z;cases z⟩
 keep:=fun i h h' st k=>by
  obtain⟨old,h1,h2⟩:=st
  exact⟨old,k en (by simp) _ h1,h2.at fun o e=>k it (by simp) o e⟩
 item:=by
  intro X hP hw hK hc i pins s σ H E I hf st hg
  subst hP hw hK
  obtain⟨old,st1,st2⟩:=st
  obtain⟨xs,x,hq,hx⟩:=hg
  obtain⟨its,rv,p,hz⟩:=I.list hq
  obtain⟨u,hu,ru⟩:=rv.get hx
  have hen:en<s.heap.objs.size:=Heap.lt_size st1
  have hit:it<s.heap.objs.size:=by obtain⟨o,e,_⟩:=st2;exact Heap.lt_size e
  refine wpAny_pyNext_enum_item st1 st2 p.isList (x:=u) (by simpa using hu) hne fun h' heo hit1 ht1 hz1 hk1=>?_
  refine⟨.ref s.heap.objs.size,rfl,wpAny_letOwnedTupleGo_enum (s:={s with heap:=h',toks:=s.toks+1}) heo fun h'' he'' hs''=>?_⟩
  have hs2:Heap.SameBut en h' h'':=hs''
  have tupAt:h''.get? s.heap.objs.size=some {cls:= .type "tuple",data:= .seq #[.int i s.toks,u]}:=hs2.extBut _ _ (Nat.ne_of_gt hen) ht1
  obtain⟨fr,I1,fr2⟩:=I.pairNew (fp:=[en,it]) (h':=h'') (tk:=s.toks+1) (x:= .int i) (y:=x) hf (fun b o hb e=>by
   have hb':b≠en∧b≠it:=by simpa using hb
   exact hs2.extBut b o hb'.1 (hk1 b o hb'.1 hb'.2 e)) (fun b hb=>by
   have hb':b=en∨b=it:=by simpa using hb
   rcases hb' with rfl|rfl
   ·exact hen
   ·exact hit) tupAt ⟨_,rfl⟩ ru
  refine⟨.ref s.heap.objs.size,_,I1,rfl,⟨_,x,fun ys hy=>by rw[I.list_inj hy hq];exact hx,fr,rfl,rfl⟩,⟨_,he'',?_⟩,fr2⟩
  exact hit1.at fun o e=>hs2.extBut it o (Ne.symm hne) e
 done:=by
  intro X hP hw hK hc i pins s σ H E I hf st hg
  subst hP hw hK
  obtain⟨old,st1,st2⟩:=st
  obtain⟨xs,hq,hx⟩:=hg
  obtain⟨its,rv,p,hz⟩:=I.list hq
  have hl:=rv.length
  exact wpAny_pyNext_enum_end (I.ok.hd hc) st1 st2 p.isList (by simp;lia) fun h' eb=>⟨rfl,I.turnedAll (fp:=[en,it]) (tk:=s.toks) hf fun b o hb e=>eb b o (by
   have hb':b≠en∧b≠it:=by simpa using hb
   exact hb'.2) e⟩
 self:=fun _ _ _ _ _ st h=>by
  obtain⟨old,st1,st2⟩:=st
  exact wpAny_pyIter_enum st1 h
section
variable {X:Cx} {a b:Expr} {t:TA} {p pos:Pos}
end
section
variable {X:Cx} {a b:Expr} {t:TA} {p pos:Pos}
end
section
variable {X:Cx} (K:PySem.W.Frag) {a b:Expr} {t:TA} {p pos:Pos}
theorem ef (hc:X.calm=true)(h:X.K=K:=by rfl):CallR X (.builtin "sorted") (jH K):=h▸jN hc
theorem BP (hc:X.calm=true)(h:X.K=K:=by rfl):CallR X (.builtin "sum") (ym K):=h▸qx hc
end
theorem X0 {X:Cx}:vo X "list.append" oK:=qA
section
variable {K:PySem.W.Frag} {σ:St} {H:Hp} {Q:VK}
theorem S8 {p:Addr}{kvs:List (j6×V)}{ss:List Str}(h:Rd H p (.dK kvs))(hk:kvs.map (·.1)=ss.map Sum.inr)(h64:ss.length<64)(q:∀ss':List Str,ss'.Perm ss→sortedS ss'=true→∀l,H l=none→Q (.ref l) (A5 H l (.lst (ss'.map V.str)))):jH K [.ref p] H Q:=⟨p,ss,rfl,.inr ⟨kvs,h,hk⟩,h64,q⟩
theorem bh {p:Addr}{kvs:List (j6×V)}(h:Rd H p (.dK kvs))(q:∀l,H l=none→Q (.ref l) (A5 H l (.lst (kvs.map fun kv=>kV kv.1)))):pD K [.ref p] H Q:= .inr ⟨p,kvs,rfl,h,q⟩
theorem xw {p:Addr}{ns:List Int}(h:SqL K H p (ns.map V.int))(q:Q (.int ns.sum) H):ym K [.ref p] H Q:=⟨p,ns,rfl,h,q⟩
theorem rm {i j:Int}(h:CMul i j)(q:Q (.int (i*j)) H):pf (.int i) (.int j) H Q:= .inl ⟨i,j,rfl,rfl,h,q⟩
theorem cW {z:Str}{n:Int}(h1:z.length≤1000)(h2: -1000≤n)(h3:n≤1000)(q:Q (.str (Txt.mul z n)) H):pf (.str z) (.int n) H Q:= .inr ⟨z,n,rfl,rfl,h1,h2,h3,q⟩
theorem zr {to ti:TE}{t:om}{v:V}{Qs:St→Hp→Prop}(q:to σ H fun o H1=>ti σ H1 fun i H2=>t o i v H2 fun H3=>Qs σ H3):yK to ti t v σ H Qs:=q
theorem N4 {a:Addr}{kvs:List (j6×V)}{k:j6}{v:V}{Qh:Hp→Prop}(h:H a=some (.dK kvs))(hl:kvs.length<sizeLine)(q:Qh (A5 H a (.dK (N0 kvs k v)))):pK (.ref a) (kV k) v H Qh:= .inr ⟨a,_,rfl,DPut.k h hl,q⟩
theorem bF {n:Nat}{t:nV}{a:Addr}{xs:List V}{Qs:St→Hp→Prop}(h:SqT K H a xs)(hl:xs.length=n)(q:t xs σ H Qs):sy K n t (.ref a) σ H Qs:=⟨a,xs,rfl,h,hl,q⟩
theorem wd {t:TG}{u:nV}{v:V}{r:List V}{Qs:St→Hp→Prop}(q:t v σ H fun σ' H'=>u r σ' H' Qs):pe t u (v::r) σ H Qs:=⟨v,r,rfl,q⟩
theorem zE {Qs:St→Hp→Prop}(q:Qs σ H):zO [] σ H Qs:=⟨rfl,q⟩
theorem Cy {T:String}{r:V→List V→Hp→VK→Prop}{to:TE}{t:TA}(q:to σ H fun x H1=>CU K T x H1∧t σ H1 fun xs H2=>r x xs H2 Q):Dl K T r to t σ H Q:=q
theorem S1 {p:Addr}{x:V}{o:Option V}(g:aA H p x o)(q:Q (.bl o.isSome) H):vK K x (.ref p) H Q:= .inr (.inr ⟨p,o,rfl,g,q⟩)
theorem cg {p:Addr}{x:V}{o:Option V}(g:aA H p x o)(q:Q (.bl (!o.isSome)) H):gk K x (.ref p) H Q:= .inr (.inr ⟨p,o,rfl,g,q⟩)
theorem tQ {p:Addr}{xs:List V}{lo hi:Option Int}(h:SqT K H p xs)(hw:¬(HT.sIx xs.length 0 lo=0∧HT.sIx xs.length xs.length hi=xs.length))(q:∀p,H p=none→Q (.ref p) (A5 H p (.tup (V9 xs lo hi)))):Br K (.ref p) lo hi H Q:= .inr (.inl ⟨p,xs,rfl,h,hw,q⟩)
theorem P6 {a:Addr}{kvs:List (j6×V)}{k:j6}(e:Rd H a (.dK kvs)):aA H a (kV k) (D0 kvs k):= .inl ⟨kvs,k,e,rfl,rfl⟩
end
end L2
set_option Elab.async false
set_option linter.all false
set_option maxRecDepth 100000
set_option maxHeartbeats 4000000
namespace L2
open PySem PySem.Spec PyProof.Rows
open PySem.AutoSeq1 (wpAny_loadPart')
def EqP (P:Program)(w:World)(A:Around)(s:Shared)(y x:Value)(b:Bool):Prop:=∀(E:Value→Shared→Prop) (Q:Bool→Shared→Prop),Q b s→wpAny (model P w) A (eqBool y x) Q E s
def RcP (P:Program)(w:World)(A:Around)(s:Shared)(y x:Value)(b:Bool):Prop:=∀(E:Value→Shared→Prop) (Q:Value→Shared→Prop),Q (.bool b) s→wpAny (model P w) A (richCompare .Eq y x) Q E s
theorem EqP.of {P:Program}{w:World}{A:Around}{s:Shared}{y x:Value}{b:Bool}(h:SeqAt.EqAt A s y x b):EqP P w A s y x b:=fun E Q q=>h P w E Q q
theorem EqP.refs {P:Program}{w:World}{A:Around}{s:Shared}{l m:Addr}{k:Bool}(hne:l≠m)(h:RcP P w A s (.ref l) (.ref m) k):EqP P w A s (.ref l) (.ref m) k:=fun E Q q=>by
 unfold eqBool
 refine wpAny_holding (wpAny_ite_split (fun z=>absurd (Value.ref.inj (eq_of_beq z)) hne) fun _=>wpAny_bind (h E _ (wpAny_truthy_bool q)))
theorem yY {P:Program}{w:World}(l m:Addr)(xs ys:Array Value)(n1 n2:Nat)(d1 d2:Option Addr)(s1 s2:Array (Option Value))(f:Nat→Bool):
  MeetsIn P w (Builtin.«tuple.__eq__» ⟨[.ref l,.ref m],[]⟩) (fun A R s=>
   s.heap.get? l=some {cls:= .type "tuple",dict:=d1,data:= .seq xs n1,slots:=s1}∧s.heap.get? m=some {cls:= .type "tuple",dict:=d2,data:= .seq ys n2,slots:=s2}∧
   (∀j (g1:j<xs.size) (g2:j<ys.size),EqP P w A.in1 s xs[j] ys[j] (f j))∧
   R (.ok (.ret (.bool ((List.range (min xs.size ys.size)).all f&&xs.size==ys.size)))) s):=
 .of_wp fun A R s hyp=>by
  obtain⟨hp,gg,dr,tk,os⟩:=s
  obtain⟨e1,e2,he,fin⟩:=hyp
  have sub:=AutoSeq1.sub_tuple_tuple
  have len:(xs.toList.zip ys.toList).length=min xs.size ys.size:=by simp
  wp_walk using wpAny_loadPart' e1,wpAny_loadPart' e2,wpAny_forIn_list _ (fun more acc st=>acc.1=none∧st=⟨hp,gg,dr,tk,os⟩∧∃i,more=(xs.toList.zip ys.toList).drop i∧
   R (.ok (.ret (.bool (((List.range (min xs.size ys.size)).drop i).all f&&xs.size==ys.size)))) ⟨hp,gg,dr,tk,os⟩) _
  case turn=>
   rintro⟨y,x⟩ more acc st ⟨ha,rfl,i,hi,hR⟩
   have lt:i<(xs.toList.zip ys.toList).length:=by
    rcases Nat.lt_or_ge i (xs.toList.zip ys.toList).length with z|z
    ·exact z
    ·rw[List.drop_of_length_le z] at hi
     cases hi
   have lm:i<min xs.size ys.size:=len▸lt
   have lx:i<xs.size:=Nat.lt_of_lt_of_le lm (Nat.min_le_left _ _)
   have ly:i<ys.size:=Nat.lt_of_lt_of_le lm (Nat.min_le_right _ _)
   rw[List.drop_eq_getElem_cons lt] at hi
   injection hi with h1 h2
   have q1:y=xs[i]:=by simpa using congrArg Prod.fst h1
   have q2:x=ys[i]:=by simpa using congrArg Prod.snd h1
   subst q1 q2
   have dr1:(List.range (min xs.size ys.size)).drop i=i::(List.range (min xs.size ys.size)).drop (i+1):=by simp [List.drop_eq_getElem_cons,lm]
   rw[dr1,List.all_cons] at hR
   refine wpAny_bind (he i lx ly _ _ ?_)
   cases hf:f i with
   |true=>
    rw[hf] at hR
    wp_walk
    exact⟨rfl,rfl,i+1,h2,by simpa using hR⟩
   |false=>
    rw[hf] at hR
    wp_walk
    exact⟨_,rfl,by simpa using hR⟩
  case fin=>
   rintro⟨c1,c2⟩ st ⟨ha,rfl,i,hi,hR⟩
   simp only at ha
   subst ha
   have ge:min xs.size ys.size≤i:=by
    rcases Nat.lt_or_ge i (xs.toList.zip ys.toList).length with z|z
    ·rw[List.drop_eq_getElem_cons z] at hi
     cases hi
    ·exact len▸z
   rw[List.drop_of_length_le (by simpa using ge)] at hR
   wp_walk
   exact⟨_,rfl,by simpa [Builtin.Tuple.tupleCompareSizes] using hR⟩
  case h=>
   exact⟨rfl,rfl,0,rfl,by simpa using fin⟩
theorem RcP.tup {P:Program}{w:World}{A:Around}{s:Shared}{l m:Addr}{xs ys:Array Value}{f:Nat→Bool}(hl:s.heap.IsTuple l xs)(hm:s.heap.IsTuple m ys)(hu:A.units<cLine)
  (he:∀j (g1:j<xs.size) (g2:j<ys.size),EqP P w A.in1 s xs[j] ys[j] (f j)):RcP P w A s (.ref l) (.ref m) ((List.range (min xs.size ys.size)).all f&&xs.size==ys.size):=fun E Q q=>by
 obtain⟨⟨c1,d1,a1,s1⟩,o1,k1,n1,t1⟩:=id hl
 obtain⟨⟨c2,d2,a2,s2⟩,o2,k2,n2,t2⟩:=id hm
 simp only at k1 t1 k2 t2
 subst k1 t1 k2 t2
 refine wpAny_richCompare_same_room (op:= .Eq) ⟨_,o1,rfl⟩ ⟨_,o2,rfl⟩ PySem.F.slot_tuple_eq (call_meetsIn PySem.F.slot_tuple_eq ⟨_,o1,rfl⟩ PySem.F.entry_tuple_eq (PySem.F.args_tuple_eq_2 _ _) (yY l m xs ys n1 n2 d1 d2 s1 s2 f) ⟨o1,o2,he,?_⟩) hu
 exact⟨(fun z=>nomatch z),q⟩
def Z6:List V→List V→Bool
 |[],[]=>true
 |x::xs,y::ys=>gs x y&&Z6 xs ys
 |_,_=>false
inductive Eq1 (K:PySem.W.Frag) (H:Hp):V→V→Bool→Prop
 |flat {x y:V}:E8 x=true→E8 y=true→Eq1 K H x y (gs x y)
 |tup {a b:Addr} {xs ys:List V}:SqT K H a xs→SqT K H b ys→xs.all E8=true→ys.all E8=true→Eq1 K H (.ref a) (.ref b) (Z6 xs ys)
 |nt {a:Addr} {xs:List V}:SqT K H a xs→Eq1 K H .non (.ref a) false
 |tn {a:Addr} {xs:List V}:SqT K H a xs→Eq1 K H (.ref a) .non false
theorem lH:∀{x:V},E8 x=true→gs x x=true
 | .non,_=>rfl
 | .bl b,_=>by simp [gs]
 | .int i,_=>by simp [gs]
 | .str x,_=>by simp [gs]
theorem fc:∀{xs:List V},xs.all E8=true→Z6 xs xs=true
 |[],_=>rfl
 |x::xs,h=>by
  rw[List.all_cons,Bool.and_eq_true] at h
  show(gs x x&&Z6 xs xs)=true
  rw[lH h.1,fc h.2];rfl
theorem V3:∀(xs ys:List V),((List.range (min xs.length ys.length)).all (fun j=>gs (xs.getD j .non) (ys.getD j .non))&&xs.length==ys.length)=Z6 xs ys
 |[],[]=>rfl
 |[],_::_=>by simp [Z6]
 |_::_,[]=>by simp [Z6]
 |x::xs,y::ys=>by
  have ih:=V3 xs ys
  have e:min (x::xs).length (y::ys).length=min xs.length ys.length+1:=by simp
  rw[e,List.range_succ_eq_map,List.all_cons,List.all_map]
  show((gs x y&&(List.range (min xs.length ys.length)).all _)&&(xs.length+1==ys.length+1))=(gs x y&&Z6 xs ys)
  rw[←ih,Bool.and_assoc]
  congr 1
  congr 1
  simp
section
variable {X:Cx} {pins:List (Addr×Obj)} {σ:St} {H:Hp} {s:Shared} {A:Around}
theorem Eq1.at_ {x y:V}{u v:Value}{b:Bool}(I:Inv X pins σ H s)(h:Eq1 X.K H x y b)(rx:RelV x u)(ry:RelV y v)(hu:A.units+8<cLine):SeqAt.EqAt A s u v b:=by
 cases h with
 |flat fx fy=>exact dh rx ry fx fy
 | @tup a c xs ys ha hc fx fy=>
  cases rx
  cases ry
  obtain⟨its,r1,p1,z1⟩:=I.tuple ha
  obtain⟨its',r2,p2,z2⟩:=I.tuple hc
  by_cases hac:a=c
  ·subst hac
   have e:=I.tuple_inj ha hc
   subst e
   rw[fc fx]
   exact SeqAt.EqAt.same _
  ·have l1:=r1.length
   have l2:=r2.length
   have q:=SeqAt.RcAt.tuples (A:=A) (e:=fun j=>gs (xs.getD j .non) (ys.getD j .non)) (show s.heap.IsTuple a its.toArray from p1) (show s.heap.IsTuple c its'.toArray from p2) (by lia) fun j g1 g2=>by
    have g1':j<its.length:=by simpa using g1
    have g2':j<its'.length:=by simpa using g2
    have x1:xs[j]?=some (xs[j]'(by lia)):=by simp [show j<xs.length by lia]
    have y1:ys[j]?=some (ys[j]'(by lia)):=by simp [show j<ys.length by lia]
    obtain⟨u1,hu1,ru1⟩:=r1.get x1
    obtain⟨u2,hu2,ru2⟩:=r2.get y1
    have e1:its.toArray[j]=u1:=by
     have:=List.getElem?_eq_getElem g1'
     rw[hu1] at this
     simpa using(Option.some.inj this).symm
    have e2:its'.toArray[j]=u2:=by
     have:=List.getElem?_eq_getElem g2'
     rw[hu2] at this
     simpa using(Option.some.inj this).symm
    rw[e1,e2]
    have d1:xs.getD j .non=xs[j]'(by lia):=by rw[List.getD_eq_getElem?_getD,x1];rfl
    have d2:ys.getD j .non=ys[j]'(by lia):=by rw[List.getD_eq_getElem?_getD,y1];rfl
    rw[d1,d2]
    exact dh ru1 ru2 (List.all_eq_true.mp fx _ (List.getElem_mem _)) (List.all_eq_true.mp fy _ (List.getElem_mem _))
   have e3:its.toArray.size=xs.length:=by simp [l1]
   have e4:its'.toArray.size=ys.length:=by simp [l2]
   rw[e3,e4,V3] at q
   exact .of_refs hac q
 | @nt a xs ha=>
  cases rx
  cases ry
  obtain⟨its,r1,p1,z1⟩:=I.tuple ha
  exact SeqAt.EqAt.none_tuple (show s.heap.IsTuple a its.toArray from p1) (by lia)
 | @tn a xs ha=>
  cases rx
  cases ry
  obtain⟨its,r1,p1,z1⟩:=I.tuple ha
  exact SeqAt.EqAt.tuple_none (show s.heap.IsTuple a its.toArray from p1) (by lia)
end
inductive EqH (K:PySem.W.Frag) (H:Hp) (kb:List (j6×V)):List (j6×V)→Bool→Prop
 |nil:EqH K H kb [] true
 |miss {k:j6} {v:V} {r:List (j6×V)}:D0 kb k=none→EqH K H kb ((k,v)::r) false
 |hit {k:j6} {v y:V} {r:List (j6×V)} {e b:Bool}:D0 kb k=some y→Eq1 K H v y e→EqH K H kb r b→EqH K H kb ((k,v)::r) (e&&b)
def EqD (K:PySem.W.Frag)(H:Hp)(a b:Addr)(r:Bool):Prop:=(a=b∧r=true)∨(a≠b∧∃ka kb r0,Rd H a (.dK ka)∧Rd H b (.dK kb)∧EqH K H kb ka r0∧r=(ka.length==kb.length&&r0))
section
variable {X:Cx} {pins:List (Addr×Obj)} {σ:St} {H:Hp} {s:Shared} {A:Around}
theorem EqH.hits {kb:List (j6×V)}{vb:List (j6×Value)}(I:Inv X pins σ H s)(hu:A.units+8<cLine)(rb:KV kb vb){ka:List (j6×V)}{r:Bool}(h:EqH X.K H kb ka r):∀{va:List (j6×Value)},KV ka va→PySem.W.KeqHits A s vb va r:=by
 induction h with
 |nil=>
  intro va t
  cases t
  exact .nil
 | @miss k v r hn=>
  intro va t
  cases t with
  | @cons _ q _ l e t=>
   obtain⟨k',u⟩:=q
   have ek':k=k':=e.1
   subst ek'
   refine .miss ?_
   have z:=KV.val rb k
   rw[hn] at z
   cases e:valueAt vb k with
   |none=>rfl
   |some y=>rw[e] at z;exact False.elim z
 | @hit k v y r e b hy h1 hr ih=>
  intro va t
  cases t with
  | @cons _ q _ l e t=>
   obtain⟨k',u⟩:=q
   have ek':k=k':=e.1
   subst ek'
   have z:=KV.val rb k
   rw[hy] at z
   cases e5:valueAt vb k with
   |none=>rw[e5] at z;exact False.elim z
   |some y'=>
    rw[e5] at z
    exact .hit e5 (h1.at_ I e.2 z hu) (ih t)
theorem EqD.at_ {a b:Addr}{r:Bool}(I:Inv X pins σ H s)(h:EqD X.K H a b r)(hu:A.units+16<cLine):EqP X.prog X.w A s (.ref a) (.ref b) r:=by
 rcases h with⟨rfl,rfl⟩|⟨hne,ka,kb,r0,h1,h2,h3,rfl⟩
 ·exact .of (SeqAt.EqAt.same _)
 ·obtain⟨z1,d1,va,ra,da⟩:=R7 I.hok h1
  obtain⟨z2,d2,vb,rb,db⟩:=R7 I.hok h2
  refine .refs hne fun E Q q=>?_
  have l1:=KV.length ra
  have l2:=KV.length rb
  exact PySem.W.keq_eq (knd:=q8 X.prog X.w) d1 d2 da db (by lia) (fun _=>h3.hits (A:=A.in1) I (by show A.units+1+8<_;lia) rb ra) (by rw[←l1,←l2];exact q)
def Bt (K:PySem.W.Frag):R2:=fun x y H Q=>∃a b p q p' q' r r',x= .ref a∧y= .ref b∧SqT K H a [.ref p,.ref q]∧SqT K H b [.ref p',.ref q']∧EqD K H p p' r∧EqD K H q q' r'∧Q (.bl (r&&r')) H
theorem yn (hu:X.A.units+64<cLine):OpR X (compareOp .Eq) (Bt X.K):=by
 intro pins s σ H x y v u Q I rx ry h
 obtain⟨a,b,p,q,p',q',r,r',rfl,rfl,ha,hb,h1,h2,k⟩:=h
 cases rx
 cases ry
 obtain⟨its,v1,t1,_⟩:=I.tuple ha
 obtain⟨its',v2,t2,_⟩:=I.tuple hb
 obtain⟨_,_,rfl,e1,e2⟩:=fP v1
 obtain⟨_,_,rfl,e3,e4⟩:=fP v2
 cases e1
 cases e2
 cases e3
 cases e4
 refine RcP.tup (P:=X.prog) (w:=X.w) (f:=fun j=>if j=0 then r else r') (show s.heap.IsTuple a _ from t1) (show s.heap.IsTuple b _ from t2) (by lia) (fun j g1 g2=>?_) _ _ ⟨.bl (r&&r'),H,I,by show Value.bool _=Value.bool _;simp [List.range_succ],k⟩
 have g:j<2:=by simpa using g1
 match j,g with
 |0,_=>exact h1.at_ I (by show X.A.units+1+16<_;lia)
 |1,_=>exact h2.at_ I (by show X.A.units+1+16<_;lia)
def Bp (K:PySem.W.Frag):R2:=fun x y H Q=>∃a b xs ys,x= .ref a∧y= .ref b∧SqL K H a xs∧SqL K H b ys∧xs.all E8=true∧ys.all E8=true∧Q (.bl (Z6 xs ys)) H
theorem hZ:∀{xs ys:List V},xs.length≠ys.length→Z6 xs ys=false
 |[],[],h=>absurd rfl h
 |[],_::_,_=>rfl
 |_::_,[],_=>rfl
 |x::xs,y::ys,h=>by
  show(gs x y&&Z6 xs ys)=false
  rw[hZ (by simpa using h),Bool.and_false]
theorem yM (hu:X.A.units+64<cLine):OpR X (compareOp .Eq) (Bp X.K):=by
 intro pins s σ H x y v u Q I rx ry h
 obtain⟨a,b,xs,ys,rfl,rfl,ha,hb,fx,fy,k⟩:=h
 cases rx
 cases ry
 obtain⟨its,r1,p1,z1⟩:=I.list ha
 obtain⟨its',r2,p2,z2⟩:=I.list hb
 have l1:=r1.length
 have l2:=r2.length
 have e3:its.toArray.size=xs.length:=by simp [l1]
 have e4:its'.toArray.size=ys.length:=by simp [l2]
 by_cases hl:xs.length=ys.length
 ·have q:=SeqAt.RcAt.lists (A:=X.A) (e:=fun j=>gs (xs.getD j .non) (ys.getD j .non)) p1.isList p2.isList (by rw[e3,e4];exact hl) (by lia) fun j g1 g2=>by
   have g1':j<its.length:=by simpa using g1
   have g2':j<its'.length:=by simpa using g2
   have x1:xs[j]?=some (xs[j]'(by lia)):=by simp [show j<xs.length by lia]
   have y1:ys[j]?=some (ys[j]'(by lia)):=by simp [show j<ys.length by lia]
   obtain⟨u1,hu1,ru1⟩:=r1.get x1
   obtain⟨u2,hu2,ru2⟩:=r2.get y1
   have e1:its.toArray[j]=u1:=by
    have:=List.getElem?_eq_getElem g1'
    rw[hu1] at this
    simpa using(Option.some.inj this).symm
   have e2:its'.toArray[j]=u2:=by
    have:=List.getElem?_eq_getElem g2'
    rw[hu2] at this
    simpa using(Option.some.inj this).symm
   rw[e1,e2]
   have d1:xs.getD j .non=xs[j]'(by lia):=by rw[List.getD_eq_getElem?_getD,x1];rfl
   have d2:ys.getD j .non=ys[j]'(by lia):=by rw[List.getD_eq_getElem?_getD,y1];rfl
   rw[d1,d2]
   exact dh ru1 ru2 (List.all_eq_true.mp fx _ (List.getElem_mem _)) (List.all_eq_true.mp fy _ (List.getElem_mem _))
  have e5:=V3 xs ys
  rw[hl,Nat.min_self,beq_self_eq_true,Bool.and_true] at e5
  rw[e3,hl,e5] at q
  exact q X.prog X.w _ _ ⟨.bl _,H,I,rfl,k⟩
 ·refine SeqAt.RcAt.lists_lengths (A:=X.A) p1.isList p2.isList (by rw[e3,e4];simpa using hl) (by lia) X.prog X.w _ _ ⟨.bl _,H,I,?_,k⟩
  rw[hZ hl];rfl
def AN (K:PySem.W.Frag):R2:=fun x y H Q=>(∃a b xs ys,x= .ref a∧y= .ref b∧SqT K H a xs∧SqT K H b ys∧xs.all E8=true∧ys.all E8=true∧Q (.bl (Z6 xs ys)) H)∨(∃a xs,x= .non∧y= .ref a∧SqT K H a xs∧Q (.bl false) H)
theorem yS (hu:X.A.units+64<cLine):OpR X (compareOp .Eq) (AN X.K):=by
 intro pins s σ H x y v u Q I rx ry h
 rcases h with⟨a,b,xs,ys,rfl,rfl,ha,hb,fx,fy,k⟩|⟨a,xs,rfl,rfl,ha,k⟩
 ·cases rx
  cases ry
  obtain⟨its,r1,p1,z1⟩:=I.tuple ha
  obtain⟨its',r2,p2,z2⟩:=I.tuple hb
  have l1:=r1.length
  have l2:=r2.length
  have q:=SeqAt.RcAt.tuples (A:=X.A) (e:=fun j=>gs (xs.getD j .non) (ys.getD j .non)) (show s.heap.IsTuple a its.toArray from p1) (show s.heap.IsTuple b its'.toArray from p2) (by lia) fun j g1 g2=>by
   have g1':j<its.length:=by simpa using g1
   have g2':j<its'.length:=by simpa using g2
   have x1:xs[j]?=some (xs[j]'(by lia)):=by simp [show j<xs.length by lia]
   have y1:ys[j]?=some (ys[j]'(by lia)):=by simp [show j<ys.length by lia]
   obtain⟨u1,hu1,ru1⟩:=r1.get x1
   obtain⟨u2,hu2,ru2⟩:=r2.get y1
   have e1:its.toArray[j]=u1:=by
    have:=List.getElem?_eq_getElem g1'
    rw[hu1] at this
    simpa using(Option.some.inj this).symm
   have e2:its'.toArray[j]=u2:=by
    have:=List.getElem?_eq_getElem g2'
    rw[hu2] at this
    simpa using(Option.some.inj this).symm
   rw[e1,e2]
   have d1:xs.getD j .non=xs[j]'(by lia):=by rw[List.getD_eq_getElem?_getD,x1];rfl
   have d2:ys.getD j .non=ys[j]'(by lia):=by rw[List.getD_eq_getElem?_getD,y1];rfl
   rw[d1,d2]
   exact dh ru1 ru2 (List.all_eq_true.mp fx _ (List.getElem_mem _)) (List.all_eq_true.mp fy _ (List.getElem_mem _))
  have e3:its.toArray.size=xs.length:=by simp [l1]
  have e4:its'.toArray.size=ys.length:=by simp [l2]
  rw[e3,e4,V3] at q
  exact q X.prog X.w _ _ ⟨.bl _,H,I,rfl,k⟩
 ·cases rx
  cases ry
  obtain⟨its,r1,p1,z1⟩:=I.tuple ha
  exact SeqAt.RcAt.none_tuple (A:=X.A) (show s.heap.IsTuple a its.toArray from p1) (by lia) X.prog X.w _ _ ⟨.bl false,H,I,rfl,k⟩
def gZ (K:PySem.W.Frag):R2:=fun x y H Q=>Cr x y H Q∨Bp K x y H Q∨AN K x y H Q∨Bt K x y H Q
theorem DT (K:PySem.W.Frag){k:Nat}(hr:Room k X.A)(h:X.K=K:=by rfl):OpR X (compareOp .Eq) (gZ K):=h▸op_eq.or ((yM hr.units).or ((yS hr.units).or (yn hr.units)))
end
section
variable {K:PySem.W.Frag} {H:Hp} {Q:VK}
theorem sP {i j:Int}(q:Q (.bl (decide (i=j))) H):gZ K (.int i) (.int j) H Q:= .inl (kO q)
theorem uG {i j:Str}(q:Q (.bl (decide (i=j))) H):gZ K (.str i) (.str j) H Q:= .inl (lO q)
theorem lX {a b:Addr}{xs ys:List V}(ha:SqL K H a xs)(hb:SqL K H b ys)(fx:xs.all E8=true)(fy:ys.all E8=true)(q:Q (.bl (Z6 xs ys)) H):gZ K (.ref a) (.ref b) H Q:= .inr (.inl ⟨a,b,xs,ys,rfl,rfl,ha,hb,fx,fy,q⟩)
theorem uk {a b:Addr}{xs ys:List V}(ha:SqT K H a xs)(hb:SqT K H b ys)(fx:xs.all E8=true)(fy:ys.all E8=true)(q:Q (.bl (Z6 xs ys)) H):gZ K (.ref a) (.ref b) H Q:= .inr (.inr (.inl (.inl ⟨a,b,xs,ys,rfl,rfl,ha,hb,fx,fy,q⟩)))
theorem uv {a b p q p' q':Addr}{r r':Bool}(ha:SqT K H a [.ref p,.ref q])(hb:SqT K H b [.ref p',.ref q'])(h1:EqD K H p p' r)(h2:EqD K H q q' r')(k:Q (.bl (r&&r')) H):gZ K (.ref a) (.ref b) H Q:= .inr (.inr (.inr ⟨a,b,p,q,p',q',r,r',rfl,rfl,ha,hb,h1,h2,k⟩))
end
end L2
set_option Elab.async false
set_option linter.all false
set_option maxRecDepth 100000
set_option maxHeartbeats 4000000
namespace L2
open PySem PySem.Spec PyProof.Rows
section
variable {K:PySem.W.Frag} {σ:St} {H H' H1:Hp} {Q:VK} {d:Addr} {kvs:List (j6×V)} {o:Obj}
theorem kU {i j:Int}(q:Q (.bl (!decide (i=j))) H):CC (.int i) (.int j) H Q:=⟨rfl,by rw[gq];rw[show(i==j)=decide (i=j) from Bool.beq_eq_decide_eq i j];exact q⟩
theorem Dg {r:V→Hp→VK→Prop}{ta:TE}(q:ta σ H fun x H1=>r x H1 Q):Di r ta σ H Q:=q
theorem BK {i:Int}(q:Q (.int (-i)) H):rU (fun i=> .int (-i)) (.int i) H Q:=⟨i,rfl,q⟩
def nf:HO→Bool
 | .frz _ _=>false
 |_=>true
def Le (H H':Hp):Prop:=∀a u,nf u=true→Rd H a u→Rd H' a u
theorem Le.trans (a:Le H H1)(b:Le H1 H'):Le H H':=fun x u n h=>b x u n (a x u n h)
theorem Same.le (s:Same H H'):Le H H':=fun a u _ h=>s.rd h
theorem aE (h:H d=some (.dK kvs)):Le H (K1 d o kvs H):=fun a u n r=>by
 by_cases e:a=d
 ·subst e
  rcases r with r|⟨o',r⟩
  ·rw[h] at r;cases r
   exact .inr ⟨o,g7⟩
  ·rw[h] at r;cases r
 ·unfold K1 Rd
  rw[d6 e];exact r
theorem xq:Le H (thaw d H):=fun a u n r=>by
 by_cases e:a=d
 ·subst e
  rcases r with r|⟨o',r⟩
  ·rw[oM fun o v z=>by rw[r] at z;cases z;cases n];exact .inl r
  ·exact .inl (jB r)
 ·unfold Rd
  rw[X4 e];exact r
theorem Le.tup {a:Addr}{xs:List V}(l:Le H H')(h:SqT K H a xs):SqT K H' a xs:=by
 rcases h with h|h
 ·exact .inl (l _ _ rfl h)
 ·exact .inr h
theorem Le.dic {a:Addr}(l:Le H H')(h:Rd H a (.dK kvs)):Rd H' a (.dK kvs):=l _ _ rfl h
abbrev M7:=Str×Str×Str
structure G8 where
 pts:List (Str×Str)
 ts:List (Str×M7)
def J6 (pts:List (Str×Str)):List (j6×V):=pts.map fun x=>(Sum.inr x.1,.str x.2)
def bX (t:M7):List V:=[.str t.1,.str t.2.1,.str t.2.2]
def TieAt (K:PySem.W.Frag)(H:Hp)(kv:j6×V)(x:Str×M7):Prop:=kv.1=Sum.inr x.1∧∃a,kv.2= .ref a∧SqT K H a (bX x.2)
def TiesIs (K:PySem.W.Frag)(H:Hp)(kvs:List (j6×V))(ts:List (Str×M7)):Prop:=Paired (TieAt K H) kvs ts
structure WebAt (K:PySem.W.Frag) (H:Hp) (a p q:Addr) (kvs:List (j6×V)) (W:G8):Prop where
 tup:SqT K H a [.ref p,.ref q]
 pts:Rd H p (.dK (J6 W.pts))
 ties:Rd H q (.dK kvs)
 ts:TiesIs K H kvs W.ts
theorem TieAt.mono {kv:j6×V}{x:Str×M7}(l:Le H H')(h:TieAt K H kv x):TieAt K H' kv x:=let ⟨e,a,ea,s⟩:=h;⟨e,a,ea,l.tup s⟩
theorem TiesIs.mono {ts:List (Str×M7)}(l:Le H H')(h:TiesIs K H kvs ts):TiesIs K H' kvs ts:=Paired.imp' (fun _ _ z=>z.mono l) h
theorem WebAt.mono {a p q:Addr}{W:G8}(l:Le H H')(h:WebAt K H a p q kvs W):WebAt K H' a p q kvs W:=⟨l.tup h.tup,l.dic h.pts,l.dic h.ties,h.ts.mono l⟩
theorem TiesIs.length {ts:List (Str×M7)}(h:TiesIs K H kvs ts):kvs.length=ts.length:=Paired.length h
theorem TiesIs.keys {ts:List (Str×M7)}(h:TiesIs K H kvs ts):kvs.map (·.1)=ts.map fun x=>Sum.inr x.1:=by
 unfold TiesIs at h
 induction h with
 |nil=>rfl
 |cons r _ ih=>rw[List.map_cons,List.map_cons,ih,r.1]
theorem TiesIs.get {ts:List (Str×M7)}{i:Nat}{kv:j6×V}(h:TiesIs K H kvs ts)(e:kvs[i]?=some kv):∃x,ts[i]?=some x∧TieAt K H kv x:=B8 h e
theorem TiesIs.val {ts:List (Str×M7)}{n:Str}:∀{kvs:List (j6×V)} {ts:List (Str×M7)},TiesIs K H kvs ts→n∈ts.map (·.1)→∃a x,D0 kvs (Sum.inr n:j6)=some (.ref a)∧(n,x)∈ts∧SqT K H a (bX x)
 |_,_,.nil,h=>by simp at h
 |kv::r,x::ts,.cons t u,h=>by
  obtain⟨e,a,ea,s⟩:=t
  by_cases hn:x.1=n
  ·subst hn
   refine⟨a,x.2,?_,List.mem_cons_self,s⟩
   rw[aQ e,ea]
  ·have h':n∈ts.map (·.1):=by
    rcases List.mem_cons.mp h with z|z
    ·exact absurd z.symm hn
    ·exact z
   obtain⟨b,y,h1,h2,h3⟩:=TiesIs.val (ts:=ts) u h'
   refine⟨b,y,?_,List.mem_cons_of_mem _ h2,h3⟩
   rw[aU (by rw[e];intro z;exact hn (Sum.inr.inj z))]
   exact h1
theorem R9 (pts:List (Str×Str)):(J6 pts).map (·.1)=pts.map fun x=>Sum.inr x.1:=by
 unfold J6
 rw[List.map_map];rfl
def lt (a b:Str):Bool:=decide (a.cps.toList<b.cps.toList)
end
theorem zW (xs:List V)(n:Nat):V9 xs none (some (n:Int))=xs.take n:=by
 unfold V9
 have e1:HT.sIx xs.length 0 none=0:=rfl
 have e2:HT.sIx xs.length xs.length (some (n:Int))=min n xs.length:=HT.sIx_nat _ _ _
 rw[e1,e2,List.drop_zero,Nat.sub_zero,List.take_eq_take_min]
 simp
end L2
set_option Elab.async false
set_option linter.all false
set_option maxRecDepth 100000
set_option maxHeartbeats 4000000
namespace L2
open PySem PySem.Spec PyProof.Rows
theorem Inv.off {X:Cx}{pins:List (Addr×Obj)}{σ:St}{H:Hp}{s:Shared}{C:Addr}{h':Heap}(I:Inv X pins σ H s)(hH:H C=none)(h0:X.s₀.heap.objs.size≤C)(h1:C≠X.env.locals)(h2:∀x c,X.env.cells.lookup x=some c→c≠C)(h3:∀p∈X.pn++pins,p.1≠C)(sb:Heap.SameBut C s.heap h'):Inv X pins σ H {s with heap:=h'}:=by
 refine I.call' (s':={s with heap:=h'}) (ch:=[C]) rfl ?_ ?_ I.bare fun b hb=>?_
 ·have same:∀b,b∉[C]→h'.get? b=s.heap.get? b:=fun b hb=>sb.2 b fun z=>hb (by rw[z];exact List.mem_cons_self)
  refine⟨fun b o q n hb hx=>?_,fun b o q n hb hx=>?_,fun b o q n hx=>n,fun b o q hx=>?_,fun b xs q=>q,fun b o u q=>q,fun b ps q=>⟨#[],by rw[Array.append_empty];exact q⟩⟩
  ·show h'.get? b=_
   rw[same b hx];exact q
  ·exact⟨o.slots,(same b hx).trans q⟩
  ·exact⟨o,(same b hx).trans q⟩
 ·refine fun b ob e=>(I.hok b ob e).stay (fun c w' hc q=>(sb.2 c ?_).trans q) (fun _ q=>q) fun _ _ q=>q
  rintro rfl
  rcases hc with rfl|hc
  ·rw[hH] at e;cases e
  ·rw[hH] at hc;cases hc
 ·rw[List.mem_singleton.mp hb]
  exact⟨.inr h0,h1,h2,h3⟩
theorem nU {X:Cx}{own:List Str}{js:List Nat}{scope:Scope}{tg iter elt:Expr}{ifs:List Expr}{pos spos py:Pos}{g:TG}{ti:TT}{te:TE}{wi:jm}{i:Nat}{y:Str}(hN:X.N.Nodup)(hy:X.N[i]?=some y)(hl:vp X.env.scope y)(S:vk X own js scope=true)(hc:X.calm=true)(hit:rN X tg iter wi)
  (hg:∀C s H fp,PG (R8 X own js scope C s H fp) tg g) (hi:∀C s H fp,iE (R8 X own js scope C s H fp) ifs ti) (he:∀C s H fp,PE (R8 X own js scope C s H fp) elt te)
  (hsw:swapsWith (.ListComp elt [⟨tg,iter,ifs,0⟩] scope pos) (some (.Name y py)) spos.line X.env=pure true)
  (hf:X.fn y=true∨X.env.scope.names.lookup y=some .local)
  (hs:∀x,foldedSetIterable iter X.env x=pure x):
  PS X (.Assign [.Name y py] (.ListComp elt [⟨tg,iter,ifs,0⟩] scope pos) spos) (iQ (bj own js wi g ti te) (Y9 i)):=by
 have SB:=kr S
 intro pins s σ H D I h
 rw[exec_Assign_Name_used _ _ _ _ hsw]
 refine wpAny_bind (wpAny_standAt (wpAny_bind ?_))
 show wpAny _ X.A (do let _←comprehension (.ListComp elt [⟨tg,iter,ifs,0⟩] scope pos) scope X.env _ (newList []) false (eval iter X.env) (some (assign (.Name y py) X.env))) _ _ s
 refine wpAny_bind (wpAny_mono (wpAny_comprehension_free (use:=some (assign (.Name y py) X.env)) (Q:=fun _ s'=>SP X pins D .next s') rfl hs (bL (SB.cells I)) SB.kind SB.names (K6 (hit pins s σ H _ I h) fun v s1 h1=>K6 h1 fun itv s2 h2=>?_)) (fun _ s' hq=>wpAny_pure (wpAny_pure hq)) fun _ _ e=>e)
 obtain⟨it,fp,tn,J,H2,e,I2,T,st2,f2,th,hth,W,⟨m0,w0⟩,turn⟩:=h2
 subst e
 refine wpAny_newObj_type (wpAny_newFunctionEnv SB.nocell (by intro y hy;simp at hy) (fun h₁ hns₁ hsb₁=>?_) SB.kind)
 dsimp only at hns₁ hsb₁⊢
 generalize hH2:s2.heap.push {cls:= .type "list",dict:=none,data:= .seq ([]:List Value).toArray}=G2 at hns₁ hsb₁⊢
 have hCs:G2.objs.size=s2.heap.objs.size+1:=by rw[←hH2,Heap.size_push]
 have hDC:s2.heap.objs.size≠G2.objs.size:=by rw[hCs];exact Nat.ne_of_lt (Nat.lt_succ_self _)
 have hC:s2.heap.objs.size≤G2.objs.size:=by rw[hCs];exact Nat.le_succ _
 have old:∀b o,s2.heap.get? b=some o→h₁.get? b=some o:=fun b o e=>
  hsb₁.extBut b o (Nat.ne_of_lt (Nat.lt_of_lt_of_le (Heap.lt_size e) hC)) (Heap.get?_push_of_some _ (hH2▸Heap.get?_push_of_some _ e))
 have off:∀b o,s2.heap.get? b=some o→b≠G2.objs.size:=fun b o e=>Nat.ne_of_lt (Nat.lt_of_lt_of_le (Heap.lt_size e) hC)
 have hob:∀b∈fp,∃o,s2.heap.get? b=some o:=fun b hb=>let ⟨o,e,_⟩:=T.obj _ _ st2 b hb;⟨o,e⟩
 have hacc:h₁.get? s2.heap.objs.size=some {cls:= .type "list",data:= .seq ([]:List Value).toArray}:=
  hsb₁.extBut _ _ hDC (Heap.get?_push_of_some _ (hH2▸Heap.get?_push_size _ rfl))
 have loop:∀s3:Shared,s3={s2 with heap:=h₁,toks:=s2.toks+([]:List (Str×Value)).length}→
   codeAny (model X.prog X.w) X.A (.compLoop (.ListComp elt [⟨tg,iter,ifs,0⟩] scope pos) 0 (.ref it) (.ref s2.heap.objs.size) (compEnvC scope (aZ scope X.env) G2.objs.size X.env))
    (compPost (model X.prog X.w) X.A X.xe (some (assign (.Name y py) X.env)) (fun _ s'=>SP X pins D .next s') (.ref s2.heap.objs.size) G2.objs.size) s3:=by
  rintro s3 rfl
  refine jd (K:=fun out H'=>Y9 i (.ref s2.heap.objs.size) σ (th (A5 H' s2.heap.objs.size (.lst out))) D.nx) SB hc T I2 f2 (Nat.le_refl _) hC hDC hob (hg _ _ _ _) (hi _ _ _ _) (he _ _ _ _) W (fun i m out H' w=>?_) (fun out H' s' B hl' k=>?_) w0
   ⟨Inv.block SB I2 f2 hob hC hns₁ old,I2.hok.fresh (Nat.le_refl _),[],_,.nil,hacc⟩ (T.keep _ _ _ st2 fun b _ o e=>old b o e) (fun b hb=>(f2 b hb).1)
  ·rcases turn i m out H' w with⟨a,b⟩|c
   ·exact .inl ⟨a,fun n=>b _ n⟩
   ·exact .inr c
  ·obtain⟨mm,hn,_⟩:=B.inv.loc
   have hHC:H' G2.objs.size=none:=B.inv.free
   have IJ:=B.out I2 f2 (Nat.le_refl _) hC hDC hl' (h':=s'.heap) (Heap.SameBut.refl _ _)
   show wpAny _ X.A (assign (.Name y py) X.env (.ref s2.heap.objs.size)) _ _ s'
   refine wpAny_assign_Name (eZ IJ hN hy hl (v:= .ref s2.heap.objs.size) rfl (fun s'' I'' hx=>?_) hf)
   obtain⟨a,sa,ha⟩:=hx
   have haC:G2.objs.size≠a:=by
    rcases ha with rfl|ha
    ·exact Ne.symm (Nat.ne_of_lt (Nat.lt_of_lt_of_le I2.lt hC))
    ·obtain⟨_,o,ho,_⟩:=I2.cell _ _ ha
     exact Ne.symm (off _ _ ho)
   refine⟨mm,hn.sameBut sa haC,fun h' sb=>⟨_,_,hth _ _ _ _ (I''.off (by rw[d6 (Ne.symm hDC)];exact hHC) (Nat.le_trans I2.sz hC) (Ne.symm (Nat.ne_of_lt (Nat.lt_of_lt_of_le I2.lt hC))) (fun x c e=>?_) (fun p hp=>off _ _ (I2.pin p hp).1) sb),k⟩⟩
   obtain⟨_,o,ho,_⟩:=I2.cell _ _ e
   exact off _ _ ho
 exact codeAny_compStart_list (loop _ rfl) (T.self _ 0 _ _ _ (T.keep _ _ _ st2 fun b _ o e=>old b o e) (loop _ rfl))
theorem gJ {X:Cx}{own:List Str}{js:List Nat}{scope:Scope}{tg iter elt:Expr}{ifs:List Expr}{pos spos py:Pos}{g:TG}{ti:TT}{te:TE}{wi:jm}{i:Nat}{y:Str}(hN:X.N.Nodup)(hy:X.N[i]?=some y)(hl:vp X.env.scope y)(S:vk X own js scope=true)(hc:X.calm=true)(hit:QI X tg iter wi)
  (hg:∀C s H fp,QG (R8 X own js scope C s H fp) tg g) (hi:∀C s H fp,Ah (R8 X own js scope C s H fp) ifs ti) (he:∀C s H fp,QE (R8 X own js scope C s H fp) elt te)
  (hsw:swapsWith (.ListComp elt [⟨tg,iter,ifs,0⟩] scope pos) (some (.Name y py)) spos.line X.env=pure true:=by rfl)
  (hf:X.fn y=true∨X.env.scope.names.lookup y=some .local:=by first|exact .inl rfl|exact .inr rfl)
  (hs:∀x,foldedSetIterable iter X.env x=pure x:=by intro _;rfl):QS X (.Assign [.Name y py] (.ListComp elt [⟨tg,iter,ifs,0⟩] scope pos) spos) (iQ (bj own js wi g ti te) (Y9 i)):=
 ⟨nU hN hy hl S hc hit.r (fun C s H fp=>(hg C s H fp).r) (fun C s H fp=>(hi C s H fp).r) (fun C s H fp=>(he C s H fp).r) hsw hf hs⟩
end L2
set_option Elab.async false
set_option linter.all false
set_option maxRecDepth 100000
set_option maxHeartbeats 4000000
namespace L2
open PySem PySem.Spec PyProof.Rows
open PySem.AutoSeq1 (wpAny_loadPart')
def NcP (P:Program)(w:World)(A:Around)(s:Shared)(y x:Value)(b:Bool):Prop:=∀(E:Value→Shared→Prop) (Q:Value→Shared→Prop),Q (.bool b) s→wpAny (model P w) A (richCompare .NotEq y x) Q E s
theorem zQ {P:Program}{w:World}(l m:Addr)(xs ys:Array Value)(n1 n2:Nat)(d1 d2:Option Addr)(s1 s2:Array (Option Value))(f:Nat→Bool):
  MeetsIn P w (Builtin.«tuple.__ne__» ⟨[.ref l,.ref m],[]⟩) (fun A R s=>
   s.heap.get? l=some {cls:= .type "tuple",dict:=d1,data:= .seq xs n1,slots:=s1}∧s.heap.get? m=some {cls:= .type "tuple",dict:=d2,data:= .seq ys n2,slots:=s2}∧
   (∀j (g1:j<xs.size) (g2:j<ys.size),EqP P w A.in1 s xs[j] ys[j] (f j))∧
   R (.ok (.ret (.bool (!((List.range (min xs.size ys.size)).all f&&xs.size==ys.size))))) s):=
 .of_wp fun A R s hyp=>by
  obtain⟨hp,gg,dr,tk,os⟩:=s
  obtain⟨e1,e2,he,fin⟩:=hyp
  have sub:=AutoSeq1.sub_tuple_tuple
  have len:(xs.toList.zip ys.toList).length=min xs.size ys.size:=by simp
  wp_walk using wpAny_loadPart' e1,wpAny_loadPart' e2,wpAny_forIn_list _ (fun more acc st=>acc.1=none∧st=⟨hp,gg,dr,tk,os⟩∧∃i,more=(xs.toList.zip ys.toList).drop i∧
   R (.ok (.ret (.bool (!(((List.range (min xs.size ys.size)).drop i).all f&&xs.size==ys.size))))) ⟨hp,gg,dr,tk,os⟩) _
  case turn=>
   rintro⟨y,x⟩ more acc st ⟨ha,rfl,i,hi,hR⟩
   have lt:i<(xs.toList.zip ys.toList).length:=by
    rcases Nat.lt_or_ge i (xs.toList.zip ys.toList).length with z|z
    ·exact z
    ·rw[List.drop_of_length_le z] at hi
     cases hi
   have lm:i<min xs.size ys.size:=len▸lt
   have lx:i<xs.size:=Nat.lt_of_lt_of_le lm (Nat.min_le_left _ _)
   have ly:i<ys.size:=Nat.lt_of_lt_of_le lm (Nat.min_le_right _ _)
   rw[List.drop_eq_getElem_cons lt] at hi
   injection hi with h1 h2
   have q1:y=xs[i]:=by simpa using congrArg Prod.fst h1
   have q2:x=ys[i]:=by simpa using congrArg Prod.snd h1
   subst q1 q2
   have dr1:(List.range (min xs.size ys.size)).drop i=i::(List.range (min xs.size ys.size)).drop (i+1):=by simp [List.drop_eq_getElem_cons,lm]
   rw[dr1,List.all_cons] at hR
   refine wpAny_bind (he i lx ly _ _ ?_)
   cases hf:f i with
   |true=>
    rw[hf] at hR
    wp_walk
    exact⟨rfl,rfl,i+1,h2,by simpa using hR⟩
   |false=>
    rw[hf] at hR
    wp_walk
    exact⟨_,rfl,by simpa using hR⟩
  case fin=>
   rintro⟨c1,c2⟩ st ⟨ha,rfl,i,hi,hR⟩
   simp only at ha
   subst ha
   have ge:min xs.size ys.size≤i:=by
    rcases Nat.lt_or_ge i (xs.toList.zip ys.toList).length with z|z
    ·rw[List.drop_eq_getElem_cons z] at hi
     cases hi
    ·exact len▸z
   rw[List.drop_of_length_le (by simpa using ge)] at hR
   wp_walk
   exact⟨_,rfl,by simpa [Builtin.Tuple.tupleCompareSizes,bne] using hR⟩
  case h=>
   exact⟨rfl,rfl,0,rfl,by simpa using fin⟩
theorem NcP.tup {P:Program}{w:World}{A:Around}{s:Shared}{l m:Addr}{xs ys:Array Value}{f:Nat→Bool}(hl:s.heap.IsTuple l xs)(hm:s.heap.IsTuple m ys)(hu:A.units<cLine)
  (he:∀j (g1:j<xs.size) (g2:j<ys.size),EqP P w A.in1 s xs[j] ys[j] (f j)):NcP P w A s (.ref l) (.ref m) (!((List.range (min xs.size ys.size)).all f&&xs.size==ys.size)):=fun E Q q=>by
 obtain⟨⟨c1,d1,a1,s1⟩,o1,k1,n1,t1⟩:=id hl
 obtain⟨⟨c2,d2,a2,s2⟩,o2,k2,n2,t2⟩:=id hm
 simp only at k1 t1 k2 t2
 subst k1 t1 k2 t2
 refine wpAny_richCompare_same_room (op:= .NotEq) ⟨_,o1,rfl⟩ ⟨_,o2,rfl⟩ PySem.F.slot_tuple_ne (call_meetsIn PySem.F.slot_tuple_ne ⟨_,o1,rfl⟩ PySem.F.entry_tuple_ne (PySem.F.args_tuple_ne_2 _ _) (zQ l m xs ys n1 n2 d1 d2 s1 s2 f) ⟨o1,o2,he,?_⟩) hu
 exact⟨(fun z=>nomatch z),q⟩
section
variable {X:Cx} {pins:List (Addr×Obj)} {σ:St} {H:Hp} {s:Shared} {A:Around}
def AJ (K:PySem.W.Frag):R2:=fun x y H Q=>∃a b p q p' q' r r',x= .ref a∧y= .ref b∧SqT K H a [.ref p,.ref q]∧SqT K H b [.ref p',.ref q']∧EqD K H p p' r∧EqD K H q q' r'∧Q (.bl (!(r&&r'))) H
theorem zZ (hu:X.A.units+64<cLine):OpR X (compareOp .NotEq) (AJ X.K):=by
 intro pins s σ H x y v u Q I rx ry h
 obtain⟨a,b,p,q,p',q',r,r',rfl,rfl,ha,hb,h1,h2,k⟩:=h
 cases rx
 cases ry
 obtain⟨its,v1,t1,_⟩:=I.tuple ha
 obtain⟨its',v2,t2,_⟩:=I.tuple hb
 obtain⟨_,_,rfl,e1,e2⟩:=fP v1
 obtain⟨_,_,rfl,e3,e4⟩:=fP v2
 cases e1
 cases e2
 cases e3
 cases e4
 refine NcP.tup (P:=X.prog) (w:=X.w) (f:=fun j=>if j=0 then r else r') (show s.heap.IsTuple a _ from t1) (show s.heap.IsTuple b _ from t2) (by lia) (fun j g1 g2=>?_) _ _ ⟨.bl (!(r&&r')),H,I,by show Value.bool _=Value.bool _;simp [List.range_succ],k⟩
 have g:j<2:=by simpa using g1
 match j,g with
 |0,_=>exact h1.at_ I (by show X.A.units+1+16<_;lia)
 |1,_=>exact h2.at_ I (by show X.A.units+1+16<_;lia)
def AH (K:PySem.W.Frag):R2:=fun x y H Q=>∃a b xs ys,x= .ref a∧y= .ref b∧SqL K H a xs∧SqL K H b ys∧xs.all E8=true∧ys.all E8=true∧Q (.bl (!Z6 xs ys)) H
theorem zu (hu:X.A.units+64<cLine):OpR X (compareOp .NotEq) (AH X.K):=by
 intro pins s σ H x y v u Q I rx ry h
 obtain⟨a,b,xs,ys,rfl,rfl,ha,hb,fx,fy,k⟩:=h
 cases rx
 cases ry
 obtain⟨its,r1,p1,z1⟩:=I.list ha
 obtain⟨its',r2,p2,z2⟩:=I.list hb
 have l1:=r1.length
 have l2:=r2.length
 have e3:its.toArray.size=xs.length:=by simp [l1]
 have e4:its'.toArray.size=ys.length:=by simp [l2]
 by_cases hl:xs.length=ys.length
 ·have q:=SeqAt.RcNeAt.lists (A:=X.A) (e:=fun j=>gs (xs.getD j .non) (ys.getD j .non)) p1.isList p2.isList (by rw[e3,e4];exact hl) (by lia) fun j g1 g2=>by
   have g1':j<its.length:=by simpa using g1
   have g2':j<its'.length:=by simpa using g2
   have x1:xs[j]?=some (xs[j]'(by lia)):=by simp [show j<xs.length by lia]
   have y1:ys[j]?=some (ys[j]'(by lia)):=by simp [show j<ys.length by lia]
   obtain⟨u1,hu1,ru1⟩:=r1.get x1
   obtain⟨u2,hu2,ru2⟩:=r2.get y1
   have e1:its.toArray[j]=u1:=by
    have:=List.getElem?_eq_getElem g1'
    rw[hu1] at this
    simpa using(Option.some.inj this).symm
   have e2:its'.toArray[j]=u2:=by
    have:=List.getElem?_eq_getElem g2'
    rw[hu2] at this
    simpa using(Option.some.inj this).symm
   rw[e1,e2]
   have d1:xs.getD j .non=xs[j]'(by lia):=by rw[List.getD_eq_getElem?_getD,x1];rfl
   have d2:ys.getD j .non=ys[j]'(by lia):=by rw[List.getD_eq_getElem?_getD,y1];rfl
   rw[d1,d2]
   exact dh ru1 ru2 (List.all_eq_true.mp fx _ (List.getElem_mem _)) (List.all_eq_true.mp fy _ (List.getElem_mem _))
  have e5:=V3 xs ys
  rw[hl,Nat.min_self,beq_self_eq_true,Bool.and_true] at e5
  rw[e3,hl,e5] at q
  exact q X.prog X.w _ _ ⟨.bl _,H,I,rfl,k⟩
 ·refine SeqAt.RcNeAt.lists_lengths (A:=X.A) p1.isList p2.isList (by rw[e3,e4];simpa using hl) (by lia) X.prog X.w _ _ ⟨.bl _,H,I,?_,k⟩
  rw[hZ hl];rfl
def BE (K:PySem.W.Frag):R2:=fun x y H Q=>(∃a b xs ys,x= .ref a∧y= .ref b∧SqT K H a xs∧SqT K H b ys∧xs.all E8=true∧ys.all E8=true∧Q (.bl (!Z6 xs ys)) H)∨(∃a xs,x= .non∧y= .ref a∧SqT K H a xs∧Q (.bl true) H)
theorem zq (hu:X.A.units+64<cLine):OpR X (compareOp .NotEq) (BE X.K):=by
 intro pins s σ H x y v u Q I rx ry h
 rcases h with⟨a,b,xs,ys,rfl,rfl,ha,hb,fx,fy,k⟩|⟨a,xs,rfl,rfl,ha,k⟩
 ·cases rx
  cases ry
  obtain⟨its,r1,p1,z1⟩:=I.tuple ha
  obtain⟨its',r2,p2,z2⟩:=I.tuple hb
  have l1:=r1.length
  have l2:=r2.length
  have q:=SeqAt.RcNeAt.tuples (A:=X.A) (e:=fun j=>gs (xs.getD j .non) (ys.getD j .non)) (show s.heap.IsTuple a its.toArray from p1) (show s.heap.IsTuple b its'.toArray from p2) (by lia) fun j g1 g2=>by
   have g1':j<its.length:=by simpa using g1
   have g2':j<its'.length:=by simpa using g2
   have x1:xs[j]?=some (xs[j]'(by lia)):=by simp [show j<xs.length by lia]
   have y1:ys[j]?=some (ys[j]'(by lia)):=by simp [show j<ys.length by lia]
   obtain⟨u1,hu1,ru1⟩:=r1.get x1
   obtain⟨u2,hu2,ru2⟩:=r2.get y1
   have e1:its.toArray[j]=u1:=by
    have:=List.getElem?_eq_getElem g1'
    rw[hu1] at this
    simpa using(Option.some.inj this).symm
   have e2:its'.toArray[j]=u2:=by
    have:=List.getElem?_eq_getElem g2'
    rw[hu2] at this
    simpa using(Option.some.inj this).symm
   rw[e1,e2]
   have d1:xs.getD j .non=xs[j]'(by lia):=by rw[List.getD_eq_getElem?_getD,x1];rfl
   have d2:ys.getD j .non=ys[j]'(by lia):=by rw[List.getD_eq_getElem?_getD,y1];rfl
   rw[d1,d2]
   exact dh ru1 ru2 (List.all_eq_true.mp fx _ (List.getElem_mem _)) (List.all_eq_true.mp fy _ (List.getElem_mem _))
  have e3:its.toArray.size=xs.length:=by simp [l1]
  have e4:its'.toArray.size=ys.length:=by simp [l2]
  rw[e3,e4,V3] at q
  exact q X.prog X.w _ _ ⟨.bl _,H,I,rfl,k⟩
 ·cases rx
  cases ry
  obtain⟨its,r1,p1,z1⟩:=I.tuple ha
  exact SeqAt.RcNeAt.none_tuple (A:=X.A) (show s.heap.IsTuple a its.toArray from p1) (by lia) X.prog X.w _ _ ⟨.bl true,H,I,rfl,k⟩
def xy (K:PySem.W.Frag):R2:=fun x y H Q=>∃a b ka kb r0,x= .ref a∧y= .ref b∧Rd H a (.dK ka)∧Rd H b (.dK kb)∧EqH K H kb ka r0∧Q (.bl (ka.length==kb.length&&r0)) H
def xY (K:PySem.W.Frag):R2:=fun x y H Q=>∃a b ka kb r0,x= .ref a∧y= .ref b∧Rd H a (.dK ka)∧Rd H b (.dK kb)∧EqH K H kb ka r0∧Q (.bl (!(ka.length==kb.length&&r0))) H
theorem vJ (hu:X.A.units+64<cLine):OpR X (compareOp .Eq) (xy X.K):=by
 intro pins s σ H x y v u Q I rx ry h
 obtain⟨a,b,ka,kb,r0,rfl,rfl,h1,h2,h3,k⟩:=h
 cases rx
 cases ry
 obtain⟨z1,d1,va,ra,da⟩:=R7 I.hok h1
 obtain⟨z2,d2,vb,rb,db⟩:=R7 I.hok h2
 have l1:=KV.length ra
 have l2:=KV.length rb
 exact PySem.W.keq_eq (knd:=q8 X.prog X.w) d1 d2 da db (by lia) (fun _=>h3.hits (A:=X.A.in1) I (by show X.A.units+1+8<_;lia) rb ra) ⟨.bl _,H,I,rfl,by rw[←l1,←l2];exact k⟩
theorem wW (hu:X.A.units+64<cLine):OpR X (compareOp .NotEq) (xY X.K):=by
 intro pins s σ H x y v u Q I rx ry h
 obtain⟨a,b,ka,kb,r0,rfl,rfl,h1,h2,h3,k⟩:=h
 cases rx
 cases ry
 obtain⟨z1,d1,va,ra,da⟩:=R7 I.hok h1
 obtain⟨z2,d2,vb,rb,db⟩:=R7 I.hok h2
 have l1:=KV.length ra
 have l2:=KV.length rb
 exact PySem.W.keq_ne (knd:=q8 X.prog X.w) d1 d2 da db (by lia) (fun _=>h3.hits (A:=X.A.in1) I (by show X.A.units+1+8<_;lia) rb ra) ⟨.bl _,H,I,rfl,by rw[←l1,←l2];exact k⟩
def zJ (K:PySem.W.Frag):R2:=fun x y H Q=>gZ K x y H Q∨xy K x y H Q
theorem CK (K:PySem.W.Frag){k:Nat}(hr:Room k X.A)(h:X.K=K:=by rfl):OpR X (compareOp .Eq) (zJ K):=(DT K hr h).or (h▸vJ hr.units)
def iN (K:PySem.W.Frag):R2:=fun x y H Q=>CC x y H Q∨AH K x y H Q∨BE K x y H Q∨AJ K x y H Q∨xY K x y H Q
theorem DS (K:PySem.W.Frag){k:Nat}(hr:Room k X.A)(h:X.K=K:=by rfl):OpR X (compareOp .NotEq) (iN K):=h▸op_ne.or ((zu hr.units).or ((zq hr.units).or ((zZ hr.units).or (wW hr.units))))
end
section
variable {K:PySem.W.Frag} {H:Hp} {Q:VK}
theorem CS {x y:V}(q:gZ K x y H Q):zJ K x y H Q:= .inl q
theorem lj {i j:Int}(q:Q (.bl (!decide (i=j))) H):iN K (.int i) (.int j) H Q:= .inl (kU q)
theorem kQ {i j:Str}(q:Q (.bl (!decide (i=j))) H):iN K (.str i) (.str j) H Q:= .inl ⟨rfl,by rw[show decide (V.str i=V.str j)=decide (i=j) by simp];exact q⟩
theorem jA {j:Str}(q:Q (.bl true) H):iN K .non (.str j) H Q:= .inl ⟨rfl,by rw[show decide (V.non=V.str j)=false by simp];exact q⟩
theorem sX {a b:Addr}{xs ys:List V}(ha:SqL K H a xs)(hb:SqL K H b ys)(fx:xs.all E8=true)(fy:ys.all E8=true)(q:Q (.bl (!Z6 xs ys)) H):iN K (.ref a) (.ref b) H Q:= .inr (.inl ⟨a,b,xs,ys,rfl,rfl,ha,hb,fx,fy,q⟩)
theorem gK {a b:Addr}{xs ys:List V}(ha:SqT K H a xs)(hb:SqT K H b ys)(fx:xs.all E8=true)(fy:ys.all E8=true)(q:Q (.bl (!Z6 xs ys)) H):iN K (.ref a) (.ref b) H Q:= .inr (.inr (.inl (.inl ⟨a,b,xs,ys,rfl,rfl,ha,hb,fx,fy,q⟩)))
theorem jZ {a:Addr}{xs:List V}(ha:SqT K H a xs)(q:Q (.bl true) H):iN K .non (.ref a) H Q:= .inr (.inr (.inl (.inr ⟨a,xs,rfl,rfl,ha,q⟩)))
theorem ju {j:Str}(q:Q (.bl false) H):gZ K .non (.str j) H Q:= .inl ⟨rfl,by rw[show decide (V.non=V.str j)=false by simp];exact q⟩
theorem jt {a:Addr}{xs:List V}(ha:SqT K H a xs)(q:Q (.bl false) H):gZ K .non (.ref a) H Q:= .inr (.inr (.inl (.inr ⟨a,xs,rfl,rfl,ha,q⟩)))
end
section
variable {X:Cx} {o e f:Expr} {apos cpos:Pos} {td ty tx:TE} {name:Str}
theorem AO (hb:attributeBase o name X.env (eval o X.env)=eval o X.env)(hl:(apos.endLine==cpos.line)=true)(h:A9 e=true):M1 X o name apos e cpos:=by
 have z:starEach [e] X.env=[(false,eval e X.env)]:=Z1 (es:=[]) h
 have z2:backTo cpos (starEach [e] X.env)=[(false,eval e X.env)]:=by rw[z];rfl
 exact⟨hb,by rw[z2];rfl,hl,z2⟩
theorem AV (hb:attributeBase o name X.env (eval o X.env)=eval o X.env)(hl:(apos.endLine==cpos.line)=true)(h:A9 e=true)(h':A9 f=true):M2 X o name apos e f cpos:=by
 have z:starEach [e,f] X.env=[(false,eval e X.env),(false,eval f X.env)]:=by rw[Z1 (es:=[f]) h,Z1 (es:=[]) h'];rfl
 have z2:backTo cpos (starEach [e,f] X.env)=[(false,eval e X.env),(false,eval f X.env)]:=by rw[z];rfl
 exact⟨hb,by rw[z2];rfl,hl,z2⟩
theorem gH (hu:X.A.units+1<cLine)(ho:QE X o td)(he:QE X e ty)(hb:attributeBase o "get" X.env (eval o X.env)=eval o X.env:=by rfl)(hl:(apos.endLine==cpos.line)=true:=by rfl)(h:A9 e=true:=by rfl):
  QE X (.Call (.Attribute o "get" apos) [e] [] cpos) (nH td ty):=⟨tF hu ho.r he.r (AO hb hl h)⟩
theorem Aq (hu:X.A.units+1<cLine)(ho:QE X o td)(he:QE X e ty)(hf:QE X f tx)(hb:attributeBase o "get" X.env (eval o X.env)=eval o X.env:=by rfl)(hl:(apos.endLine==cpos.line)=true:=by rfl)(h:A9 e=true:=by rfl)(h':A9 f=true:=by rfl):
  QE X (.Call (.Attribute o "get" apos) [e,f] [] cpos) (mU td ty tx):=⟨uO hu ho.r he.r hf.r (AV hb hl h h')⟩
end
section
variable {σ:St} {H:Hp} {Q:VK} {td ty tx:TE}
theorem Aw (q:td σ H fun x H1=>∃a,x= .ref a∧AW H1 a∧ty σ H1 fun y H2=>∃o,aA H2 a y o∧Q (o.getD .non) H2):nH td ty σ H Q:=q
end
end L2
set_option Elab.async false
set_option linter.all false
set_option maxRecDepth 100000
set_option maxHeartbeats 4000000
namespace L2
open PySem PySem.Spec PyProof.Rows
open Sem (wp)
section
variable {prog:Program} {w:World} {KT:Type} [DecidableEq KT] {knd:KeyKind prog w KT} {A:Around} {E:Value→Shared→Prop} {s:Shared}
theorem fW {it d:Addr}{i ep:Nat}{kvs:List (KT×Value)}{k:KT}{v:Value}{Q:Value→Shared→Prop}(hit:s.heap.IsKeyIter it d i kvs.length ep)
  (hm:s.heap.DictAt knd d kvs ep) (hx:kvs[i]?=some (k,v))
  (hQ:∀key h',knd.is k key=true→h'.IsKeyIter it d (i+1) kvs.length ep→Heap.SameBut it s.heap h'→Q key {s with heap:=h'}):
  wpAny (model prog w) A (Builtin.SmallTypes.nextOf (.ref it)) Q E s:=by
 obtain⟨o,ho,hc,hd⟩:=id hit
 obtain⟨od,es,hod,hcd,hdd,hk,hp,hn⟩:=id hm
 have hsz:es.size=kvs.length:=by rw[←hp.length];simp
 have hlt:i<kvs.length:=(List.getElem?_eq_some_iff.mp hx).1
 have hlt':i<es.size:=by rw[hsz];exact hlt
 have hkey:knd.is k es[i].key=true:=(hp.get? (e:=es[i]) (by simp [hlt']) hx).1
 have hown:Builtin.Dict_items.ownsTuple "dict_keyiterator"=false:=by decide
 unfold Builtin.SmallTypes.nextOf
 refine wpAny_bind (wpAny_callSpecial?_slot (name:=Str.ofString "__next__") hit.typeIs F.slot_dict_keyiterator_next
  (wpAny_call_entry F.slot_dict_keyiterator_next hit.typeIs F.entry_dict_keyiterator_next ?_ (F.args_dict_keyiterator_next_1 _)))
 refine wpAny_bind (wpAny_pure (wpAny_bind (wpAny_bind ?_)))
 first|refine wpAny_bind (wpAny_typeNameOfWhole_keyiter hit.typeIs (wpAny_pure ?_))|refine wpAny_bind (wpAny_typeNameOf_keyiter hit.typeIs (wpAny_pure ?_))
 refine wpAny_bind (wpAny_fieldsOf ho hd ?_)
 simp only[hown,Bool.false_eq_true,if_false]
 show wpAny _ _ (if(Value.ref d==Value.none)=true then _ else _) _ _ s
 rw[if_neg (show ¬((Value.ref d==Value.none)=true) from Bool.false_ne_true)]
 refine wpAny_bind (wpAny_pure (wpAny_bind (wpAny_dictEntries hod hdd ?_)))
 rw[if_neg (by rw[hsz];simp)]
 refine wpAny_bind (wpAny_pure (wpAny_bind (wpAny_dictEpoch hod hdd ?_)))
 rw[if_neg (by simp)]
 refine wpAny_pure ?_
 simp only[show ¬((i:Int)<0) from by lia,if_false,Int.toNat_natCast,Array.getElem?_eq_getElem hlt']
 refine wpAny_bind ?_
 first|refine wpAny_bind (wpAny_typeNameOfWhole_keyiter hit.typeIs (wpAny_pure ?_))|refine wpAny_bind (wpAny_typeNameOf_keyiter hit.typeIs (wpAny_pure ?_))
 refine wpAny_bind (wpAny_isOneOf_keyiter hit.typeIs ?_)
 show wpAny _ _ (setField (.ref it) 1 (rawInt ((i:Int)+1))>>=_) _ _ s
 refine wpAny_bind (wpAny_setField ho hd (by simp) ?_)
 have hit':(s.heap.update it (Obj.mapFields (·.setIfInBounds 1 (rawInt ((i:Int)+1))))).IsKeyIter it d (i+1) kvs.length ep:=
  ⟨_,Heap.get?_update_self _ ho (Obj.isFreed_of_fields (Obj.data_mapFields hd _)),(Obj.cls_mapFields ..).trans hc,by rw[Obj.data_mapFields hd];simp [rawInt]⟩
 refine wpAny_bind (wpAny_holding ?_)
 refine wpAny_bind (wpAny_isOneOf_keyiter (s:={s with heap:=s.heap.update it (Obj.mapFields (·.setIfInBounds 1 (rawInt ((i:Int)+1))))}) hit'.typeIs ?_)
 show wpAny _ _ (pure es[i].key) _ _ _
 exact wpAny_pure (wpAny_pure ⟨_,rfl,wpAny_pure (hQ _ _ hkey hit' (Heap.SameBut.update ..))⟩)
theorem ij {it d:Addr}{i ep:Nat}{kvs:List (KT×Value)}{Q:Value→Shared→Prop}(hh:A.handled=none)(hit:s.heap.IsKeyIter it d i kvs.length ep)
  (hm:s.heap.DictAt knd d kvs ep) (hx:kvs[i]?=none)
  (hE:∀h' e,Heap.ExtBut it s.heap h'→(∃o,h'.get? e=some o∧o.cls= .type "StopIteration")→E (.ref e) {s with heap:=h'}):
  wpAny (model prog w) A (Builtin.SmallTypes.nextOf (.ref it)) Q E s:=by
 obtain⟨o,ho,hc,hd⟩:=id hit
 obtain⟨od,es,hod,hcd,hdd,hk,hp,hn⟩:=id hm
 have hsz:es.size=kvs.length:=by rw[←hp.length];simp
 have hge:es.size≤i:=by rw[hsz];simpa using hx
 have hown:Builtin.Dict_items.ownsTuple "dict_keyiterator"=false:=by decide
 unfold Builtin.SmallTypes.nextOf
 refine wpAny_bind (wpAny_callSpecial?_slot (name:=Str.ofString "__next__") hit.typeIs F.slot_dict_keyiterator_next
  (wpAny_call_entry F.slot_dict_keyiterator_next hit.typeIs F.entry_dict_keyiterator_next ?_ (F.args_dict_keyiterator_next_1 _)))
 refine wpAny_bind (wpAny_pure (wpAny_bind (wpAny_bind ?_)))
 first|refine wpAny_bind (wpAny_typeNameOfWhole_keyiter hit.typeIs (wpAny_pure ?_))|refine wpAny_bind (wpAny_typeNameOf_keyiter hit.typeIs (wpAny_pure ?_))
 refine wpAny_bind (wpAny_fieldsOf ho hd ?_)
 simp only[hown,Bool.false_eq_true,if_false]
 show wpAny _ _ (if(Value.ref d==Value.none)=true then _ else _) _ _ s
 rw[if_neg (show ¬((Value.ref d==Value.none)=true) from Bool.false_ne_true)]
 refine wpAny_bind (wpAny_pure (wpAny_bind (wpAny_dictEntries hod hdd ?_)))
 rw[if_neg (by rw[hsz];simp)]
 refine wpAny_bind (wpAny_pure (wpAny_bind (wpAny_dictEpoch hod hdd ?_)))
 rw[if_neg (by simp)]
 refine wpAny_pure ?_
 simp only[show ¬((i:Int)<0) from by lia,if_false,Int.toNat_natCast,Array.getElem?_eq_none hge]
 refine wpAny_bind ?_
 first|refine wpAny_bind (wpAny_typeNameOfWhole_keyiter hit.typeIs (wpAny_pure ?_))|refine wpAny_bind (wpAny_typeNameOf_keyiter hit.typeIs (wpAny_pure ?_))
 show wpAny _ _ (setField (.ref it) 0 .none>>=_) _ _ s
 refine wpAny_bind (wpAny_setField ho hd (by simp) ?_)
 show wpAny _ _ (newExc (.type "StopIteration") []>>=_) _ _ _
 refine wpAny_bind ?_
 simp only[newExc,newTuple]
 refine wpAny_bind (wpAny_newObj_type ?_ (by size_fits))
 refine wpAny_bind (m:=firstArgMember _ _) (wpAny_of_eq (a:=Value.none) (by first|rfl|(simp only[firstArgMember];rfl)) ?_)
 refine wpAny_newObj_type ?_ (by size_fits)
 simp only[raiseNew]
 refine wpAny_bind (wpAny_handled ?_)
 first|rw[show A.in1.handled=none from hh]|rw[hh]
 refine wpAny_bind (wpAny_pure (wpAny_throw ?_))
 exact hE _ _ (((Heap.SameBut.update ..).extBut.push _).push _) ⟨_,Heap.get?_push_size _ rfl,rfl⟩
end
section
variable {prog:Program} {w:World} {KT:Type} [DecidableEq KT] {knd:KeyKind prog w KT} {A:Around} {E:Value→Shared→Prop} {s:Shared}
open PySem.AutoSeq1 (wpAny_loadPart')
abbrev Z0 (d:Addr)(n ep:Nat):Obj:={cls:= .type "dict_keyiterator",data:= .fields #[.ref d,.int 0 0,.int n 0,.int ep 0]}
abbrev kg (it:Addr):Obj:={cls:= .type "enumerate",data:= .fields #[.none,.bool false,.ref it,rawInt 0,.none,.none]}
theorem tX (d:Addr)(kvs:List (KT×Value))(ep:Nat)(hd:(d==sysModules)=false):
  MeetsIn prog w (Builtin.«enumerate.__new__» ⟨[.type "enumerate",.ref d],[]⟩) (fun _ R s=>s.heap.DictAt knd d kvs ep∧
   R (.ok (.ret (.ref (s.heap.push (Z0 d kvs.length ep)).objs.size))) {s with heap:=(s.heap.push (Z0 d kvs.length ep)).push (kg s.heap.objs.size)}):=
 .of_wp fun A R s h=>by
  obtain⟨hp,g,dr,tk,os⟩:=s;obtain⟨hm,h⟩:=h
  have hsub:=sub_enumerate
  obtain⟨⟨c,dct,dt,sl⟩,es,hod,hcd,hdd,hk,hp',hn⟩:=id hm
  have hc:c= .type "dict":=hcd.1
  subst hc
  wp_walk using wpAny_loadPart' hod
  refine wpAny_stack_any fun st=>wpAny_pure ?_
  split
  ·rename_i c _ _ _ _ _
   cases (c==Value.type "enumerate")
   ·wp_walk using wpAny_loadPart' hod,wpAny_pyIter_dict hd hm
    exact⟨_,rfl,h⟩
   ·wp_walk using wpAny_loadPart' hod,wpAny_pyIter_dict hd hm
    exact⟨_,rfl,h⟩
  ·wp_walk using wpAny_loadPart' hod,wpAny_pyIter_dict hd hm
   exact⟨_,rfl,h⟩
theorem oy {d:Addr}{kvs:List (KT×Value)}{ep:Nat}{Q:Value→Shared→Prop}(hd:(d==sysModules)=false)(hm:s.heap.DictAt knd d kvs ep)
  (h:∀h',IsEnum h' (s.heap.objs.size+1) s.heap.objs.size 0 .none→h'.IsKeyIter s.heap.objs.size d 0 kvs.length ep→h'.objs.size=s.heap.objs.size+2→
   (∀b o,s.heap.get? b=some o→h'.get? b=some o)→Q (.ref (s.heap.objs.size+1)) {s with heap:=h'}):
  wpAny (model prog w) A (call (.type "enumerate") [.ref d]) Q E s:=by
 refine callType_newIn F.called_enumerate (by decide) (F.typeCall_enumerate_1 _) (F.newCall_enumerate_1 _) (fun obj=>F.args_object_init_2 obj _) F.entry_enumerate_new
  (tX (knd:=knd) d kvs ep hd) ⟨hm,?_⟩
 have hz:(s.heap.push (Z0 d kvs.length ep)).objs.size=s.heap.objs.size+1:=Heap.size_push ..
 show _∧_
 rw[hz]
 have he:IsEnum ((s.heap.push (Z0 d kvs.length ep)).push (kg s.heap.objs.size)) (s.heap.objs.size+1) s.heap.objs.size 0 .none:=by
  have:=Heap.get?_push_size (s.heap.push (Z0 d kvs.length ep)) (o:=kg s.heap.objs.size) rfl
  rw[hz] at this;exact this
 refine⟨⟨_,he,rfl⟩,h _ he ⟨_,Heap.get?_push_of_some _ (Heap.get?_push_size _ rfl),rfl,rfl⟩ (by rw[Heap.size_push,hz]) fun b o x=>Heap.get?_push_of_some _ (Heap.get?_push_of_some _ x)⟩
theorem jg (hh:A.handled=none){it d:Addr}(hne:d≠it)(kvs:List (KT×Value))(ep:Nat):
  Draws prog w A it [it,d] kvs.length (fun i v=>∃k x,kvs[i]?=some (k,x)∧knd.is k v=true) (fun i h=>h.IsKeyIter it d i kvs.length ep∧h.DictAt knd d kvs ep) where
 live:=fun _ _ st=>let ⟨o,ho,_⟩:=st.1;⟨o,ho⟩
 frame:=fun _ _ _ st hk=>⟨st.1.at fun o e=>hk it (by simp) o e,let ⟨o,es,e,r⟩:=st.2;⟨o,es,hk d (by simp) o e,r⟩⟩
 item:=fun i s Q E hi st hQ=>by
  obtain⟨⟨k,x⟩,hx⟩:∃p,kvs[i]?=some p:=⟨kvs[i],by simp [hi]⟩
  refine fW st.1 st.2 hx fun key h' hkey hit' hs'=>?_
  exact hQ key h' s.toks ⟨k,x,hx,hkey⟩ ⟨hit',let ⟨o,es,e,r⟩:=st.2;⟨o,es,hs'.extBut _ _ hne e,r⟩⟩ hs'
 done:=fun s Q E st hE=>ij hh st.1 st.2 (by simp) hE
end
def yu (d:Addr)(o:Obj)(kvs:List (j6×V)):It:=
 ⟨fun i H=>H d=some (.frz o (.dK kvs))∧i<kvs.length,fun i H x H'=>∃t kv,kvs[i]?=some kv∧H t=none∧x= .ref t∧H'=A5 H t (.tup [.int i,kV kv.1]),fun i H=>H d=some (.frz o (.dK kvs))∧kvs.length=i⟩
theorem nJ {P:Program}{w:World}{K:PySem.W.Frag}{elts:List Expr}{x1}{tpos:Pos}{d:Addr}{o:Obj}{kvs:List (j6×V)}{vs:List (j6×Value)}{ep:Nat}(D:tM P w d o kvs vs ep){en it:Addr}(hne:en≠it):
  fo P w K (.Tuple elts x1 tpos) (yu d o kvs) [en,it] en (fun i h=>∃old,IsEnum h en it i old∧h.IsKeyIter it d i vs.length ep) where
 mem:=by simp
 obj:=fun i h st b hb=>by
  obtain⟨old,h1,o,e,c,dd⟩:=st
  have hb':b=en∨b=it:=by simpa using hb
  rcases hb' with rfl|rfl
  ·exact⟨_,h1,fun v z=>by
    have z':Data.fields _=Data.cell v:=z
    cases z'⟩
  ·exact⟨o,e,fun v z=>by rw[dd] at z;cases z⟩
 keep:=fun i h h' st k=>by
  obtain⟨old,h1,h2⟩:=st
  exact⟨old,k en (by simp) _ h1,h2.at fun o e=>k it (by simp) o e⟩
 item:=by
  intro X hP hw hK hc i pins s σ H E I hf st hg
  subst hP hw hK
  obtain⟨old,st1,st2⟩:=st
  obtain⟨hfz,hi⟩:=hg
  have dat:=D.at_ s.heap (I.hok d _ hfz).1
  have hl:=KV.length D.kv
  have hdi:d≠it:=i6 hfz (hf it (by simp)).1
  have hde:d≠en:=i6 hfz (hf en (by simp)).1
  have hen:en<s.heap.objs.size:=Heap.lt_size st1
  have hit:it<s.heap.objs.size:=by obtain⟨o,e,_⟩:=st2;exact Heap.lt_size e
  obtain⟨kv,hkv⟩:∃kv,kvs[i]?=some kv:=⟨kvs[i],by simp [hi]⟩
  refine wpAny_pyNext_enum_itemD (jg (knd:=q8 X.prog X.w) (A:=X.A.in1) (show X.A.in1.handled=none from I.ok.hd hc) hdi vs ep) st1 ⟨st2,dat⟩ (by lia) hne (by simp;exact⟨hne,Ne.symm hde⟩) fun u h' tk hP heo hst1 ht1 hz1 hk1=>?_
  obtain⟨k,x,hx,hkey⟩:=hP
  have hkk:kv.1=k:=by
   have e1:(kvs.map (·.1))[i]?=some kv.1:=by rw[List.getElem?_map,hkv];rfl
   rw[KV.keys D.kv,List.getElem?_map,hx] at e1
   exact(Option.some.inj e1).symm
  refine⟨.ref s.heap.objs.size,rfl,wpAny_letOwnedTupleGo_enum (s:={s with heap:=h',toks:=tk+1}) heo fun h'' he'' hs''=>?_⟩
  have hs2:Heap.SameBut en h' h'':=hs''
  have tupAt:h''.get? s.heap.objs.size=some {cls:= .type "tuple",data:= .seq #[.int i tk,u]}:=hs2.extBut _ _ (Nat.ne_of_gt hen) ht1
  obtain⟨fr,I1,fr2⟩:=I.pairNew (fp:=[en,it]) (h':=h'') (tk:=tk+1) (x:= .int i) (y:=kV kv.1) hf (fun b o hb e=>by
   have hb':b≠en∧b≠it:=by simpa using hb
   exact hs2.extBut b o hb'.1 (hk1 b o hb'.1 hb'.2 e)) (fun b hb=>by
   have hb':b=en∨b=it:=by simpa using hb
   rcases hb' with rfl|rfl
   ·exact hen
   ·exact hit) tupAt ⟨_,rfl⟩ (by rw[hkk];exact dC hkey)
  refine⟨.ref s.heap.objs.size,_,I1,rfl,⟨_,kv,hkv,fr,rfl,rfl⟩,⟨_,he'',?_⟩,fr2⟩
  exact hst1.1.at fun o e=>hs2.extBut it o (Ne.symm hne) e
 done:=by
  intro X hP hw hK hc i pins s σ H E I hf st hg
  subst hP hw hK
  obtain⟨old,st1,st2⟩:=st
  obtain⟨hfz,hi⟩:=hg
  have dat:=D.at_ s.heap (I.hok d _ hfz).1
  have hl:=KV.length D.kv
  have hdi:d≠it:=i6 hfz (hf it (by simp)).1
  have e:i=vs.length:=by lia
  subst e
  exact wpAny_pyNext_enum_endD (jg (knd:=q8 X.prog X.w) (A:=X.A.in1) (show X.A.in1.handled=none from I.ok.hd hc) hdi vs ep) st1 ⟨st2,dat⟩ fun h' eb=>⟨rfl,I.turnedAll (fp:=[en,it]) (tk:=s.toks) hf fun b o hb e=>eb b o (by
   have hb':b≠en∧b≠it:=by simpa using hb
   exact hb'.2) e⟩
 self:=fun _ _ _ _ _ st h=>by
  obtain⟨old,st1,st2⟩:=st
  exact wpAny_pyIter_enum st1 h
section
variable {X:Cx} {a:Expr} {t:TA} {p pos:Pos}
def mV (K:PySem.W.Frag)(ta:TA):jm:=fun σ H R=>ta σ H fun vs H1=>∃v,vs=[v]∧((∃l xs,v= .ref l∧SqL K H1 l xs∧R (CA K l) id H1)∨rIterD yu v H1 R)
theorem sr {elts:List Expr}{x1}{tpos:Pos}(hg:Gl X "enumerate")(hm:X.mg "enumerate"=none)(ha:PA X [a] t)(hs:starEach [a] X.env=[(false,eval a X.env)]):rN X (.Tuple elts x1 tpos) (.Call (.Name "enumerate" p) [a] [] pos) (mV X.K t):=by
 intro pins s σ H R I h
 refine Call_ (gX I hg hm Boot.«enumerate» (PyProof.Rows.callWith_type1 (K6 (ha pos pins s σ H _ I h) fun us s1 ⟨vs,H1,I1,r1,q1⟩=>?_) hs rfl))
 obtain⟨v,e,q⟩:=q1
 subst e
 obtain⟨u,rfl,ru⟩:=O8 r1
 rcases q with⟨l,xs,rfl,hq,q⟩|q
 ·cases ru
  obtain⟨its,rv,pl,hz⟩:=I1.list hq
  refine call_enumerate_list pl.isList fun h' he hit hsz hk=>?_
  have I2:Inv X pins σ H1 {s1 with heap:=h'}:=I1.kept (t':=s1.toks) hk
  refine wpAny_pyIter_enum (s:={s1 with heap:=h'}) he ?_
  refine⟨s1.heap.objs.size+1,[s1.heap.objs.size+1,s1.heap.objs.size],_,_,H1,rfl,I2,qp (l:=l) (Nat.succ_ne_self _),⟨_,he,hit⟩,fun b hb=>?_,id,gj,q⟩
  have hb':b=s1.heap.objs.size+1∨b=s1.heap.objs.size:=by simpa using hb
  rcases hb' with rfl|rfl
  ·exact I1.fpOk (Nat.le_succ _) (I1.hok.fresh (Nat.le_succ _))
  ·exact I1.fpOk (Nat.le_refl _) (I1.hok.fresh (Nat.le_refl _))
 ·obtain⟨d,kvs,o,vs,ep,th,H',rfl,hd,ho,D,I2,hth,q⟩:=rIterD.go I1 ru q
  refine oy (knd:=q8 X.prog X.w) hd (D.at_ _ ho) fun h' he hit hsz hk=>?_
  have I3:Inv X pins σ H' {s1 with heap:=h'}:=I2.kept (t':=s1.toks) hk
  refine wpAny_pyIter_enum (s:={s1 with heap:=h'}) he ?_
  refine⟨s1.heap.objs.size+1,[s1.heap.objs.size+1,s1.heap.objs.size],_,_,H',rfl,I3,nJ D (Nat.succ_ne_self _),⟨_,he,hit⟩,fun b hb=>?_,th,hth,q⟩
  have hb':b=s1.heap.objs.size+1∨b=s1.heap.objs.size:=by simpa using hb
  rcases hb' with rfl|rfl
  ·exact I2.fpOk (Nat.le_succ _) (I2.hok.fresh (Nat.le_succ _))
  ·exact I2.fpOk (Nat.le_refl _) (I2.hok.fresh (Nat.le_refl _))
theorem dE (K:PySem.W.Frag){elts:List Expr}{x1}{tpos:Pos}(hm:X.mg "enumerate"=none)(ha:QA X [a] t)(hg:Gl X "enumerate":=by rfl)(h:A9 a=true:=by rfl)(hK:X.K=K:=by rfl):QI X (.Tuple elts x1 tpos) (.Call (.Name "enumerate" p) [a] [] pos) (mV K t):=
 ⟨hK▸sr hg hm ha.r (Z1 h)⟩
end
section
variable {K:PySem.W.Frag} {σ:St} {H:Hp} {ta:TA} {R:It→(Hp→Hp)→Hp→Prop}
theorem wM (q:ta σ H fun vs H1=>∃v,vs=[v]∧((∃l xs,v= .ref l∧SqL K H1 l xs∧R (CA K l) id H1)∨rIterD yu v H1 R)):mV K ta σ H R:=q
end
end L2
set_option Elab.async false
set_option linter.all false
set_option maxRecDepth 100000
set_option maxHeartbeats 4000000
namespace L2
open PySem PySem.Spec PyProof.Rows
open Sem (wp)
theorem jI:typeLookup (.type "list") "keys"=pure none:=by rw[typeLookup_type,builtinLookup_eq_fast];kernel_rfl
section
variable {prog:Program} {w:World} {A:Around} {E:Value→Shared→Prop} {s:Shared}
theorem qv {a:Addr}{o:Obj}{xs:Array Value}{k:Nat}{Q:Option Value→Shared→Prop}
  (hx:s.heap.get? a=some o) (hc:o.cls= .type "list") (hdat:o.data= .seq xs k) (hd:o.dict=none) (hA:A.handled=none)
  (h:∀h' tk,(∀b ob,s.heap.get? b=some ob→h'.get? b=some ob)→Q none {s with heap:=h',toks:=tk}):
  wpAny (model prog w) A (getAttr? (.ref a) "keys") Q E s:=by
 obtain⟨c,dct,dat,sl⟩:=o
 simp only at hc hdat hd
 subst hc hdat hd
 obtain⟨hp,g,d,tk,os⟩:=s
 have hT:∀tk',(⟨hp,g,d,tk',os⟩:Shared).TypeIs (.ref a) "list":=fun _=>⟨_,hx,rfl⟩
 have f1:=sub_AttributeError
 have f3:=F.slot_list_getattribute.lookup
 have f4:=F.slot_list_getattribute.bind (.ref a)
 have f5:=am_list_getattr_none
 unfold getAttr? getAttrBy? getAttrBy
 repeat(any_goals (first|assumption|exact hT _|((with_reducible show wpAny _ _ (call (Value.builtin "list.__getattribute__") _ _) _ _ _);refine call_meets F.slot_list_getattribute (hT _) am_entry_list_getattribute (F.args_list_getattribute_2 _ _) (meets_getattribute_miss_list a xs k sl "keys" _ jI (by decide+kernel) (by decide+kernel)) ⟨hx,hA,fun h' tk' e hx'=>?_⟩)|wp_step))
 obtain⟨t',u',he⟩:=hx'.there
 show wpAny _ _ (getattributeRaised _ _ _ _ _ _ _) _ _ _
 unfold getattributeRaised
 repeat(any_goals (first|assumption|wp_step))
 exact h _ _ hx'.keeps
end
theorem bY:entryFor table "dict.update.loop"=some Builtin.«dict.update.loop»:=entryFor_of_tree (by kernel_rfl)
theorem T5:plainId "dict.update.loop"=true:=by decide+kernel
section
variable {prog:Program} {w:World} {KT:Type} [DecidableEq KT] {knd:KeyKind prog w KT} {A:Around} {E:Value→Shared→Prop}
def PairAt (knd:KeyKind prog w KT)(h:Heap)(d it:Addr)(u:Value)(kv:KT×Value):Prop:=∃t key,u= .ref t∧h.IsTuple t #[key,kv.2]∧knd.is kv.1 key=true∧t≠d∧t≠it
theorem PairAt.keep {h h':Heap}{d it:Addr}{u:Value}{kv:KT×Value}(p:PairAt knd h d it u kv)(k:∀b o,b≠d→b≠it→h.get? b=some o→h'.get? b=some o):PairAt knd h' d it u kv:=by
 obtain⟨t,key,e,⟨o,ho,r⟩,hk,h1,h2⟩:=p
 exact⟨t,key,e,⟨o,k t o h1 h2 ho,r⟩,hk,h1,h2⟩
theorem rD {d it l:Addr}{items:List Value}{res:Value}(hh:A.handled=none)(hdi:d≠it)(hli:l≠it)(hld:l≠d):
  ∀(more:List (KT×Value)) (i:Nat) (s:Shared) (kvs:List (KT×Value)) (R:Result→Shared→Prop),
   s.heap.IsListIter it l i→s.heap.IsList l items.toArray→Paired (PairAt knd s.heap d it) (items.drop i) more→s.heap.DictOf knd d kvs→kvs.length+more.length≤sizeLine→
   (∀h' tk,(∀b o,b≠d→b≠it→s.heap.get? b=some o→h'.get? b=some o)→h'.DictOf knd d (more.foldl (fun a x=>stored a x.1 x.2) kvs)→R (.ok (.ret res)) {s with heap:=h',toks:=tk})→
   codeAny (model prog w) A (.builtin "dict.update.loop" ⟨[.ref d,.ref it,rawInt (i:Int),res],[]⟩) R s:=by
 intro more
 induction more with
 |nil=>
  intro i s kvs R hit hl hp hd hz hR
  have hx:items.toArray[i]?=none:=by
   have hn:items.drop i=[]:=by cases hp':items.drop i with
    |nil=>rfl
    |cons x r=>rw[hp'] at hp;cases hp
   have:=List.drop_eq_nil_iff.mp hn
   simp;lia
  refine codeAny_builtin bY ?_
  rw[Around.under_plainId T5 _]
  show wpAny _ A.in1 (pyNext (.ref it)>>=_) _ _ s
  refine wpAny_bind (wpAny_pyNext_list_end (A:=A.in1) hh hit hl hx fun h' eb=>?_)
  show wpAny _ A.in1 (Builtin.Dict.addKeywords d []>>=_) _ _ _
  refine wpAny_bind (wpAny_pure (wpAny_pure ?_))
  exact hR h' s.toks (fun b o h1 h2 e=>eb b o h2 e) (hd.extBut eb hdi)
 |cons kv more ih=>
  intro i s kvs R hit hl hp hd hz hR
  obtain⟨x,hx,hp0,hp1⟩:∃x,items.toArray[i]?=some x∧PairAt knd s.heap d it x kv∧Paired (PairAt knd s.heap d it) (items.drop (i+1)) more:=by
   cases hp':items.drop i with
   |nil=>rw[hp'] at hp;cases hp
   |cons x r=>
    rw[hp'] at hp
    cases hp with
    |cons h1 h2=>
     refine⟨x,?_,h1,?_⟩
     ·have z:=congrArg List.head? hp'
      simpa using z
     ·have z:=congrArg List.tail hp'
      rw[List.tail_drop] at z
      rw[z];exact h2
  obtain⟨t,key,rfl,⟨ot,hot,hct,nt,hdt⟩,hkey,h1,h2⟩:=hp0
  refine codeAny_builtin bY ?_
  rw[Around.under_plainId T5 _]
  show wpAny _ A.in1 (pyNext (.ref it)>>=_) _ _ s
  refine wpAny_bind (wpAny_pyNext_list_item hit hl hx fun h' hit' hs'=>?_)
  have hot':h'.get? t=some ot:=hs'.extBut _ _ h2 hot
  refine wpAny_bind (wpAny_holding (wpAny_bind (wpAny_tryCatch ?_)))
  unfold Builtin.Dict.pairItems
  refine wpAny_bind (wpAny_typeOf (s:={s with heap:=h'}) ⟨_,hot',hct⟩ ?_)
  rw[if_pos (by decide)]
  refine wpAny_bind (wpAny_seqItems (s:={s with heap:=h'}) hot' hdt ?_)
  refine wpAny_pure ?_
  show wpAny _ A.in1 (holding [key,kv.2] (dictSet d key kv.2)) _ _ _
  refine wpAny_holding (wpAny_dictSet_pairs (s:={s with heap:=h'}) (kvs:=kvs) hkey (hd.extBut hs'.extBut hdi) (fun h'' dd hs''=>?_) (by simp only[List.length_cons] at hz;lia))
  have kp:∀b o,b≠d→b≠it→s.heap.get? b=some o→h''.get? b=some o:=fun b o hb1 hb2 e=>hs''.extBut b o hb1 (hs'.extBut b o hb2 e)
  refine wpAny_pure ⟨plainId_quiet T5 _,?_⟩
  refine ih (i+1) _ (stored kvs kv.1 kv.2) R ?_ ?_ (Paired.imp' (fun _ _ z=>z.keep kp) hp1) dd ?_ (fun h3 tk k3 d3=>hR h3 tk (fun b o e1 e2 e=>k3 b o e1 e2 (kp b o e1 e2 e)) d3)
  ·exact hit'.at fun o e=>hs''.extBut it o (Ne.symm hdi) e
  ·obtain⟨ol,hol,r⟩:=hl
   exact⟨ol,kp l ol hld hli hol,r⟩
  ·have z:=stored_length_le kvs kv.1 kv.2
   simp only[List.length_cons] at hz
   lia
theorem fR {l:Addr}{items:List Value}{o:Obj}{n:Nat}{more:List (KT×Value)}{s:Shared}{Q:Value→Shared→Prop}(hh:A.handled=none)(ho:s.heap.get? l=some o)(hc:o.cls= .type "list")(hdat:o.data= .seq items.toArray n)(hdn:o.dict=none)(hz:more.length≤sizeLine)
  (hp:Paired (fun u kv=>∃t key,u= .ref t∧s.heap.IsTuple t #[key,kv.2]∧knd.is kv.1 key=true) items more)
  (h:∀h' tk,h'.DictOf knd s.heap.objs.size (more.foldl (fun a x=>stored a x.1 x.2) [])→(∀b o,s.heap.get? b=some o→h'.get? b=some o)→Q (.ref s.heap.objs.size) {s with heap:=h',toks:=tk}):
  wpAny (model prog w) A (call (.type "dict") [.ref l]) Q E s:=by
 refine callType_codes (Q₁:=fun obj s₁=>obj= .ref s.heap.objs.size∧s₁={s with heap:=s.heap.push {cls:= .type "dict",data:= .dict #[]}}) F.kt_called_dict (F.kt_typeCall_dict_1 _) F.entry_dict_init (kt_code_dict_new _ ⟨rfl,rfl⟩) ?_
 rintro obj s₁ ⟨rfl,rfl⟩
 have hnew:(s.heap.push {cls:= .type "dict",data:= .dict #[]}).DictOf knd s.heap.objs.size []:=Heap.DictOf.new s.heap
 have hl0:l≠s.heap.objs.size:=Nat.ne_of_lt (Heap.lt_size ho)
 refine⟨hnew.typeIs,F.args_dict_init_2 _ _,?_⟩
 unfold Builtin.«dict.__init__»
 refine wpAny_bind ?_
 unfold Builtin.Dict.selfAndRest
 refine wpAny_bind (wpAny_notOrdered_dict hnew.typeIs ?_)
 show wpAny _ _ (pure (s.heap.objs.size,[Value.ref l])) _ _ _
 refine wpAny_pure ?_
 show wpAny _ _ (Builtin.Dict.updateFrom "dict.__init__" s.heap.objs.size (.ref l) [] .none) _ _ _
 unfold Builtin.Dict.updateFrom
 have ho1:(s.heap.push {cls:= .type "dict",data:= .dict #[]}).get? l=some o:=Heap.get?_push_of_some _ ho
 refine wpAny_bind (wpAny_typeOf (s:={s with heap:=s.heap.push {cls:= .type "dict",data:= .dict #[]}}) ⟨_,ho1,hc⟩ ?_)
 rw[if_pos (by decide)]
 refine wpAny_bind (qv (s:={s with heap:=s.heap.push {cls:= .type "dict",data:= .dict #[]}}) ho1 hc hdat hdn hh fun h2 tk2 k2=>?_)
 rw[if_pos (show((none:Option Value).isNone)=true from rfl)]
 have ho2:h2.get? l=some o:=k2 l o ho1
 have hd2:h2.DictOf knd s.heap.objs.size []:=let ⟨od,es,ep,e,r⟩:=hnew;⟨od,es,ep,k2 _ _ e,r⟩
 have hlt:s.heap.objs.size<h2.objs.size:=by obtain⟨od,es,ep,e,r⟩:=hd2;exact Heap.lt_size e
 have up:∀b ob,s.heap.get? b=some ob→(h2.push {cls:= .type "list_iterator",data:= .fields #[.ref l,.int 0 0]}).get? b=some ob:=fun b ob e=>Heap.get?_push_of_some _ (k2 b ob (Heap.get?_push_of_some _ e))
 refine wpAny_bind (wpAny_rule (wpAny_bind (wpAny_pyIter_list (l:=l) (items:=items.toArray) ⟨o,ho2,hc,n,hdat⟩ ?_)))
 refine wpAny_pure ⟨plainId_quiet T5 _,?_⟩
 refine rD (knd:=knd) (l:=l) (items:=items) (A:=A.in1) hh (Nat.ne_of_lt hlt) (Nat.ne_of_lt (Heap.lt_size ho2)) hl0 more 0 _ [] _ ⟨_,Heap.get?_push_size _ rfl,rfl,rfl⟩ ⟨o,Heap.get?_push_of_some _ ho2,hc,n,hdat⟩ ?_ (hd2.push _) (by simpa using hz) fun h3 tk k3 d3=>⟨rfl,h h3 tk d3 fun b ob e=>k3 b ob (Nat.ne_of_lt (Heap.lt_size e)) (Nat.ne_of_lt (Nat.lt_trans (Heap.lt_size e) hlt)) (up b ob e)⟩
 rw[List.drop_zero]
 refine Paired.imp' (fun u kv z=>?_) hp
 obtain⟨t,key,rfl,⟨ot,hot,r⟩,hk⟩:=z
 exact⟨t,key,rfl,⟨ot,up t ot hot,r⟩,hk,Nat.ne_of_lt (Heap.lt_size hot),Nat.ne_of_lt (Nat.lt_trans (Heap.lt_size hot) hlt)⟩
end
section
variable {X:Cx}
def PrV (K:PySem.W.Frag)(H:Hp)(x:V)(kv:j6×V):Prop:=∃t,x= .ref t∧SqT K H t [kV kv.1,kv.2]
def cm (kvs:List (j6×V)):List (j6×V):=kvs.foldl (fun a x=>N0 a x.1 x.2) []
theorem KV.puts:∀{ps:List (j6×V)} {qs:List (j6×Value)} {a:List (j6×V)} {b:List (j6×Value)},KV ps qs→KV a b→KV (ps.foldl (fun a x=>N0 a x.1 x.2) a) (qs.foldl (fun a x=>stored a x.1 x.2) b)
 |_,_,_,_,.nil,h=>h
 |_::_,_::_,a,b,.cons r t,h=>by
  obtain⟨e,rv⟩:=r
  rw[List.foldl_cons,List.foldl_cons]
  refine KV.puts t ?_
  rw[←e]
  exact KV.put h _ rv
theorem fI:∀(ps:List (j6×V)) (a:List (j6×V)),(ps.foldl (fun a x=>N0 a x.1 x.2) a).length≤a.length+ps.length
 |[],a=>Nat.le_refl _
 |p::r,a=>by
  rw[List.foldl_cons,List.length_cons]
  have z:=fI r (N0 a p.1 p.2)
  have z2:=cc a p.1 p.2
  lia
theorem Ac {pins : List (Addr × Obj)} {σ : L2.St} {H : Hp} {s : Shared} (I : Inv X pins σ H s) : ∀ {xs : List V} {kvs : List (j6 × V)} {us : List Value}, Paired (PrV X.K H) xs kvs → Vals xs us → ∃ more : List (j6 × Value), KV kvs more ∧ Paired (fun u kv => ∃ t key, u = Value.ref t ∧ s.heap.IsTuple t #[key, kv.2] ∧ (q8 X.prog X.w).is kv.1 key = true) us more
 := by
  intro xs kvs us hp hv
  induction hp generalizing us with
  | nil => cases hv; exact ⟨[], .nil, .nil⟩
  | @cons x kv l m r t ih => cases hv with
    | cons r' t' =>
      obtain ⟨tt, rfl, sq⟩ := r
      cases r'
      obtain ⟨its, v1, t1, _⟩ := I.tuple sq
      obtain ⟨key, v, rfl, rk, rv⟩ := fP v1
      obtain ⟨more, h1, h2⟩ := ih t'
      exact ⟨(kv.1, v) :: more, .cons ⟨rfl, rv⟩ h1, .cons ⟨tt, key, rfl, t1, fD rk⟩ h2⟩
def uX (K:PySem.W.Frag):List V→Hp→VK→Prop:=fun xs H Q=>∃(p:Addr) (ys:List V) (kvs:List (j6×V)),xs=[.ref p]∧SqL K H p ys∧Paired (PrV K H) ys kvs∧kvs.length≤sizeLine∧∀l,H l=none→Q (.ref l) (A5 H l (.dK (cm kvs)))
theorem nZ (hc:X.calm=true):CallR X (.type "dict") (uX X.K):=by
 intro pins s σ H xs us Q I r h
 obtain⟨p,ys,kvs,rfl,hq,hp,hz,q⟩:=h
 obtain⟨u,rfl,ru⟩:=O8 r
 cases ru
 obtain⟨its,rv,pl,_⟩:=I.list hq
 obtain⟨more,kv,pr⟩:=Ac I hp rv
 obtain⟨o,n,e,c,hd,dt⟩:=pl
 have hl:more.length=kvs.length:=(KV.length kv).symm
 refine fR (knd:=q8 X.prog X.w) (I.ok.hd hc) e c dt hd (by lia) pr fun h' tk dd k=>?_
 refine⟨.ref s.heap.objs.size,_,?_,rfl,q _ (I.hok.fresh (Nat.le_refl _))⟩
 refine I.laid (a:=s.heap.objs.size) (o:= .dK (cm kvs)) (t':=tk) k (Nat.le_refl _) (mK ?_ (beq_eq_false_iff_ne.mpr (Ne.symm (Nat.ne_of_lt I.big))) (KV.puts kv .nil) dd)
 have z:=fI kvs []
 unfold cm
 simp only[List.length_nil] at z
 lia
def nz (K:PySem.W.Frag):List V→Hp→VK→Prop:=fun xs H Q=>xE xs H Q∨uX K xs H Q
theorem mn (K:PySem.W.Frag)(hc:X.calm=true)(h:X.K=K:=by rfl):CallR X (.type "dict") (nz K):=by
 subst h
 intro pins s σ H xs us Q I r h
 rcases h with h|h
 ·exact nP pins s σ H xs us Q I r h
 ·exact nZ hc pins s σ H xs us Q I r h
end
section
variable {K:PySem.W.Frag} {H:Hp} {Q:VK}
theorem gw {p:Addr}{kvs:List (j6×V)}(h:Rd H p (.dK kvs))(q:∀l,H l=none→Q (.ref l) (A5 H l (.dK kvs))):nz K [.ref p] H Q:= .inl ⟨p,kvs,rfl,h,q⟩
theorem dn {p:Addr}{xs:List V}{kvs:List (j6×V)}(h:SqL K H p xs)(hp:Paired (PrV K H) xs kvs)(hz:kvs.length≤sizeLine)(q:∀l,H l=none→Q (.ref l) (A5 H l (.dK (cm kvs)))):nz K [.ref p] H Q:= .inr ⟨p,xs,kvs,rfl,h,hp,hz,q⟩
end
end L2
set_option Elab.async false
set_option linter.all false
set_option maxRecDepth 100000
set_option maxHeartbeats 4000000
namespace L2
open PySem PySem.Spec PyProof.Rows
section
variable {X:Cx}
end
end L2
set_option Elab.async false
set_option linter.all false
set_option maxRecDepth 100000
set_option maxHeartbeats 4000000
namespace L2
open PySem PySem.Spec PyProof.Rows
theorem ObjOk.there {P:Program}{w:World}{H:Hp}{h:Heap}{a:Addr}{o:HO}(x:ObjOk P w H h a o):∃u,h.get? a=some u:=by
 induction o with
 |lst xs=>obtain⟨_,_,_,_,e⟩:=x;exact⟨_,e⟩
 |tup xs=>obtain⟨_,_,_,o,e,_⟩:=x;exact⟨_,e⟩
 |dK kvs=>obtain⟨_,_,_,_,o,_,_,e,_⟩:=x;exact⟨_,e⟩
 |dT kvs=>obtain⟨_,_,_,_,o,_,_,e,_⟩:=x;exact⟨_,e⟩
 |set S n=>obtain⟨o,_,_,_,e,_⟩:=x;exact⟨_,e⟩
 |ins C dx fs=>obtain⟨_,_,_,e,_⟩:=x;exact⟨_,e⟩
 |own y=>exact x
 |xd fs=>obtain⟨_,⟨_,_,_,e,_⟩,_⟩:=x;exact⟨_,e⟩
 |rng lo hi=>obtain⟨_,_,_,e⟩:=x;exact⟨_,e⟩
 |frz ob u=>obtain⟨e,_⟩:=x;exact⟨_,e⟩
 |tbl ps=>exact⟨_,show h.get? a=some _ from x⟩
 |met f y=>exact⟨_,show h.get? a=some _ from x⟩
 |ext φ=>obtain⟨_,e,_⟩:=x;exact e
structure Fly (P:Program) (w:World) (outer:List Env) (H:Hp) (s:Shared) (a C:Addr) (a0:Value) (B:Heap) (H':Hp) (s':Shared):Prop where
 fl:Heap.FlyingW B outer a (.ref C) a0 s'.heap
 os:s'.os=s.os
 bare:AllBare s'.gens
 un:Un (T7 outer) [] H H' s.heap s'.heap
 hok:HOk P w H' s'.heap
 kp:∀b o,s.heap.get? b=some o→H b=none→b∉T7 outer→B.get? b=some o
 th:∀b o,s.heap.get? b=some o→b∉T7 outer→∃o',B.get? b=some o'
 tr:∀b o,H' b=some o→∃u,B.get? b=some u
 nw:H' a=none
def eg (P:Program)(w:World):kG:=fun outer H s E e s'=>∃(a C:Addr) (a0:Value) (B:Heap) (H':Hp),e= .ref a∧Fly P w outer H s a C a0 B H' s'∧E (.ref C) (some a) H'
theorem gS {P:Program}{w:World}{H:Hp}{B h h':Heap}(ok:HOk P w H h)(tr:∀b o,H b=some o→∃u,B.get? b=some u)(k1:B.StaysIn h)(k2:B.StaysIn h'):HOk P w H h':=fun a o e=>
 (ok a o e).stay (fun b u hb q=>by
  have hH:∃o',H b=some o':=by
   rcases hb with rfl|hb
   ·exact⟨_,e⟩
   ·exact⟨_,hb⟩
  obtain⟨o',ho'⟩:=hH
  obtain⟨u',hu'⟩:=tr b o' ho'
  have z:=k1 b u' hu'
  rw[q] at z
  cases z
  exact k2 b _ hu') (fun _ z=>z) fun _ _ z=>z
section
variable {X:Cx} {pins:List (Addr×Obj)} {σ:St} {H:Hp} {s s':Shared}
theorem E9 {base h:Heap}{l:List Env}(F:h.FunFrames base l){b:Addr}{o:Obj}(hb:b∈T7 l)(e:h.get? b=some o):∀vs,o.data≠ .fields vs:=by
 obtain⟨_,o',h1,h2⟩:=F.mem hb
 rw[e] at h1;cases h1;exact h2
theorem Fly.land {a C:Addr}{a0:Value}{B:Heap}{H':Hp}{h':Heap}(I:Inv X pins σ H s)(F:Fly X.prog X.w X.stack H s a C a0 B H' s')(k:B.StaysIn h')(sl:s'.heap.UpToSlots h')(t':Nat):
  Inv X pins σ H' {s' with heap:=h',toks:=t'}:=by
 have fr:=F.fl.2.2.1
 have u:Un (T7 X.stack) [] H H' s.heap h':=by
  refine⟨fun b o e n hb _=>k b o (F.kp b o e n hb),fun b o e n hb _=>?_,F.un.free,fun b o e _=>?_,F.un.tups,F.un.frzs,F.un.tbls⟩
  ·obtain⟨s1,e1⟩:=F.un.slot b o e n hb (by simp)
   obtain⟨s2,e2⟩:=sl b _ e1 (E9 fr hb e1)
   exact⟨s2,e2⟩
  ·by_cases hb:b∈T7 X.stack
   ·obtain⟨o',e1⟩:=F.un.there b o e (by simp)
    obtain⟨s2,e2⟩:=sl b _ e1 (E9 fr hb e1)
    exact⟨_,e2⟩
   ·obtain⟨o',e1⟩:=F.th b o e hb
    exact⟨o',k b o' e1⟩
 have hok:=gS F.hok F.tr F.fl.1 k
 exact I.call' (s':={s' with heap:=h',toks:=t'}) (ch:=[]) F.os u hok F.bare (fun b z=>absurd z (by simp))
end
section
variable {P:Program} {w:World} {K:PySem.W.Frag} {mg:Str→Option Value} {base:Heap} {N:List Str} {qual:Str} {scope:Scope} {f:Addr} {cd:Value} {A:Around} {outer:List Env} {s0:Shared} {H0:Hp} {E:XK}
theorem ae {b:Addr}(hb:b∈T7 outer):b∈T7 (envOfC qual scope s0.heap.objs.size f cd::outer):=by
 unfold T7 at*
 rw[List.filterMap_cons]
 split
 ·exact hb
 ·exact List.mem_cons_of_mem _ hb
theorem cP {b:Addr}{o:Obj}(e:s0.heap.get? b=some o)(hb:b∉T7 outer):b∉T7 (envOfC qual scope s0.heap.objs.size f cd::outer):=fun z=>by
 unfold T7 at z hb
 rw[List.filterMap_cons] at z
 have hl:=Heap.lt_size e
 rcases List.mem_cons.mp z with z|z
 ·rw[z] at hl;exact absurd hl (Nat.lt_irrefl _)
 ·exact hb z
theorem jq {pins:List (Addr×Obj)}{σ:St}{H:Hp}{s:Shared}{h1:Heap}{e C:Addr}{vs:List Value}(I:Inv (dX (eg P w) P w K mg base N qual scope f cd A outer s0 H0 E) pins σ H s)
  (hx:Heap.MadeExcOf s.heap h1 e (.ref C) vs) (q:E (.ref C) (some e) H):(dX (eg P w) P w K mg base N qual scope f cd A outer s0 H0 E).xe (.ref e) {s with heap:=h1}:=by
 have hst:∀env∈(envOfC qual scope s0.heap.objs.size f cd::outer),∀b,env.frame=some b→b∈T7 (envOfC qual scope s0.heap.objs.size f cd::outer):=fun env he b hb=>List.mem_filterMap.mpr ⟨env,he,hb⟩
 have fr:s.heap.FunFrames base (envOfC qual scope s0.heap.objs.size f cd::outer):=I.stack
 have tr:∀b o,H b=some o→∃u,(PySem.W.hideAll s.heap (T7 (envOfC qual scope s0.heap.objs.size f cd::outer))).get? b=some u:=fun b o z=>by
  obtain⟨u,hu⟩:=(I.hok b o z).there
  refine⟨u,PySem.W.hideAll_get _ hu fun hb=>?_⟩
  have:=I.stkFree b hb
  rw[z] at this;cases this
 have nw:H e=none:=by
  cases z:H e with
  |none=>rfl
  |some o=>
   obtain⟨u,hu⟩:=(I.hok e o z).there
   rw[hx.new] at hu;cases hu
 have hb0:Un (T7 outer) [] H0 H s0.heap s.heap:=I.base
 refine wpAny_leaves_madeW (base:=PySem.W.hideAll s.heap (T7 (envOfC qual scope s0.heap.objs.size f cd::outer))) I.ok.frames rfl (fun b o z=>PySem.W.of_hideAll _ z) (PySem.W.funFrames_hide fr hst) hx fun h' t x1 x2 x3 x4=>?_
 have kp:∀b o,s0.heap.get? b=some o→H0 b=none→b∉T7 outer→(PySem.W.hideAll s.heap (T7 (envOfC qual scope s0.heap.objs.size f cd::outer))).get? b=some o:=fun b o z n hb=>
  PySem.W.hideAll_get _ (hb0.keep b o z n hb (by simp)) (cP z hb)
 have th:∀b o,s0.heap.get? b=some o→b∉T7 outer→∃o',(PySem.W.hideAll s.heap (T7 (envOfC qual scope s0.heap.objs.size f cd::outer))).get? b=some o':=fun b o z hb=>by
  obtain⟨o',z'⟩:=hb0.there b o z (by simp)
  exact⟨o',PySem.W.hideAll_get _ z' (cP z hb)⟩
 have hk:=x1.1
 refine⟨e,C,_,_,H,rfl,⟨x1,I.os,I.bare,⟨fun b o z n hb _=>hk b o (kp b o z n hb),fun b o z n hb _=>?_,fun b o z n _=>hb0.free b o z n (by simp),fun b o z _=>?_,hb0.tups,hb0.frzs,hb0.tbls⟩,?_,kp,th,tr,nw⟩,q⟩
 ·obtain⟨s1,e1⟩:=hb0.slot b o z n hb (by simp)
  have nf:=E9 fr (ae hb) e1
  obtain⟨s2,e2⟩:=x4 b _ (hx.keeps _ _ e1) nf
  exact⟨s2,e2⟩
 ·by_cases hb:b∈T7 outer
  ·obtain⟨o',e1⟩:=hb0.there b o z (by simp)
   obtain⟨s2,e2⟩:=x4 b _ (hx.keeps _ _ e1) (E9 fr (ae hb) e1)
   exact⟨_,e2⟩
  ·obtain⟨o',e1⟩:=th b o z hb
   exact⟨o',hk b o' e1⟩
 ·exact gS I.hok tr (fun b o z=>PySem.W.of_hideAll _ z) hk
theorem xZ:bt (eg P w) (dX (eg P w) P w K mg base N qual scope f cd A outer s0 H0 E) E:=by
 intro pins σ H s e s' I h
 obtain⟨a,C,a0,B,H',rfl,F,q⟩:=h
 have fr:=F.fl.2.2.1
 have hb0:Un (T7 outer) [] H0 H s0.heap s.heap:=I.base
 refine wpAny_leaves_onW I.ok.frames rfl F.fl fun h' x1 x2=>?_
 have hk:=x1.1
 have kp:∀b o,s0.heap.get? b=some o→H0 b=none→b∉T7 outer→B.get? b=some o:=fun b o z n hb=>
  F.kp b o (hb0.keep b o z n hb (by simp)) (hb0.free b o z n (by simp)) (cP z hb)
 have th:∀b o,s0.heap.get? b=some o→b∉T7 outer→∃o',B.get? b=some o':=fun b o z hb=>by
  obtain⟨o',z'⟩:=hb0.there b o z (by simp)
  exact F.th b o' z' (cP z hb)
 have ub:Un (T7 (envOfC qual scope s0.heap.objs.size f cd::outer)) [] H H' s.heap s'.heap:=F.un
 refine⟨a,C,a0,B,H',rfl,⟨x1,F.os.trans I.os,F.bare,⟨fun b o z n hb _=>hk b o (kp b o z n hb),fun b o z n hb _=>?_,fun b o z n _=>?_,fun b o z _=>?_,fun b xs z=>ub.tups b xs (hb0.tups b xs z),fun b o u z=>ub.frzs b o u (hb0.frzs b o u z),fun b ps z=>?_⟩,gS F.hok F.tr F.fl.1 hk,kp,th,F.tr,F.nw⟩,q⟩
 ·obtain⟨s1,e1⟩:=hb0.slot b o z n hb (by simp)
  obtain⟨s2,e2⟩:=ub.slot b _ e1 (hb0.free b o z n (by simp)) (ae hb) (by simp)
  obtain⟨s3,e3⟩:=x2 b _ e2 (E9 fr (ae hb) e2)
  exact⟨s3,e3⟩
 ·obtain⟨o',e1⟩:=hb0.there b o z (by simp)
  exact ub.free b o' e1 (hb0.free b o z n (by simp)) (by simp)
 ·by_cases hb:b∈T7 outer
  ·obtain⟨o',e1⟩:=hb0.there b o z (by simp)
   obtain⟨o2,e2⟩:=ub.there b o' e1 (by simp)
   obtain⟨s3,e3⟩:=x2 b _ e2 (E9 fr (ae hb) e2)
   exact⟨_,e3⟩
  ·obtain⟨o',e1⟩:=th b o z hb
   exact⟨o',hk b o' e1⟩
 ·obtain⟨m1,e1⟩:=hb0.tbls b ps z
  obtain⟨m2,e2⟩:=ub.tbls b _ e1
  exact⟨m1++m2,by rw[e2,Array.append_assoc]⟩
end
def CH:List Value:=[.type "ValueError",.type "Exception",.type "BaseException",.type "object"]
structure ExC (K:PySem.W.Frag) (mg:Str→Option Value) (x:Str) (C:Addr):Prop where
 bound:mg x=some (.ref C)
 exc:PySem.W.excIn K C CH "ValueError.__new__"=true
theorem ExC.own {K:PySem.W.Frag}{mg:Str→Option Value}{x:Str}{C:Addr}{h:Heap}(O:ExC K mg x C)(X:K.In h):OwnCls x C CH "ValueError.__new__" mg h:=by
 have q:=O.exc
 refine⟨O.bound,?_⟩
 unfold PySem.W.excIn at q
 split at q
 ·rename_i g1 g2 g3 lk
  split at q
  ·rename_i c2 l2 i0 i1 i2 i3 nn i5 em es
   simp only[Bool.and_eq_true,beq_iff_eq,Bool.not_eq_true'] at q
   obtain⟨⟨⟨⟨⟨ea,eb⟩,q1⟩,q2⟩,q3⟩,q4⟩:=q
   subst ea
   subst eb
   obtain⟨y1,y2,y3,y4,y5,y6,y7,y8,y9,y10,y11⟩:=g2
   dsimp only at em q1 q3 q4
   subst em q1
   have e3:g3= #[i0,i1,i2,i3,some (.builtin "ValueError.__new__"),i5]:=by
    cases g3 with
    |mk l=>
     have es':l=[i0,i1,i2,i3,some (.builtin "ValueError.__new__"),i5]:=es
     rw[es']
   subst e3
   exact⟨l2,y4,y1,y5,y2,y6,y7,y8,y9,y10,g1,i0,i1,i2,i3,i5,h.nsMap y4,X _ _ lk,Heap.Ns.of_isNs (PySem.W.isNs_of_in X q3),PySem.W.nsMap_none_of_in X q3 q4,PySem.W.tail_of_in X q2⟩
  ·cases q
 ·cases q
def nv (X:Cx)(E:XK):Prop:=∀(pins:List (Addr×Obj)) (σ:St) (H:Hp) (s:Shared) (h1:Heap) (e C:Addr) (vs:List Value),Inv X pins σ H s→Heap.MadeExcOf s.heap h1 e (.ref C) vs→E (.ref C) (some e) H→X.xe (.ref e) {s with heap:=h1}
theorem aj {P:Program}{w:World}{K:PySem.W.Frag}{mg:Str→Option Value}{base:Heap}{N:List Str}{qual:Str}{scope:Scope}{f:Addr}{cd:Value}{A:Around}{outer:List Env}{s0:Shared}{H0:Hp}{E:XK}:
  nv (dX (eg P w) P w K mg base N qual scope f cd A outer s0 H0 E) E:=fun _ _ _ _ _ _ _ _ I hx q=>jq I hx q
def oz (C:Addr)(E:XK)(ta:TA):TS:=fun _ σ H=>ta σ H fun vs H1=>vs.length≤sizeLine∧∀e,H1 e=none→E (.ref C) (some e) H1
section
variable {X:Cx} {E:XK} {x:Str} {C:Addr} {np cpos pos:Pos} {e:Expr} {es:List Expr} {ta:TA}
theorem so (R:nv X E)(O:ExC X.K X.mg x C)(hc:X.calm=true)(ha:PA X (e::es) ta)(hg:Gl X x:=by rfl)(hdb:(x==("__debug__":Str))=false:=by decide)(h:A7 (e::es)=true:=by rfl):
  PS X (.Raise (some (.Call (.Name x np) (e::es) [] cpos)) none pos) (oz C E ta):=by
 intro pins s σ H D I hw
 have h':(A9 e&&A7 es)=true:=h
 rw[Bool.and_eq_true] at h'
 have h1:starEach (e::es) X.env=(false,eval e X.env)::starEach es X.env:=Z1 h'.1
 have h2:(backTo cpos (starEach es X.env)).any (·.1)=false:=av h'.2
 obtain⟨tl,y0,y1,y2,y3,y4,y5,y6,y7,y8,y9,u0,u1,u2,u3,u5,mN,hC,hN,hni,T⟩:=(O.own I.ok.mod.kin).obj
 refine wpAny_Raise_call_subT (k5:=u5) (k3:=u3) (k2:=u2) (k1:=u1) (k0:=u0) (dd:=y9) (col:=y8) (ab:=y7) (sub:=y6) (sn:=y5) (hdct:=y4) (bs:=y3) (q:=y2) (nm:=y1) (N:=y0) (C:=C) (bm:=tl) (mN:=mN) PySem.F.excBase_ValueError (T.hasType (by decide)) (I.ok.hd hc) ?_ hni (gm I hg O.bound ⟨rfl,?_⟩ hdb)
 ·rw[h1]
  show(false||(backTo cpos (starEach es X.env)).any (·.1))=false
  rw[h2];rfl
 ·have hw':=ha cpos pins s σ H _ I hw
  rw[h1] at hw'⊢
  refine Calls.evalArgs_plain (K6 hw' fun us s1 ⟨vs,H1,I1,r,q1,q2⟩=>?_)
  refine⟨rfl,by rw[←r.length];exact q1,I1.bk _ _ hC,hN.keeps I1.bk,T.keeps I1.bk,fun h2 e2 hm=>?_⟩
  have nw:H1 e2=none:=by
   cases z:H1 e2 with
   |none=>rfl
   |some o=>
    obtain⟨u,hu⟩:=(I1.hok e2 o z).there
    rw[hm.new] at hu;cases hu
  exact R pins σ H1 s1 h2 e2 C us I1 hm (q2 e2 nw)
theorem bZ (R:nv X E)(O:ExC X.K X.mg x C)(hc:X.calm=true)(ha:QA X (e::es) ta)(hg:Gl X x:=by rfl)(hdb:(x==("__debug__":Str))=false:=by decide)(h:A7 (e::es)=true:=by rfl):
  QS X (.Raise (some (.Call (.Name x np) (e::es) [] cpos)) none pos) (oz C E ta):=⟨so R O hc ha.r hg hdb h⟩
end
theorem Fun.okE {P:Program}{w:World}{K:PySem.W.Frag}{mg:Str→Option Value}{base:Heap}{x qual:Str}{st:Stmt}{f:Addr}{fd:FuncData}{N ps:List Str}{k:Nat}{sp:Sp}(F:Fun K x qual st f fd)(S:j7 N ps (b0 st))(len:∀vs H Q E,sp vs H Q E→vs.length=ps.length)
  (hbody:∀(cdv:Value) (A:Around) (outer:List Env) (s:Shared) (H:Hp) (vs:List V) (Q:VK) (E:XK),Room k (A.deeper (envOfC qual (b0 st) s.heap.objs.size f cdv))→sp vs H Q E→
   ∃t,PSs (dX (eg P w) P w K mg base N qual (b0 st) f cdv A outer s H E) (i9 st) t∧t {nx:=fun _ H'=>Q .non H',rt:=Q} (dB N vs) H):E3 P w K mg base (eg P w) (k+1) f fd ps sp:=by
 obtain⟨oc,od,kV,doc,pm,an,cdv,ct,osl,rfl,lk,hcd⟩:=F.ex
 exact xv lk hcd S len fun A outer s H vs Q E hr hsp=>hbody cdv A outer s H vs Q E hr hsp
end L2
set_option Elab.async false
set_option linter.all false
set_option maxRecDepth 100000
set_option maxHeartbeats 4000000
namespace L2
open PySem PySem.Spec PyProof.Rows
abbrev Cx.pinned (X:Cx)(pins:List (Addr×Obj)):Cx:={X with pn:=X.pn++pins}
def DC (X:Cx)(pins:List (Addr×Obj))(Es:St→XK):Value→Shared→Prop:=fun e s'=>∃(pins':List (Addr×Obj)) (σ:St) (H:Hp) (s:Shared),Inv (X.pinned pins) pins' σ H s∧eg X.prog X.w X.stack H s (Es σ) e s'
abbrev Cx.tried (X:Cx)(pins:List (Addr×Obj))(Es:St→XK):Cx:={X with pn:=X.pn++pins,xe:=DC X pins Es}
abbrev Cx.suite (X:Cx)(e:Addr):Cx:={X with A:=X.A.mark (some (.ref e)),calm:=false,xe:=fun _ _=>False}
section
variable {X:Cx} {pins pins':List (Addr×Obj)} {Es:St→XK} {σ:St} {H:Hp} {s:Shared} {e:Addr}
theorem Inv.toTried (I:Inv X pins σ H s):Inv (X.tried pins Es) [] σ H s:=
 ⟨⟨I.ok.mod,I.ok.kind,I.ok.glob,I.ok.blt,I.ok.above,I.ok.inj,I.ok.has,I.ok.cab,I.ok.hd,I.ok.frames,I.ok.stk,I.ok.exf,I.ok.bs,I.ok.bsz,I.ok.noex,I.ok.exfs,I.ok.funs,I.ok.frf⟩,
  I.os,I.bare,I.base,I.loc,I.cell,I.free,I.freeC,fun p hp=>I.pin p (by simpa using hp),I.hok,I.len⟩
theorem Inv.ofTried (I:Inv (X.tried pins Es) pins' σ H s):Inv X pins σ H s:=
 ⟨⟨I.ok.mod,I.ok.kind,I.ok.glob,I.ok.blt,I.ok.above,I.ok.inj,I.ok.has,I.ok.cab,I.ok.hd,I.ok.frames,I.ok.stk,I.ok.exf,I.ok.bs,I.ok.bsz,I.ok.noex,I.ok.exfs,I.ok.funs,I.ok.frf⟩,
  I.os,I.bare,I.base,I.loc,I.cell,I.free,I.freeC,fun p hp=>I.pin p (List.mem_append_left _ hp),I.hok,I.len⟩
theorem Inv.ofPinned (I:Inv (X.pinned pins) pins' σ H s):Inv X pins σ H s:=
 ⟨⟨I.ok.mod,I.ok.kind,I.ok.glob,I.ok.blt,I.ok.above,I.ok.inj,I.ok.has,I.ok.cab,I.ok.hd,I.ok.frames,I.ok.stk,I.ok.exf,I.ok.bs,I.ok.bsz,I.ok.noex,I.ok.exfs,I.ok.funs,I.ok.frf⟩,
  I.os,I.bare,I.base,I.loc,I.cell,I.free,I.freeC,fun p hp=>I.pin p (List.mem_append_left _ hp),I.hok,I.len⟩
theorem Inv.triedPinned (I:Inv (X.tried pins Es) pins' σ H s):Inv (X.pinned pins) pins' σ H s:=
 ⟨⟨I.ok.mod,I.ok.kind,I.ok.glob,I.ok.blt,I.ok.above,I.ok.inj,I.ok.has,I.ok.cab,I.ok.hd,I.ok.frames,I.ok.stk,I.ok.exf,I.ok.bs,I.ok.bsz,I.ok.noex,I.ok.exfs,I.ok.funs,I.ok.frf⟩,
  I.os,I.bare,I.base,I.loc,I.cell,I.free,I.freeC,I.pin,I.hok,I.len⟩
theorem kT (A:Around)(h:Option Value):(A.mark h).frames=A.frames:=rfl
theorem Inv.toSuite (I:Inv X pins σ H s):Inv (X.suite e) pins σ H s:=
 ⟨⟨I.ok.mod,I.ok.kind,I.ok.glob,I.ok.blt,I.ok.above,I.ok.inj,I.ok.has,I.ok.cab,(fun z=>nomatch z),(kT _ _).trans I.ok.frames,I.ok.stk,I.ok.exf,I.ok.bs,I.ok.bsz,I.ok.noex,I.ok.exfs,I.ok.funs,I.ok.frf⟩,
  I.os,I.bare,I.base,I.loc,I.cell,I.free,I.freeC,I.pin,I.hok,I.len⟩
theorem Inv.ofSuite (ok:X.Ok)(I:Inv (X.suite e) pins σ H s):Inv X pins σ H s:=
 ⟨ok,I.os,I.bare,I.base,I.loc,I.cell,I.free,I.freeC,I.pin,I.hok,I.len⟩
def IsExc (a C:Addr)(h:Heap):Prop:=∃o vs,h.get? a=some o∧o.cls= .ref C∧o.data= .fields vs
theorem ua {P:Program}{w:World}{H:Hp}{h:Heap}{a C:Addr}(x:IsExc a C h):ObjOk P w H h a (.ext (IsExc a C)):=by
 obtain⟨o,vs,e,c,d⟩:=x
 refine⟨⟨o,vs,e,c,d⟩,⟨o,e⟩,fun h1 h2 ⟨o',vs',e',c',d'⟩ k=>⟨o',vs',k _ e',c',d'⟩⟩
theorem Inv.track {a C:Addr}(I:Inv X pins σ H s)(hn:H a=none)(x:IsExc a C s.heap)(h0:X.s₀.heap.get? a=none)(hp:∀p∈X.pn++pins,p.1≠a):Inv X pins σ (A5 H a (.ext (IsExc a C))) s:=by
 obtain⟨o,vs,e,c,d⟩:=id x
 have ne0:∀b ob,X.s₀.heap.get? b=some ob→b≠a:=fun b ob z q=>by rw[q,h0] at z;cases z
 refine⟨I.ok,I.os,I.bare,⟨I.base.keep,I.base.slot,fun b ob z n hx=>?_,I.base.there,fun b xs z=>?_,fun b ob u z=>?_,fun b ps z=>?_⟩,I.loc,I.cell,?_,fun y c' z=>?_,fun p hq=>?_,fun b u z=>?_,I.len⟩
 ·rw[d6 (ne0 b ob z)];exact I.base.free b ob z n hx
 ·have z':=I.base.tups b xs z
  rw[d6 fun q=>by rw[q,hn] at z';cases z'];exact z'
 ·have z':=I.base.frzs b ob u z
  rw[d6 fun q=>by rw[q,hn] at z';cases z'];exact z'
 ·obtain⟨more,z'⟩:=I.base.tbls b ps z
  exact⟨more,by rw[d6 fun q=>by rw[q,hn] at z';cases z'];exact z'⟩
 ·obtain⟨m,⟨oL,es,ep,hL,dL,_⟩,_⟩:=I.loc
  rw[d6 fun q=>?_]
  ·exact I.free
  ·rw[q,e] at hL;cases hL;rw[d] at dL;cases dL
 ·obtain⟨v,oc,hoc,hod⟩:=I.cell y c' z
  rw[d6 fun q=>?_]
  ·exact I.freeC y c' z
  ·rw[q,e] at hoc;cases hoc;rw[d] at hod;cases hod
 ·obtain⟨p1,p2,p3,p4,p5⟩:=I.pin p hq
  exact⟨p1,by rw[d6 (hp p hq)];exact p2,p3,p4,p5⟩
 ·by_cases q:b=a
  ·subst q
   rw[g7] at z;cases z
   exact ua x
  ·rw[d6 q] at z
   refine(I.hok b u z).stay (fun _ _ _ q=>q) (fun b' q'=>?_) fun b' xs q'=>?_
   ·rw[d6 fun k=>by rw[k,hn] at q';cases q'];exact q'
   ·rw[d6 fun k=>by rw[k,hn] at q';cases q'];exact q'
theorem cO {M:Model}{A:Around}{E:Value→Shared→Prop}{i:Nat}{n:Str}{pos:Pos}{Q:Unit→Shared→Prop}(I:Inv X pins σ H s)(hN:X.N.Nodup)(hi:X.N[i]?=some n)(hl:X.env.scope.names.lookup n=some .local)
  (h:∀s',Inv X pins (σ.set i none) H s'→Q () s'):wpAny M A (do bindName X.env n .none;unbindBehindTheSuite X.env n pos) Q E s:=by
 obtain⟨m,hn,hm⟩:=id I.loc
 have hcls:(X.env.scope.kind== .class||(X.env.scope.kind== .module&&X.env.locals !=X.env.globals))=false:=by rw[I.ok.kind];rfl
 have hiσ:i<σ.length:=by rw[I.len];exact(List.getElem?_eq_some_iff.mp hi).1
 refine wpAny_nameGoes_keeps hl hn hcls fun h' v hn' hs=>h _ ?_
 have nL:∀b o,X.s₀.heap.get? b=some o→b≠X.env.locals:=fun b o e=>Nat.ne_of_lt (Nat.lt_of_lt_of_le (Heap.lt_size e) I.ok.above)
 refine⟨I.ok,I.os,I.bare,⟨fun b o e n hb hx=>?_,fun b o e n hb hx=>?_,I.base.free,fun b o e hx=>?_,I.base.tups,I.base.frzs,I.base.tbls⟩,⟨_,hn',fun j y v' e1 e2 e3=>?_⟩,fun y c e=>?_,I.free,I.freeC,fun p hp=>?_,fun b ob e=>?_,by simpa using I.len⟩
 ·exact(hs.2 b (nL b o e)).trans (I.base.keep b o e n hb hx)
 ·obtain⟨sl,e1⟩:=I.base.slot b o e n hb hx
  exact⟨sl,(hs.2 b (nL b o e)).trans e1⟩
 ·obtain⟨o',e1⟩:=I.base.there b o e hx
  exact⟨o',(hs.2 b (nL b o e)).trans e1⟩
 ·by_cases hj:j=i
  ·subst hj
   rw[List.getElem?_set_self hiσ] at e2
   cases e2
  ·rw[List.getElem?_set_ne (Ne.symm hj)] at e2
   obtain⟨u',r',q⟩:=hm j y v' e1 e2 e3
   refine⟨u',r',?_⟩
   rcases q with⟨k,e⟩|⟨k,c,e,z⟩
   ·refine .inl ⟨k,?_⟩
    have hy:y≠n:=fun e=>hj (gy hN e1 (e▸hi))
    show(if y=n then v else m y)=some u'
    rw[if_neg hy];exact e
   ·exact .inr ⟨k,c,e,z.sameBut hs (I.cne y c e)⟩
 ·obtain⟨w',z⟩:=I.cell y c e
  exact⟨w',z.sameBut hs (I.cne y c e)⟩
 ·obtain⟨e,n,ne,nf,d⟩:=I.pin p hp
  exact⟨(hs.2 p.1 ne).trans e,n,ne,nf,d⟩
 ·refine(I.hok b ob e).stay (fun c w' hc q=>(hs.2 c ?_).trans q) (fun _ q=>q) fun _ _ q=>q
  rintro rfl
  have f:=I.free
  rcases hc with rfl|hc
  ·rw[f] at e;cases e
  ·rw[f] at hc;cases hc
end
section
variable {X:Cx} {pins:List (Addr×Obj)} {Es:St→XK} {k:Nat} {ps:List Str} {dvs:List V} {sp:Sp} {x:Str} {p pos:Pos} {e:Expr} {es:List Expr} {t:TA}
end
theorem kX {M:Model}{A:Around}{E:Value→Shared→Prop}{K:PySem.W.Frag}{s:Shared}{a C T:Addr}{b:Bool}{Q:Bool→Shared→Prop}(X:K.In s.heap)(x:IsExc a C s.heap)(hm:PySem.W.typeIn K (.ref T)=some (.type "type"))
  (he:PySem.W.subIn K (.ref T) (.type "BaseException")=some true) (hc:(PySem.W.clsIn K T).isSome=true) (hs:PySem.W.subIn K (.ref C) (.ref T)=some b) (q:Q b s):wpAny M A (excMatches (.ref a) (.ref T)) Q E s:=by
 obtain⟨oe,vs,ex,ec,ed⟩:=x
 have L1:PySem.W.Looks M s.heap (isInstance (.ref T) (.type "tuple")) false:=(PySem.W.looks_typeIn X hm).andThen (PySem.W.Looks.of_pure tc_notTuple)
 have L2:PySem.W.Looks M s.heap (isType (.ref T)) true:=by
  unfold PySem.W.clsIn at hc
  split at hc
  ·rename_i lk
   intro A' Q' E' s' k q'
   unfold isType loadHead
   exact wpAny_bind (wpAny_loadPart (k _ _ (X _ _ lk)) (wpAny_pure q'))
  ·cases hc
 have L3:=PySem.W.looks_subIn (M:=M) X he
 have L4:PySem.W.Looks M s.heap (typeOf (.ref a)) (.ref C):=by
  have z:PySem.W.Looks M s.heap (typeOf (.ref a)) oe.cls:=(PySem.W.Looks.ld ex).andThen .now
  rw[ec] at z;exact z
 have L5:=PySem.W.looks_subIn (M:=M) X hs
 unfold excMatches
 refine wpAny_bind (L1.here ?_)
 simp only[Bool.false_eq_true,if_false]
 have LX:PySem.W.Looks M s.heap (isExcClass (.ref T)) true:=by
  unfold isExcClass
  exact L2.andThen (by simpa using L3)
 refine wpAny_bind (wpAny_pure ?_)
 refine wpAny_bind ?_
 rw[List.forIn_cons]
 refine wpAny_bind (wpAny_bind (LX.here ?_))
 simp only[Bool.not_true,Bool.false_eq_true,if_false]
 refine wpAny_pure ?_
 simp only[List.forIn_nil]
 refine wpAny_pure ?_
 refine wpAny_bind (L4.here ?_)
 refine wpAny_bind ?_
 rw[List.forIn_cons]
 refine wpAny_bind (wpAny_bind (L5.here ?_))
 cases b with
 |true=>
  simp only[if_true]
  exact wpAny_pure (wpAny_pure (wpAny_pure q))
 |false=>
  simp only[Bool.false_eq_true,if_false]
  refine wpAny_pure ?_
  simp only[List.forIn_nil]
  exact wpAny_pure (wpAny_pure q)
structure Cd (K:PySem.W.Frag) (mg:Str→Option Value) (x:Str) (T:Addr):Prop where
 bound:mg x=some (.ref T)
 ty:PySem.W.typeIn K (.ref T)=some (.type "type")
 exc:PySem.W.subIn K (.ref T) (.type "BaseException")=some true
 cls:(PySem.W.clsIn K T).isSome=true
def yP (K:PySem.W.Frag)(T:Addr)(i:Nat)(tb:(St→XK)→TS)(ts:TS):TS:=fun D σ H=>
 tb (fun σ' c oa H'=>∃C a,c= .ref C∧oa=some a∧PySem.W.subIn K (.ref C) (.ref T)=some true∧
  ts {nx:=fun σ2 H2=>D.nx (σ2.set i none) H2,rt:=D.rt,bk:=fun σ2 H2=>D.bk (σ2.set i none) H2,ct:=fun σ2 H2=>D.ct (σ2.set i none) H2} (σ'.set i (some (.ref a))) (A5 H' a (.ext (IsExc a C)))) D σ H
section
variable {X:Cx} {x n:Str} {T:Addr} {np hpos pos:Pos} {i:Nat} {b₀:Stmt} {body suite:List Stmt} {tb:(St→XK)→TS} {ts:TS}
theorem zI (O:Cd X.K X.mg x T)(hN:X.N.Nodup)(hi:X.N[i]?=some n)(hl:X.env.scope.names.lookup n=some .local)(hb:∀pins Es,PSs (X.tried pins Es) body (tb Es))(hs:∀e,PSs (X.suite e) (b₀::suite) ts)
  (hst:X.stack=X.env::X.outer) (hfr:X.env.frame=some X.env.locals) (hex:X.ex=[]) (hg:Gl X x:=by rfl) (hdb:(x==("__debug__":Str))=false:=by decide):
  PS X (.Try body [.ExceptHandler (some (.Name x np)) (some n) (b₀::suite) hpos] [] [] pos) (yP X.K T i tb ts):=by
 intro pins s σ H D I hw
 refine wpAny_Try_except (wpAny_mono (hb pins _ [] s σ H D I.toTried hw) (fun f s1 q=>?_) fun e s1 q=>?_)
 ·cases f with
  |next=>obtain⟨σ',H',I',q'⟩:=q;exact wpAny_execs_nil ⟨σ',H',I'.ofTried,q'⟩
  |brk=>obtain⟨σ',H',I',q'⟩:=q;exact⟨σ',H',I'.ofTried,q'⟩
  |cont=>obtain⟨σ',H',I',q'⟩:=q;exact⟨σ',H',I'.ofTried,q'⟩
  |ret u=>obtain⟨v,σ',H',I',r',q'⟩:=q;exact⟨v,σ',H',I'.ofTried,r',q'⟩
 ·obtain⟨pins',σ',H1,s2,I2',a,C',a0,B,H',rfl,F,C,a',ec,ea,hsub,hts⟩:=q
  cases ec
  cases ea
  have I2:=I2'.ofPinned
  have hfl:=F.fl
  rw[hst] at hfl
  refine wpAny_looks_onW (by rw[I.ok.frames,hst]) hfr hfl fun h4 held4 sm4=>?_
  refine wpAny_landsW held4 fun h5 hfl5 sm5=>?_
  have I5:Inv X pins σ' H' {s1 with heap:=h5}:=F.land I2 hfl5.1 (sm4.trans sm5) s1.toks
  have hx5:IsExc a C' h5:=by
   obtain⟨oe,vs,z1,z2,z3,_⟩:=hfl5.first
   exact⟨oe,vs,z1,z2,z3⟩
  refine wpAny_handleBy_cons (codeAny_handlers_test ?_) (by intro q;cases q)
  refine gm (X:=X.suite a) (I5.toSuite (e:=a)) hg O.bound ?_ hdb
  refine kX I5.kIn hx5 O.ty O.exc O.cls hsub ?_
  refine codeAny_handlers_suite_as ?_
  refine lands_againW hfl5 fun h6 hfl6 sm6=>?_
  have I6:Inv X pins σ' H' {s1 with heap:=h6}:=F.land I2 hfl6.1 ((sm4.trans sm5).trans sm6) s1.toks
  have hx6:IsExc a C' h6:=by
   obtain⟨oe,vs,z1,z2,z3,_⟩:=hfl6.first
   exact⟨oe,vs,z1,z2,z3⟩
  have nB:B.get? a=none:=hfl6.2.1
  have nfr:a∉T7 X.stack:=fun hb=>by
   obtain⟨oe,vs,z1,z2,z3⟩:=hx6
   rw[hst] at hb
   exact E9 hfl6.2.2.1 hb z1 vs z3
  have n2:s2.heap.get? a=none:=by
   cases z:s2.heap.get? a with
   |none=>rfl
   |some o=>
    obtain⟨o',z'⟩:=F.th a o z nfr
    rw[nB] at z';cases z'
  have n0:X.s₀.heap.get? a=none:=by
   cases z:X.s₀.heap.get? a with
   |none=>rfl
   |some o=>
    obtain⟨o',z'⟩:=I2.base.there a o z (by rw[hex];simp)
    rw[n2] at z';cases z'
  have I7:=(I6.track F.nw hx6 n0 fun p hp q=>by
   have z:=(I2.pin p hp).1
   rw[q,n2] at z;cases z).toSuite (e:=a)
  refine gR (X:=X.suite a) I7 hN hi (.inl hl) (v:= .ref a) rfl (fun s8 I8=>?_) (.inr hl)
  refine wpAny_mono (hs a pins s8 _ _ _ I8 hts) (fun f s9 q=>?_) fun _ _ z=>z.elim
  cases f with
  |next=>
   obtain⟨σ9,H9,I9,q9⟩:=q
   exact cO (I9.ofSuite I.ok) hN hi hl fun s10 I10=>⟨_,_,I10,q9⟩
  |brk=>
   obtain⟨σ9,H9,I9,q9⟩:=q
   exact cO (I9.ofSuite I.ok) hN hi hl fun s10 I10=>⟨_,_,I10,q9⟩
  |cont=>
   obtain⟨σ9,H9,I9,q9⟩:=q
   exact cO (I9.ofSuite I.ok) hN hi hl fun s10 I10=>⟨_,_,I10,q9⟩
  |ret u=>
   obtain⟨v9,σ9,H9,I9,r9,q9⟩:=q
   exact cO (I9.ofSuite I.ok) hN hi hl fun s10 I10=>⟨_,_,_,I10,r9,q9⟩
theorem Ba (O:Cd X.K X.mg x T)(hN:X.N.Nodup)(hi:X.N[i]?=some n)(hb:∀pins Es,QSs (X.tried pins Es) body (tb Es))(hs:∀e,QSs (X.suite e) (b₀::suite) ts)(hl:X.env.scope.names.lookup n=some .local:=by rfl)
  (hst:X.stack=X.env::X.outer:=by rfl) (hfr:X.env.frame=some X.env.locals:=by rfl) (hex:X.ex=[]:=by rfl) (hg:Gl X x:=by rfl) (hdb:(x==("__debug__":Str))=false:=by decide):
  QS X (.Try body [.ExceptHandler (some (.Name x np)) (some n) (b₀::suite) hpos] [] [] pos) (yP X.K T i tb ts):=⟨zI O hN hi hl (fun p E=>(hb p E).r) (fun e=>(hs e).r) hst hfr hex hg hdb⟩
end
end L2
set_option Elab.async false
set_option linter.all false
set_option maxRecDepth 100000
set_option maxHeartbeats 4000000
namespace L2
open PySem PySem.Spec PyProof.Rows PySem.W
def cV:Value→V→Prop
 | .ref T,v=>v= .ref T
 | .type n,v=>v= .ty n
 |_,_=>False
section
variable {X:Cx}
end
def cA (K:Frag)(x:Str):Addr:=match nsIn K mainGlobals x with
 |some (some (.ref C))=>C
 |_=>0
section
variable {K:Frag} {σ:St} {H:Hp} {Q:VK} {D:oq}
theorem wg {C:Addr}{E:XK}{ta:TA}(q:ta σ H fun vs H1=>vs.length≤sizeLine∧∀e,H1 e=none→E (.ref C) (some e) H1):oz C E ta D σ H:=q
theorem Ap {T:Addr}{i:Nat}{tb:(St→XK)→TS}{ts:TS}(q:tb (fun σ' c oa H'=>∃C a,c= .ref C∧oa=some a∧PySem.W.subIn K (.ref C) (.ref T)=some true∧
  ts {nx:=fun σ2 H2=>D.nx (σ2.set i none) H2,rt:=D.rt,bk:=fun σ2 H2=>D.bk (σ2.set i none) H2,ct:=fun σ2 H2=>D.ct (σ2.set i none) H2} (σ'.set i (some (.ref a))) (A5 H' a (.ext (IsExc a C)))) D σ H):yP K T i tb ts D σ H:=q
end
section
variable {X:Cx}
def Ay (K:Frag):R2:=fun x y H Q=>(∃a xs i,x= .ref a∧y= .int i∧SqT K H a xs∧Q (.bl true) H)∨(∃a xs i,x= .int i∧y= .ref a∧SqT K H a xs∧Q (.bl true) H)
theorem yk (hu:X.A.units+64<cLine):OpR X (compareOp .NotEq) (Ay X.K):=by
 intro pins s σ H x y v u Q I rx ry h
 rcases h with⟨a,xs,i,rfl,rfl,ha,k⟩|⟨a,xs,i,rfl,rfl,ha,k⟩
 ·cases rx
  obtain⟨t,rfl⟩:=(show ∃t,u=Value.int i t from ry)
  obtain⟨its,r1,p1,z1⟩:=I.tuple ha
  exact SeqAt.RcNeAt.tuple_int (A:=X.A) i t (show s.heap.IsTuple a its.toArray from p1) (by lia) X.prog X.w _ _ ⟨.bl true,H,I,rfl,k⟩
 ·cases ry
  obtain⟨t,rfl⟩:=(show ∃t,v=Value.int i t from rx)
  obtain⟨its,r1,p1,z1⟩:=I.tuple ha
  exact SeqAt.RcNeAt.int_tuple (A:=X.A) i t (show s.heap.IsTuple a its.toArray from p1) (by lia) X.prog X.w _ _ ⟨.bl true,H,I,rfl,k⟩
def rT (K:Frag):R2:=fun x y H Q=>iN K x y H Q∨Ay K x y H Q
theorem CV (K:Frag){k:Nat}(hr:Room k X.A)(h:X.K=K:=by rfl):OpR X (compareOp .NotEq) (rT K):=(DS K hr h).or (h▸yk hr.units)
end
section
variable {K:Frag} {H:Hp} {Q:VK}
theorem Dm {x y:V}(q:iN K x y H Q):rT K x y H Q:= .inl q
theorem sf {i j:Int}(q:Q (.bl (!decide (i=j))) H):rT K (.int i) (.int j) H Q:= .inl (lj q)
theorem sF {i j:Str}(q:Q (.bl (!decide (i=j))) H):rT K (.str i) (.str j) H Q:= .inl (kQ q)
end
end L2
set_option Elab.async false
set_option linter.all false
set_option maxRecDepth 100000
set_option maxHeartbeats 4000000
namespace L2
open PySem PySem.Spec PyProof.Rows
section
variable {X:Cx}
end
section
open PySem.Builtin PySem.Builtin.Str
theorem lY (x:Str)(l u:Option Int):(Txt.slice x l u).length≤(strSliceIndices l u 1 x.length).length:=by
 unfold Txt.slice
 split
 ·next h=>
  have h':(strSliceIndices l u 1 x.length).length=x.length:=by simpa using h
  lia
 ·show(List.filterMap _ (strSliceIndices l u 1 x.length)).toArray.size≤_
  rw[List.size_toArray]
  exact List.length_filterMap_le _ _
theorem uN (x:Str)(i:Int)(h0:0≤i)(h1:i≤x.length):(Txt.slice x none (some i)).length≤i.toNat:=by
 refine Nat.le_trans (lY x none (some i)) ?_
 unfold strSliceIndices sliceRange
 simp only[show(1:Int)>0 by decide,if_true,List.length_map,List.length_range]
 repeat(first|split|lia)
end
end L2
set_option Elab.async false
set_option linter.all false
set_option maxRecDepth 100000
set_option maxHeartbeats 4000000
namespace L2
open PySem PySem.Spec PyProof.Rows
section
variable {prog:Program} {w:World} {A:Around} {E:Value→Shared→Prop}
def StrsAre:List Value→List Str→Prop:=Paired fun u x=>∃t,u= .str x t
end
section
variable {prog:Program} {w:World} {A:Around} {E:Value→Shared→Prop}
end
def yr (a:Addr)(n:Nat)(h:Heap):Prop:=∃o es ep t,h.get? a=some o∧o.ExactSet∧o.data= .set es ep t∧t.fits es.size=true∧es.size=n
section
variable {X:Cx}
def yc (K:PySem.W.Frag):List V→Hp→VK→Prop:=fun xs H Q=>nQ K xs H Q∨∃p n,xs=[V.ref p]∧H p=some (.ext (yr p n))∧n≤1000∧Q (.int n) H
theorem call_lenS:CallR X (.builtin "len") (yc X.K):=by
 refine call_lenX.or ?_
 intro pins s σ H xs us Q I r h
 obtain⟨p,n,rfl,hp,hn,q⟩:=h
 obtain⟨u,rfl,ru⟩:=O8 r
 cases ru
 obtain⟨o,es,ep,t,h1,h2,h3,h4,h5⟩:=(I.hok p _ hp).1
 exact call_len_set h1 h2 h3 h4 (by lia) ⟨.int n,H,I.tok _,⟨_,by rw[h5]⟩,q⟩
end
end L2
set_option Elab.async false
set_option linter.all false
set_option maxRecDepth 100000
set_option maxHeartbeats 4000000
namespace L2
open PySem PySem.Spec PyProof.Rows
open PySem.AutoSeq1 (wpAny_loadPart')
open PySem.MeetsSeq PySem.MeetsSeq2 PySem.MeetsSeq3
theorem lK:plainId "list.__eq__.loop"=true:=plain_eq_loop
section
variable {P:Program} {w:World}
theorem lu (l m:Addr)(xs ys:Array Value)(n1 n2:Nat)(d1 d2:Option Addr)(s1 s2:Array (Option Value))(hz:xs.size=ys.size)(f:Nat→Bool)(md:Int)(hmd:md=2∨md=3):∀(k i:Nat),xs.size -i=k→
  MeetsIn P w (Builtin.«list.__eq__.loop» ⟨[.ref l,.ref m,rawInt i,rawInt md],[]⟩) (fun A R s=>
   s.heap.get? l=some {cls:= .type "list",dict:=d1,data:= .seq xs n1,slots:=s1}∧s.heap.get? m=some {cls:= .type "list",dict:=d2,data:= .seq ys n2,slots:=s2}∧
   (∀j (g1:j<xs.size) (g2:j<ys.size),EqP P w A.in1 s xs[j] ys[j] (f j))∧
   R (.ok (.ret (.bool (if md=2 then((List.range xs.size).drop i).all f else !((List.range xs.size).drop i).all f)))) s):=by
 intro k
 induction k with
 |zero=>
  intro i hk
  intro A R s hyp
  obtain⟨hp,gg,dr,tk,os⟩:=s
  obtain⟨e1,e2,he,fin⟩:=hyp
  have x1:xs[((i:Nat):Int).toNat]?=none:=by simp;lia
  have x2:ys[((i:Nat):Int).toNat]?=none:=by simp;lia
  have x3:(List.range xs.size).drop i=[]:=by simp;lia
  rw[x3] at fin
  rcases hmd with rfl|rfl
  ·wp_walk using wpAny_loadPart' e1,wpAny_loadPart' e2
   rw[x1,x2]
   wp_walk using wpAny_loadPart' e1,wpAny_loadPart' e2
   show R (.ok (.ret (.bool (xs.size==ys.size)))) _
   rw[hz];simpa using fin
  ·wp_walk using wpAny_loadPart' e1,wpAny_loadPart' e2
   rw[x1,x2]
   wp_walk using wpAny_loadPart' e1,wpAny_loadPart' e2
   show R (.ok (.ret (.bool (xs.size !=ys.size)))) _
   rw[hz];simpa using fin
 |succ k ih=>
  intro i hk
  intro A R s hyp
  have ih:=ih (i+1) (by lia)
  obtain⟨hp,gg,dr,tk,os⟩:=s
  obtain⟨e1,e2,he,fin⟩:=hyp
  have l1:i<xs.size:=by lia
  have l2:i<ys.size:=by lia
  have x1:xs[((i:Nat):Int).toNat]?=some xs[i]:=by simp [l1]
  have x2:ys[((i:Nat):Int).toNat]?=some ys[i]:=by simp [l2]
  have x3:(List.range xs.size).drop i=i::(List.range xs.size).drop (i+1):=by simp [List.drop_eq_getElem_cons,l1]
  have x4:((i:Int)+1)=((i+1:Nat):Int):=by push_cast;rfl
  rw[x3,List.all_cons] at fin
  rcases hmd with rfl|rfl
  ·wp_walk using wpAny_loadPart' e1,wpAny_loadPart' e2
   rw[x1,x2]
   refine wpAny_bind (he i l1 l2 _ _ ?_)
   cases hf:f i with
   |true=>
    rw[hf] at fin
    wp_walk
    rw[x4]
    refine⟨plainId_quiet lK _,codeAny_builtin entry_eq_loop ?_⟩
    rw[Around.under_plainId lK _]
    exact ih A R _ ⟨e1,e2,he,by simpa using fin⟩
   |false=>
    rw[hf] at fin
    wp_walk using wpAny_loadPart' e1,wpAny_loadPart' e2
    rw[x1,x2]
    wp_walk
    simpa using fin
  ·wp_walk using wpAny_loadPart' e1,wpAny_loadPart' e2
   rw[x1,x2]
   refine wpAny_bind (he i l1 l2 _ _ ?_)
   cases hf:f i with
   |true=>
    rw[hf] at fin
    wp_walk
    rw[x4]
    refine⟨plainId_quiet lK _,codeAny_builtin entry_eq_loop ?_⟩
    rw[Around.under_plainId lK _]
    exact ih A R _ ⟨e1,e2,he,by simpa using fin⟩
   |false=>
    rw[hf] at fin
    wp_walk using wpAny_loadPart' e1,wpAny_loadPart' e2
    rw[x1,x2]
    wp_walk
    simpa using fin
theorem yW (l m:Addr)(xs ys:Array Value)(n1 n2:Nat)(d1 d2:Option Addr)(s1 s2:Array (Option Value))(hz:xs.size=ys.size)(f:Nat→Bool):
  MeetsIn P w (Builtin.«list.__eq__» ⟨[.ref l,.ref m],[]⟩) (fun A R s=>
   s.heap.get? l=some {cls:= .type "list",dict:=d1,data:= .seq xs n1,slots:=s1}∧s.heap.get? m=some {cls:= .type "list",dict:=d2,data:= .seq ys n2,slots:=s2}∧
   (∀j (g1:j<xs.size) (g2:j<ys.size),EqP P w A.in1 s xs[j] ys[j] (f j))∧R (.ok (.ret (.bool ((List.range xs.size).all f)))) s):=by
 intro A R s hyp
 obtain⟨hp,gg,dr,tk,os⟩:=s
 obtain⟨e1,e2,he,fin⟩:=hyp
 have q1:=AutoSeq1.sub_list_list;have q2:¬(xs.size !=ys.size)=true:=by simp [hz]
 wp_walk using wpAny_loadPart' e1,wpAny_loadPart' e2
 refine⟨plainId_quiet lK _,codeAny_builtin entry_eq_loop ?_⟩
 rw[Around.under_plainId lK _]
 exact lu l m xs ys n1 n2 d1 d2 s1 s2 hz f 2 (.inl rfl) _ 0 rfl A R _ ⟨e1,e2,he,by simpa using fin⟩
theorem zL (l m:Addr)(xs ys:Array Value)(n1 n2:Nat)(d1 d2:Option Addr)(s1 s2:Array (Option Value))(hz:xs.size=ys.size)(f:Nat→Bool):
  MeetsIn P w (Builtin.«list.__ne__» ⟨[.ref l,.ref m],[]⟩) (fun A R s=>
   s.heap.get? l=some {cls:= .type "list",dict:=d1,data:= .seq xs n1,slots:=s1}∧s.heap.get? m=some {cls:= .type "list",dict:=d2,data:= .seq ys n2,slots:=s2}∧
   (∀j (g1:j<xs.size) (g2:j<ys.size),EqP P w A.in1 s xs[j] ys[j] (f j))∧R (.ok (.ret (.bool (!(List.range xs.size).all f)))) s):=by
 intro A R s hyp
 obtain⟨hp,gg,dr,tk,os⟩:=s
 obtain⟨e1,e2,he,fin⟩:=hyp
 have q1:=AutoSeq1.sub_list_list;have q2:¬(xs.size !=ys.size)=true:=by simp [hz]
 wp_walk using wpAny_loadPart' e1,wpAny_loadPart' e2
 refine⟨plainId_quiet lK _,codeAny_builtin entry_eq_loop ?_⟩
 rw[Around.under_plainId lK _]
 exact lu l m xs ys n1 n2 d1 d2 s1 s2 hz f 3 (.inr rfl) _ 0 rfl A R _ ⟨e1,e2,he,by simpa using fin⟩
theorem RcP.lst {A:Around}{s:Shared}{l m:Addr}{xs ys:Array Value}{f:Nat→Bool}(hl:s.heap.IsList l xs)(hm:s.heap.IsList m ys)(hz:xs.size=ys.size)(hu:A.units<cLine)
  (he:∀j (g1:j<xs.size) (g2:j<ys.size),EqP P w A.in1 s xs[j] ys[j] (f j)):RcP P w A s (.ref l) (.ref m) ((List.range xs.size).all f):=fun E Q q=>by
 obtain⟨⟨c1,d1,a1,s1⟩,o1,k1,n1,t1⟩:=id hl
 obtain⟨⟨c2,d2,a2,s2⟩,o2,k2,n2,t2⟩:=id hm
 simp only at k1 t1 k2 t2
 subst k1 t1 k2 t2
 refine wpAny_richCompare_same_room (op:= .Eq) ⟨_,o1,rfl⟩ ⟨_,o2,rfl⟩ PySem.F.slot_list_eq (call_meetsIn PySem.F.slot_list_eq ⟨_,o1,rfl⟩ PySem.F.entry_list_eq (PySem.F.args_list_eq_2 _ _) (yW l m xs ys n1 n2 d1 d2 s1 s2 hz f) ⟨o1,o2,he,?_⟩) hu
 exact⟨(fun z=>nomatch z),q⟩
theorem NcP.lst {A:Around}{s:Shared}{l m:Addr}{xs ys:Array Value}{f:Nat→Bool}(hl:s.heap.IsList l xs)(hm:s.heap.IsList m ys)(hz:xs.size=ys.size)(hu:A.units<cLine)
  (he:∀j (g1:j<xs.size) (g2:j<ys.size),EqP P w A.in1 s xs[j] ys[j] (f j)):NcP P w A s (.ref l) (.ref m) (!(List.range xs.size).all f):=fun E Q q=>by
 obtain⟨⟨c1,d1,a1,s1⟩,o1,k1,n1,t1⟩:=id hl
 obtain⟨⟨c2,d2,a2,s2⟩,o2,k2,n2,t2⟩:=id hm
 simp only at k1 t1 k2 t2
 subst k1 t1 k2 t2
 refine wpAny_richCompare_same_room (op:= .NotEq) ⟨_,o1,rfl⟩ ⟨_,o2,rfl⟩ PySem.F.slot_list_ne (call_meetsIn PySem.F.slot_list_ne ⟨_,o1,rfl⟩ PySem.F.entry_list_ne (PySem.F.args_list_ne_2 _ _) (zL l m xs ys n1 n2 d1 d2 s1 s2 hz f) ⟨o1,o2,he,?_⟩) hu
 exact⟨(fun z=>nomatch z),q⟩
end
def EqN (K:PySem.W.Frag)(H:Hp):Nat→V→V→Bool→Prop
 |0,x,y,b=>Eq1 K H x y b∨∃a c,x= .ref a∧y= .ref c∧EqD K H a c b
 |n+1,x,y,b=>EqN K H n x y b∨∃(a c:Addr) (xs ys:List V) (bs:List Bool),x= .ref a∧y= .ref c∧a≠c∧((SqT K H a xs∧SqT K H c ys)∨(SqL K H a xs∧SqL K H c ys))∧xs.length=ys.length∧bs.length=xs.length∧
   (∀(j:Nat) (x' y':V) (b':Bool),xs[j]?=some x'→ys[j]?=some y'→bs[j]?=some b'→EqN K H n x' y' b')∧b=bs.all id
theorem K9:∀(bs:List Bool),(List.range bs.length).all (fun j=>bs.getD j true)=bs.all id
 |[]=>rfl
 |b::r=>by
  rw[List.length_cons,List.range_succ_eq_map,List.all_cons,List.all_map]
  show(b&&(List.range r.length).all fun j=>r.getD j true)=(b&&r.all id)
  rw[K9 r]
section
variable {X:Cx} {pins:List (Addr×Obj)} {σ:St} {H:Hp} {s:Shared}
theorem eK {n:Nat}{xs ys:List V}{bs:List Bool}{us vs:List Value}{A:Around}(r1:Vals xs us)(r2:Vals ys vs)(hl:xs.length=ys.length)(hb:bs.length=xs.length)
  (he:∀(j:Nat) (x' y':V) (b':Bool),xs[j]?=some x'→ys[j]?=some y'→bs[j]?=some b'→EqN X.K H n x' y' b')
  (at_:∀{x y:V} {u v:Value} {b:Bool},EqN X.K H n x y b→RelV x u→RelV y v→EqP X.prog X.w A.in1 s u v b):
  ∀j (g1:j<us.toArray.size) (g2:j<vs.toArray.size),EqP X.prog X.w A.in1 s us.toArray[j] vs.toArray[j] (bs.getD j true):=fun j g1 g2=>by
 have l1:=r1.length
 have l2:=r2.length
 have g1':j<us.length:=by simpa using g1
 have g2':j<vs.length:=by simpa using g2
 have x1:xs[j]?=some (xs[j]'(by lia)):=List.getElem?_eq_getElem _
 have y1:ys[j]?=some (ys[j]'(by lia)):=List.getElem?_eq_getElem _
 have b1:bs[j]?=some (bs[j]'(by lia)):=List.getElem?_eq_getElem _
 obtain⟨u1,hu1,ru1⟩:=r1.get x1
 obtain⟨u2,hu2,ru2⟩:=r2.get y1
 have e1:us.toArray[j]=u1:=by
  have:=List.getElem?_eq_getElem g1'
  rw[hu1] at this
  simpa using(Option.some.inj this).symm
 have e2:vs.toArray[j]=u2:=by
  have:=List.getElem?_eq_getElem g2'
  rw[hu2] at this
  simpa using(Option.some.inj this).symm
 rw[e1,e2,List.getD_eq_getElem?_getD,b1]
 exact at_ (he j _ _ _ x1 y1 b1) ru1 ru2
theorem EqN.at_ (I:Inv X pins σ H s):∀{n:Nat} {A:Around} {x y:V} {u v:Value} {b:Bool},EqN X.K H n x y b→RelV x u→RelV y v→A.units+32+n<cLine→EqP X.prog X.w A s u v b:=by
 intro n
 induction n with
 |zero=>
  intro A x y u v b h rx ry hu
  rcases h with h|⟨a,c,rfl,rfl,h⟩
  ·exact .of (h.at_ I rx ry (by lia))
  ·cases rx
   cases ry
   exact h.at_ I (by lia)
 |succ n ih=>
  intro A x y u v b h rx ry hu
  rcases h with h|⟨a,c,xs,ys,bs,rfl,rfl,hne,hh,hl,hb,he,rfl⟩
  ·exact ih h rx ry (by lia)
  ·cases rx
   cases ry
   have hin:A.in1.units=A.units+1:=rfl
   rcases hh with⟨h1,h2⟩|⟨h1,h2⟩
   ·obtain⟨us,r1,p1,z1⟩:=I.tuple h1
    obtain⟨vs,r2,p2,z2⟩:=I.tuple h2
    have l1:=r1.length
    have l2:=r2.length
    have q:=RcP.tup (P:=X.prog) (w:=X.w) (A:=A) (f:=fun j=>bs.getD j true) (show s.heap.IsTuple a us.toArray from p1) (show s.heap.IsTuple c vs.toArray from p2) (by lia) (eK r1 r2 hl hb he fun z q1 q2=>ih z q1 q2 (by lia))
    have e3:min us.toArray.size vs.toArray.size=bs.length:=by simp;lia
    have e4:(us.toArray.size==vs.toArray.size)=true:=by simp;lia
    rw[e3,e4,K9,Bool.and_true] at q
    exact .refs hne q
   ·obtain⟨us,r1,p1,z1⟩:=I.list h1
    obtain⟨vs,r2,p2,z2⟩:=I.list h2
    have l1:=r1.length
    have l2:=r2.length
    have q:=RcP.lst (P:=X.prog) (w:=X.w) (A:=A) (f:=fun j=>bs.getD j true) p1.isList p2.isList (by simp;lia) (by lia) (eK r1 r2 hl hb he fun z q1 q2=>ih z q1 q2 (by lia))
    have e3:us.toArray.size=bs.length:=by simp;lia
    rw[e3,K9] at q
    exact .refs hne q
end
def CY (K:PySem.W.Frag)(H:Hp)(x y:V)(bs:List Bool):Prop:=∃(a c:Addr) (xs ys:List V),x= .ref a∧y= .ref c∧((SqT K H a xs∧SqT K H c ys)∨(SqL K H a xs∧SqL K H c ys))∧xs.length=ys.length∧bs.length=xs.length∧
 ∀(j:Nat) (x' y':V) (b':Bool),xs[j]?=some x'→ys[j]?=some y'→bs[j]?=some b'→EqN K H 8 x' y' b'
section
variable {X:Cx}
def AZ (K:PySem.W.Frag):R2:=fun x y H Q=>∃bs,CY K H x y bs∧Q (.bl (bs.all id)) H
def Bz (K:PySem.W.Frag):R2:=fun x y H Q=>∃bs,CY K H x y bs∧Q (.bl (!bs.all id)) H
theorem yy (hu:X.A.units+64<cLine):OpR X (compareOp .Eq) (AZ X.K):=by
 intro pins s σ H x y v u Q I rx ry h
 obtain⟨bs,⟨a,c,xs,ys,rfl,rfl,hh,hl,hb,he⟩,k⟩:=h
 cases rx
 cases ry
 have hin:X.A.in1.units=X.A.units+1:=rfl
 rcases hh with⟨h1,h2⟩|⟨h1,h2⟩
 ·obtain⟨us,r1,p1,z1⟩:=I.tuple h1
  obtain⟨vs,r2,p2,z2⟩:=I.tuple h2
  have l1:=r1.length
  have l2:=r2.length
  have q:=RcP.tup (P:=X.prog) (w:=X.w) (A:=X.A) (f:=fun j=>bs.getD j true) (show s.heap.IsTuple a us.toArray from p1) (show s.heap.IsTuple c vs.toArray from p2) (by lia) (eK r1 r2 hl hb he fun z q1 q2=>EqN.at_ I z q1 q2 (by lia))
  have e3:min us.toArray.size vs.toArray.size=bs.length:=by simp;lia
  have e4:(us.toArray.size==vs.toArray.size)=true:=by simp;lia
  rw[e3,e4,K9,Bool.and_true] at q
  exact q _ _ ⟨.bl _,H,I,rfl,k⟩
 ·obtain⟨us,r1,p1,z1⟩:=I.list h1
  obtain⟨vs,r2,p2,z2⟩:=I.list h2
  have l1:=r1.length
  have l2:=r2.length
  have q:=RcP.lst (P:=X.prog) (w:=X.w) (A:=X.A) (f:=fun j=>bs.getD j true) p1.isList p2.isList (by simp;lia) (by lia) (eK r1 r2 hl hb he fun z q1 q2=>EqN.at_ I z q1 q2 (by lia))
  have e3:us.toArray.size=bs.length:=by simp;lia
  rw[e3,K9] at q
  exact q _ _ ⟨.bl _,H,I,rfl,k⟩
theorem zj (hu:X.A.units+64<cLine):OpR X (compareOp .NotEq) (Bz X.K):=by
 intro pins s σ H x y v u Q I rx ry h
 obtain⟨bs,⟨a,c,xs,ys,rfl,rfl,hh,hl,hb,he⟩,k⟩:=h
 cases rx
 cases ry
 have hin:X.A.in1.units=X.A.units+1:=rfl
 rcases hh with⟨h1,h2⟩|⟨h1,h2⟩
 ·obtain⟨us,r1,p1,z1⟩:=I.tuple h1
  obtain⟨vs,r2,p2,z2⟩:=I.tuple h2
  have l1:=r1.length
  have l2:=r2.length
  have q:=NcP.tup (P:=X.prog) (w:=X.w) (A:=X.A) (f:=fun j=>bs.getD j true) (show s.heap.IsTuple a us.toArray from p1) (show s.heap.IsTuple c vs.toArray from p2) (by lia) (eK r1 r2 hl hb he fun z q1 q2=>EqN.at_ I z q1 q2 (by lia))
  have e3:min us.toArray.size vs.toArray.size=bs.length:=by simp;lia
  have e4:(us.toArray.size==vs.toArray.size)=true:=by simp;lia
  rw[e3,e4,K9,Bool.and_true] at q
  exact q _ _ ⟨.bl _,H,I,rfl,k⟩
 ·obtain⟨us,r1,p1,z1⟩:=I.list h1
  obtain⟨vs,r2,p2,z2⟩:=I.list h2
  have l1:=r1.length
  have l2:=r2.length
  have q:=NcP.lst (P:=X.prog) (w:=X.w) (A:=X.A) (f:=fun j=>bs.getD j true) p1.isList p2.isList (by simp;lia) (by lia) (eK r1 r2 hl hb he fun z q1 q2=>EqN.at_ I z q1 q2 (by lia))
  have e3:us.toArray.size=bs.length:=by simp;lia
  rw[e3,K9] at q
  exact q _ _ ⟨.bl _,H,I,rfl,k⟩
def fz (K:PySem.W.Frag):R2:=fun x y H Q=>rT K x y H Q∨Bz K x y H Q
theorem Z8 (K:PySem.W.Frag){k:Nat}(hr:Room k X.A)(h:X.K=K:=by rfl):OpR X (compareOp .NotEq) (fz K):=(CV K hr h).or (h▸zj hr.units)
def cE (K:PySem.W.Frag):R2:=fun x y H Q=>zJ K x y H Q∨AZ K x y H Q
theorem W6 (K:PySem.W.Frag){k:Nat}(hr:Room k X.A)(h:X.K=K:=by rfl):OpR X (compareOp .Eq) (cE K):=(CK K hr h).or (h▸yy hr.units)
end
end L2
set_option Elab.async false
set_option linter.all false
set_option maxRecDepth 100000
set_option maxHeartbeats 4000000
namespace L2
open PySem PySem.Spec PyProof.Rows
def Ak (v d:Addr)(h:Heap):Prop:=h.IsValuesView v d
section
variable {X:Cx}
def mG (K:PySem.W.Frag):List V→Hp→VK→Prop:=fun xs H Q=>pD K xs H Q∨∃(v d:Addr) (kvs:List (j6×V)),xs=[.ref v]∧H v=some (.ext (Ak v d))∧Rd H d (.dK kvs)∧∀l,H l=none→Q (.ref l) (A5 H l (.lst (kvs.map (·.2))))
theorem og (hc:X.calm=true):CallR X (.type "list") (mG X.K):=by
 refine(nj hc).or ?_
 intro pins s σ H xs us Q I r h
 obtain⟨v,d,kvs,rfl,hv,hx,q⟩:=h
 obtain⟨u,rfl,ru⟩:=O8 r
 cases ru
 have hvv:Ak v d s.heap:=(I.hok v _ hv).1
 obtain⟨hd,o,vs,ep,ho,D⟩:=dG I.hok hx
 have hlv:=KV.length D.kv
 have hz:kvs.length≤sizeLine:=(R7 I.hok hx).1
 refine PySem.W.kdl_call (PySem.W.kdl_values (knd:=q8 X.prog X.w) (kvs:=vs) (ep:=ep)) (I.ok.hd hc) ⟨hvv,D.at_ _ ho⟩ (by lia) fun h' tk acc c hkp hS hacc=>?_
 refine⟨.ref s.heap.objs.size,_,I.newL (tk:=tk) hkp (Nat.le_refl _) hS (ah (by have:=hacc.1;simp;lia) fun i x u e1 e2=>?_) (by rw[List.length_map];exact hz),rfl,q _ (I.hok.fresh (Nat.le_refl _))⟩
 obtain⟨k,hy⟩:=hacc.2 i u (by rw[←Array.getElem?_toList];exact e2)
 rw[List.getElem?_map] at e1
 obtain⟨kv,e4,rfl⟩:=Option.map_eq_some_iff.mp e1
 obtain⟨q1,hq1,q2,q3⟩:=B8 (show Paired _ kvs vs from D.kv) e4
 rw[hy] at hq1
 cases hq1
 exact q3
theorem jy (K:PySem.W.Frag)(hc:X.calm=true)(h:X.K=K:=by rfl):CallR X (.type "list") (mG K):=h▸og hc
end
section
variable {K:PySem.W.Frag} {H:Hp} {Q:VK}
theorem jO {xs:List V}(h:pD K xs H Q):mG K xs H Q:= .inl h
end
section
variable {prog:Program} {w:World} {A:Around} {E:Value→Shared→Prop}
end
section
variable {X:Cx}
end
end L2
set_option Elab.async false
set_option linter.all false
set_option maxRecDepth 100000
set_option maxHeartbeats 4000000
namespace L2
open PySem PySem.Spec PyProof.Rows
section
variable {prog:Program} {w:World} {A:Around} {E:Value→Shared→Prop} {s:Shared}
theorem qZ {Q:Int→Shared→Prop}(h:Q 0xFCA86420 {s with toks:=s.toks+1}):wpAny (model prog w) A (pyHash .none) Q E s:=by
 have hT:s.TypeIs Value.none "NoneType":=rfl
 unfold pyHash pyHashByItsType
 refine wpAny_bind ?_
 rw[cRoomFor,if_neg (show ¬([Value.none].any Value.onHeap)=true by decide)]
 refine wpAny_pure (wpAny_bind (wpAny_specialOf hT PySem.F.slot_NoneType_hash.lookup ?_))
 refine(show wpAny _ _ (if(some (Value.builtin "NoneType.__hash__")==some Value.none)=true then _ else _) Q E s from ?_)
 rw[if_neg (by decide)]
 refine wpAny_bind (wpAny_specialOf hT PySem.F.slot_NoneType_hash.lookup ?_)
 refine(show wpAny _ _ (callSpecialIfBoundUnlessNone? Value.none "__hash__" _>>=_) Q E s from ?_)
 refine wpAny_bind (wpAny_callSpecialIfBoundUnlessNone?_slot hT PySem.F.slot_NoneType_hash (wpAny_call_entry PySem.F.slot_NoneType_hash hT PySem.F.entry_NoneType_hash (show wpAny _ _ (do ret (←mkInt 0xFCA86420)) _ _ s from wpAny_ret_mkInt ?_) (PySem.F.args_NoneType_hash_1 _)))
 refine(show wpAny _ _ (if(decide (-(2:Int) ^ 63≤0xFCA86420)&&decide ((0xFCA86420:Int)<2 ^ 63))=true then _ else _) Q E _ from ?_)
 rw[if_pos (by decide)]
 exact wpAny_pure h
end
abbrev iT:=Option j6
def Dz:iT→Value→Bool
 |none,.none=>true
 |none,_=>false
 |some k,v=>df k v
theorem V5:∀{k:iT} {v:Value},Dz k v=true→(k=none∧v=Value.none)∨(∃i t,k=some (Sum.inl i)∧v=Value.int i t)∨(∃x t,k=some (Sum.inr x)∧v=Value.str x t)
 |none,v,h=>by cases v<;>first|exact .inl ⟨rfl,rfl⟩|cases h
 |some k,v,h=>by
  rcases C6 (show df k v=true from h) with⟨i,t,rfl,rfl⟩|⟨x,t,rfl,rfl⟩
  ·exact .inr (.inl ⟨i,t,rfl,rfl⟩)
  ·exact .inr (.inr ⟨x,t,rfl,rfl⟩)
def AB (w:World):iT→Int
 |none=>0xFCA86420
 |some k=>Ca w k
def dP (prog:Program)(w:World):PySem.KeyKind prog w iT where
 is:=Dz
 hash:=AB w
 inj:=fun v a b ha hb=>by
  rcases V5 ha with⟨rfl,rfl⟩|⟨i,t,rfl,rfl⟩|⟨x,t,rfl,rfl⟩<;>rcases V5 hb with⟨rfl,e⟩|⟨j,u,rfl,e⟩|⟨y,u,rfl,e⟩<;>first|rfl|(cases e<;>rfl)
 byValue:=fun k v h=>by
  rcases V5 h with⟨rfl,rfl⟩|⟨i,t,rfl,rfl⟩|⟨x,t,rfl,rfl⟩<;>rfl
 pyHash:=fun hv h=>by
  rcases V5 hv with⟨rfl,rfl⟩|⟨i,t,rfl,rfl⟩|⟨x,t,rfl,rfl⟩
  ·exact qZ h
  ·exact wpAny_pyHash_int h
  ·exact wpAny_pyHash_str h
 eqBool:=fun{A E s a b u v Q} hu hv h=>by
  have dk:∀{k k':j6},decide ((some k:iT)=some k')=decide (k=k'):=fun{k k'}=>by
   by_cases e:k=k'
   ·subst e;simp
   ·rw[decide_eq_false e,decide_eq_false fun z=>e (Option.some.inj z)]
  rcases V5 hu with⟨rfl,rfl⟩|⟨i,t,rfl,rfl⟩|⟨x,t,rfl,rfl⟩<;>rcases V5 hv with⟨rfl,rfl⟩|⟨j,t',rfl,rfl⟩|⟨y,t',rfl,rfl⟩
  ·exact SeqAt.EqAt.same _ _ _ _ _ (by simpa using h)
  ·exact SeqAt.EqAt.none_int j t' _ _ _ _ (by simpa using h)
  ·exact SeqAt.EqAt.none_str y t' _ _ _ _ (by simpa using h)
  ·exact SeqAt.EqAt.int_none i t _ _ _ _ (by simpa using h)
  ·rw[dk,uT] at h;exact wpAny_eqBool_int h
  ·rw[dk,rO] at h;exact SeqAt.EqAt.int_str i t y t' _ _ _ _ h
  ·exact SeqAt.EqAt.str_none x t _ _ _ _ (by simpa using h)
  ·rw[dk,rJ] at h;exact SeqAt.EqAt.str_int x t j t' _ _ _ _ h
  ·rw[dk,uA] at h;exact wpAny_eqBool_str h
 «strs»:=fun k x t v h=>by
  rcases V5 h with⟨rfl,e⟩|⟨i,u,rfl,e⟩|⟨y,u,rfl,e⟩
  ·exact nomatch e
  ·exact nomatch e
  ·injection e with e1 _
   subst e1
   cases v<;>rfl
def dH (P:Program)(w:World)(a:Addr)(n:Nat)(h:Heap):Prop:=(a==sysModules)=false∧∃vs,h.DictOf (dP P w) a vs∧vs.length=n
theorem ow {P P':Program}{w w':World}{H:Hp}{h:Heap}{a:Addr}{n:Nat}(x:dH P w a n h):ObjOk P' w' H h a (.ext (dH P w a n)):=by
 obtain⟨hs,vs,⟨o,es,ep,e,r⟩,hl⟩:=x
 exact⟨⟨hs,vs,⟨o,es,ep,e,r⟩,hl⟩,⟨o,e⟩,fun h1 h2 ⟨hs',vs',⟨o',es',ep',e',r'⟩,hl'⟩ k=>⟨hs',vs',⟨o',es',ep',k _ e',r'⟩,hl'⟩⟩
theorem hU {P:Program}{w:World}:∀{es:List DictEntry} {vs:List (j6×Value)},Pairs (q8 P w) es vs→Pairs (dP P w) es (vs.map fun x=>(some x.1,x.2))
 |_,_,.nil=> .nil
 |_,_,.cons h e t=> .cons h e (hU t)
theorem wY {P:Program}{w:World}{h:Heap}{a:Addr}{vs:List (j6×Value)}(dd:h.DictOf (q8 P w) a vs):h.DictOf (dP P w) a (vs.map fun x=>(some x.1,x.2)):=by
 obtain⟨o,es,ep,h1,h2,h3,h4,h5,h6⟩:=dd
 refine⟨o,es,ep,h1,h2,h3,fun e he=>?_,hU h5,?_⟩
 ·obtain⟨k,q1,q2⟩:=h4 e he
  exact⟨some k,q1,q2⟩
 ·rw[List.map_map]
  have e:((fun x:iT×Value=>x.1)∘fun x:j6×Value=>((some x.1:iT),x.2))=(fun k:j6=>(some k:iT))∘fun x:j6×Value=>x.1:=rfl
  rw[e,←List.map_map]
  exact List.Pairwise.map _ (fun a b h z=>h (Option.some.inj z)) h6
theorem nG {vs:List (j6×Value)}{v:Value}:stored (vs.map fun x=>((some x.1:iT),x.2)) none v=(vs.map fun x=>((some x.1:iT),x.2))++[(none,v)]:=by
 unfold stored
 rw[if_neg]
 intro z
 obtain⟨x,hx,e⟩:=List.any_eq_true.mp z
 obtain⟨y,_,rfl⟩:=List.mem_map.mp hx
 cases of_decide_eq_true e
section
variable {X:Cx}
def tD (P:Program)(w:World):om:=fun o i v H Q=>pK o i v H Q∨∃a kvs,o= .ref a∧i= .non∧H a=some (.dK kvs)∧kvs.length<1000∧Q (A5 H a (.ext (dH P w a (kvs.length+1))))
theorem uZ (hu:X.A.units+1<cLine):qQ X (tD X.prog X.w):=by
 intro pins s σ H o i v ov iv u Q I ro ri rv h
 rcases h with h|⟨a,kvs,rfl,rfl,hA,hl,q⟩
 ·exact xp hu pins s σ H o i v ov iv u Q I ro ri rv h
 ·cases ro
  cases ri
  obtain⟨z,hd,vs,rel,dd⟩:=xU I.hok hA
  have hlv:=rel.length
  refine wpAny_setItem_pairs (knd:=dP X.prog X.w) (k:=none) (hsz:=by rw[List.length_map];lia) rfl (wY dd) fun h' dd' hs=>?_
  rw[nG] at dd'
  have he:∃q,h'.get? a=some q:=let ⟨q,_,_,hq,_⟩:=dd';⟨q,hq⟩
  exact⟨_,jv I (by rw[hA];exact True.intro) hs he (ow ⟨hd,_,dd',by rw[List.length_append,List.length_map,hlv];rfl⟩),q⟩
def pO (K:PySem.W.Frag)(P:Program)(w:World):List V→Hp→VK→Prop:=fun xs H Q=>yc K xs H Q∨∃p n,xs=[V.ref p]∧H p=some (.ext (dH P w p n))∧n≤1000∧Q (.int n) H
theorem rp:CallR X (.builtin "len") (pO X.K X.prog X.w):=by
 refine call_lenS.or ?_
 intro pins s σ H xs us Q I r h
 obtain⟨p,n,rfl,hp,hn,q⟩:=h
 obtain⟨u,rfl,ru⟩:=O8 r
 cases ru
 obtain⟨hs,vs,dd,hl⟩:=(I.hok p _ hp).1
 refine call_len_dict hs dd (by lia) ?_
 rw[hl]
 exact⟨.int n,H,I.tok _,⟨_,rfl⟩,q⟩
theorem Cb (K:PySem.W.Frag)(h:X.K=K:=by rfl):CallR X (.builtin "len") (pO K X.prog X.w):=h▸rp
def pN (K:PySem.W.Frag)(P:Program)(w:World):List V→Hp→VK→Prop:=fun xs H Q=>wN K xs H Q∨∃p n T,xs=[V.ref p,.ty T]∧H p=some (.ext (dH P w p n))∧(T="str"∨T="int"∨T="bool"∨T="list"∨T="tuple"∨T="dict")∧Q (.bl (Y8 "dict" T)) H
theorem qH:CallR X (.builtin "isinstance") (pN X.K X.prog X.w):=by
 refine call_isi.or ?_
 intro pins s σ H xs us Q I r h
 obtain⟨p,n,T,rfl,hp,hT,q⟩:=h
 obtain⟨u,c,rfl,rx,rc⟩:=fP r
 cases rx
 cases rc
 obtain⟨hs,vs,⟨o,es,ep,h1,h2,r⟩,hl⟩:=(I.hok p _ hp).1
 exact PySem.W.kia_one PySem.W.kitx_dict I.kIn ⟨o,h1,h2.1⟩ (Z7 (by simp) hT) (fun z=>nomatch z) fun tk=>⟨.bl _,H,I.tok tk,rfl,q⟩
theorem AI (K:PySem.W.Frag)(h:X.K=K:=by rfl):CallR X (.builtin "isinstance") (pN K X.prog X.w):=h▸qH
end
section
variable {K:PySem.W.Frag} {P:Program} {w:World} {H:Hp} {Q:VK}
theorem E5 {xs:List V}(h:nQ K xs H Q):pO K P w xs H Q:= .inl (.inl h)
theorem U0 {xs:List V}(h:wN K xs H Q):pN K P w xs H Q:= .inl h
theorem ez {o i v:V}{Qh:Hp→Prop}(h:pK o i v H Qh):tD P w o i v H Qh:= .inl h
theorem iH {x y:V}(h:gZ K x y H Q):cE K x y H Q:= .inl (CS h)
theorem cH {i j:Int}(q:Q (.bl (decide (i=j))) H):cE K (.int i) (.int j) H Q:=iH (sP q)
theorem ma {i j:Str}(q:Q (.bl (decide (i=j))) H):cE K (.str i) (.str j) H Q:=iH (uG q)
theorem qR {x y:V}(h:iN K x y H Q):fz K x y H Q:= .inl (Dm h)
theorem sJ {i j:Int}(q:Q (.bl (!decide (i=j))) H):fz K (.int i) (.int j) H Q:= .inl (sf q)
theorem dO {i j:Str}(q:Q (.bl (!decide (i=j))) H):fz K (.str i) (.str j) H Q:= .inl (sF q)
end
theorem bO {X:Cx}(K:PySem.W.Frag)(P:Program)(w:World)(h:X.K=K:=by rfl)(hp:X.prog=P:=by rfl)(hw:X.w=w:=by rfl):CallR X (.builtin "isinstance") (pN K P w):=by subst hp hw;exact AI K h
theorem E4 {X:Cx}(K:PySem.W.Frag)(P:Program)(w:World)(h:X.K=K:=by rfl)(hp:X.prog=P:=by rfl)(hw:X.w=w:=by rfl):CallR X (.builtin "len") (pO K P w):=by subst hp hw;exact Cb K h
theorem Q9 {X:Cx}(P:Program)(w:World)(hu:X.A.units+1<cLine)(hp:X.prog=P:=by rfl)(hw:X.w=w:=by rfl):qQ X (tD P w):=by subst hp hw;exact uZ hu
end L2
set_option Elab.async false
set_option linter.all false
set_option maxRecDepth 100000
namespace L2
open PySem PySem.Spec PyProof.Rows
section
variable {X:Cx} {a b:Expr} {ta:TA} {x y:Str} {pos:Pos}
end
section
variable {σ:St} {H:Hp} {nx:St→Hp→Prop} {rt:VK} {bk ct:St→Hp→Prop} {ta:TA}
end
end L2
set_option Elab.async false
set_option linter.all false
set_option maxRecDepth 100000
set_option maxHeartbeats 4000000
namespace L2
open PySem PySem.Spec PyProof.Rows
section
variable {P:Program} {w:World}
end
section
variable {X:Cx} {tg:Expr}
end
end L2
set_option Elab.async false
set_option linter.all false
namespace L2
open PySem PySem.Spec PyProof.Rows
section
variable {J:It} {th:Hp→Hp} {n:Nat} {g:TG} {tb:TS} {nx:L2.St→Hp→Prop} {rt:VK} {σ:L2.St} {H:Hp}
theorem G7 (Pv:Nat→L2.St→Hp→Prop)(h0:Pv 0 σ H)(hgo:∀i σ H,i<n→Pv i σ H→J.go i H)
  (hs:∀(bk:L2.St→Hp→Prop) i x σ H H',i<n→Pv i σ H→J.yld i H x H'→g x σ H' fun σ2 H2=>tb ⟨Pv (i+1),fun v H=>rt v (th H),bk,Pv (i+1)⟩ σ2 H2)
  (hd:∀σ H,Pv n σ H→J.stop n H∧nx σ (th H)):wC J th g tb nx rt σ H:=yA Pv h0 hgo (hs fun σ H=>nx σ (th H)) hd
end
end L2
set_option Elab.async false
set_option linter.all false
set_option maxRecDepth 100000
set_option maxHeartbeats 4000000
namespace L2
open PySem PySem.Spec PyProof.Rows PySem.Builtin PySem.Builtin.Str
theorem iz:∀(l:List (Str×Tok)),Vals ((l.map (·.1)).map V.str) (strValues l)
 |[]=> .nil
 |p::r=> .cons ⟨p.2,rfl⟩ (iz r)
theorem pF:∀{ts:List Str} {its:List Value},Vals (ts.map V.str) its→∃l:List (Str×Tok),its=strValues l∧l.map (·.1)=ts
 |[],_,.nil=>⟨[],rfl,rfl⟩
 |t::ts,_,.cons ⟨tk,e⟩ r=>by
  obtain⟨l,e1,e2⟩:=pF r
  exact⟨(t,tk)::l,by rw[e,e1];rfl,by rw[List.map_cons,e2]⟩
section
variable {X:Cx}
def ni:V→List V→Hp→VK→Prop:=fun x vs H Q=>∃a b:Str,x= .str a∧vs=[.str b]∧b.length=1∧a.length≤100000∧∀p,H p=none→Q (.ref p) (A5 H p (.tup [.str (PySem.Txt.partition a b).1,.str (PySem.Txt.partition a b).2.1,.str (PySem.Txt.partition a b).2.2]))
theorem T4:vo X "str.partition" ni:=by
 intro pins s σ H x vs v us Q I rx rv h
 obtain⟨a,b,rfl,rfl,hb,ha,q⟩:=h
 obtain⟨t,rfl⟩:=rx
 obtain⟨u,rfl,tu,rfl⟩:=O8 rv
 have hz:a.length≤sizeLine:=Nat.le_trans ha (by decide)
 refine call_meets F.slot_str_partition (typeIs_str _ _ _) F.entry_str_partition (F.args_str_partition_2 _ _) (meets_str_partition a b t tu (by rw[hb];rfl) hz) ?_
 have q':=q _ (I.hok.fresh (Nat.le_refl _))
 have tri:∀(a b c:Str) (x y z:Tok),Vals [.str a,.str b,.str c] [.str a x,.str b y,.str c z]:=fun a b c x y z=> .cons ⟨_,rfl⟩ (.cons ⟨_,rfl⟩ (.cons ⟨_,rfl⟩ .nil))
 unfold PySem.Txt.partition at q'
 revert q'
 cases occurrences a b 0 a.length 1 with
 |nil=>intro q';exact⟨.ref s.heap.objs.size,_,I.laid (fun _ _ z=>Heap.get?_push_of_some _ z) (Nat.le_refl _) (show ObjOk X.prog X.w _ _ _ (.tup _) from⟨by show 3≤sizeLine;decide,_,tri _ _ _ _ _ _,IsTup.new _ _⟩),rfl,q'⟩
 |cons i r=>intro q';exact⟨.ref s.heap.objs.size,_,I.laid (fun _ _ z=>Heap.get?_push_of_some _ z) (Nat.le_refl _) (show ObjOk X.prog X.w _ _ _ (.tup _) from⟨by show 3≤sizeLine;decide,_,tri _ _ _ _ _ _,IsTup.new _ _⟩),rfl,q'⟩
def qT:V→List V→Hp→VK→Prop:=fun x vs H Q=>∃a b:Str,x= .str a∧vs=[.str b]∧Q (.bl (PySem.Txt.endswith a b)) H
theorem eY:vo X "str.endswith" qT:=by
 intro pins s σ H x vs v us Q I rx rv h
 obtain⟨a,b,rfl,rfl,q⟩:=h
 obtain⟨t,rfl⟩:=rx
 obtain⟨u,rfl,tu,rfl⟩:=O8 rv
 exact call_gives F.slot_str_endswith (typeIs_str _ _ _) F.entry_str_endswith (F.args_str_endswith_2 _ _) (gives_str_endswith a b t tu) ⟨.bl (PySem.Txt.endswith a b),H,I,rfl,q⟩
def zk:V→List V→Hp→VK→Prop:=fun x vs H Q=>∃a b:Str,x= .str a∧vs=[.str b]∧1≤b.length∧a.length≤100000∧∀p,H p=none→Q (.ref p) (A5 H p (.lst ((PySem.Txt.split a b).map V.str)))
theorem L9:vo X "str.split" zk:=by
 intro pins s σ H x vs v us Q I rx rv h
 obtain⟨a,b,rfl,rfl,hb,ha,q⟩:=h
 obtain⟨t,rfl⟩:=rx
 obtain⟨u,rfl,tu,rfl⟩:=O8 rv
 have hz:a.length+2≤sizeLine:=Nat.le_trans (Nat.add_le_add_right ha 2) (by decide)
 have hy:(b.length==0)=false:=by rw[beq_eq_false_iff_ne];omega
 have hn:(partsBetween a (occurrences a b 0 a.length (a.length+1)) b.length).length≤sizeLine:=by
  have e1:=StrLaws.occ_length_le a b 0 a.length (a.length+1)
  rw[length_partsBetween];omega
 have fin:∀(l:List (Str×Tok)) (k:Nat),l.map (·.1)=PySem.Txt.split a b→l.length≤sizeLine→EP X pins σ Q (.ref s.heap.objs.size) {s with heap:=s.heap.push {cls:= .type "list",data:= .seq (strValues l).toArray},toks:=k}:=fun l k e hl=>
  ⟨.ref s.heap.objs.size,_,I.lnew (iz l) (by rw[List.length_map,List.length_map];exact hl),rfl,e▸q _ I.fresh⟩
 have one:[(a,t)].length≤sizeLine:=by show 1≤sizeLine;decide
 cases h1:(decide (a.length<b.length)||decide (strKind a<strKind b))
 ·cases hf:(occurrences a b 0 a.length (a.length+1)).isEmpty
  ·refine call_meets F.slot_str_split (typeIs_str _ _ _) F.entry_str_split (F.args_str_split_2 _ _) (meets_str_split_sep a b t tu h1 hy hf (by omega) hn) ?_
   show wants _ _ _ {s with toks:=_,heap:=s.heap.push {cls:= .type "list",data:= .seq (strsFrom s.toks (partsBetween a (occurrences a b 0 a.length (a.length+1)) b.length)).toArray}}
   rw[strsFrom_eq]
   exact fin (numbered s.toks _) _ ((numbered_texts _ _).trans ((if_neg (ne_true_of_eq_false h1)).trans (if_neg (ne_true_of_eq_false hf))).symm) (by rw[←List.length_map (f:=fun p:Str×Tok=>p.1),numbered_texts];exact hn)
  ·exact call_meets F.slot_str_split (typeIs_str _ _ _) F.entry_str_split (F.args_str_split_2 _ _) (meets_str_split_not_found a b t tu h1 hy hf)
    (fin [(a,t)] s.toks ((if_neg (ne_true_of_eq_false h1)).trans (if_pos hf)).symm one)
 ·exact call_meets F.slot_str_split (typeIs_str _ _ _) F.entry_str_split (F.args_str_split_2 _ _) (meets_str_split_cannot_occur a b t tu h1)
   (fin [(a,t)] s.toks (if_pos h1).symm one)
def ve (K:PySem.W.Frag):V→List V→Hp→VK→Prop:=fun x vs H Q=>∃(a:Str) (l:Addr) (ts:List Str),x= .str a∧vs=[.ref l]∧SqL K H l (ts.map V.str)∧a.length≤10∧ts.length≤1000∧(∀y∈ts,y.length≤1000)∧Q (.str (Str.join a ts)) H
theorem kj:vo X "str.join" (ve X.K):=by
 intro pins s σ H x vs v us Q I rx rv h
 obtain⟨a,l,ts,rfl,rfl,hl,ha,hn,hy,q⟩:=h
 obtain⟨t,rfl⟩:=rx
 obtain⟨u,rfl,ru⟩:=O8 rv
 cases ru
 obtain⟨its,r,pl,hz⟩:=I.list hl
 obtain⟨l2,rfl,e2⟩:=pF r
 refine SC.join pl.isList e2 ?_ fun t' k=>⟨.str (PySem.Txt.join a ts),H,I.tok k,⟨t',rfl⟩,?_⟩
 ·unfold JoinOk
  rw[Bool.not_eq_true']
  refine StrLaws.joinFits hy ?_
  have e1:ts.length*a.length≤ts.length*10:=Nat.mul_le_mul_left _ ha
  omega
 ·show Q (.str (glued a ts)) H
  rw[StrLaws.glued_eq_join]
  exact q
theorem L0 {X:Cx}(K:PySem.W.Frag)(h:X.K=K:=by rfl):vo X "str.join" (ve K):=h▸kj
def Dp:List TE→Str→TE
 |[],acc=>fun _ H Q=>Q (.str acc) H
 |te::r,acc=>fun σ H Q=>te σ H fun v H1=>∃y:Str,v= .str y∧(acc++y).length≤1000∧Dp r (acc++y) σ H1 Q
structure QF (X:Cx) (es:List Expr) (ts:List TE):Prop where
 r:∀(pins:List (Addr×Obj)) (s:Shared) (σ:St) (H:Hp) (acc:Str) (Q:VK),Inv X pins σ H s→acc.length≤1000→Dp ts acc σ H Q→wpAny (model X.prog X.w) X.A (joinParts acc (evalEach es X.env)) (EP X pins σ Q) X.xe s
end
end L2
set_option Elab.async false
set_option linter.all false
set_option maxRecDepth 100000
set_option maxHeartbeats 4000000
namespace L2
open PySem PySem.Spec PyProof.Rows PySem.W
section
open PySem.Calls PySem.Builtin PySem.Builtin.ObjectAttr PySem.Builtin.Getset_descriptor
theorem qf {K:Frag}{M:Model}{h:Heap}{x C:Addr}{n:Str}{a g:Value}(X:K.In h)(h1:findIn K (.ref C) n=some (some a))(h2:specialIn K a "__get__"=some (some g))(h3:takesIn K a=some true):Looks M h (find (.ref x) (.ref C) n) (.bind g a):=
 (looks_findIn X h1).andThen ((looks_specialIn X h2).andThen ((show Looks M h (dataDescriptor? (some a) (some g)) (some (g,a)) from(looks_takesIn X h3).andThen .now).andThen (Looks.tag .now)))
structure ExN (K:Frag) (C:Addr):Prop where
 g:findIn K (.ref C) "__getattribute__"=some (some (.builtin "BaseException.__getattribute__"))
 h:findIn K (.ref C) "__getattr__"=some none
 a:findIn K (.ref C) "__class__"=some (some (.builtin "object.__class__"))
 n:specialIn K (.builtin "object.__class__") "__get__"=some (some (.builtin "getset_descriptor.__get__"))
 t:takesIn K (.builtin "object.__class__")=some true
 m:mroIn K C (.type "object")=some true
 e:mroIn K C (.type "BaseException")=some true
section
variable {P:Program} {w:World} {A:Around} {E:Value→Shared→Prop} {s:Shared} {K:Frag} {a C:Addr}
theorem IsExc.ty {M:Model}{h:Heap}(x:IsExc a C h):Looks M h (typeOf (.ref a)) (.ref C):=by
 obtain⟨o,vs,e,c,d⟩:=x
 exact c▸(Looks.ld e).andThen .now
theorem vB {R:Result→Shared→Prop}{tp:Value}(N:ExN K C)(X:K.In s.heap)(x:IsExc a C s.heap)(k:R (.ok (.ret (.ref C))) s):codeAny (model P w) A (.call (.builtin "getset_descriptor.__get__") ⟨[.builtin "object.__class__",.ref a,tp],[]⟩) R s:=by
 obtain⟨h0,g0,d0,t0,o0⟩:=s
 have l0:=IsExc.ty (M:=model P w) x;have l1:=looks_mroIn (M:=model P w) X N.m
 refine codeAny_call_builtin KF.slot_gs.plain KF.entry_gs (KF.slot_gs.check _ _ _ _ _ _ _ _ KF.type_class (KF.args_gs _ _ _) ?_)
 unfold Builtin.«getset_descriptor.__get__» descrGet;rw[dga_obj];refine wpAny_bind (wpAny_pure ?_)
 unfold descrGetter descrCheckInstance descrNameAndClass isInstance;simp only[KF.owner_class];repeat lk
 refine⟨Code.quiet_builtin _ (by decide+kernel),codeAny_builtin KF.entry_class ?_⟩;unfold Builtin.«object.__class__» shownTypeOf;repeat lk
 exact k
theorem xi {tk:Tok}{Q:Fin→Shared→Prop}(N:ExN K C)(X:K.In s.heap)(x:IsExc a C s.heap)(k:Q (.done (.ret (.ref C))) s):wpAny (model P w) A (Builtin.«object.__getattribute__» ⟨[.ref a,.str "__class__" tk],[]⟩) Q E s:=by
 obtain⟨h0,g0,d0,t0,o0⟩:=s
 have l0:=IsExc.ty (M:=model P w) x;have l1:=qf (M:=model P w) (x:=a) X N.a N.n N.t
 unfold Builtin.«object.__getattribute__»
 repeat(first|with_reducible refine Looks.at (by assumption) ?_|with_reducible refine wpAny_bind ?_|with_reducible refine wpAny_holding ?_|with_reducible refine wpAny_call ?_|k_node)
 exact vB N X x (wpAny_pure k)
theorem wQ {M:Model}{v:Value}{Q:Unit→Shared→Prop}(N:ExN K C)(X:K.In s.heap)(x:IsExc a C s.heap)(k:Q () s):wpAny M A (checkBuiltinCall "BaseException.__getattribute__" ⟨[.ref a,v],[]⟩) Q E s:=by
 obtain⟨h0,g0,d0,t0,o0⟩:=s
 have l0:=IsExc.ty (M:=M) x;have l1:=looks_mroIn (M:=M) X N.e
 have z1:builtinKind "BaseException.__getattribute__"=some .slot:=by decide+kernel
 have z2:splitId "BaseException.__getattribute__"=some ("BaseException","__getattribute__"):=by decide+kernel
 have z3:=PySem.F.args_bexc_ga (.ref a) v
 simp only[checkBuiltinCall,z1,z2];refine wpAny_bind ?_;unfold isInstance;repeat lk
 exact k
theorem xh {Q:Option Value→Shared→Prop}(N:ExN K C)(X:K.In s.heap)(x:IsExc a C s.heap)(k:Q (some (.ref C)) {s with toks:=s.toks+1}):wpAny (model P w) A (getAttr? (.ref a) "__class__") Q E s:=by
 obtain⟨h0,g0,d0,t0,o0⟩:=s
 have l0:=IsExc.ty (M:=model P w) x;have l1:=looks_findIn (M:=model P w) X N.g;have l2:=looks_findIn (M:=model P w) X N.h
 have f3:=PySem.F.excAttr_ValueError.ga.bind (.ref a)
 unfold getAttr? getAttrBy? getAttrBy;refine wpAny_bind (wpAny_mkText (wpAny_bind (wpAny_attempt (wpAny_holding (wpAny_bind (l0.at (wpAny_bind (l1.at ?_))))))));show wpAny _ _ (getAttrByItsOwn _ _ _ _ _ _) _ _ _
 unfold getAttrByItsOwn hookBefore callGetattribute boundAndCalled
 refine wpAny_bind (l2.at (wpAny_bind (wpAny_attempt (wpAny_holding ?_))))
 rw[if_neg (by decide),f3]
 refine wpAny_bind (wpAny_pure (wpAny_call (codeAny_call_builtin PySem.F.excAttr_ValueError.ga.plain PySem.F.entry_bexc_ga (wQ N X x (xi (s:=⟨h0,g0,d0,t0+1,o0⟩) N X x ?_)))))
 exact handed_on rfl (wpAny_pure k)
theorem wH (N:ExN K C):KitX K (.ref a) (.ref C) (IsExc a C):=by
 obtain⟨cd,hc,_⟩:=Option.bind_eq_some_iff.mp N.m
 refine⟨fun _ _ _ x=>IsExc.ty x,fun M h X _=>?_,fun h tp dd its n sl X htp=>?_,fun X x k=>xh N X x k⟩
 ·unfold clsIn at hc
  split at hc
  ·rename_i ho;intro A' Q' E' s' k q;unfold isType loadHead
   exact wpAny_bind (wpAny_loadPart (k _ _ (X _ _ ho)) (wpAny_pure q))
  ·cases hc
 ·refine Bool.eq_false_iff.mpr fun q=>?_
  cases Value.ref.inj (beq_iff_eq.mp q)
  unfold clsIn at hc
  split at hc
  ·rename_i ho;rw[X _ _ ho] at htp;cases htp
  ·cases hc
end
end
def xP (K:Frag):List V→Hp→VK→Prop:=fun xs H Q=>∃(a C:Addr) (c:Value) (v:V) (b:Bool),xs=[.ref a,v]∧cV c v∧H a=some (.ext (IsExc a C))∧ExN K C∧kitOne K (.ref C) c=some b∧Q (.bl b) H
theorem qO {X:Cx}:CallR X (.builtin "isinstance") (xP X.K):=by
 intro pins s σ H xs us Q I r h
 obtain⟨a,C,c,v,b,rfl,hc,hH,N,hk,q⟩:=h
 obtain⟨u,c',rfl,rx,rc⟩:=fP r
 cases (show u=Value.ref a from rx)
 have he:IsExc a C s.heap:=(I.hok a _ hH).1
 have ec:c'=c:=by
  cases c with
  |ref T=>cases (show v= .ref T from hc);exact rc
  |type n=>cases (show v= .ty n from hc);exact rc
  |_=>exact hc.elim
 subst ec
 exact kia_one (wH N) I.kIn he hk (fun z=>nomatch z) fun tk=>⟨.bl b,H,I.tok tk,rfl,q⟩
theorem xH (K:Frag){X:Cx}(h:X.K=K:=by rfl):CallR X (.builtin "isinstance") (xP K):=h▸qO
end L2
set_option Elab.async false
set_option linter.all false
set_option maxRecDepth 100000
set_option maxHeartbeats 4000000
namespace L2
open PySem PySem.Spec PyProof.Rows PySem.Builtin PySem.Builtin.Str
theorem jk {x:Str}{c:Nat}:∀{l:List Nat} {a f:Nat},StrLaws.ChainG x ⟨#[c]⟩ x.length a l f→(∀k,f≤k→¬StrLaws.At x ⟨#[c]⟩ x.length k)→l.length=(x.cps.toList.drop a).count c
 |[],a,f,h,hn=>by
  have e:f=a:=h
  symm
  refine List.count_eq_zero.mpr fun hm=>?_
  obtain⟨i,hi⟩:=List.mem_iff_getElem?.mp hm
  rw[List.getElem?_drop] at hi
  exact hn (a+i) (by omega) ((StrLaws.subAt_one x c _).mpr hi)
 |d::r,a,f,h,hn=>by
  obtain⟨h1,h2,h3,h4⟩:=h
  have ih:=jk (l:=r) h4 hn
  have hd:=(StrLaws.subAt_one x c d).mp h2
  have e1:x.cps.toList.drop a=(x.cps.toList.drop a).take (d -a)++(x.cps.toList.drop a).drop (d -a):=(List.take_append_drop _ _).symm
  have e2:(x.cps.toList.drop a).drop (d -a)=c::x.cps.toList.drop (d+1):=by
   rw[List.drop_drop,show a+(d -a)=d by omega]
   have lt:d<x.cps.toList.length:=(List.getElem?_eq_some_iff.mp hd).1
   rw[List.drop_eq_getElem_cons lt]
   rw[show x.cps.toList[d]=c by have z:=List.getElem?_eq_getElem lt;rw[hd] at z;exact(Option.some.inj z).symm]
  have e3:((x.cps.toList.drop a).take (d -a)).count c=0:=by
   refine List.count_eq_zero.mpr fun hm=>?_
   obtain⟨i,hi⟩:=List.mem_iff_getElem?.mp hm
   rw[List.getElem?_take] at hi
   split at hi
   ·rename_i lt
    rw[List.getElem?_drop] at hi
    exact h3 (a+i) (by omega) (by omega) ((StrLaws.subAt_one x c _).mpr hi)
   ·cases hi
  rw[e1,e2,List.count_append,e3,List.count_cons_self,List.length_cons,ih]
  show _=0+((x.cps.toList.drop (d+1)).count c+1)
  have e4:d+(⟨#[c]⟩:Str).length=d+1:=rfl
  rw[e4]
  omega
theorem we (x:Str)(c:Nat):(occurrences x ⟨#[c]⟩ 0 x.length (x.length+1)).length=x.cps.toList.count c:=by
 obtain⟨f,h1,h2⟩:=StrLaws.occ_tight x ⟨#[c]⟩ (Nat.le_refl 1)
 have z:=jk h1 h2
 rw[List.drop_zero] at z
 exact z
theorem wz (x:Str)(c i:Nat)(h:x.cps.toList[i]?=some c)(h':∀j,j<i→x.cps.toList[j]?≠some c):PySem.Txt.find x ⟨#[c]⟩=i:=by
 unfold PySem.Txt.find
 rcases StrLaws.occ_head x ⟨#[c]⟩ 1 (Nat.le_refl 1) with⟨_,h2⟩|⟨k,t,h1,h2,h3⟩
 ·exact absurd ((StrLaws.subAt_one x c i).mpr h) (h2 _)
 ·rw[h1]
  have hk:=(StrLaws.subAt_one x c k).mp h2
  have e1:¬i<k:=fun z=>h3 _ z ((StrLaws.subAt_one x c i).mpr h)
  have e2:¬k<i:=fun z=>h' k z hk
  show((k:Nat):Int)=i
  omega
section
variable {X:Cx}
def vD:V→List V→Hp→VK→Prop:=fun x vs H Q=>∃(a:Str) (c:Nat),x= .str a∧vs=[.str ⟨#[c]⟩]∧Q (.int (a.cps.toList.count c:Nat)) H
theorem V7:vo X "str.count" vD:=by
 intro pins s σ H x vs v us Q I rx rv h
 obtain⟨a,c,rfl,rfl,q⟩:=h
 obtain⟨t,rfl⟩:=rx
 obtain⟨u,rfl,tu,rfl⟩:=O8 rv
 rw[←we] at q
 exact call_gives F.slot_str_count (typeIs_str _ _ _) F.entry_str_count (F.args_str_count_2 _ _) (gives_str_count a ⟨#[c]⟩ t tu) ⟨.int _,H,I.kept (t':=_) (fun _ _ z=>z),⟨_,rfl⟩,q⟩
def ze:V→List V→Hp→VK→Prop:=fun x vs H Q=>∃(a b:Str),x= .str a∧vs=[.str b]∧Q (.int (PySem.Txt.find a b)) H
theorem K8:vo X "str.find" ze:=by
 intro pins s σ H x vs v us Q I rx rv h
 obtain⟨a,b,rfl,rfl,q⟩:=h
 obtain⟨t,rfl⟩:=rx
 obtain⟨u,rfl,tu,rfl⟩:=O8 rv
 exact call_gives F.slot_str_find (typeIs_str _ _ _) F.entry_str_find (F.args_str_find_2 _ _) (gives_str_find a b t tu) ⟨.int _,H,I.kept (t':=_) (fun _ _ z=>z),⟨_,rfl⟩,q⟩
end
end L2
set_option Elab.async false
set_option linter.all false
set_option maxRecDepth 100000
set_option maxHeartbeats 4000000
namespace L2
open PySem PySem.Spec PyProof.Rows
theorem lJ {M:Model}{A:Around}{E:Value→Shared→Prop}{s:Shared}{env:Env}{c i:Expr}{p pos:Pos}{args:List Expr}{Q:Value→Shared→Prop}
  (h:wpAny M A (eval (.Subscript c i p) env) (fun f s₁=>wpAny M A (callWith pos f [] (backTo pos (starEach args env)) (backToKw pos (keywordEach [] env))) Q E s₁) E s):
  wpAny M A (eval (.Call (.Subscript c i p) args [] pos) env) Q E s:=by
 rw[show eval (.Call (.Subscript c i p) args [] pos) env=(do callWith pos (←eval (.Subscript c i p) env) [] (backTo pos (starEach args env)) (backToKw pos (keywordEach [] env))) from rfl]
 exact wpAny_bind h
def xN (mg:Str→Option Value)(x:Str):Addr:=match mg x with|some (.ref f)=>f|_=>0
theorem iy {mg:Str→Option Value}{x:Str}{f:Addr}(h:mg x=some (.ref f)):xN mg x=f:=by unfold xN;rw[h]
section
variable {X:Cx} {CX:kG} {k k':Nat} {x y:Str} {ps ps':List Str} {sp sp':Sp} {E:XK} {e c i:Expr} {es:List Expr} {t:TA} {p pos:Pos} {tc:TE}
def ya (mg:Str→Option Value)(x:Str):TE:=fun _ H Q=>Q (.ref (xN mg x)) H
theorem CZ {dvs:List V}(C:E2 X.prog X.w X.K X.mg X.base CX k x ps dvs sp)(hg:Gl X x:=by rfl)(hd:(x==("__debug__":Str))=false:=by decide):QE X (.Name x pos) (ya X.mg x):=by
 obtain⟨f,fd,ds,F,hm,_⟩:=C
 refine⟨?_⟩
 have z:=pP (X:=X) (v:= .ref f) (pos:=pos) hg hm (show RelV (.ref f) (.ref f) from rfl) hd
 unfold ya
 rw[iy hm]
 exact z
def gM (mg:Str→Option Value)(x y:Str)(sp sp':Sp)(E:St→XK)(tc:TE)(t:TA):TE:=fun σ H Q=>tc σ H fun v H1=>
 (v= .ref (xN mg x)∧t σ H1 fun vs H2=>sp vs H2 Q (E σ))∨(v= .ref (xN mg y)∧t σ H1 fun vs H2=>sp' vs H2 Q (E σ))
theorem DE (C:E2 X.prog X.w X.K X.mg X.base CX k x ps [] sp)(C':E2 X.prog X.w X.K X.mg X.base CX k' y ps' [] sp')(hr:Room k X.A)(hr':Room k' X.A)(hx:bt CX X E)(hc:QE X (.Subscript c i p) tc)(ha:QA X (e::es) t)
  (h:A7 (e::es)=true:=by rfl):QE X (.Call (.Subscript c i p) (e::es) [] pos) (gM X.mg x y sp sp' (fun _=>E) tc t):=⟨by
 have h':(A9 e&&A7 es)=true:=h
 rw[Bool.and_eq_true] at h'
 intro pins s σ H Q I hw
 refine lJ (K6 (hc.r pins s σ H _ I hw) fun u s0 ⟨v,H0,I0,r0,q0⟩=>?_)
 rcases q0 with⟨rfl,q0⟩|⟨rfl,q0⟩
 ·obtain⟨f,fd,ds,F,hm,hk,hb,hd⟩:=C
  rw[iy hm] at r0
  cases r0
  refine PySem.W.callWith_K (h₀:=X.base) I0.ok.mod.kin hk (K6 (ha.r pos pins s0 σ H0 _ I0 q0) fun us s1 ⟨vs,H1,I1,r,q⟩=>⟨I1.kIn,?_⟩) (Z1 h'.1) (av h'.2)
  exact mT F hr hb hd hx I1 r (by rw[List.append_nil];exact q)
 ·obtain⟨f,fd,ds,F,hm,hk,hb,hd⟩:=C'
  rw[iy hm] at r0
  cases r0
  refine PySem.W.callWith_K (h₀:=X.base) I0.ok.mod.kin hk (K6 (ha.r pos pins s0 σ H0 _ I0 q0) fun us s1 ⟨vs,H1,I1,r,q⟩=>⟨I1.kIn,?_⟩) (Z1 h'.1) (av h'.2)
  exact mT F hr' hb hd hx I1 r (by rw[List.append_nil];exact q)⟩
end
section
variable {X:Cx} {pins:List (Addr×Obj)} {Es:St→XK} {k k':Nat} {x y:Str} {ps ps':List Str} {sp sp':Sp} {e c i:Expr} {es:List Expr} {t:TA} {p pos:Pos} {tc:TE}
theorem vG {CX:kG}{dvs:List V}(C:E2 X.prog X.w X.K X.mg X.base CX k x ps dvs sp)(hg:Gl X x:=by rfl)(hd:(x==("__debug__":Str))=false:=by decide):QE (X.tried pins Es) (.Name x pos) (ya X.mg x):=CZ (X:=X.tried pins Es) C hg hd
theorem BD (C:E2 X.prog X.w X.K X.mg X.base (eg X.prog X.w) k x ps [] sp)(C':E2 X.prog X.w X.K X.mg X.base (eg X.prog X.w) k' y ps' [] sp')(hr:Room k X.A)(hr':Room k' X.A)(hc:QE (X.tried pins Es) (.Subscript c i p) tc)(ha:QA (X.tried pins Es) (e::es) t)
  (h:A7 (e::es)=true:=by rfl):QE (X.tried pins Es) (.Call (.Subscript c i p) (e::es) [] pos) (gM X.mg x y sp sp' Es tc t):=⟨by
 have h':(A9 e&&A7 es)=true:=h
 rw[Bool.and_eq_true] at h'
 intro pins' s σ H Q I hw
 refine lJ (K6 (hc.r pins' s σ H _ I hw) fun u s0 ⟨v,H0,I0,r0,q0⟩=>?_)
 have go:∀{ps:List Str} {sp:Sp} {f:Addr} {fd:FuncData} {ds:List Value} {k:Nat},Room k X.A→E3 X.prog X.w X.K X.mg X.base (eg X.prog X.w) k f fd ps sp→PySem.W.keepIn X.K (.ref f)=true→Binds X.K fd ps ds→Vals [] ds→
   (t σ H0 fun vs H2=>sp vs H2 Q (Es σ))→wpAny (model X.prog X.w) X.A (callWith pos (.ref f) [] (backTo pos (starEach (e::es) (X.tried pins Es).env)) (backToKw pos (keywordEach [] (X.tried pins Es).env))) (EP (X.tried pins Es) pins' σ Q) (X.tried pins Es).xe s0:=fun{ps sp f fd ds k} hr F hk hb hd q0=>by
  refine PySem.W.callWith_K (h₀:=X.base) I0.ok.mod.kin hk (K6 (ha.r pos pins' s0 σ H0 _ I0 q0) fun us s1 ⟨vs,H1,I1,r,q⟩=>⟨I1.kIn,?_⟩) (Z1 h'.1) (av h'.2)
  have r2:Vals (vs++[]) (us++ds):=r.append hd
  have q2:sp (vs++[]) H1 Q (Es σ):=by rw[List.append_nil];exact q
  have hl:(us++ds).length=ps.length:=by rw[←r2.length];exact F.len _ _ _ _ q2
  refine wpAny_call (codeAny_mono (F.run X.A X.stack s1 H1 ⟨us,[]⟩ (us++ds) (vs++[]) Q (Es σ) hr I1.env0 (hb s1 us I1.kIn hl) r2 q2) fun r s' hq=>?_)
  cases r with
  |error e=>exact⟨pins',σ,H1,s1,I1.triedPinned,hq⟩
  |ok fl=>
   cases fl with
   |ret u=>exact I1.after hq
   |next=>exact False.elim hq
   |brk=>exact False.elim hq
   |cont=>exact False.elim hq
 rcases q0 with⟨rfl,q0⟩|⟨rfl,q0⟩
 ·obtain⟨f,fd,ds,F,hm,hk,hb,hd⟩:=C
  rw[iy hm] at r0
  cases r0
  exact go hr F hk hb hd q0
 ·obtain⟨f,fd,ds,F,hm,hk,hb,hd⟩:=C'
  rw[iy hm] at r0
  cases r0
  exact go hr' F hk hb hd q0⟩
end
section
variable {X:Cx}
def xM (K:PySem.W.Frag):R2:=fun x y H Q=>∃a xs,SqT K H a xs∧((x= .ref a∧(y= .non∨∃i,y= .int i))∨(y= .ref a∧∃i,x= .int i))∧Q (.bl false) H
theorem wq (hu:X.A.units+64<cLine):OpR X (compareOp .Eq) (xM X.K):=by
 intro pins s σ H x y v u Q I rx ry h
 obtain⟨a,xs,ha,h,k⟩:=h
 obtain⟨its,r1,p1,z1⟩:=I.tuple ha
 have p1':s.heap.IsTuple a its.toArray:=p1
 rcases h with⟨rfl,rfl|⟨i,rfl⟩⟩|⟨rfl,i,rfl⟩
 ·cases rx
  cases ry
  exact SeqAt.RcAt.tuple_none (A:=X.A) p1' (by omega) X.prog X.w _ _ ⟨.bl false,H,I,rfl,k⟩
 ·cases rx
  obtain⟨t,rfl⟩:=ry
  exact SeqAt.RcAt.tuple_int (A:=X.A) i t p1' (by omega) X.prog X.w _ _ ⟨.bl false,H,I,rfl,k⟩
 ·cases ry
  obtain⟨t,rfl⟩:=rx
  exact SeqAt.RcAt.int_tuple (A:=X.A) i t p1' (by omega) X.prog X.w _ _ ⟨.bl false,H,I,rfl,k⟩
def vg (K:PySem.W.Frag):R2:=fun x y H Q=>cE K x y H Q∨xM K x y H Q
theorem vd (K:PySem.W.Frag){k:Nat}(hr:Room k X.A)(h:X.K=K:=by rfl):OpR X (compareOp .Eq) (vg K):=(W6 K hr h).or (h▸wq hr.units)
end
end L2
set_option Elab.async false
set_option linter.all false
set_option maxRecDepth 100000
set_option maxHeartbeats 4000000
namespace L2
open PySem PySem.Spec PyProof.Rows
theorem oB {env env':Env}(h:env.frame=env'.frame)(x:Value):noteFrame x env=noteFrame x env':=by
 unfold noteFrame PySem.frameOf;rw[h]
structure Fl (B:Heap) (l:List Env) (e:Addr) (cls a0 fl:Value) (h:Heap):Prop where
 st:B.StaysIn h
 nw:B.get? e=none
 fr:h.FunFrames B l
 tr:h.TracedAtW B e cls a0 fl
section
variable {M:Model} {A:Around} {E:Value→Shared→Prop} {s:Shared} {B:Heap} {l:List Env} {L e:Addr} {cls a0 fl:Value}
theorem kS {env:Env}{outer:List Env}{Q:Unit→Shared→Prop}(hfr:A.frames=some (env::outer))(hf:env.frame=some L)(F:Fl B (env::outer) e cls a0 fl s.heap)
  (hQ:∀h',Fl B (env::outer) e cls a0 (rawInt L) h'→s.heap.UpToSlots h'→Q () {s with heap:=h'}):wpAny M A (noteFrame (.ref e) env) Q E s:=by
 obtain⟨f1,f2,f3,ht⟩:=F
 by_cases hq:fl=rawInt L
 ·subst hq
  exact wpAny_noteFrame_againW hf ht (hQ s.heap ⟨f1,f2,f3,ht⟩ (.refl _))
 obtain⟨oe,vs,T,oT,ts,he,⟨hcls,h0⟩,hd,h1,hnT,hTe,hT,hdT,h3⟩:=ht
 subst hcls
 unfold noteFrame
 simp only[hf]
 refine wpAny_bind (wpAny_field he hd h1 ?_)
 rw[if_pos (by simp)]
 refine wpAny_bind (wpAny_field hT hdT h3 ?_)
 rw[if_neg (by simpa using hq)]
 refine wpAny_bind (wpAny_setField hT hdT (Array.getElem?_eq_some_iff.mp h3).1 ?_)
 have oth:∀b,b≠T→(s.heap.update T (Obj.mapFields (·.setIfInBounds 3 Value.none))).get? b=s.heap.get? b:=fun b hb=>Heap.get?_update_other _ _ (Ne.symm hb)
 have nr:∀b o,s.heap.get? b=some o→(∀vs,o.data≠ .fields vs)→b≠T:=fun b o hb hnf q=>by
  rw[q,hT] at hb;cases hb;exact hnf ts hdT
 refine wpAny_entryW hfr (f3.of_keeps fun b o hb hnf=>⟨o,(oth b (nr b o hb hnf)).trans hb,rfl⟩) hf ((oth e (Ne.symm hTe)).trans he)
  (fun b o hbo=>(oth b fun q=>by rw[q,hnT] at hbo;cases hbo).trans (f1 b o hbo)) f2 hd (Array.getElem?_eq_some_iff.mp h1).1 h0 fun h' ⟨x1,x2,x3,x4⟩=>hQ h' ⟨x1,f2,x2,x3⟩ fun b o hb hnf=>x4 b o ((oth b (nr b o hb hnf)).trans hb) hnf
theorem qq {env:Env}{outer:List Env}{Q:Unit→Shared→Prop}(hfr:A.frames=some (env::outer))(hf:env.frame=some L)(F:Fl B (env::outer) e cls a0 fl s.heap)
  (hQ:∀h',Heap.FlyingW B outer e cls a0 h'→s.heap.UpToSlots h'→Q () {s with heap:=h'}):wpAny M A («leaving» env (.ref e)) Q E s:=by
 unfold «leaving»
 refine wpAny_bind (kS hfr hf F fun h1 F1 u1=>?_)
 refine wpAny_landsW (l:=env::outer) (base:=B) (cls:=cls) (a0:=a0) (L:=L) ⟨F1.st,F1.nw,F1.fr,F1.tr⟩ fun h2 F2 u2=>?_
 obtain⟨k1,k2,⟨_,_,k3⟩,k4⟩:=F2
 exact hQ h2 ⟨k1,k2,k3,k4⟩ (u1.trans u2)
theorem tY {α:Type}{what:String}{env:Env}{Q:α→Shared→Prop}(F:Fl B l e cls a0 fl s.heap)(h:∀h' fl',Fl B l e cls a0 fl' h'→s.heap.UpToSlots h'→E (.ref e) {s with heap:=h'}):wpAny M A (PySem.passOn what (.ref e) env:Sem α) Q E s:=by
 obtain⟨f1,f2,f3,oe,vs,T,oT,ts,he,hc,hd,h1,hnT,hTe,hT,hdT,h3⟩:=F
 unfold PySem.passOn
 refine wpAny_bind (wpAny_field he hd h1 ?_)
 rw[if_neg (by simp)]
 have hs3:3<ts.size:=(Array.getElem?_eq_some_iff.mp h3).1
 have oth:∀(x:Value) b,b≠T→(s.heap.update T (Obj.mapFields (·.setIfInBounds 3 x))).get? b=s.heap.get? b:=fun x b hb=>Heap.get?_update_other _ _ (Ne.symm hb)
 have nr:∀b o,s.heap.get? b=some o→(∀vs,o.data≠ .fields vs)→b≠T:=fun b o hb hnf q=>by
  rw[q,hT] at hb;cases hb;exact hnf ts hdT
 unfold setFlight
 refine wpAny_bind (wpAny_bind (wpAny_field he hd h1 ?_))
 rw[if_pos (by simp)]
 refine wpAny_setField hT hdT hs3 (wpAny_throw (h _ (env.frame.elim .none fun f=>rawInt f) ⟨fun b o hbo=>(oth _ b fun q=>by rw[q,hnT] at hbo;cases hbo).trans (f1 b o hbo),f2,f3.of_keeps fun b o hb hnf=>⟨o,(oth _ b (nr b o hb hnf)).trans hb,rfl⟩,?_⟩ fun b o hb hnf=>⟨o.slots,(oth _ b (nr b o hb hnf)).trans hb⟩))
 exact⟨oe,vs,T,_,_,(oth _ e (Ne.symm hTe)).trans he,hc,hd,h1,hnT,hTe,Heap.get?_update_self _ hT (Obj.isFreed_of_fields (Obj.data_mapFields hdT _)),Obj.data_mapFields hdT _,by simp [hs3]⟩
end
section
variable {P:Program} {w:World} {K:PySem.W.Frag} {mg:Str→Option Value} {base:Heap} {N:List Str} {qual:Str} {scope:Scope} {f:Addr} {cd:Value} {A:Around} {outer:List Env} {s0:Shared} {H0:Hp} {E:XK}
structure AR (P:Program) (w:World) (st:List Env) (c:Addr) (H:Hp) (s:Shared) (a C:Addr) (a0 fl:Value) (B:Heap) (H':Hp) (s':Shared):Prop where
 fl:Fl B st a (.ref C) a0 fl s'.heap
 os:s'.os=s.os
 bare:AllBare s'.gens
 un:Un (T7 st) [c] H H' s.heap s'.heap
 hok:HOk P w H' s'.heap
 kp:∀b o,s.heap.get? b=some o→H b=none→b∉T7 st→b≠c→B.get? b=some o
 th:∀b o,s.heap.get? b=some o→b∉T7 st→b≠c→∃o',B.get? b=some o'
 tr:∀b o,H' b=some o→∃u,B.get? b=some u
 nw:H' a=none
theorem Aj {pins:List (Addr×Obj)}{σ:St}{H H':Hp}{s s':Shared}{c a C:Addr}{a0 fl:Value}{B:Heap}(I:Inv (dX (eg P w) P w K mg base N qual scope f cd A outer s0 H0 E) pins σ H s)(hc:s0.heap.objs.size≤c)
  (F:AR P w (envOfC qual scope s0.heap.objs.size f cd::outer) c H s a C a0 fl B H' s') (q:E (.ref C) (some a) H'):(dX (eg P w) P w K mg base N qual scope f cd A outer s0 H0 E).xe (.ref a) s':=by
 have fr:=F.fl.fr
 have hb0:Un (T7 outer) [] H0 H s0.heap s.heap:=I.base
 refine qq I.ok.frames rfl F.fl fun h' x1 x2=>?_
 have hk:=x1.1
 have ne:∀b o,s0.heap.get? b=some o→b≠c:=fun b o z=>Nat.ne_of_lt (Nat.lt_of_lt_of_le (Heap.lt_size z) hc)
 have nc:∀b o,s0.heap.get? b=some o→b∉[c]:=fun b o z q=>ne b o z (by simpa using q)
 have kp:∀b o,s0.heap.get? b=some o→H0 b=none→b∉T7 outer→B.get? b=some o:=fun b o z n hb=>
  F.kp b o (hb0.keep b o z n hb (by simp)) (hb0.free b o z n (by simp)) (cP z hb) (ne b o z)
 have th:∀b o,s0.heap.get? b=some o→b∉T7 outer→∃o',B.get? b=some o':=fun b o z hb=>by
  obtain⟨o',z'⟩:=hb0.there b o z (by simp)
  exact F.th b o' z' (cP z hb) (ne b o z)
 have ub:=F.un
 refine⟨a,C,a0,B,H',rfl,⟨x1,F.os.trans I.os,F.bare,⟨fun b o z n hb _=>hk b o (kp b o z n hb),fun b o z n hb _=>?_,fun b o z n _=>?_,fun b o z _=>?_,fun b xs z=>ub.tups b xs (hb0.tups b xs z),fun b o u z=>ub.frzs b o u (hb0.frzs b o u z),fun b ps z=>?_⟩,gS F.hok F.tr F.fl.st hk,kp,th,F.tr,F.nw⟩,q⟩
 ·obtain⟨s1,e1⟩:=hb0.slot b o z n hb (by simp)
  obtain⟨s2,e2⟩:=ub.slot b _ e1 (hb0.free b o z n (by simp)) (ae hb) (nc b o z)
  obtain⟨s3,e3⟩:=x2 b _ e2 (E9 fr (ae hb) e2)
  exact⟨s3,e3⟩
 ·obtain⟨o',e1⟩:=hb0.there b o z (by simp)
  exact ub.free b o' e1 (hb0.free b o z n (by simp)) (nc b o z)
 ·by_cases hb:b∈T7 outer
  ·obtain⟨o',e1⟩:=hb0.there b o z (by simp)
   obtain⟨o2,e2⟩:=ub.there b o' e1 (nc b o z)
   obtain⟨s3,e3⟩:=x2 b _ e2 (E9 fr (ae hb) e2)
   exact⟨_,e3⟩
  ·obtain⟨o',e1⟩:=th b o z hb
   exact⟨o',hk b o' e1⟩
 ·obtain⟨m1,e1⟩:=hb0.tbls b ps z
  obtain⟨m2,e2⟩:=ub.tbls b _ e1
  exact⟨m1++m2,by rw[e2,Array.append_assoc]⟩
end
def cN (X:Cx)(E:XK):Prop:=X.stack=X.env::X.outer∧(∃L,X.env.frame=some L)∧∀(pins:List (Addr×Obj)) (σ:St) (H H':Hp) (s s':Shared) (c a C:Addr) (a0 fl:Value) (B:Heap),Inv X pins σ H s→X.s₀.heap.objs.size≤c→AR X.prog X.w X.stack c H s a C a0 fl B H' s'→E (.ref C) (some a) H'→X.xe (.ref a) s'
theorem oV {P:Program}{w:World}{K:PySem.W.Frag}{mg:Str→Option Value}{base:Heap}{N:List Str}{qual:Str}{scope:Scope}{f:Addr}{cd:Value}{A:Around}{outer:List Env}{s0:Shared}{H0:Hp}{E:XK}:cN (dX (eg P w) P w K mg base N qual scope f cd A outer s0 H0 E) E:=
 ⟨rfl,⟨_,rfl⟩,fun _ _ _ _ _ _ _ _ _ _ _ _ I hc F q=>Aj I hc F q⟩
def Ct (X:Cx)(own:List Str)(js:List Nat)(scope:Scope)(C:Addr)(s:Shared)(H:Hp)(fp:List Addr)(E:XK):Value→Shared→Prop:=fun e s'=>∃(pins:List (Addr×Obj)) (σ:St) (H1:Hp) (s1:Shared),Inv (R8 X own js scope C s H fp) pins σ H1 s1∧eg X.prog X.w X.stack H1 s1 E e s'
abbrev mh (X:Cx)(own:List Str)(js:List Nat)(scope:Scope)(C:Addr)(s:Shared)(H:Hp)(fp:List Addr)(E:XK):Cx:={R8 X own js scope C s H fp with xe:=Ct X own js scope C s H fp E}
section
variable {X:Cx} {pins:List (Addr×Obj)} {σ:St} {H:Hp} {s:Shared} {own:List Str} {js:List Nat} {scope:Scope} {C:Addr} {sb:Shared} {Hb:Hp} {fp:List Addr} {E:XK}
theorem Inv.toBE (I:Inv (R8 X own js scope C sb Hb fp) pins σ H s):Inv (mh X own js scope C sb Hb fp E) pins σ H s:=
 ⟨⟨I.ok.mod,I.ok.kind,I.ok.glob,I.ok.blt,I.ok.above,I.ok.inj,I.ok.has,I.ok.cab,I.ok.hd,I.ok.frames,I.ok.stk,I.ok.exf,I.ok.bs,I.ok.bsz,I.ok.noex,I.ok.exfs,I.ok.funs,I.ok.frf⟩,I.os,I.bare,I.base,I.loc,I.cell,I.free,I.freeC,I.pin,I.hok,I.len⟩
theorem Inv.ofBE (I:Inv (mh X own js scope C sb Hb fp E) pins σ H s):Inv (R8 X own js scope C sb Hb fp) pins σ H s:=
 ⟨⟨I.ok.mod,I.ok.kind,I.ok.glob,I.ok.blt,I.ok.above,I.ok.inj,I.ok.has,I.ok.cab,I.ok.hd,I.ok.frames,I.ok.stk,I.ok.exf,I.ok.bs,I.ok.bsz,I.ok.noex,I.ok.exfs,I.ok.funs,I.ok.frf⟩,I.os,I.bare,I.base,I.loc,I.cell,I.free,I.freeC,I.pin,I.hok,I.len⟩
theorem ur:bt (eg X.prog X.w) (mh X own js scope C sb Hb fp E) E:=fun pins σ H s e s' I h=>⟨pins,σ,H,s,I.ofBE,h⟩
end
section
variable {X:Cx} {pins:List (Addr×Obj)} {σ:St} {H:Hp} {s:Shared} {own:List Str} {js:List Nat} {scope:Scope}
variable {tg iter elt:Expr} {ifs:List Expr} {pos:Pos} {g:TG} {ti:TT} {te:TE}
theorem iq {E:XK}(S:ScB X own js scope)(hc:X.calm=true){fp:List Addr}{it C D:Addr}{tn:Nat→Heap→Prop}{J:It}(T:fo X.prog X.w X.K tg J fp it tn)(I:Inv X pins σ H s)(hf:∀b∈fp,bQ X pins H b)
  (hD:s.heap.objs.size≤D) (hC:s.heap.objs.size≤C) (hDC:D≠C) (hob:∀b∈fp,∃o,s.heap.get? b=some o)
  (hg:PG (R8 X own js scope C s H fp) tg g) (hi:iE (R8 X own js scope C s H fp) ifs ti) (he:PE (mh X own js scope C s H fp E) elt te)
  (W:Nat→Nat→List V→Hp→Prop) {K:List V→Hp→Prop}
  (turn:∀i m out H,W i m out H→(J.stop i H∧(H D=none→out.length≤sizeLine∧K out H))∨
   (J.go i H∧∀x H',J.yld i H x H'→g x (pX own js σ) H' fun σ2 H2=>σ2.drop own.length=js.map (fun j=>(σ[j]?).join)∧ti σ2 H2 fun b H3=>
    if b=true then te σ2 H3 fun v H4=>out.length≤sizeLine∧∃m',m'<m∧W (i+1) m' (out++[v]) H4 else ∃m',m'<m∧W (i+1) m' out H3))
  {R:Result→Shared→Prop} (hR:∀out H' s',BlockEnd X pins own js scope σ H s fp C D out H' s'→out.length≤sizeLine→K out H'→R (.ok .next) s') (hE:∀e s',Ct X own js scope C s H fp E e s'→notedBy (model X.prog X.w) X.A (compEnvC scope (aZ scope X.env) C X.env) (fun e s'=>R (.error e) s') e s')
  {m0:Nat} {H1:Hp} {s1:Shared} (w0:W 0 m0 [] H1) (B:BlockEnd X pins own js scope σ H s fp C D [] H1 s1) (st:tn 0 s1.heap) (fr:∀b∈fp,H1 b=none):
  codeAny (model X.prog X.w) X.A (.compLoop (.ListComp elt [⟨tg,iter,ifs,0⟩] scope pos) 0 (.ref it) (.ref D) (compEnvC scope (aZ scope X.env) C X.env)) R s1:=by
 have stat:∀{H':Hp},(∀b∈fp,H' b=none)→∀b∈fp,bQ (R8 X own js scope C s H fp) (X.pn++pins) H' b:=fun hn b hb=>by
  obtain⟨o,ho⟩:=hob b hb
  refine⟨hn b hb,Nat.ne_of_lt (Nat.lt_of_lt_of_le (Heap.lt_size ho) hC),?_,.inl hb,fun x c e=>(hf b hb).2.2.2.2.1 x c (T1 (S.cells I) e),fun p hp=>(hf b hb).2.2.2.2.2 p hp⟩
  intro z
  rcases List.mem_cons.mp (I.stkSub b z) with e|e
  ·exact(hf b hb).2.1 e
  ·exact(hf b hb).2.2.1 e
 have Dfp:D∉fp:=fun z=>by
  obtain⟨o,ho⟩:=hob D z
  exact absurd (Nat.lt_of_lt_of_le (Heap.lt_size ho) hD) (Nat.lt_irrefl _)
 have Dcell:∀x c,(R8 X own js scope C s H fp).env.cells.lookup x=some c→c≠D:=fun x c e z=>by
  obtain⟨v,o,ho,_⟩:=I.cell x c (T1 (S.cells I) e)
  rw[z] at ho
  exact absurd (Nat.lt_of_lt_of_le (Heap.lt_size ho) hD) (Nat.lt_irrefl _)
 have Dpin:∀p∈X.pn++pins,p.1≠D:=fun p hp z=>by
  have ho:=(I.pin p hp).1
  rw[z] at ho
  exact absurd (Nat.lt_of_lt_of_le (Heap.lt_size ho) hD) (Nat.lt_irrefl _)
 have Dfs:D∉(R8 X own js scope C s H fp).fs:=fun z=>by
  obtain⟨_,o,ho,_⟩:=I.stack.mem z
  exact absurd (Nat.lt_of_lt_of_le (Heap.lt_size ho) hD) (Nat.lt_irrefl _)
 refine codeAny_loop rfl (fun n s'=>∃i out H',BlockEnd X pins own js scope σ H s fp C D out H' s'∧tn i s'.heap∧(∀b∈fp,H' b=none)∧W i n out H') (fun n s3 hI=>?_) m0 ⟨0,[],H1,B,st,fr,w0⟩
 obtain⟨i,out,H3,B3,st3,fr3,w3⟩:=hI
 obtain⟨its,nD,rv,obD⟩:=B3.obj
 have pinD:∀{σ':St} {H':Hp} {s':Shared},Inv (R8 X own js scope C s H fp) (X.pn++pins) σ' H' s'→H' D=none→s'.heap.get? D=some {cls:= .type "list",data:= .seq its.toArray nD}→
   Inv (R8 X own js scope C s H fp) (X.pn++pins++[(D,{cls:= .type "list",data:= .seq its.toArray nD})]) σ' H' s':=fun{σ' H' s'} I' n' e'=>I'.pins_of fun p hp=>by
  rcases List.mem_append.mp hp with z|z
  ·exact I'.pin p (by show p∈([]:List (Addr×Obj))++_;exact List.mem_append_right _ z)
  ·have z':p=(D,{cls:= .type "list",data:= .seq its.toArray nD}):=by simpa using z
   subst z'
   exact⟨e',n',hDC,Dfs,fun v q=>by cases q⟩
 have stat':∀{H':Hp},(∀b∈fp,H' b=none)→∀b∈fp,bQ (R8 X own js scope C s H fp) (X.pn++pins++[(D,{cls:= .type "list",data:= .seq its.toArray nD})]) H' b:=fun hn b hb=>by
  obtain⟨a1,a2,a3,a4,a5,a6⟩:=stat hn b hb
  refine⟨a1,a2,a3,a4,a5,fun p hp=>?_⟩
  have hp':p∈X.pn++pins++[(D,{cls:= .type "list",data:= .seq its.toArray nD})]:=hp
  rcases List.mem_append.mp hp' with z|z
  ·exact a6 p (by show p∈([]:List (Addr×Obj))++_;exact z)
  ·have z':p=(D,{cls:= .type "list",data:= .seq its.toArray nD}):=by simpa using z
   subst z'
   rintro rfl
   exact Dfp hb
 have thx:∀{α:Type} {t:Sem α} {Q Q':α→Shared→Prop} {E:Value→Shared→Prop} {s:Shared},wpAny (model X.prog X.w) X.A t Q (fun _ _=>False) s→(∀a s,Q a s→Q' a s)→wpAny (model X.prog X.w) X.A t Q' E s:=
  fun h hQ=>wpAny_mono h hQ fun _ _ x=>x.elim
 have unD:∀{pl:List (Addr×Obj)} {σ':St} {H':Hp} {s':Shared},Inv (R8 X own js scope C s H fp) (X.pn++pins++[(D,{cls:= .type "list",data:= .seq its.toArray nD})]++pl) σ' H' s'→Inv (R8 X own js scope C s H fp) (X.pn++pins) σ' H' s'∧H' D=none∧s'.heap.get? D=some {cls:= .type "list",data:= .seq its.toArray nD}:=fun{pl σ' H' s'} I'=>by
  have q:=I'.pin (D,{cls:= .type "list",data:= .seq its.toArray nD}) (List.mem_append_right _ (List.mem_append_left _ (List.mem_append_right _ (by simp))))
  exact⟨I'.unpinned.unpinned,q.2.1,q.1⟩
 show wpAny _ X.A ((compTurn (.ListComp elt [⟨tg,iter,ifs,0⟩] scope pos) 0 (.ref it) (.ref D) (compEnvC scope (aZ scope X.env) C X.env)).onRaise (fun x=>do noteFrame x (compEnvC scope (aZ scope X.env) C X.env);theTreesLotGoes x)) _ _ s3
 refine wpAny_noted ?_
 rw[compTurn_list]
 refine wpAny_bind (wpAny_standAt (wpAny_bind ?_))
 rcases turn i n out H3 w3 with⟨stop,fin⟩|⟨go,step⟩
 ·refine K6 (T.done (R8 X own js scope C s H fp) rfl rfl rfl hc i _ s3 _ H3 _ (pinD B3.inv B3.free obD) (stat' fr3) st3 stop) fun r s4 ⟨hr,I4⟩=>?_
  subst hr
  obtain⟨J4,n4,o4⟩:=unD (pl:=[]) (by rw[List.append_nil];exact I4)
  obtain⟨hl,k⟩:=fin B3.free
  exact wpAny_pure (hR out H3 s4 ⟨J4,n4,its,nD,rv,o4⟩ hl k)
 ·refine K6 (T.item (R8 X own js scope C s H fp) rfl rfl rfl hc i _ s3 _ H3 _ (pinD B3.inv B3.free obD) (stat' fr3) st3 go) fun r s4 ⟨u,hr,h4⟩=>?_
  subst hr
  refine wpAny_bind (K6 h4 fun _ s5 ⟨x,H5,I5,r5,y5,st5,fr5⟩=>?_)
  have I5':=I5.pinned (stat' fr5) (T.obj _ _ st5)
  refine wpAny_bind (thx (hg _ s5 _ H5 x u _ I5' r5 (step x H5 y5)) fun _ s6 ⟨σ6,H6,I6,q6⟩=>?_)
  obtain⟨ed,q6⟩:=q6
  refine wpAny_bind (thx (hi _ s6 σ6 H6 _ I6 q6) fun ok s7 ⟨H7,I7,q7⟩=>?_)
  have stay:∀{H':Hp} {s':Shared},Inv (R8 X own js scope C s H fp) (X.pn++pins++[(D,{cls:= .type "list",data:= .seq its.toArray nD})]++ff fp s5.heap) σ6 H' s'→tn (i+1) s'.heap∧∀b∈fp,H' b=none:=fun{H' s'} I'=>by
   refine⟨T.keep _ _ _ st5 fun b hb o e=>(I'.pin (b,o) (List.mem_append_right _ (List.mem_append_right _ (U9 hb e)))).1,fun b hb=>?_⟩
   obtain⟨o,e,d⟩:=T.obj _ _ st5 b hb
   exact(I'.pin (b,o) (List.mem_append_right _ (List.mem_append_right _ (U9 hb e)))).2.1
  have wk:∀{H':Hp} {s':Shared},Inv (R8 X own js scope C s H fp) (X.pn++pins) σ6 H' s'→Inv (R8 X own js scope C s H fp) (X.pn++pins) (pX own js σ) H' s':=fun{H' s'} I'=>by
   refine I'.weak (by rw[I'.len];exact jM) fun k v e=>?_
   unfold pX at e
   by_cases hk:k<own.length
   ·rw[List.getElem?_append_left (by simpa using hk),List.getElem?_map,List.getElem?_eq_getElem hk] at e
    simp at e
   ·rw[List.getElem?_append_right (by simpa using hk)] at e
    have el:(own.map fun _=>(none:Option V)).length=own.length:=by simp
    rw[el,←ed,List.getElem?_drop] at e
    have ek:own.length+(k -own.length)=k:=by lia
    rw[ek] at e
    exact e
  cases ok with
  |false=>
   rw[if_neg Bool.false_ne_true] at q7
   obtain⟨m',hm,w7⟩:=q7
   obtain⟨J7,n7,o7⟩:=unD I7
   exact wpAny_pure ⟨rfl,m',hm,i+1,out,H7,⟨wk J7,n7,its,nD,rv,o7⟩,(stay I7).1,(stay I7).2,w7⟩
  |true=>
   rw[if_pos rfl] at q7
   refine wpAny_bind (wpAny_bind (wpAny_mono (he _ s7 σ6 H7 _ I7.toBE q7) (fun y s8 ⟨v,H8,I8',r8,hl8,m',hm,w8⟩=>?_) fun e9 s9 x9=>hE e9 s9 x9))
   have I8:=I8'.ofBE
   obtain⟨J8,n8,o8⟩:=unD I8
   have isl:s8.heap.IsList D its.toArray:=⟨_,o8,rfl,nD,rfl⟩
   refine wpAny_bind (wpAny_list_append_plain (hsz:=by have:=rv.length;simp;lia) ⟨nD,o8⟩ fun h' hp' hs'=>?_)
   obtain⟨nn,ob'⟩:=hp'
   have ob2:h'.get? D=some {cls:= .type "list",data:= .seq (its++[y]).toArray nn}:=by
    rw[ob',List.push_toArray]
   have keep:∀b o,b≠D→s8.heap.get? b=some o→h'.get? b=some o:=fun b o hb e=>(hs'.2 b hb).trans e
   have J9:Inv (R8 X own js scope C s H fp) (X.pn++pins) σ6 H8 {s8 with heap:=h'}:=J8.turned (t':=s8.toks) keep n8 hDC (.inr hD) Dcell (fun p hp=>Dpin p (by
    have hp':p∈([]:List (Addr×Obj))++(X.pn++pins):=hp
    rw[List.nil_append] at hp'
    exact hp'))
   refine wpAny_pure (wpAny_pure ⟨rfl,m',hm,i+1,out++[v],H8,⟨wk J9,n8,its++[y],nn,rv.append (.cons r8 .nil),ob2⟩,?_,(stay I8).2,w8⟩)
   exact T.keep _ _ _ (stay I8).1 fun b hb o e=>keep b o (by rintro rfl;exact Dfp hb) e
theorem gz {B h h':Heap}{C:Addr}(sb:Heap.SameBut C h h'):∀{l:List Env},h.FunFrames B l→C∉T7 l→h'.FunFrames B l
 |[],_,_=>trivial
 |_::_,⟨hk,⟨L,o,hf,hn,ho,hd⟩,hr⟩,hc=>⟨hk,⟨L,o,hf,hn,(sb.2 L fun z=>hc (by unfold T7;rw[List.filterMap_cons,hf,z];exact List.mem_cons_self)).trans ho,hd⟩,gz sb hr fun z=>hc (by unfold T7;rw[List.filterMap_cons,hf];exact List.mem_cons_of_mem _ z)⟩
theorem Fl.but {B h h':Heap}{C:Addr}{l:List Env}{a:Addr}{cls a0 fl:Value}(F:Fl B l a cls a0 fl h)(sb:Heap.SameBut C h h')(hc:C∉T7 l)(hn:∃o,h.get? C=some o∧∀vs,o.data≠ .fields vs):Fl (PySem.W.hideAll B [C]) l a cls a0 fl h':=by
 have k:(PySem.W.hideAll B [C]).StaysIn B:=fun b o z=>PySem.W.of_hideAll _ z
 obtain⟨f1,f2,f3,oe,vs,T,oT,ts,a1,a2,a3,a4,a5,a6,a7,a8,a9⟩:=F
 obtain⟨oc,ec,dc⟩:=hn
 have n1:a≠C:=fun z=>by rw[z,ec] at a1;cases a1;exact dc _ a3
 have n2:T≠C:=fun z=>by rw[z,ec] at a7;cases a7;exact dc _ a8
 refine⟨fun b o z=>?_,PySem.W.fresh_of_stays k f2,PySem.W.funFrames_base k (gz sb f3 hc),oe,vs,T,oT,ts,(sb.2 a n1).trans a1,a2,a3,a4,PySem.W.fresh_of_stays k a5,a6,(sb.2 T n2).trans a7,a8,a9⟩
 have nb:b≠C:=fun q=>by rw[q,PySem.W.hideAll_none [C] (by simp)] at z;cases z
 exact(sb.2 b nb).trans (f1 b o (k b o z))
theorem tZ {E:XK}{C:Addr}{fp:List Addr}(PB:cN X E)(I:Inv X pins σ H s)(hf:∀b∈fp,bQ X pins H b)(hC:s.heap.objs.size≤C){use:Option (Value→Sem Unit)}{Q:Value→Shared→Prop}{acc:Value}{e:Value}{s':Shared}(x:Ct X own js scope C s H fp E e s'):
  notedBy (model X.prog X.w) X.A (compEnvC scope (aZ scope X.env) C X.env) (fun e s'=>compPost (model X.prog X.w) X.A X.xe use Q acc C (.error e) s') e s':=by
 obtain⟨hst,⟨L,hL⟩,pb⟩:=PB
 obtain⟨pins1,σ1,H1,s1,J,a,Cc,a0,B,H',rfl,F,q⟩:=x
 have U:Un (T7 X.stack) fp H H1 s.heap s1.heap:=J.base
 have I1:Inv X pins σ H1 s1:=I.call' (s':=s1) (ch:=fp) J.os U J.hok J.bare fun b hb=>⟨(hf b hb).2.2.2.1,(hf b hb).2.1,(hf b hb).2.2.2.2.1,(hf b hb).2.2.2.2.2⟩
 have hCf:C∉T7 X.stack:=fun z=>by
  obtain⟨_,o,ho,_⟩:=I.stack.mem z
  exact absurd (Nat.lt_of_lt_of_le (Heap.lt_size ho) hC) (Nat.lt_irrefl _)
 have hHC:H1 C=none:=J.free
 obtain⟨mm,hn,_⟩:=J.loc
 obtain⟨oC,es,ep,hoC,hdC,rC⟩:=hn
 have hoC':s1.heap.get? C=some oC:=hoC
 have hBC:B.get? C=some oC:=F.kp C oC hoC' hHC hCf
 have HC':H' C=none:=F.un.free C oC hoC' hHC (by simp)
 have nfC:∀vs,oC.data≠ .fields vs:=fun vs z=>by rw[hdC] at z;cases z
 have hfr:X.A.frames=some (X.env::X.outer):=by rw[I.ok.frames,hst]
 unfold notedBy
 rw[oB (env:=compEnvC scope (aZ scope X.env) C X.env) (env':=X.env) rfl]
 refine kS (outer:=X.outer) hfr hL (fl:= .none) (B:=B) (cls:= .ref Cc) (a0:=a0) (by rw[←hst];exact⟨F.fl.1,F.fl.2.1,F.fl.2.2.1,F.fl.2.2.2⟩) fun h2 F2 u2=>?_
 rw[←hst] at F2
 have g2:h2.get? C=some oC:=F2.st C oC hBC
 suffices go:∃m,h2.Ns C m∧∀h',Heap.SameBut C h2 h'→∀cenv:Env,cenv.locals=C→wpAny (model X.prog X.w) X.A (PySem.passOn "comprehension.variables-let-go" (.ref a) cenv:Sem Value) (fun _ _=>False) X.xe {s' with heap:=h'} by cases use<;>exact go
 refine⟨mm,⟨oC,es,ep,g2,hdC,rC⟩,fun h3 sb cenv _=>?_⟩
 have F3:=F2.but sb hCf ⟨oC,g2,nfC⟩
 refine tY F3 fun h4 fl4 F4 u4=>?_
 have kB:(PySem.W.hideAll B [C]).StaysIn B:=fun b o z=>PySem.W.of_hideAll _ z
 have tr:∀b o,H' b=some o→∃u,(PySem.W.hideAll B [C]).get? b=some u:=fun b o z=>by
  obtain⟨u,hu⟩:=F.tr b o z
  exact⟨u,PySem.W.hideAll_get _ hu fun q=>by
   have e:b=C:=by simpa using q
   rw[e,HC'] at z;cases z⟩
 have nC:∀b,b≠C→b∉[C]:=fun b h z=>h (by simpa using z)
 have kp:∀b o,s1.heap.get? b=some o→H1 b=none→b∉T7 X.stack→b≠C→(PySem.W.hideAll B [C]).get? b=some o:=fun b o z n hb hc=>PySem.W.hideAll_get _ (F.kp b o z n hb) (nC b hc)
 have th:∀b o,s1.heap.get? b=some o→b∉T7 X.stack→b≠C→∃o',(PySem.W.hideAll B [C]).get? b=some o':=fun b o z hb hc=>by
  obtain⟨o',z'⟩:=F.th b o z hb
  exact⟨o',PySem.W.hideAll_get _ z' (nC b hc)⟩
 have sl:∀b o,b∈T7 X.stack→s'.heap.get? b=some o→∃sl,h4.get? b=some {o with slots:=sl}:=fun b o hb z=>by
  have nf:=E9 F.fl.2.2.1 hb z
  obtain⟨s2,e2⟩:=u2 b o z nf
  obtain⟨s4,e4⟩:=u4 b _ ((sb.2 b fun q=>hCf (q▸hb)).trans e2) nf
  exact⟨s4,e4⟩
 have xC:∀b,b∉[C]→b≠C:=fun b h z=>h (by rw[z];simp)
 refine pb pins σ H1 H' s1 _ C a Cc a0 fl4 _ I1 (Nat.le_trans I.sz hC) ⟨F4,F.os,F.bare,⟨fun b o z n hb hx=>F4.st b o (kp b o z n hb (xC b hx)),fun b o z n hb hx=>?_,fun b o z n _=>F.un.free b o z n (by simp),fun b o z hx=>?_,F.un.tups,F.un.frzs,F.un.tbls⟩,gS F.hok tr (fun b o z=>F.fl.1 b o (kB b o z)) F4.st,kp,th,tr,F.nw⟩ q
 ·obtain⟨s5,e5⟩:=F.un.slot b o z n hb (by simp)
  obtain⟨s6,e6⟩:=sl b _ hb e5
  exact⟨s6,e6⟩
 ·by_cases hb:b∈T7 X.stack
  ·obtain⟨o5,e5⟩:=F.un.there b o z (by simp)
   obtain⟨s6,e6⟩:=sl b _ hb e5
   exact⟨_,e6⟩
  ·obtain⟨o5,e5⟩:=th b o z hb (xC b hx)
   exact⟨o5,F4.st b o5 e5⟩
end
theorem rn {X:Cx}{E:XK}{own:List Str}{js:List Nat}{scope:Scope}{tg iter elt:Expr}{ifs:List Expr}{pos:Pos}{g:TG}{ti:TT}{te:TE}{wi:jm}(S:vk X own js scope=true)(hc:X.calm=true)(PB:cN X E)(hit:rN X tg iter wi)
  (hg:∀C s H fp,PG (R8 X own js scope C s H fp) tg g) (hi:∀C s H fp,iE (R8 X own js scope C s H fp) ifs ti) (he:∀C s H fp,PE (mh X own js scope C s H fp E) elt te)
  (hs:∀x,foldedSetIterable iter X.env x=pure x:=by intro _;rfl):
  PE X (.ListComp elt [⟨tg,iter,ifs,0⟩] scope pos) (bj own js wi g ti te):=by
 have SB:=kr S
 intro pins s σ H Q I h
 rw[eval_ListComp]
 refine wpAny_comprehension_free (use:=none) rfl hs (bL (SB.cells I)) SB.kind SB.names (K6 (hit pins s σ H _ I h) fun v s1 h1=>K6 h1 fun itv s2 h2=>?_)
 obtain⟨it,fp,tn,J,H2,e,I2,T,st2,f2,th,hth,W,⟨m0,w0⟩,turn⟩:=h2
 subst e
 refine wpAny_newObj_type (wpAny_newFunctionEnv SB.nocell (by intro y hy;simp at hy) (fun h₁ hns₁ hsb₁=>?_) SB.kind)
 dsimp only at hns₁ hsb₁⊢
 generalize hH2:s2.heap.push {cls:= .type "list",dict:=none,data:= .seq ([]:List Value).toArray}=G2 at hns₁ hsb₁⊢
 have hCs:G2.objs.size=s2.heap.objs.size+1:=by rw[←hH2,Heap.size_push]
 have hDC:s2.heap.objs.size≠G2.objs.size:=by rw[hCs];exact Nat.ne_of_lt (Nat.lt_succ_self _)
 have hC:s2.heap.objs.size≤G2.objs.size:=by rw[hCs];exact Nat.le_succ _
 have old:∀b o,s2.heap.get? b=some o→h₁.get? b=some o:=fun b o e=>
  hsb₁.extBut b o (Nat.ne_of_lt (Nat.lt_of_lt_of_le (Heap.lt_size e) hC)) (Heap.get?_push_of_some _ (hH2▸Heap.get?_push_of_some _ e))
 have hob:∀b∈fp,∃o,s2.heap.get? b=some o:=fun b hb=>let ⟨o,e,_⟩:=T.obj _ _ st2 b hb;⟨o,e⟩
 have hacc:h₁.get? s2.heap.objs.size=some {cls:= .type "list",data:= .seq ([]:List Value).toArray}:=
  hsb₁.extBut _ _ hDC (Heap.get?_push_of_some _ (hH2▸Heap.get?_push_size _ rfl))
 have loop:∀s3:Shared,s3={s2 with heap:=h₁,toks:=s2.toks+([]:List (Str×Value)).length}→
   codeAny (model X.prog X.w) X.A (.compLoop (.ListComp elt [⟨tg,iter,ifs,0⟩] scope pos) 0 (.ref it) (.ref s2.heap.objs.size) (compEnvC scope (aZ scope X.env) G2.objs.size X.env))
    (compPost (model X.prog X.w) X.A X.xe none (EP X pins σ Q) (.ref s2.heap.objs.size) G2.objs.size) s3:=by
  rintro s3 rfl
  refine iq (E:=E) (K:=fun out H'=>Q (.ref s2.heap.objs.size) (th (A5 H' s2.heap.objs.size (.lst out)))) SB hc T I2 f2 (Nat.le_refl _) hC hDC hob (hg _ _ _ _) (hi _ _ _ _) (he _ _ _ _) W (fun i m out H' w=>?_) (fun out H' s' B hl k=>?_) (fun e9 s9 x9=>tZ PB I2 f2 hC x9) w0
   ⟨Inv.block SB I2 f2 hob hC hns₁ old,I2.hok.fresh (Nat.le_refl _),[],_,.nil,hacc⟩ (T.keep _ _ _ st2 fun b _ o e=>old b o e) (fun b hb=>(f2 b hb).1)
  ·rcases turn i m out H' w with⟨a,b⟩|c
   ·exact .inl ⟨a,fun n=>b _ n⟩
   ·exact .inr c
  ·obtain⟨mm,hn,_⟩:=B.inv.loc
   exact⟨mm,hn,fun h' sb=>⟨.ref s2.heap.objs.size,_,hth _ _ _ _ (B.out I2 f2 (Nat.le_refl _) hC hDC hl sb),rfl,k⟩⟩
 exact codeAny_compStart_list (loop _ rfl) (T.self _ 0 _ _ _ (T.keep _ _ _ st2 fun b _ o e=>old b o e) (loop _ rfl))
theorem lZ {X:Cx}{E:XK}{own:List Str}{js:List Nat}{scope:Scope}{tg iter elt:Expr}{ifs:List Expr}{pos spos py:Pos}{g:TG}{ti:TT}{te:TE}{wi:jm}{i:Nat}{y:Str}(hN:X.N.Nodup)(hy:X.N[i]?=some y)(hl:vp X.env.scope y)(S:vk X own js scope=true)(hc:X.calm=true)(PB:cN X E)(hit:rN X tg iter wi)
  (hg:∀C s H fp,PG (R8 X own js scope C s H fp) tg g) (hi:∀C s H fp,iE (R8 X own js scope C s H fp) ifs ti) (he:∀C s H fp,PE (mh X own js scope C s H fp E) elt te)
  (hsw:swapsWith (.ListComp elt [⟨tg,iter,ifs,0⟩] scope pos) (some (.Name y py)) spos.line X.env=pure true)
  (hf:X.fn y=true∨X.env.scope.names.lookup y=some .local)
  (hs:∀x,foldedSetIterable iter X.env x=pure x):
  PS X (.Assign [.Name y py] (.ListComp elt [⟨tg,iter,ifs,0⟩] scope pos) spos) (iQ (bj own js wi g ti te) (Y9 i)):=by
 have SB:=kr S
 intro pins s σ H D I h
 rw[exec_Assign_Name_used _ _ _ _ hsw]
 refine wpAny_bind (wpAny_standAt (wpAny_bind ?_))
 show wpAny _ X.A (do let _←comprehension (.ListComp elt [⟨tg,iter,ifs,0⟩] scope pos) scope X.env _ (newList []) false (eval iter X.env) (some (assign (.Name y py) X.env))) _ _ s
 refine wpAny_bind (wpAny_mono (wpAny_comprehension_free (use:=some (assign (.Name y py) X.env)) (Q:=fun _ s'=>SP X pins D .next s') rfl hs (bL (SB.cells I)) SB.kind SB.names (K6 (hit pins s σ H _ I h) fun v s1 h1=>K6 h1 fun itv s2 h2=>?_)) (fun _ s' hq=>wpAny_pure (wpAny_pure hq)) fun _ _ e=>e)
 obtain⟨it,fp,tn,J,H2,e,I2,T,st2,f2,th,hth,W,⟨m0,w0⟩,turn⟩:=h2
 subst e
 refine wpAny_newObj_type (wpAny_newFunctionEnv SB.nocell (by intro y hy;simp at hy) (fun h₁ hns₁ hsb₁=>?_) SB.kind)
 dsimp only at hns₁ hsb₁⊢
 generalize hH2:s2.heap.push {cls:= .type "list",dict:=none,data:= .seq ([]:List Value).toArray}=G2 at hns₁ hsb₁⊢
 have hCs:G2.objs.size=s2.heap.objs.size+1:=by rw[←hH2,Heap.size_push]
 have hDC:s2.heap.objs.size≠G2.objs.size:=by rw[hCs];exact Nat.ne_of_lt (Nat.lt_succ_self _)
 have hC:s2.heap.objs.size≤G2.objs.size:=by rw[hCs];exact Nat.le_succ _
 have old:∀b o,s2.heap.get? b=some o→h₁.get? b=some o:=fun b o e=>
  hsb₁.extBut b o (Nat.ne_of_lt (Nat.lt_of_lt_of_le (Heap.lt_size e) hC)) (Heap.get?_push_of_some _ (hH2▸Heap.get?_push_of_some _ e))
 have off:∀b o,s2.heap.get? b=some o→b≠G2.objs.size:=fun b o e=>Nat.ne_of_lt (Nat.lt_of_lt_of_le (Heap.lt_size e) hC)
 have hob:∀b∈fp,∃o,s2.heap.get? b=some o:=fun b hb=>let ⟨o,e,_⟩:=T.obj _ _ st2 b hb;⟨o,e⟩
 have hacc:h₁.get? s2.heap.objs.size=some {cls:= .type "list",data:= .seq ([]:List Value).toArray}:=
  hsb₁.extBut _ _ hDC (Heap.get?_push_of_some _ (hH2▸Heap.get?_push_size _ rfl))
 have loop:∀s3:Shared,s3={s2 with heap:=h₁,toks:=s2.toks+([]:List (Str×Value)).length}→
   codeAny (model X.prog X.w) X.A (.compLoop (.ListComp elt [⟨tg,iter,ifs,0⟩] scope pos) 0 (.ref it) (.ref s2.heap.objs.size) (compEnvC scope (aZ scope X.env) G2.objs.size X.env))
    (compPost (model X.prog X.w) X.A X.xe (some (assign (.Name y py) X.env)) (fun _ s'=>SP X pins D .next s') (.ref s2.heap.objs.size) G2.objs.size) s3:=by
  rintro s3 rfl
  refine iq (E:=E) (K:=fun out H'=>Y9 i (.ref s2.heap.objs.size) σ (th (A5 H' s2.heap.objs.size (.lst out))) D.nx) SB hc T I2 f2 (Nat.le_refl _) hC hDC hob (hg _ _ _ _) (hi _ _ _ _) (he _ _ _ _) W (fun i m out H' w=>?_) (fun out H' s' B hl' k=>?_) (fun e9 s9 x9=>tZ PB I2 f2 hC x9) w0
   ⟨Inv.block SB I2 f2 hob hC hns₁ old,I2.hok.fresh (Nat.le_refl _),[],_,.nil,hacc⟩ (T.keep _ _ _ st2 fun b _ o e=>old b o e) (fun b hb=>(f2 b hb).1)
  ·rcases turn i m out H' w with⟨a,b⟩|c
   ·exact .inl ⟨a,fun n=>b _ n⟩
   ·exact .inr c
  ·obtain⟨mm,hn,_⟩:=B.inv.loc
   have hHC:H' G2.objs.size=none:=B.inv.free
   have IJ:=B.out I2 f2 (Nat.le_refl _) hC hDC hl' (h':=s'.heap) (Heap.SameBut.refl _ _)
   show wpAny _ X.A (assign (.Name y py) X.env (.ref s2.heap.objs.size)) _ _ s'
   refine wpAny_assign_Name (eZ IJ hN hy hl (v:= .ref s2.heap.objs.size) rfl (fun s'' I'' hx=>?_) hf)
   obtain⟨a,sa,ha⟩:=hx
   have haC:G2.objs.size≠a:=by
    rcases ha with rfl|ha
    ·exact Ne.symm (Nat.ne_of_lt (Nat.lt_of_lt_of_le I2.lt hC))
    ·obtain⟨_,o,ho,_⟩:=I2.cell _ _ ha
     exact Ne.symm (off _ _ ho)
   refine⟨mm,hn.sameBut sa haC,fun h' sb=>⟨_,_,hth _ _ _ _ (I''.off (by rw[d6 (Ne.symm hDC)];exact hHC) (Nat.le_trans I2.sz hC) (Ne.symm (Nat.ne_of_lt (Nat.lt_of_lt_of_le I2.lt hC))) (fun x c e=>?_) (fun p hp=>off _ _ (I2.pin p hp).1) sb),k⟩⟩
   obtain⟨_,o,ho,_⟩:=I2.cell _ _ e
   exact off _ _ ho
 exact codeAny_compStart_list (loop _ rfl) (T.self _ 0 _ _ _ (T.keep _ _ _ st2 fun b _ o e=>old b o e) (loop _ rfl))
theorem yf {X:Cx}{E:XK}{own:List Str}{js:List Nat}{scope:Scope}{tg iter elt:Expr}{ifs:List Expr}{pos:Pos}{g:TG}{ti:TT}{te:TE}{wi:jm}(PB:cN X E)(S:vk X own js scope=true)(hc:X.calm=true)(hit:QI X tg iter wi)
  (hg:∀C s H fp,QG (R8 X own js scope C s H fp) tg g) (hi:∀C s H fp,Ah (R8 X own js scope C s H fp) ifs ti) (he:∀C s H fp,QE (mh X own js scope C s H fp E) elt te)
  (hs:∀x,foldedSetIterable iter X.env x=pure x:=by intro _;rfl):QE X (.ListComp elt [⟨tg,iter,ifs,0⟩] scope pos) (bj own js wi g ti te):=
 ⟨rn S hc PB hit.r (fun C s H fp=>(hg C s H fp).r) (fun C s H fp=>(hi C s H fp).r) (fun C s H fp=>(he C s H fp).r) hs⟩
theorem rA {X:Cx}{E:XK}{own:List Str}{js:List Nat}{scope:Scope}{tg iter elt:Expr}{ifs:List Expr}{pos spos py:Pos}{g:TG}{ti:TT}{te:TE}{wi:jm}{i:Nat}{y:Str}(hN:X.N.Nodup)(hy:X.N[i]?=some y)(hl:vp X.env.scope y)(PB:cN X E)(S:vk X own js scope=true)(hc:X.calm=true)(hit:QI X tg iter wi)
  (hg:∀C s H fp,QG (R8 X own js scope C s H fp) tg g) (hi:∀C s H fp,Ah (R8 X own js scope C s H fp) ifs ti) (he:∀C s H fp,QE (mh X own js scope C s H fp E) elt te)
  (hsw:swapsWith (.ListComp elt [⟨tg,iter,ifs,0⟩] scope pos) (some (.Name y py)) spos.line X.env=pure true:=by rfl)
  (hf:X.fn y=true∨X.env.scope.names.lookup y=some .local:=by first|exact .inl rfl|exact .inr rfl)
  (hs:∀x,foldedSetIterable iter X.env x=pure x:=by intro _;rfl):QS X (.Assign [.Name y py] (.ListComp elt [⟨tg,iter,ifs,0⟩] scope pos) spos) (iQ (bj own js wi g ti te) (Y9 i)):=
 ⟨lZ hN hy hl S hc PB hit.r (fun C s H fp=>(hg C s H fp).r) (fun C s H fp=>(hi C s H fp).r) (fun C s H fp=>(he C s H fp).r) hsw hf hs⟩
def Av:R2:=fun x y H Q=>pf x y H Q∨Bf x y H Q
theorem wc {X:Cx}:OpR X (binaryOp .Mult) Av:=op_mulY.or zR
end L2
set_option Elab.async false
set_option linter.all false
set_option maxRecDepth 100000
set_option maxHeartbeats 1000000
namespace K73
open PySem PySem.Spec PyProof.Rows L2
def ba (i:Nat):Stmt:=PySem.Challenge.pw_gluework_k73_texts_refused.main.body.getD i (.Pass ⟨0,0,0,0⟩)
abbrev N2:Stmt:=ba 8
theorem sc_is_text_of:j7 ["thing","signs","most"] ["thing","signs","most"] (b0 N2):=⟨rfl,rfl,rfl,by decide+kernel,rfl,by decide+kernel,by decide+kernel⟩
abbrev Y1:Stmt:=ba 9
theorem sc_is_name:j7 ["thing"] ["thing"] (b0 Y1):=⟨rfl,rfl,rfl,by decide+kernel,rfl,by decide+kernel,by decide+kernel⟩
abbrev X7:Stmt:=ba 10
theorem sc_is_kind:j7 ["thing"] ["thing"] (b0 X7):=⟨rfl,rfl,rfl,by decide+kernel,rfl,by decide+kernel,by decide+kernel⟩
abbrev aT:Stmt:=ba 11
theorem sc_is_tie:j7 ["thing","points"] ["thing","points"] (b0 aT):=⟨rfl,rfl,rfl,by decide+kernel,rfl,by decide+kernel,by decide+kernel⟩
abbrev bc:Stmt:=ba 12
theorem sc_is_web:j7 ["thing","points","ties"] ["thing"] (b0 bc):=⟨rfl,rfl,rfl,by decide+kernel,rfl,by decide+kernel,by decide+kernel⟩
abbrev V4:Stmt:=ba 13
theorem sc_in_order:j7 ["named"] ["named"] (b0 V4):=⟨rfl,rfl,rfl,by decide+kernel,rfl,by decide+kernel,by decide+kernel⟩
abbrev aO:Stmt:=ba 14
theorem sc_copied:j7 ["web"] ["web"] (b0 aO):=⟨rfl,rfl,rfl,by decide+kernel,rfl,by decide+kernel,by decide+kernel⟩
abbrev aY:Stmt:=ba 15
theorem sc_things:j7 ["web"] ["web"] (b0 aY):=⟨rfl,rfl,rfl,by decide+kernel,rfl,by decide+kernel,by decide+kernel⟩
abbrev X6:Stmt:=ba 16
theorem sc_is_part:j7 ["web","other"] ["web","other"] (b0 X6):=⟨rfl,rfl,rfl,by decide+kernel,rfl,by decide+kernel,by decide+kernel⟩
abbrev U5:Stmt:=ba 21
theorem sc_is_piece:j7 ["thing","most"] ["thing","most"] (b0 U5):=⟨rfl,rfl,rfl,by decide+kernel,rfl,by decide+kernel,by decide+kernel⟩
abbrev Y0:Stmt:=ba 22
theorem sc_is_same:j7 ["name","left","right"] ["name","left","right"] (b0 Y0):=⟨rfl,rfl,rfl,by decide+kernel,rfl,by decide+kernel,by decide+kernel⟩
abbrev eP:Stmt:=ba 23
theorem sc_both:j7 ["web","other"] ["web","other"] (b0 eP):=⟨rfl,rfl,rfl,by decide+kernel,rfl,by decide+kernel,by decide+kernel⟩
abbrev Y3:Stmt:=ba 24
theorem sc_is_rule:j7 ["thing","left","right","bars"] ["thing"] (b0 Y3):=⟨rfl,rfl,rfl,by decide+kernel,rfl,by decide+kernel,by decide+kernel⟩
abbrev O2:Stmt:=ba 29
theorem sc_thing_read:j7 ["text","named","told","ends"] ["text"] (b0 O2):=⟨rfl,rfl,rfl,by decide+kernel,rfl,by decide+kernel,by decide+kernel⟩
abbrev L8:Stmt:=ba 30
theorem sc_things_read:j7 ["text"] ["text"] (b0 L8):=⟨rfl,rfl,rfl,by decide+kernel,rfl,by decide+kernel,by decide+kernel⟩
abbrev U4:Stmt:=ba 31
theorem sc_web_read:j7 ["text","told","points","ties"] ["text"] (b0 U4):=⟨rfl,rfl,rfl,by decide+kernel,rfl,by decide+kernel,by decide+kernel⟩
abbrev Q1:Stmt:=ba 32
theorem sc_rule_read:j7 ["text","sides","behind","rule"] ["text"] (b0 Q1):=⟨rfl,rfl,rfl,by decide+kernel,rfl,by decide+kernel,by decide+kernel⟩
abbrev N1:Stmt:=ba 34
theorem sc__law_mixed:j7 ["_law_cell","_law_k","_law_number"] ["_law_cell","_law_k"] (b0 N1):=⟨rfl,rfl,rfl,by decide+kernel,rfl,by decide+kernel,by decide+kernel⟩
abbrev N7:Stmt:=ba 35
theorem sc__law_names:j7 ["_law_cell","_law_many_here","_law_letters","_law_signs","_law_base","_law_k","_law_at"] ["_law_cell","_law_many_here"] (b0 N7):=⟨rfl,rfl,rfl,by decide+kernel,rfl,by decide+kernel,by decide+kernel⟩
abbrev N6:Stmt:=ba 36
theorem sc__law_kinds:j7 ["_law_cell","_law_letters","_law_sign_here","_law_other","_law_many_here"] ["_law_cell"] (b0 N6):=⟨rfl,rfl,rfl,by decide+kernel,rfl,by decide+kernel,by decide+kernel⟩
abbrev V0:Stmt:=ba 37
theorem sc__law_web:j7 ["_law_cells","_law_names_here","_law_kinds_here","_law_points","_law_ties","_law_k","_law_cell","_law_some","_law_kind","_law_one"] ["_law_cells","_law_names_here","_law_kinds_here"] (b0 V0):=⟨rfl,rfl,rfl,by decide+kernel,rfl,by decide+kernel,by decide+kernel⟩
abbrev M8:Stmt:=ba 38
theorem sc__law_drawn:j7 ["_law_script","_law_start","_law_most","_law_cells","_law_head"] ["_law_script","_law_start","_law_most"] (b0 M8):=⟨rfl,rfl,rfl,by decide+kernel,rfl,by decide+kernel,by decide+kernel⟩
abbrev O6:Stmt:=ba 39
theorem sc__law_words:j7 ["_law_cell","_law_many_here","_law_letters","_law_base","_law_k","_law_at"] ["_law_cell","_law_many_here"] (b0 O6):=⟨rfl,rfl,rfl,by decide+kernel,rfl,by decide+kernel,by decide+kernel⟩
abbrev N9:Stmt:=ba 40
theorem sc__law_piece:j7 ["_law_points","_law_ties","_law_words_here","_law_kinds_here","_law_cell","_law_k","_law_some","_law_one","_law_other"] ["_law_points","_law_ties","_law_words_here","_law_kinds_here","_law_cell"] (b0 N9):=⟨rfl,rfl,rfl,by decide+kernel,rfl,by decide+kernel,by decide+kernel⟩
abbrev Q7:Stmt:=ba 41
theorem sc__law_rule:j7 ["_law_cell","_law_kinds_here","_law_most","_law_words_here","_law_left","_law_points","_law_ties","_law_k","_law_name","_law_right_here","_law_bars","_law_some"] ["_law_cell","_law_kinds_here","_law_most"] (b0 Q7):=⟨rfl,rfl,rfl,by decide+kernel,rfl,by decide+kernel,by decide+kernel⟩
abbrev O5:Stmt:=ba 42
theorem sc__law_shown:j7 ["_law_web_here","_law_words_here","_law_name","_law_kind","_law_one","_law_other"] ["_law_web_here"] (b0 O5):=⟨rfl,rfl,rfl,by decide+kernel,rfl,by decide+kernel,by decide+kernel⟩
abbrev Q4:Stmt:=ba 43
theorem sc__law_sign:j7 ["_law_cell","_law_some"] ["_law_cell"] (b0 Q4):=⟨rfl,rfl,rfl,by decide+kernel,rfl,by decide+kernel,by decide+kernel⟩
abbrev K2:Stmt:=ba 44
theorem sc__law_spoiled:j7 ["_law_text","_law_cell","_law_way","_law_at","_law_sign_here"] ["_law_text","_law_cell"] (b0 K2):=⟨rfl,rfl,rfl,by decide+kernel,rfl,by decide+kernel,by decide+kernel⟩
abbrev X8:Stmt:=ba 45
theorem sc__law_is:j7 ["_law_text","_law_most","_law_first","_law_signs","_law_sign_here"] ["_law_text","_law_most","_law_first","_law_signs"] (b0 X8):=⟨rfl,rfl,rfl,by decide+kernel,rfl,by decide+kernel,by decide+kernel⟩
abbrev K5:Stmt:=ba 46
theorem sc__law_is_name:j7 ["_law_text","_law_letters"] ["_law_text"] (b0 K5):=⟨rfl,rfl,rfl,by decide+kernel,rfl,by decide+kernel,by decide+kernel⟩
abbrev K4:Stmt:=ba 47
theorem sc__law_is_kind:j7 ["_law_text","_law_letters"] ["_law_text"] (b0 K4):=⟨rfl,rfl,rfl,by decide+kernel,rfl,by decide+kernel,by decide+kernel⟩
abbrev R1:Stmt:=ba 48
theorem sc__law_word:j7 ["_law_word_here","_law_points","_law_ties","_law_at","_law_name","_law_rest","_law_kind","_law_ends"] ["_law_word_here","_law_points","_law_ties"] (b0 R1):=⟨rfl,rfl,rfl,by decide+kernel,rfl,by decide+kernel,by decide+kernel⟩
abbrev Q3:Stmt:=ba 49
theorem sc__law_read:j7 ["_law_text","_law_points","_law_ties","_law_word_here","_law_name"] ["_law_text"] (b0 Q3):=⟨rfl,rfl,rfl,by decide+kernel,rfl,by decide+kernel,by decide+kernel⟩
abbrev M9:Stmt:=ba 50
theorem sc__law_small:j7 ["_law_web_here","_law_most"] ["_law_web_here","_law_most"] (b0 M9):=⟨rfl,rfl,rfl,by decide+kernel,rfl,by decide+kernel,by decide+kernel⟩
abbrev O0:Stmt:=ba 51
theorem sc__law_agree:j7 ["_law_left","_law_right_here","_law_side","_law_name","_law_due"] ["_law_left","_law_right_here"] (b0 O0):=⟨rfl,rfl,rfl,by decide+kernel,rfl,by decide+kernel,by decide+kernel⟩
abbrev G3:Stmt:=ba 52
theorem sc__law_rule_read:j7 ["_law_text","_law_parts","_law_left","_law_webs","_law_bar","_law_side","_law_name"] ["_law_text"] (b0 G3):=⟨rfl,rfl,rfl,by decide+kernel,rfl,by decide+kernel,by decide+kernel⟩
abbrev Q2:Stmt:=ba 53
theorem sc__law_told:j7 ["_law_which","_law_text","_law_way","_law_refused","_law_found","e"] ["_law_which","_law_text","_law_way"] (b0 Q2):=⟨rfl,rfl,rfl,by decide+kernel,rfl,by decide+kernel,by decide+kernel⟩
abbrev N3:Stmt:=ba 54
theorem sc__law_right:j7 ["_law_which","_law_text","_law_way","_law_due"] ["_law_which","_law_text","_law_way"] (b0 N3):=⟨rfl,rfl,rfl,by decide+kernel,rfl,by decide+kernel,by decide+kernel⟩
abbrev R0:Stmt:=ba 55
theorem sc__law_many:j7 ["_law_cell","_law_points","_law_ties"] ["_law_cell"] (b0 R0):=⟨rfl,rfl,rfl,by decide+kernel,rfl,by decide+kernel,by decide+kernel⟩
abbrev G1:Stmt:=ba 56
theorem sc__law_rule_many:j7 ["_law_cell","_law_points","_law_ties","_law_bars","_law_bar"] ["_law_cell"] (b0 G1):=⟨rfl,rfl,rfl,by decide+kernel,rfl,by decide+kernel,by decide+kernel⟩
abbrev dI:Stmt:=ba 57
theorem sc_law:j7 ["_law_script","_law_web_here","_law_head","_law_cell","_law_rule_here","_law_text","_law_which","_law_said","_law_thing"] ["_law_script"] (b0 dI):=⟨rfl,rfl,rfl,by decide+kernel,rfl,by decide+kernel,by decide+kernel⟩
abbrev bP:Str:="abcdefghijklmnopqrstuvwxyz"
abbrev dN:Str:="abcdefghijklmnopqrstuvwxyz0123456789."
abbrev cT:Str:="-"
structure Txt (K:PySem.W.Frag) (mg:Str→Option Value):Prop where
 r_NoText:ExC K mg "NoText" (cA K "NoText")
 t_GlueError:Cd K mg "GlueError" (cA K "GlueError")
 t_NoText:Cd K mg "NoText" (cA K "NoText")
 g_NoText:rj mg "NoText" (.ref (cA K "NoText"))
 s_NoText_GlueError:PySem.W.subIn K (.ref (cA K "NoText")) (.ref (cA K "GlueError"))=some true
 s_NoText_NoText:PySem.W.subIn K (.ref (cA K "NoText")) (.ref (cA K "NoText"))=some true
 e_NoText:ExN K (cA K "NoText")
 i_NoText_NoText:PySem.W.kitOne K (.ref (cA K "NoText")) (.ref (cA K "NoText"))=some true
 i_NoText_ValueError:PySem.W.kitOne K (.ref (cA K "NoText")) (.type "ValueError")=some true
 b_ValueError:mg "ValueError"=none
 b_all:mg "all"=none
 b_dict:mg "dict"=none
 b_enumerate:mg "enumerate"=none
 b_int:mg "int"=none
 b_isinstance:mg "isinstance"=none
 b_len:mg "len"=none
 b_list:mg "list"=none
 b_range:mg "range"=none
 b_sorted:mg "sorted"=none
 b_str:mg "str"=none
 b_sum:mg "sum"=none
 b_tuple:mg "tuple"=none
 c_MOST_BARS:rj mg "MOST_BARS" (.int 3)
 c_MOST_IN_BAR:rj mg "MOST_IN_BAR" (.int 6)
 c_MOST_IN_SIDE:rj mg "MOST_IN_SIDE" (.int 4)
 c_MOST_KIND_SIGNS:rj mg "MOST_KIND_SIGNS" (.int 8)
 c_MOST_NAME_SIGNS:rj mg "MOST_NAME_SIGNS" (.int 24)
 c_MOST_POINTS:rj mg "MOST_POINTS" (.int 40)
 c_MOST_TIES:rj mg "MOST_TIES" (.int 60)
 c_NAME_SIGNS:rj mg "NAME_SIGNS" (.str dN)
 c_NOTHING:rj mg "NOTHING" (.str cT)
 c_SMALL_LETTERS:rj mg "SMALL_LETTERS" (.str bP)
abbrev kSL:Str:="abcdefghijklmnopqrstuvwxyz"
abbrev kNS:Str:="abcdefghijklmnopqrstuvwxyz0123456789."
def J5 (x signs:Str):Bool:=x.cps.toList.all fun c=>decide (c∈signs.cps.toList)
def J0 (x signs:Str)(most:Int):Bool:=decide (1≤(x.length:Int))&&decide ((x.length:Int)≤most)&&J5 x signs
def lQ (x signs:Str):Bool:=decide (x.cps.toList.headD 0∈signs.cps.toList)
def x8 (x:Str):Bool:=J0 x kNS 24&&lQ x kSL
def o6 (x:Str):Bool:=J0 x kSL 8
def NoTxt (K:PySem.W.Frag)(H:Hp)(v:V):Prop:=∃t,TyB K H v t∧t≠"str"
theorem NoTxt.mono {K:PySem.W.Frag}{H H':Hp}{v:V}(h:NoTxt K H v)(s:Same H H'):NoTxt K H' v:=by
 obtain⟨t,ty,ht⟩:=h
 exact⟨t,ty.mono s,ht⟩
theorem K0 {n:Nat}(h:n≤100000):n≤sizeLine:=Nat.le_trans h (by decide)
def rQ (K:PySem.W.Frag)(f:Str→Bool)(v:V)(H:Hp)(Q:VK):Prop:=
 (∃x,v= .str x∧x.length≤100000∧∀H',Same H H'→Q (.bl (f x)) H')∨(NoTxt K H v∧∀H',Same H H'→Q (.bl false) H')
def V8 (K:PySem.W.Frag):Sp:=fun vs H Q _=>∃v signs most,vs=[v,.str signs,.int most]∧rQ K (fun x=>J0 x signs most) v H Q
def bA (K:PySem.W.Frag):Sp:=fun vs H Q _=>∃v,vs=[v]∧rQ K x8 v H Q
def Y5 (K:PySem.W.Frag):Sp:=fun vs H Q _=>∃v,vs=[v]∧rQ K o6 v H Q
def E1 (K:PySem.W.Frag):Sp:=fun vs H Q _=>∃c k:Int,vs=[.int c,.int k]∧0≤k∧k≤1000∧∀m:Int,0≤m→Q (.int m) H
def yD (H:Hp)(Q:VK)(P:List Str→Prop):Prop:=∀(p:Addr) (H':Hp) (ss:List Str),H p=none→Same H H'→H' p=some (.lst (ss.map V.str))→P ss→Q (.ref p) H'
def A8 (W:G8):List Str:=W.pts.map (·.1)++W.ts.map (·.1)
structure WebIs (n:Nat) (K:PySem.W.Frag) (H:Hp) (a p q:Addr) (kvs:List (j6×V)) (W:G8):Prop where
 at_:WebAt K H a p q kvs W
 hp:H p=some (.dK (J6 W.pts))
 hq:H q=some (.dK kvs)
 ne:p≠q
 nd:(A8 W).Nodup
 len:(A8 W).length≤n
 ends:∀x∈W.ts,x.2.2.1∈W.pts.map (·.1)∧x.2.2.2∈W.pts.map (·.1)
 nl:∀x∈A8 W,x.length≤100
theorem WebIs.same {n:Nat}{K:PySem.W.Frag}{H H':Hp}{a p q:Addr}{kvs:List (j6×V)}{W:G8}(h:WebIs n K H a p q kvs W)(s:Same H H'):WebIs n K H' a p q kvs W:=⟨h.at_.mono s.le,s _ _ h.hp,s _ _ h.hq,h.ne,h.nd,h.len,h.ends,h.nl⟩
def AA (n:Nat)(K:PySem.W.Frag)(H:Hp)(Q:VK)(F:G8→Prop):Prop:=∀(a p q:Addr) (kvs:List (j6×V)) (W:G8) (H':Hp),Same H H'→WebIs n K H' a p q kvs W→F W→Q (.ref a) H'
def aF (K:PySem.W.Frag):Sp:=fun vs H Q _=>∃c n:Int,vs=[.int c,.int n]∧0≤n∧n≤24∧yD H Q fun ss=>ss.length=n.toNat∧ss.Nodup∧∀s∈ss,x8 s=true
def V6 (K:PySem.W.Frag):Sp:=fun vs H Q _=>∃c:Int,vs=[.int c]∧yD H Q fun ss=>ss.length=3∧∀s∈ss,o6 s=true
def jJ (K:PySem.W.Frag):Sp:=fun vs H Q _=>∃(a:Addr) (ns:List Int),vs=[.ref a]∧SqL K H a (ns.map V.int)∧ns.length≤63∧∀H',Q (.bl true) H'
local macro_rules| `(tactic|walk_at "E")=> `(tactic|first
 |(with_reducible (first|refine r_par ?_|refine wg ?_|refine r_fs ?_|refine r_callE ?_|refine Au ?_|refine yR ?_|refine DV ?_|refine CN ?_|refine BJ ?_|refine Am ?_|refine zz ?_|refine zM ?_|refine AF ?_|refine zP ?_|refine CB ?_|refine vO ?_|refine r_valuesI ?_|refine yX ?_|refine Bo ?_|refine BR ?_|refine yV ?_|refine CM ?_|refine AG ?_|refine AK ?_|refine AX ?_|refine Cw ?_|refine yZ ?_|refine r_orV ?_|refine r_notV ?_|refine r_if ?_|refine BS ?_|refine zH ?_|refine yx ?_|refine Dd ?_|refine CG ?_|refine uU ?_|refine yp ?_|refine Ax ?_|refine vI ?_|refine qt ?_|refine Dj ?_|refine tS ?_|refine r_lt_str ?_|refine kO ?_|refine r_eq_bl ?_|refine lO ?_|refine uc ?_|refine ml ?_|refine r_is ?_|refine cH ?_|refine w_eq_bl ?_|refine ma ?_|refine kU ?_|refine sJ ?_|refine w_ne_bl ?_|refine dO ?_|refine lj ?_|refine n_ne_bl ?_|refine kQ ?_|refine Aw ?_|refine wM ?_|refine zr ?_|refine r_enum ?_|refine r_zip ?_|refine wd ?_|refine zE ?_|refine Cy ?_|refine r_bm0 ?_|refine Dg ?_|refine BK ?_|refine BZ ?_|refine uJ ?_|refine Bv ?_|refine Bs ?_|refine Dk ?_|refine Cs ?_|refine BI ?_|refine BM ?_))
 |((with_reducible refine' Bc ?h ?_);(case h=>rfl))
 |with_reducible refine yw _ ?_
 |((with_reducible refine' rm ?c ?_);(case c=>(unfold CMul;omega)))
 |((with_reducible refine' DU ?c ?_);(case c=>(first|omega|(dsimp only<;>omega)|(unfold CMul;omega)|(unfold BH;omega)|(unfold Al;decide)|exact Int.pow_pos (by decide)))))
local macro_rules| `(tactic|walk_at "R")=> `(tactic|first|with_reducible refine jf ?_|with_reducible refine Ap ?_|walk_at "E")
local macro_rules| `(tactic|walk_at "r")=> `(tactic|repeat walk_at "R")
local macro_rules| `(tactic|walk_at "e")=> `(tactic|repeat walk_at "E")
local macro_rules| `(tactic|walk_at "l")=> `(tactic|first|exact Or.inl rfl|exact Or.inr rfl)
section
variable {P:Program} {w:World} {K:PySem.W.Frag} {mg:Str→Option Value} {base:Heap}
theorem eo (c:Array Nat):∀(n:Nat) (a:Array Nat),((List.replicate n c).foldl (·++·) a).size=a.size+n*c.size
 |0,a=>by simp
 |n+1,a=>by
  rw[List.replicate_succ,List.foldl_cons,eo c n,Array.size_append,Nat.add_mul];omega
theorem pT (ch:Nat)(n:Int)(h:n≤60):(Txt.mul ⟨#[ch]⟩ n).length≤60:=by
 unfold Txt.mul
 split
 ·show 0≤60
  omega
 ·split
  ·show 1≤60
   omega
  ·show((List.replicate n.toNat (#[ch]:Array Nat)).foldl (·++·) #[]).size≤60
   rw[eo]
   simp
   omega
def Z5 (i:Int):Nat:=("abcdefghijklmnopqrstuvwxyz":Str).cps.toList.getD i.toNat 0
theorem dz (i:Int)(h0:0≤i)(h1:i<26):mx ("abcdefghijklmnopqrstuvwxyz":Str).cps.toList i=some (Z5 i):=by
 have hl:("abcdefghijklmnopqrstuvwxyz":Str).cps.toList.length=26:=by decide+kernel
 obtain⟨v,hv,hv2⟩:=kx (xs:=("abcdefghijklmnopqrstuvwxyz":Str).cps.toList) h0 (by rw[hl];exact h1)
 rw[hv]
 unfold Z5
 rw[List.getD_eq_getElem?_getD,hv2];rfl
theorem sI:∀i j:Nat,i<26→j<26→Z5 i=Z5 j→i=j:=by
 have h:∀i,i<26→∀j,j<26→Z5 (i:Nat)=Z5 (j:Nat)→i=j:=by decide+kernel
 exact fun i j hi hj=>h i hi j hj
theorem wb {x y:Str}{c d:Nat}(h:x++(⟨#[c]⟩:Str)++y=x++(⟨#[d]⟩:Str)++y):c=d:=by
 have h':(x.cps++ #[c]++y.cps)=(x.cps++ #[d]++y.cps):=congrArg Str.cps h
 have h2:=congrArg Array.toList h'
 simpa using h2
theorem hJ {f:Nat→Str}:∀{n:Nat},(∀i j,i<n→j<n→f i=f j→i=j)→((List.range n).map f).Nodup
 |0,_=>List.nodup_nil
 |n+1,h=>by
  rw[List.range_succ,List.map_append]
  refine gc (hJ fun i j hi hj=>h i j (by omega) (by omega)) fun m=>?_
  obtain⟨i,hi,e⟩:=List.mem_map.mp m
  have hi':=List.mem_range.mp hi
  have z:=h i n (by omega) (by omega) e
  omega
def oh (c:Int)(k:Nat):Str:=Txt.mul ⟨#[Z5 (c/4 % 26)]⟩ (0+(k:Int)+1)
def iA (b:Str)(at_ c:Int)(k:Nat):Str:=Txt.slice b none (some at_)++(⟨#[Z5 ((0+(k:Int)+c/4) % 26)]⟩:Str)++Txt.slice b (some at_) none
theorem ib (c:Int)(k:Nat):(oh c k).length=k+1:=by
 unfold oh Txt.mul
 rw[if_neg (by omega)]
 split
 ·next h=>
  have hl:(⟨#[Z5 (c/4 % 26)]⟩:Str).length=1:=rfl
  have h':(k:Int)+1=1:=by simpa [hl] using h
  show 1=k+1
  omega
 ·show((List.replicate (0+(k:Int)+1).toNat (#[Z5 (c/4 % 26)]:Array Nat)).foldl (·++·) #[]).size=k+1
  rw[eo]
  simp
theorem vx (c:Int)(n:Nat):((List.range n).map (oh c)).Nodup:=hJ fun i j _ _ e=>by
 have z:=congrArg Str.length e
 rw[ib,ib] at z;omega
theorem pH (b:Str)(at_ c:Int)(n:Nat)(hn:n≤26):((List.range n).map (iA b at_ c)).Nodup:=hJ fun i j hi hj e=>by
 have z:=wb e
 have e1:(0+(i:Int)+c/4) % 26=(((0+(i:Int)+c/4) % 26).toNat:Int):=by omega
 have e2:(0+(j:Int)+c/4) % 26=(((0+(j:Int)+c/4) % 26).toNat:Int):=by omega
 rw[e1,e2] at z
 have z2:=sI _ _ (by omega) (by omega) z
 omega
theorem U6:("abcdefghijklmnopqrstuvwxyz":Str).length≤sizeLine:=by decide+kernel
theorem gN (ss:List Str):(ss.map V.str).all E8=true:=by
 rw[List.all_map,List.all_eq_true];intro _ _;rfl
theorem af {K:PySem.W.Frag}{H:Hp}{d:Addr}{k1 k2 kv:_}{x:Str×M7}(h:H d=some (.dK k1))(t:TieAt K H kv x):TieAt K (A5 H d (.dK k2)) kv x:=by
 obtain⟨e,a,ea,s⟩:=t
 refine⟨e,a,ea,?_⟩
 rcases s with s|s
 ·refine .inl ?_
  by_cases z:a=d
  ·subst z
   rcases s with s|⟨_,s⟩<;>(rw[h] at s;cases s)
  ·unfold Rd
   rw[d6 z];exact s
 ·exact .inr s
theorem T9 {H H1:Hp}{d:Addr}{o:HO}(s:Same H H1)(h:H d=none):Same H (A5 H1 d o):=fun b u e=>by
 rw[d6 (i6 e h)];exact s _ _ e
theorem W3 {ss:List Str}{i:Int}(h0:0≤i)(h1:i<ss.length):∃x,mx (ss.map V.str) i=some (.str x)∧x∈ss:=by
 obtain⟨v,hv,hv2⟩:=kx (xs:=ss.map V.str) h0 (by rw[List.length_map];exact h1)
 rw[List.getElem?_map] at hv2
 obtain⟨x,hx,e⟩:=Option.map_eq_some_iff.mp hv2
 exact⟨x,by rw[hv,e],List.mem_of_getElem? hx⟩
theorem G6 {α:Type}(l:List (Str×α)):(l.map (·.1)).map (Sum.inr:Str→j6)=l.map fun x=>Sum.inr x.1:=by rw[List.map_map];rfl
theorem ao {l:List Str}{n:Str}(h:(Sum.inr n:j6)∈l.map (Sum.inr:Str→j6)):n∈l:=by
 obtain⟨x,hx,e⟩:=List.mem_map.mp h
 rw[←Sum.inr.inj e];exact hx
theorem M6 {kvs:List (j6×V)}{k:j6}(h:k∉kvs.map (·.1)):D0 kvs k=none:=by
 cases e:D0 kvs k with
 |none=>rfl
 |some v=>exact absurd (oQ e) h
theorem sZ {a:List (Str×Str)}{b:List (Str×M7)}{n:Str}{t:M7}(h:(a.map (·.1)++b.map (·.1)).Nodup)(f:n∉a.map (·.1)++b.map (·.1)):(a.map (·.1)++(b++[(n,t)]).map (·.1)).Nodup:=by
 rw[List.map_append,←List.append_assoc];exact gc h f
theorem mZ {a:List (Str×Str)}{b:List (Str×M7)}{n s:Str}(h:(a.map (·.1)++b.map (·.1)).Nodup)(f:n∉a.map (·.1)++b.map (·.1)):((a++[(n,s)]).map (·.1)++b.map (·.1)).Nodup:=by
 have z:=gc h f
 refine(List.Perm.nodup_iff ?_).mpr z
 rw[List.map_append,List.append_assoc,List.append_assoc]
 exact List.Perm.append_left _ List.perm_append_comm
theorem wZ {a:List (Str×Str)}{b:List (Str×M7)}{n:Str}{t:M7}{l:List Str}(h:∀x∈a.map (·.1)++b.map (·.1),x∈l)(f:n∈l):∀x∈a.map (·.1)++(b++[(n,t)]).map (·.1),x∈l:=by
 intro x hx
 rw[List.map_append,←List.append_assoc] at hx
 rcases List.mem_append.mp hx with h'|h'
 ·exact h x h'
 ·have:x=n:=by simpa using h'
  rw[this];exact f
theorem pW {a:List (Str×Str)}{b:List (Str×M7)}{n s:Str}{l:List Str}(h:∀x∈a.map (·.1)++b.map (·.1),x∈l)(f:n∈l):∀x∈(a++[(n,s)]).map (·.1)++b.map (·.1),x∈l:=by
 intro x hx
 rw[List.map_append,List.append_assoc] at hx
 rcases List.mem_append.mp hx with h'|h'
 ·exact h x (List.mem_append_left _ h')
 ·rcases List.mem_append.mp h' with h2|h2
  ·have:x=n:=by simpa using h2
   rw[this];exact f
  ·exact h x (List.mem_append_right _ h2)
theorem A6 {α β:Type}{F:α→β→Prop}:∀{l:List α} {m:List β} {a:α} {b:β},Paired F l m→F a b→Paired F (l++[a]) (m++[b])
 |_,_,_,_,.nil,h=> .cons h .nil
 |_,_,_,_,.cons r t,h=> .cons r (A6 t h)
theorem wm (xs:List V)(n:Nat):V9 xs (some 0) (some (n:Int))=xs.take n:=by
 unfold V9
 have e1:HT.sIx xs.length 0 (some ((0:Nat):Int))=min 0 xs.length:=HT.sIx_nat _ _ _
 have e2:HT.sIx xs.length xs.length (some (n:Int))=min n xs.length:=HT.sIx_nat _ _ _
 rw[show(some (0:Int))=some ((0:Nat):Int) from rfl,e1,e2,Nat.zero_min,List.drop_zero,Nat.sub_zero]
 exact List.take_eq_take_min.symm
theorem ak:∀{kvs:List (j6×V)} {kv:j6×V},(kvs.map (·.1)).Nodup→kv∈kvs→D0 kvs kv.1=some kv.2
 |p::r,kv,nd,h=>by
  have nd':=List.nodup_cons.mp (show(p.1::r.map (·.1)).Nodup from nd)
  rcases List.mem_cons.mp h with z|z
  ·rw[z];exact aQ rfl
  ·rw[aU fun e=>nd'.1 (by rw[e];exact List.mem_map.mpr ⟨kv,z,rfl⟩)]
   exact ak nd'.2 z
theorem zS {kvs:List (j6×V)}{ss:List Str}(hk:kvs.map (·.1)=ss.map Sum.inr)(nd:(kvs.map (·.1)).Nodup):kvs=ss.map fun s=>(Sum.inr s,(D0 kvs (Sum.inr s:j6)).getD .non):=by
 have h1:kvs=kvs.map fun kv=>(kv.1,(D0 kvs kv.1).getD .non):=by
  have:∀kv∈kvs,kv=(kv.1,(D0 kvs kv.1).getD .non):=fun kv h=>by rw[ak nd h];rfl
  exact(List.map_id' kvs).symm.trans (List.map_congr_left this)
 have h2:(kvs.map fun kv=>(kv.1,(D0 kvs kv.1).getD V.non))=(kvs.map (·.1)).map fun k=>(k,(D0 kvs k).getD .non):=by rw[List.map_map];rfl
 rw[hk,List.map_map] at h2
 exact h1.trans h2
theorem mi:∀{r a:List (j6×V)},((a++r).map (·.1)).Nodup→r.foldl (fun a x=>N0 a x.1 x.2) a=a++r
 |[],a,_=>by simp
 |p::r,a,nd=>by
  rw[List.foldl_cons]
  have nd':((a++[p]++r).map (·.1)).Nodup:=by rw[List.append_assoc];exact nd
  have hf:p.1∉a.map (·.1):=fun m=>by
   rw[List.map_append] at nd
   exact(List.nodup_append.mp nd).2.2 p.1 m p.1 (by simp) rfl
  rw[W7 p.2 (M6 hf),mi (r:=r) (a:=a++[(p.1,p.2)]) nd',List.append_assoc];rfl
theorem ig {kvs:List (j6×V)}(nd:(kvs.map (·.1)).Nodup):cm kvs=kvs:=by
 unfold cm
 rw[mi (by simpa using nd)];rfl
theorem PrV.mono {K:PySem.W.Frag}{H H':Hp}{x:V}{kv:j6×V}(l:Le H H')(h:PrV K H x kv):PrV K H' x kv:=let ⟨t,e,s⟩:=h;⟨t,e,l.tup s⟩
theorem aq {α β:Type}{F:α→β→Prop}{l2 m:List α}(h:l2.Perm m):∀{r:List β},Paired F m r→∃r',Paired F l2 r'∧r'.Perm r:=by
 induction h with
 |nil=>intro r p;cases p;exact⟨[],.nil,.nil⟩
 |cons x _ ih=>
  intro r p
  cases p with
  |cons a b=>
   obtain⟨r',h1,h2⟩:=ih b
   exact⟨_::r',.cons a h1,h2.cons _⟩
 |swap x y l=>
  intro r p
  cases p with
  |cons a b=>
   cases b with
   |cons c d=>exact⟨_::_::_,.cons c (.cons a d),.swap _ _ _⟩
 |trans _ _ ih1 ih2=>
  intro r p
  obtain⟨r',h1,h2⟩:=ih2 p
  obtain⟨r'',h3,h4⟩:=ih1 h1
  exact⟨r'',h3,h4.trans h2⟩
theorem ia:∀pts:List (Str×Str),Paired (fun(kv:j6×V) (x:Str×Str)=>kv=(Sum.inr x.1,.str x.2)) (J6 pts) pts
 |[]=> .nil
 |x::r=> .cons rfl (ia r)
theorem gP:∀{kvs:List (j6×V)} {pts:List (Str×Str)},Paired (fun(kv:j6×V) (x:Str×Str)=>kv=(Sum.inr x.1,.str x.2)) kvs pts→kvs=J6 pts
 |_,_,.nil=>rfl
 |_,_,.cons e t=>by rw[e,gP t];rfl
theorem uh {kvs:List (j6×V)}{pts:List (Str×Str)}(h:kvs.Perm (J6 pts)):∃pts',kvs=J6 pts'∧pts'.Perm pts:=by
 obtain⟨r,h1,h2⟩:=aq h (ia pts)
 exact⟨r,gP h1,h2⟩
theorem D7 (pts:List (Str×Str)):(J6 pts).length=pts.length:=by unfold J6;rw[List.length_map]
theorem dR {pts:List (Str×Str)}{i:Nat}{kv:j6×V}(h:(J6 pts)[i]?=some kv):∃x,pts[i]?=some x∧kv=(Sum.inr x.1,.str x.2):=by
 unfold J6 at h
 rw[List.getElem?_map] at h
 obtain⟨x,hx,e⟩:=Option.map_eq_some_iff.mp h
 exact⟨x,hx,e.symm⟩
theorem dJ {D d:Addr}{kvs:List (j6×V)}{o:Obj}{u:HO}{H H1:Hp}(h:H d=some (.dK kvs))(s:Same (K1 d o kvs H) H1)(hD:H1 D=none):Same H (thaw d (A5 H1 D u)):=
 Same.thaw h fun b v z=>by rw[d6 (i6 (s _ _ z) hD)];exact s _ _ z
theorem kD {D d:Addr}{kvs:List (j6×V)}{o:Obj}{u:HO}{H H1:Hp}(s:Same (K1 d o kvs H) H1)(hD:H1 D=none):(thaw d (A5 H1 D u)) D=some u:=by
 have hDq:D≠d:=fun z=>by rw[z,s _ _ g7] at hD;cases hD
 rw[X4 hDq,g7]
theorem pz {pts:List (Str×Str)}(h:(pts.map (·.1)).Nodup):((J6 pts).map (·.1)).Nodup:=by
 rw[R9,←G6]
 refine List.Pairwise.map _ ?_ h
 exact fun a b h z=>h (Sum.inr.inj z)
theorem B0 {α:Type}:∀{l:List (Str×α)} {n:Str} {x y:α},(l.map (·.1)).Nodup→(n,x)∈l→(n,y)∈l→x=y
 |p::r,n,x,y,nd,hx,hy=>by
  have nd':=List.nodup_cons.mp (show(p.1::r.map (·.1)).Nodup from nd)
  rcases List.mem_cons.mp hx with zx|zx
  ·rcases List.mem_cons.mp hy with zy|zy
   ·have:=zx.trans zy.symm
    exact(Prod.mk.inj this).2
   ·exact absurd (List.mem_map.mpr ⟨(n,y),zy,by rw[←zx]⟩) nd'.1
  ·rcases List.mem_cons.mp hy with zy|zy
   ·exact absurd (List.mem_map.mpr ⟨(n,x),zx,by rw[←zy]⟩) nd'.1
   ·exact B0 nd'.2 zx zy
theorem gh {K:PySem.W.Frag}{H:Hp}{kvs:List (j6×V)}{ts:List (Str×M7)}{n:Str}{t:M7}(w:TiesIs K H kvs ts)(nd:(ts.map (·.1)).Nodup)(h:(n,t)∈ts):∃a,D0 kvs (Sum.inr n:j6)=some (.ref a)∧SqT K H a (bX t):=by
 obtain⟨a,x,h1,h2,h3⟩:=TiesIs.val (ts:=ts) w (List.mem_map.mpr ⟨(n,t),h,rfl⟩)
 rw[B0 nd h h2];exact⟨a,h1,h3⟩
theorem T2 {pts:List (Str×Str)}{n k:Str}(nd:(pts.map (·.1)).Nodup)(h:(n,k)∈pts):D0 (J6 pts) (Sum.inr n:j6)=some (.str k):=
 ak (kv:=(Sum.inr n,.str k)) (pz nd) (List.mem_map.mpr ⟨(n,k),h,rfl⟩)
theorem vR {K:PySem.W.Frag}{H:Hp}{kvs:List (j6×V)}{ts:List (Str×M7)}(w:TiesIs K H kvs ts)(h:(ts.map (·.1)).Nodup):(kvs.map (·.1)).Nodup:=by
 rw[w.keys,←G6]
 refine List.Pairwise.map _ ?_ h
 exact fun a b h z=>h (Sum.inr.inj z)
theorem mf {K:PySem.W.Frag}{H:Hp}{d:Addr}{k1 k2:List (j6×V)}{kvs:List (j6×V)}{ts:List (Str×M7)}(h:H d=some (.dK k1))(w:TiesIs K H kvs ts):TiesIs K (A5 H d (.dK k2)) kvs ts:=Paired.imp' (fun _ _ z=>af h z) w
theorem M4 {pts:List (Str×Str)}{n:Str}:(D0 (J6 pts) (Sum.inr n:j6)).isSome=decide (n∈pts.map (·.1)):=by
 rw[←cF,Bool.eq_iff_iff,List.any_eq_true,decide_eq_true_eq]
 constructor
 ·rintro⟨kv,hkv,e⟩
  obtain⟨x,hx,rfl⟩:=List.mem_map.mp hkv
  exact List.mem_map.mpr ⟨x,hx,Sum.inr.inj (of_decide_eq_true e)⟩
 ·intro m
  obtain⟨x,hx,rfl⟩:=List.mem_map.mp m
  exact⟨_,List.mem_map.mpr ⟨x,hx,rfl⟩,decide_eq_true rfl⟩
theorem U7 {K:PySem.W.Frag}{H:Hp}{kvs:List (j6×V)}{ts:List (Str×M7)}{n:Str}(w:TiesIs K H kvs ts):(D0 kvs (Sum.inr n:j6)).isSome=decide (n∈ts.map (·.1)):=by
 by_cases hn:n∈ts.map (·.1)
 ·obtain⟨a,x,h1,_⟩:=TiesIs.val (ts:=ts) w hn
  rw[h1,decide_eq_true hn];rfl
 ·cases e:D0 kvs (Sum.inr n:j6) with
  |none=>simp [hn]
  |some v=>
   have z:=oQ e
   rw[w.keys,←G6] at z
   exact absurd (ao z) hn
theorem mW {K:PySem.W.Frag}{H:Hp}{kb:List (j6×V)}:∀{ka:List (j6×V)},(∀kv∈ka,∃y,D0 kb kv.1=some y∧Eq1 K H kv.2 y true)→EqH K H kb ka true
 |[],_=> .nil
 |kv::r,h=>by
  obtain⟨y,h1,h2⟩:=h kv List.mem_cons_self
  exact EqH.hit (e:=true) (b:=true) h1 h2 (mW fun x hx=>h x (List.mem_cons_of_mem _ hx))
theorem vy {K:PySem.W.Frag}{H:Hp}(s:Str):Eq1 K H (.str s) (.str s) true:=by
 have z:=Eq1.flat (K:=K) (H:=H) (x:= .str s) (y:= .str s) rfl rfl
 rw[lH rfl] at z;exact z
theorem uK {K:PySem.W.Frag}{H:Hp}{a b:Addr}{t:M7}(h:SqT K H a (bX t))(h':SqT K H b (bX t)):Eq1 K H (.ref a) (.ref b) true:=by
 have z:=Eq1.tup h h' rfl rfl
 rw[fc rfl] at z;exact z
theorem pQ {K:PySem.W.Frag}{H:Hp}{p p':Addr}{pts pts':List (Str×Str)}(hne:p≠p')(h1:Rd H p (.dK (J6 pts)))(h2:Rd H p' (.dK (J6 pts')))(pm:pts.Perm pts')(nd:(pts'.map (·.1)).Nodup):EqD K H p p' true:=
 .inr ⟨hne,_,_,true,h1,h2,mW fun kv hkv=>by
  obtain⟨x,hx,rfl⟩:=List.mem_map.mp hkv
  exact⟨_,T2 nd (pm.mem_iff.mp hx),vy _⟩,by rw[D7,D7,pm.length_eq];simp⟩
theorem mw {K:PySem.W.Frag}{H:Hp}{q q':Addr}{kvs kvs':List (j6×V)}{ts ts':List (Str×M7)}(hne:q≠q')(h1:Rd H q (.dK kvs))(h2:Rd H q' (.dK kvs'))(w:TiesIs K H kvs ts)(w':TiesIs K H kvs' ts')(pm:ts.Perm ts')(nd:(ts'.map (·.1)).Nodup):EqD K H q q' true:=
 .inr ⟨hne,_,_,true,h1,h2,mW fun kv hkv=>by
  obtain⟨i,hi⟩:=List.getElem?_of_mem hkv
  obtain⟨x,hx,ex,b,eb,sb⟩:=w.get hi
  obtain⟨c,e1,e2⟩:=gh w' nd (pm.mem_iff.mp (List.mem_of_getElem? hx))
  refine⟨.ref c,by rw[ex];exact e1,?_⟩
  rw[eb];exact uK sb e2,by rw[w.length,w'.length,pm.length_eq];simp⟩
theorem pj:∀{kvs:List (j6×V)} {k:j6} {v:V},D0 kvs k=some v→(k,v)∈kvs
 |p::r,k,v,h=>by
  by_cases e:p.1=k
  ·rw[aQ e] at h
   rw[←e,←Option.some.inj h];exact List.mem_cons_self
  ·rw[aU e] at h
   exact List.mem_cons_of_mem _ (pj h)
theorem dM (a b:M7):Z6 (bX a) (bX b)=decide (a=b):=by
 obtain⟨a1,a2,a3⟩:=a
 obtain⟨b1,b2,b3⟩:=b
 show(a1==b1&&(a2==b2&&(a3==b3&&true)))=_
 rw[Bool.eq_iff_iff]
 simp
theorem W4 (a:M7):(bX a).all E8=true:=rfl
theorem dZ {pts:List (Str×Str)}{n:Str}{v:V}(h:D0 (J6 pts) (Sum.inr n:j6)=some v):∃k,v= .str k∧(n,k)∈pts:=by
 obtain⟨x,hx,e⟩:=List.mem_map.mp (pj h)
 obtain⟨x1,x2⟩:=x
 have e1:=(Prod.mk.inj e).1
 have e2:=(Prod.mk.inj e).2
 exact⟨x2,e2.symm,by rw[←Sum.inr.inj e1];exact hx⟩
theorem xW {H:Hp}{Q:VK}{pts:List (Str×Str)}{m k:Str}(nd:(pts.map (·.1)).Nodup)(q:Q (.bl (decide ((m,k)∈pts))) H):cE K ((D0 (J6 pts) (Sum.inr m:j6)).getD .non) (.str k) H Q:=by
 cases e:D0 (J6 pts) (Sum.inr m:j6) with
 |none=>
  refine iH (ju ?_)
  rw[decide_eq_false (fun z=>by rw[T2 nd z] at e;cases e)] at q;exact q
 |some v=>
  obtain⟨k2,rfl,hk⟩:=dZ e
  refine ma ?_
  have:decide (k2=k)=decide ((m,k)∈pts):=by
   rw[Bool.eq_iff_iff,decide_eq_true_eq,decide_eq_true_eq]
   exact⟨fun z=>z▸hk,fun z=>B0 nd hk z⟩
  rw[this];exact q
theorem rM {H:Hp}{Q:VK}{kvs:List (j6×V)}{ts:List (Str×M7)}{m:Str}{y:M7}{l:Addr}(w:TiesIs K H kvs ts)(nd:(ts.map (·.1)).Nodup)(hl:SqT K H l (bX y))(q:Q (.bl (decide ((m,y)∈ts))) H):cE K ((D0 kvs (Sum.inr m:j6)).getD .non) (.ref l) H Q:=by
 by_cases hm:m∈ts.map (·.1)
 ·obtain⟨a,x,h1,h2,h3⟩:=TiesIs.val (ts:=ts) w hm
  rw[h1]
  refine iH (uk h3 hl (W4 _) (W4 _) ?_)
  rw[dM]
  have:decide (x=y)=decide ((m,y)∈ts):=by
   rw[Bool.eq_iff_iff,decide_eq_true_eq,decide_eq_true_eq]
   exact⟨fun z=>z▸h2,fun z=>B0 nd h2 z⟩
  rw[this];exact q
 ·have e:D0 kvs (Sum.inr m:j6)=none:=by
   have z:=U7 (n:=m) w
   rw[decide_eq_false hm] at z
   cases e:D0 kvs (Sum.inr m:j6) with
   |none=>rfl
   |some v=>rw[e] at z;cases z
  rw[e]
  refine iH (jt hl ?_)
  rw[decide_eq_false (fun z=>hm (List.mem_map.mpr ⟨_,z,rfl⟩))] at q;exact q
theorem oD {W:G8}(h:(A8 W).Nodup):(W.pts.map (·.1)).Nodup:=(List.nodup_append.mp h).1
theorem uz {W:G8}(h:(A8 W).Nodup):(W.ts.map (·.1)).Nodup:=(List.nodup_append.mp h).2.1
theorem yO {t:String}(h:t≠"str"):Y8 t "str"=false:=by
 unfold Y8
 have e1:(t=="str")=false:=by simpa using h
 rw[e1]
 simp
theorem iU {f:Addr}{fd:FuncData}(T:Txt K mg)(F:Fun K "is_text_of" "is_text_of" N2 f fd):E3 P w K mg base B4 1 f fd ["thing","signs","most"] (V8 K):=by
 refine F.ok sc_is_text_of (fun vs H Q E h=>?_) (fun cdv A outer s H vs Q E hr h=>?_)
 ·obtain⟨v,signs,most,rfl,_⟩:=h
  rfl
 ·obtain⟨v,signs,most,rfl,h⟩:=h
  have hN:=sc_is_text_of.nd
  have hu:=C0 hr
  refine⟨_,QSs.r (A0 (S2 (fV (Q0 (E6 (D2 K (qB (bO K P w) T.b_isinstance Boot.«isinstance» (d9 (qV 0) (d9 (qr "str" T.b_str Boot.«str») i8))))) (Q0 (r6 jQ (qB (E4 K P w) T.b_len Boot.«len» (d9 (qV 0) i8)) b5 (j9 _)) (M5 (r6 ai (qB (E4 K P w) T.b_len Boot.«len» (d9 (qV 0) i8)) (qV 2) (j9 _)))))) (B9 (x5 eG)) T8)
   (B9 (x5 (qB (iG K rfl) T.b_all Boot.«all» (d9 (O7 (own:=["sign"]) (js:=[1]) (by kernel_rfl) rfl (U2 K (qV 0)) (fun _ _ _ _=>(T6 (i:=0) (show List.Nodup (["sign","signs"]:List Str) by decide+kernel) rfl (by walk_at "l"))) (fun _ _ _ _=>X3) (fun _ _ _ _=>(ke (kIn K hu) (qV 0) (qV 1) (by rfl)))) i8))))),?_⟩
  rcases h with⟨x,rfl,hx,k⟩|⟨⟨t,ty,ht⟩,k⟩
  ·walk_at "r"
   refine U0 (U1 (t:="str") rfl (by simp) ?_)
   walk_at "r"
   rw[if_neg (by decide)]
   walk_at "r"
   refine E5 (Q6 (K0 hx) ?_)
   walk_at "r"
   refine P5 (fun h1=>?_) (fun h1=>?_)
   ·walk_at "r"
    have e:J0 x signs most=false:=by
     unfold J0
     rw[decide_eq_false (by omega)];rfl
    rw[←e];exact k H (Same.refl H)
   ·walk_at "r"
    refine E5 (Q6 (K0 hx) ?_)
    walk_at "r"
    refine P5 (fun h2=>?_) (fun h2=>?_)
    ·walk_at "r"
     have e:J0 x signs most=false:=by
      unfold J0
      rw[decide_eq_false (show ¬((x.length:Int)≤most) by omega)];simp
     rw[←e];exact k H (Same.refl H)
    ·walk_at "r"
     refine B7 (n:=x.cps.size) (fun i out H'=>H'=H∧out=(x.cps.toList.take i).map fun c=>V.bl (decide (c∈signs.cps.toList))) ⟨rfl,rfl⟩ (fun i out H' hi _=>by exact hi) ?_ ?_
     ·rintro N i v out H1 H2 hi ⟨rfl,rfl⟩ y hN
      obtain⟨rfl,c,hc,rfl⟩:=Its.lt y
      walk_at "r"
      refine⟨rfl,?_⟩
      walk_at "r"
      refine⟨K0 (by rw[List.length_map,List.length_take,←jL];omega),hN _ _ ⟨rfl,?_⟩⟩
      exact cY (fun c=>V.bl (decide (c∈signs.cps.toList))) hc
     ·rintro out H1 ⟨rfl,rfl⟩
      refine⟨Nat.le_refl _,fun D hD=>⟨K0 (by rw[List.length_map,List.length_take,←jL];omega),?_⟩⟩
      walk_at "r"
      refine cZ (bs:=x.cps.toList.map fun c=>decide (c∈signs.cps.toList)) (SqL.of ?_) ?_
      ·show A5 H1 D _ D=_
       rw[g7,List.take_of_length_le (by simp),List.map_map];rfl
      ·have e:J0 x signs most=(x.cps.toList.map fun c=>decide (c∈signs.cps.toList)).all id:=by
        unfold J0 J5
        rw[decide_eq_true (show 1≤(x.length:Int) by omega),decide_eq_true (show(x.length:Int)≤most by omega),List.all_map];rfl
       rw[←e]
       exact k _ fun b o q=>by
        show A5 H1 D _ b=_
        rw[d6 (i6 q hD)];exact q
  ·walk_at "r"
   refine U0 (U1 ty (by simp) ?_)
   rw[yO ht]
   walk_at "r"
   exact k H (Same.refl H)
theorem lh {x:Str}(h:1≤(x.length:Int)):mx x.cps.toList 0=some (x.cps.toList.headD 0):=by
 refine b9 (j:=0) ?_
 have hl:=jL x
 cases e:x.cps.toList with
 |nil=>rw[e] at hl;simp at hl;omega
 |cons c r=>rfl
theorem nK {f:Addr}{fd:FuncData}(T:Txt K mg)(O1:E2 P w K mg base B4 1 "is_text_of" ["thing","signs","most"] [] (V8 K))(F:Fun K "is_name" "is_name" Y1 f fd):E3 P w K mg base B4 2 f fd ["thing"] (bA K):=by
 refine F.ok sc_is_name (fun vs H Q E h=>?_) (fun cdv A outer s H vs Q E hr h=>?_)
 ·obtain⟨v,rfl,_⟩:=h
  rfl
 ·obtain⟨v,rfl,h⟩:=h
  have hN:=sc_is_name.nd
  have hu:=C0 hr
  refine⟨_,QSs.r (B9 (x5 (mY (qC O1 (hr.mono (by decide)) j0 (d9 (qV 0) (d9 (qg T.c_NAME_SIGNS) (d9 (qg T.c_MOST_NAME_SIGNS) i8)))) (qz (ke (kIn K hu) (C9 (C8 K hu) (qV 0) b5 (fun _ _=>rfl)) (qg T.c_SMALL_LETTERS) (by rfl)))))),?_⟩
  walk_at "r"
  refine⟨v,_,_,rfl,?_⟩
  rcases h with⟨x,rfl,hx,k⟩|⟨no,k⟩
  ·refine .inl ⟨x,rfl,hx,fun H' sm=>?_⟩
   walk_at "r"
   refine jW (fun e=>?_) (fun e=>?_)
   ·walk_at "r"
    have h1:1≤(x.length:Int):=by
     unfold J0 at e
     simp only[Bool.and_eq_true,decide_eq_true_eq] at e
     exact e.1.1
    refine M3 (K0 hx) (lh h1) ?_
    walk_at "r"
    have e2:x8 x=lQ x kSL:=by
     unfold x8
     rw[show J0 x kNS 24=true from e,Bool.true_and]
    have q:=k H' sm
    rw[e2] at q
    exact q
   ·have e2:x8 x=false:=by
     unfold x8
     rw[show J0 x kNS 24=false from e,Bool.false_and]
    have q:=k H' sm
    rw[e2] at q
    exact q
  ·refine .inr ⟨no,fun H' sm=>?_⟩
   walk_at "r"
   exact k H' sm
theorem oA {f:Addr}{fd:FuncData}(T:Txt K mg)(O1:E2 P w K mg base B4 1 "is_text_of" ["thing","signs","most"] [] (V8 K))(F:Fun K "is_kind" "is_kind" X7 f fd):E3 P w K mg base B4 2 f fd ["thing"] (Y5 K):=by
 refine F.ok sc_is_kind (fun vs H Q E h=>?_) (fun cdv A outer s H vs Q E hr h=>?_)
 ·obtain⟨v,rfl,_⟩:=h
  rfl
 ·obtain⟨v,rfl,h⟩:=h
  have hN:=sc_is_kind.nd
  have hu:=C0 hr
  refine⟨_,QSs.r (B9 (x5 (qC O1 (hr.mono (by decide)) j0 (d9 (qV 0) (d9 (qg T.c_SMALL_LETTERS) (d9 (qg T.c_MOST_KIND_SIGNS) i8)))))),?_⟩
  walk_at "r"
  exact⟨v,_,_,rfl,h⟩
structure Ordr (W:G8) (s1 s2:List Str):Prop where
 p1:s1.Perm (W.pts.map (·.1))
 p2:s2.Perm (W.ts.map (·.1))
 o1:sortedS s1=true
 o2:sortedS s2=true
theorem Ordr.mem {W:G8}{s1 s2:List Str}(h:Ordr W s1 s2){n:Str}:n∈s1++s2↔n∈A8 W:=by
 unfold A8
 rw[List.mem_append,List.mem_append,h.p1.mem_iff,h.p2.mem_iff]
theorem Ordr.perm {W:G8}{s1 s2:List Str}(h:Ordr W s1 s2):(s1++s2).Perm (A8 W):=h.p1.append h.p2
theorem Ordr.len {W:G8}{s1 s2:List Str}(h:Ordr W s1 s2):(s1++s2).length=(A8 W).length:=h.perm.length_eq
def cQ (K:PySem.W.Frag):Sp:=fun vs H Q _=>∃(a p q:Addr) (kvs:List (j6×V)) (W:G8),vs=[.ref a]∧WebAt K H a p q kvs W∧(A8 W).length≤60∧∀(l:Addr) (H':Hp) (s1 s2:List Str),H l=none→Same H H'→H' l=some (.lst ((s1++s2).map V.str))→Ordr W s1 s2→Q (.ref l) H'
theorem br (W:G8):(A8 W).length=W.pts.length+W.ts.length:=by unfold A8;rw[List.length_append,List.length_map,List.length_map]
theorem rh {f:Addr}{fd:FuncData}(T:Txt K mg)(F:Fun K "things" "things" aY f fd):E3 P w K mg base B4 1 f fd ["web"] (cQ K):=by
 refine F.ok sc_things (fun vs H Q E h=>?_) (fun cdv A outer s H vs Q E hr h=>?_)
 ·obtain⟨a,p,q,kvs,W,rfl,_⟩:=h
  rfl
 ·obtain⟨a,p,q,kvs,W,rfl,hW,h1,k⟩:=h
  rw[br] at h1
  have hN:=sc_things.nd
  have hu:=C0 hr
  refine⟨_,QSs.r (B9 (x5 (p0 (t7 K) (qB (ef K rfl) T.b_sorted Boot.«sorted» (d9 (C9 (C8 K hu) (qV 0) b5 (fun _ _=>rfl)) i8)) (qB (ef K rfl) T.b_sorted Boot.«sorted» (d9 (C9 (C8 K hu) (qV 0) b5 (fun _ _=>rfl)) i8))))),?_⟩
  walk_at "r"
  refine d4 hW.tup (b9 (j:=0) rfl) ?_
  walk_at "r"
  refine S8 (ss:=W.pts.map (·.1)) hW.pts (by rw[R9,G6]) (by rw[List.length_map];omega) (fun s1 a1 a2 l1 n1=>?_)
  obtain⟨H1,e1,f1,m1,_⟩:=b6 (o:= .lst _) n1
  rw[e1]
  have W1:=hW.mono m1.le
  walk_at "r"
  refine d4 W1.tup (b9 (j:=1) rfl) ?_
  walk_at "r"
  refine S8 (ss:=W.ts.map (·.1)) W1.ties (by rw[W1.ts.keys,G6]) (by rw[List.length_map];omega) (fun s2 b1 b2 l2 n2=>?_)
  obtain⟨H2,e2,f2,m2,_⟩:=b6 (o:= .lst _) n2
  rw[e2]
  have g1:=a1.length_eq
  have g2:=b1.length_eq
  rw[List.length_map] at g1 g2
  refine ip (m2 _ _ f1) f2 (d7 (by rw[List.length_map,List.length_map];omega)) (fun l3 n3=>?_)
  obtain⟨H3,e3,f3,m3,_⟩:=b6 (o:= .lst _) n3
  rw[e3]
  refine k l3 H3 s1 s2 (m1.free (m2.free n3)) (m1.trans (m2.trans m3)) ?_ ⟨a1,b1,a2,b2⟩
  rw[f3,List.map_append]
def cG (K:PySem.W.Frag):Sp:=fun vs H Q _=>∃(d:Addr) (kvs:List (j6×V)) (ss:List Str),vs=[.ref d]∧Rd H d (.dK kvs)∧kvs.map (·.1)=ss.map Sum.inr∧ss.Nodup∧ss.length≤60∧∀(l:Addr) (H':Hp) (kvs':List (j6×V)),H l=none→Same H H'→H' l=some (.dK kvs')→kvs'.Perm kvs→Q (.ref l) H'
def NewP (K:PySem.W.Frag)(H:Hp)(Q:VK)(W:G8):Prop:=∀(a p q:Addr) (kvs:List (j6×V)) (W':G8) (H':Hp),Same H H'→WebAt K H' a p q kvs W'→H' p=some (.dK (J6 W'.pts))→H' q=some (.dK kvs)→p≠q→H p=none→H q=none→W'.pts.Perm W.pts→W'.ts.Perm W.ts→Q (.ref a) H'
def eO (K:PySem.W.Frag):Sp:=fun vs H Q _=>∃(a p q:Addr) (kvs:List (j6×V)) (W:G8),vs=[.ref a]∧WebAt K H a p q kvs W∧(W.pts.map (·.1)).Nodup∧(W.ts.map (·.1)).Nodup∧W.pts.length≤60∧W.ts.length≤60∧NewP K H Q W
theorem lz {f:Addr}{fd:FuncData}(T:Txt K mg)(F:Fun K "in_order" "in_order" V4 f fd):E3 P w K mg base B4 1 f fd ["named"] (cG K):=by
 refine F.ok sc_in_order (fun vs H Q E h=>?_) (fun cdv A outer s H vs Q E hr h=>?_)
 ·obtain⟨d,kvs,ss,rfl,_⟩:=h
  rfl
 ·obtain⟨d,kvs,ss,rfl,hd,hk,hnd,hl,k⟩:=h
  have nd:(kvs.map (·.1)).Nodup:=by
   rw[hk]
   refine List.Pairwise.map _ ?_ hnd
   exact fun a b h z=>h (Sum.inr.inj z)
  have hN:=sc_in_order.nd
  have hu:=C0 hr
  refine⟨_,QSs.r (B9 (x5 (qj (mn K rfl) T.b_dict Boot.«dict» (d9 (O7 (own:=["name"]) (js:=[0]) (by kernel_rfl) rfl (U2 K (qB (ef K rfl) T.b_sorted Boot.«sorted» (d9 (qV 0) i8))) (fun _ _ _ _=>(T6 (i:=0) (show List.Nodup (["name","named"]:List Str) by decide+kernel) rfl (by walk_at "l"))) (fun _ _ _ _=>X3) (fun _ _ _ _=>(bR (d9 (qV 0) (d9 (C9 (C8 K hu) (qV 1) (qV 0) (fun _ _=>rfl)) i8))))) i8)))),?_⟩
  walk_at "r"
  refine S8 (ss:=ss) hd hk (by omega) (fun s1 a1 a2 l1 n1=>?_)
  obtain⟨H1,e1,f1,m1,_⟩:=b6 (o:= .lst _) n1
  rw[e1]
  have hd1:=m1.rd hd
  have hl1:=a1.length_eq
  refine C7 (SqL.of f1) ?_
  refine B7 (n:=s1.length) (fun i out H'=>Same H1 H'∧Paired (PrV K H') out ((s1.take i).map fun s=>(Sum.inr s,(D0 kvs (Sum.inr s:j6)).getD .non))) ⟨Same.refl _,.nil⟩ (fun i out H' hi hp=>⟨_,.str (s1[i]),SqL.of (hp.1 _ _ f1),by rw[List.getElem?_map,List.getElem?_eq_getElem hi];rfl⟩) ?_ ?_
  ·rintro N i v out H2 H3 hi ⟨s2,pr⟩ y hN'
   obtain⟨rfl,hx⟩:=Itl.get y (SqL.of (s2 _ _ f1))
   rw[List.getElem?_map] at hx
   obtain⟨x,hx',rfl⟩:=Option.map_eq_some_iff.mp hx
   have hxk:(Sum.inr x:j6)∈kvs.map (·.1):=by
    rw[hk];exact List.mem_map.mpr ⟨x,a1.mem_iff.mp (List.mem_of_getElem? hx'),rfl⟩
   obtain⟨kv,hkv,ekv⟩:=List.mem_map.mp hxk
   have ev:=ak nd hkv
   rw[ekv] at ev
   have e7:s1.take (i+1)=s1.take i++[x]:=by rw[List.take_succ,hx'];rfl
   walk_at "r"
   refine⟨rfl,?_⟩
   walk_at "r"
   refine L6 (v:=kv.2) (by have z':=P6 (k:=Sum.inr x) (s2.rd hd1);rw[ev] at z';exact z') ?_
   walk_at "r"
   refine⟨d7 (by simp),fun t nt=>?_⟩
   obtain⟨H4,e4,f4,m4,_⟩:=b6 (o:= .tup _) nt
   rw[e4]
   have hol:=Paired.length pr
   rw[List.length_map,List.length_take] at hol
   refine⟨d7 (by omega),hN' _ _ ⟨s2.trans m4,?_⟩⟩
   rw[e7,List.map_append]
   refine A6 (Paired.imp' (fun _ _ z=>PrV.mono m4.le z) pr) ⟨t,rfl,?_⟩
   show SqT K _ t [V.str x,(D0 kvs (Sum.inr x:j6)).getD V.non]
   rw[ev]
   exact SqT.of f4
  ·rintro out H2 ⟨s2,pr⟩
   have hol:=Paired.length pr
   rw[List.length_map,List.length_take] at hol
   refine⟨⟨_,SqL.of (s2 _ _ f1),by rw[List.length_map];exact Nat.le_refl _⟩,fun D hD=>⟨d7 (by omega),?_⟩⟩
   obtain⟨H5,e5,f5,m5,_⟩:=b6 (o:= .lst out) hD
   show fS _ (A5 _ D _) _
   rw[e5]
   walk_at "r"
   rw[List.take_of_length_le (Nat.le_refl _)] at pr
   refine dn (SqL.of f5) (Paired.imp' (fun _ _ z=>PrV.mono m5.le z) pr) (d7 (by rw[List.length_map];omega)) (fun l nl=>?_)
   obtain⟨H6,e6,f6,m6,_⟩:=b6 (o:= .dK _) nl
   rw[e6]
   have mA:=m1.trans (s2.trans (m5.trans m6))
   have hperm:(s1.map fun s=>((Sum.inr s:j6),(D0 kvs (Sum.inr s:j6)).getD V.non)).Perm kvs:=by
    refine List.Perm.trans (a1.map _) ?_
    rw[←zS hk nd]
   rw[ig ((hperm.map _).nodup_iff.mpr nd)] at f6
   exact k l H6 _ ((m1.trans (s2.trans m5)).free nl) mA f6 hperm
theorem rl {f:Addr}{fd:FuncData}(T:Txt K mg)(bN:E2 P w K mg base B4 1 "in_order" ["named"] [] (cG K))(F:Fun K "copied" "copied" aO f fd):E3 P w K mg base B4 2 f fd ["web"] (eO K):=by
 refine F.ok sc_copied (fun vs H Q E h=>?_) (fun cdv A outer s H vs Q E hr h=>?_)
 ·obtain⟨a,p,q,kvs,W,rfl,_⟩:=h
  rfl
 ·obtain⟨a,p,q,kvs,W,rfl,hW,d1,d2,l1,l2,k⟩:=h
  have hN:=sc_copied.nd
  have hu:=C0 hr
  refine⟨_,QSs.r (B9 (x5 (bR (d9 (qC bN (hr.mono (by decide)) j0 (d9 (C9 (C8 K hu) (qV 0) b5 (fun _ _=>rfl)) i8)) (d9 (qC bN (hr.mono (by decide)) j0 (d9 (C9 (C8 K hu) (qV 0) b5 (fun _ _=>rfl)) i8)) i8))))),?_⟩
  walk_at "r"
  refine d4 hW.tup (b9 (j:=0) rfl) ?_
  walk_at "r"
  refine⟨p,J6 W.pts,W.pts.map (·.1),rfl,hW.pts,by rw[R9,G6],d1,by rw[List.length_map];exact l1,fun p' H1 kp np' m1 f1 pm1=>?_⟩
  have W1:=hW.mono m1.le
  walk_at "r"
  refine d4 W1.tup (b9 (j:=1) rfl) ?_
  walk_at "r"
  refine⟨q,kvs,W.ts.map (·.1),rfl,W1.ties,by rw[W1.ts.keys,G6],d2,by rw[List.length_map];exact l2,fun q' H2 kq nq' m2 f2 pm2=>?_⟩
  walk_at "r"
  refine⟨d7 (by simp),fun l9 n9=>?_⟩
  obtain⟨H9,e9,f9,m9,_⟩:=b6 (o:= .tup _) n9
  rw[e9]
  obtain⟨pts',rfl,pp⟩:=uh pm1
  have W2:=hW.mono (m1.trans (m2.trans m9)).le
  obtain⟨ts',w',pt⟩:=aq pm2 W2.ts
  have g1:=m9 _ _ (m2 _ _ f1)
  have g2:=m9 _ _ f2
  exact k l9 p' q' kq ⟨pts',ts'⟩ H9 (m1.trans (m2.trans m9)) ⟨SqT.of f9,.inl g1,.inl g2,w'⟩ g1 g2 (i6 f1 nq') np' (m1.free nq') pp pt
def kY (pts:List (Str×Str))(n:Str):Bool:=x8 n&&decide (n∈pts.map (·.1))
def jP (pts:List (Str×Str))(x:M7):Bool:=o6 x.1&&(kY pts x.2.1&&kY pts x.2.2)
def my (x:Str×Str):Bool:=x8 x.1&&o6 x.2
def jU (pts:List (Str×Str))(x:Str×M7):Bool:=x8 x.1&&(!decide (x.1∈pts.map (·.1))&&jP pts x.2)
def dY (W:G8):Bool:=W.pts.all my&&W.ts.all (jU W.pts)
def Sh (x:Str):Prop:=x.length≤100000
structure WebX (K:PySem.W.Frag) (H:Hp) (a p q:Addr) (kvs:List (j6×V)) (W:G8):Prop where
 at_:WebAt K H a p q kvs W
 hp:H p=some (.dK (J6 W.pts))
 hq:H q=some (.dK kvs)
 ne:p≠q
 np:(W.pts.map (·.1)).Nodup
 nt:(W.ts.map (·.1)).Nodup
 lp:W.pts.length≤60
 lt:W.ts.length≤60
 sp:∀x∈W.pts,Sh x.1∧Sh x.2
 st:∀x∈W.ts,Sh x.1∧Sh x.2.1∧Sh x.2.2.1∧Sh x.2.2.2
theorem WebX.same {K:PySem.W.Frag}{H H':Hp}{a p q:Addr}{kvs:List (j6×V)}{W:G8}(h:WebX K H a p q kvs W)(s:Same H H'):WebX K H' a p q kvs W:=⟨h.at_.mono s.le,s _ _ h.hp,s _ _ h.hq,h.ne,h.np,h.nt,h.lp,h.lt,h.sp,h.st⟩
def eQ (K:PySem.W.Frag):Sp:=fun vs H Q _=>∃(t p:Addr) (x:M7) (pts:List (Str×Str)),vs=[.ref t,.ref p]∧SqT K H t (bX x)∧Rd H p (.dK (J6 pts))∧Sh x.1∧Sh x.2.1∧Sh x.2.2∧∀H',Same H H'→Q (.bl (jP pts x)) H'
def cM (K:PySem.W.Frag):Sp:=fun vs H Q _=>∃(a p q:Addr) (kvs:List (j6×V)) (W:G8),vs=[.ref a]∧WebX K H a p q kvs W∧∀H',Same H H'→Q (.bl (dY W)) H'
theorem oH:Y8 "tuple" "tuple"=true:=rfl
theorem vf:Y8 "dict" "dict"=true:=rfl
theorem G5 {α:Type}(f:α→Bool){l:List α}{i:Nat}{a:α}(h:l[i]?=some a):(l.take i).map (fun x=>V.bl (f x))++[V.bl (f a)]=(l.take (i+1)).map fun x=>V.bl (f x):=by
 rw[List.take_succ,h,List.map_append];rfl
theorem rq {f:Addr}{fd:FuncData}(T:Txt K mg)(N8:E2 P w K mg base B4 2 "is_kind" ["thing"] [] (Y5 K))(U3:E2 P w K mg base B4 2 "is_name" ["thing"] [] (bA K))(F:Fun K "is_tie" "is_tie" aT f fd):E3 P w K mg base B4 3 f fd ["thing","points"] (eQ K):=by
 refine F.ok sc_is_tie (fun vs H Q E h=>?_) (fun cdv A outer s H vs Q E hr h=>?_)
 ·obtain⟨t,p,x,pts,rfl,_⟩:=h
  rfl
 ·obtain⟨t,p,⟨x1,x2,x3⟩,pts,rfl,hT,hp,h1,h2,h3,k⟩:=h
  have hN:=sc_is_tie.nd
  have hu:=C0 hr
  refine⟨_,QSs.r (A0 (S2 (fV (Q0 (E6 (D2 K (qB (bO K P w) T.b_isinstance Boot.«isinstance» (d9 (qV 0) (d9 (qr "tuple" T.b_tuple Boot.«tuple») i8))))) (Q0 (r6 (Z8 K hr) (qB (E4 K P w) T.b_len Boot.«len» (d9 (qV 0) i8)) b5 (j9 _)) (M5 (E6 (D2 K (qC N8 (hr.mono (by decide)) j0 (d9 (C9 (C8 K hu) (qV 0) b5 (fun _ _=>rfl)) i8)))))))) (B9 (x5 eG)) T8)
   (B9 (x5 (qB (iG K rfl) T.b_all Boot.«all» (d9 (O7 (own:=["end"]) (js:=[1]) (by kernel_rfl) rfl (U2 K (bT (bU K) (qV 0) (aM b5) dA)) (fun _ _ _ _=>(T6 (i:=0) (show List.Nodup (["end","points"]:List Str) by decide+kernel) rfl (by walk_at "l"))) (fun _ _ _ _=>X3) (fun _ _ _ _=>(mY (qC U3 (hr.mono (by decide)) j0 (d9 (qV 0) i8)) (qz (ke (kIn K hu) (qV 0) (qV 1) (by rfl)))))) i8))))),?_⟩
  walk_at "r"
  refine U0 (U1 (t:="tuple") (.inr (.inl ⟨rfl,_,hT⟩)) (by simp) ?_)
  rw[oH]
  walk_at "r"
  refine E5 (eX hT ?_)
  walk_at "r"
  rw[show(!decide (((bX (x1,x2,x3)).length:Int)=3))=false from rfl]
  walk_at "r"
  refine d4 hT (b9 (j:=0) rfl) ?_
  walk_at "r"
  refine⟨.str x1,rfl,.inl ⟨x1,rfl,h1,fun H1 m1=>?_⟩⟩
  cases hk:o6 x1
  ·walk_at "r"
   have z:=k _ m1
   rw[show jP pts (x1,x2,x3)=false by unfold jP;show(o6 x1&&_)=false;rw[hk];rfl] at z
   exact z
  walk_at "r"
  refine tQ (m1.tup hT) (by rintro⟨z,_⟩;exact absurd (show(1:Nat)=0 from z) (by decide)) (fun l2 n2=>?_)
  obtain⟨H2,e2,f2,m2,_⟩:=b6 (o:= .tup [.str x2,.str x3]) n2
  rw[show V9 (bX (x1,x2,x3)) (some 1) none=[V.str x2,.str x3] from rfl,e2]
  have hp2:=(m1.trans m2).rd hp
  refine .inl (.inr (.inl ⟨l2,rfl,⟨_,SqT.of f2⟩,?_⟩))
  refine B7 (n:=2) (fun i out H'=>Same H2 H'∧out=([x2,x3].take i).map fun x=>V.bl (kY pts x)) ⟨Same.refl _,rfl⟩ (fun i out H' hi hp=>?_) ?_ ?_
  ·refine⟨[.str x2,.str x3],[V.str x2,.str x3][i]'(by show i<2;omega),SqT.of (hp.1 _ _ f2),List.getElem?_eq_getElem _⟩
  ·rintro N i v out H3' H3 hi ⟨s3,rfl⟩ ⟨rfl,hx⟩ hN'
   have hx':=hx _ (SqT.of (s3 _ _ f2))
   obtain⟨n,rfl,hn1,hn2⟩:∃n,v= .str n∧Sh n∧[x2,x3][i]?=some n:=by
    match i,hi,hx' with
    |0,_,hx'=>cases hx';exact⟨x2,rfl,h2,rfl⟩
    |1,_,hx'=>cases hx';exact⟨x3,rfl,h3,rfl⟩
   have sl:(([x2,x3].take i).map fun x=>V.bl (kY pts x)).length≤1000:=by rw[List.length_map,List.length_take];show min i 2≤1000;omega
   walk_at "r"
   refine⟨rfl,?_⟩
   walk_at "r"
   refine⟨.str n,rfl,.inl ⟨n,rfl,hn1,fun H4 m4=>?_⟩⟩
   cases hb:x8 n
   ·refine⟨false,rfl,?_⟩
    rw[if_neg (by decide)]
    refine⟨d7 sl,hN' _ _ ⟨s3.trans m4,?_⟩⟩
    rw[←G5 (kY pts) hn2,show kY pts n=false by unfold kY;rw[hb];rfl]
   ·refine⟨true,rfl,?_⟩
    rw[if_pos rfl]
    walk_at "r"
    refine S1 (P6 (k:=Sum.inr n) ((s3.trans m4).rd hp2)) ?_
    rw[M4]
    refine⟨d7 sl,hN' _ _ ⟨s3.trans m4,?_⟩⟩
    rw[←G5 (kY pts) hn2,show kY pts n=decide (n∈pts.map (·.1)) by unfold kY;rw[hb];rfl]
  ·rintro out H3 ⟨s3,rfl⟩
   refine⟨⟨_,SqT.of (s3 _ _ f2),by show 2≤2;omega⟩,fun D hD=>⟨d7 (by show 2≤1000;omega),?_⟩⟩
   obtain⟨H4,e4,f4,m4,_⟩:=b6 (H:=H3) (o:= .lst (([x2,x3].take 2).map fun x=>V.bl (kY pts x))) hD
   walk_at "r"
   change mz K _ (A5 H3 D _) _
   rw[e4]
   refine cZ (bs:=[kY pts x2,kY pts x3]) (SqL.of f4) ?_
   have z:=k _ (m1.trans (m2.trans (s3.trans m4)))
   rw[show jP pts (x1,x2,x3)=([kY pts x2,kY pts x3]:List Bool).all id by unfold jP;show(o6 x1&&_)=_;rw[hk];simp] at z
   exact z
theorem Y7 {α:Type}(f:α→Bool)(l:List α):(l.map f).all id=l.all f:=by rw[List.all_map];rfl
theorem qW {f:Addr}{fd:FuncData}(T:Txt K mg)(N8:E2 P w K mg base B4 2 "is_kind" ["thing"] [] (Y5 K))(U3:E2 P w K mg base B4 2 "is_name" ["thing"] [] (bA K))(ix:E2 P w K mg base B4 3 "is_tie" ["thing","points"] [] (eQ K))(F:Fun K "is_web" "is_web" bc f fd):E3 P w K mg base B4 4 f fd ["thing"] (cM K):=by
 refine F.ok sc_is_web (fun vs H Q E h=>?_) (fun cdv A outer s H vs Q E hr h=>?_)
 ·obtain⟨a,p,q,kvs,W,rfl,_⟩:=h
  rfl
 ·obtain⟨a,p,q,kvs,W,rfl,hW,k⟩:=h
  have hlp:=hW.lp
  have hlt:=hW.lt
  have hptl:=D7 W.pts
  have hkl:=hW.at_.ts.length
  have hN:=sc_is_web.nd
  have hu:=C0 hr
  refine⟨_,QSs.r (A0 (S2 (fV (Q0 (E6 (D2 K (qB (bO K P w) T.b_isinstance Boot.«isinstance» (d9 (qV 0) (d9 (qr "tuple" T.b_tuple Boot.«tuple») i8))))) (M5 (r6 (Z8 K hr) (qB (E4 K P w) T.b_len Boot.«len» (d9 (qV 0) i8)) b5 (j9 _))))) (B9 (x5 eG)) T8)
   (A0 (u6 (i:=1) hN rfl (by walk_at "l") (C9 (C8 K hu) (qV 0) b5 (fun _ _=>rfl)))
   (A0 (u6 (i:=2) hN rfl (by walk_at "l") (C9 (C8 K hu) (qV 0) b5 (fun _ _=>rfl)))
   (A0 (S2 (fV (Q0 (E6 (D2 K (qB (bO K P w) T.b_isinstance Boot.«isinstance» (d9 (qV 1) (d9 (qr "dict" T.b_dict Boot.«dict») i8))))) (M5 (E6 (D2 K (qB (bO K P w) T.b_isinstance Boot.«isinstance» (d9 (qV 2) (d9 (qr "dict" T.b_dict Boot.«dict») i8)))))))) (B9 (x5 eG)) T8)
   (A0 (S2 (E6 (D2 K (qB (iG K rfl) T.b_all Boot.«all» (d9 (O7 (own:=["name","kind"]) (js:=[]) (by kernel_rfl) rfl (gd (qV 1)) (fun _ _ _ _=>(wF K rfl (jV (T6 (i:=0) (show List.Nodup (["name","kind"]:List Str) by decide+kernel) rfl (by walk_at "l")) (jV (T6 (i:=1) (show List.Nodup (["name","kind"]:List Str) by decide+kernel) rfl (by walk_at "l")) wV)))) (fun _ _ _ _=>X3) (fun _ _ _ _=>(mY (qC U3 (hr.mono (by decide)) j0 (d9 (qV 0) i8)) (qz (qC N8 (hr.mono (by decide)) j0 (d9 (qV 1) i8)))))) i8)))) (B9 (x5 eG)) T8)
   (B9 (x5 (qB (iG K rfl) T.b_all Boot.«all» (d9 (O7 (own:=["name","tie"]) (js:=[1]) (by kernel_rfl) rfl (gd (qV 2)) (fun _ _ _ _=>(wF K rfl (jV (T6 (i:=0) (show List.Nodup (["name","tie","points"]:List Str) by decide+kernel) rfl (by walk_at "l")) (jV (T6 (i:=1) (show List.Nodup (["name","tie","points"]:List Str) by decide+kernel) rfl (by walk_at "l")) wV)))) (fun _ _ _ _=>X3) (fun _ _ _ _=>(mY (qC U3 (hr.mono (by decide)) j0 (d9 (qV 0) i8)) (mY (ke (iw K hu) (qV 0) (qV 2) (by rfl)) (qz (qC ix (hr.mono (by decide)) j0 (d9 (qV 1) (d9 (qV 2) i8)))))))) i8))))))))),?_⟩
  walk_at "r"
  refine U0 (U1 (t:="tuple") (.inr (.inl ⟨rfl,_,hW.at_.tup⟩)) (by simp) ?_)
  rw[oH]
  walk_at "r"
  refine E5 (eX hW.at_.tup ?_)
  walk_at "r"
  rw[show(!decide ((([V.ref p,V.ref q]:List V).length:Int)=2))=false from rfl]
  walk_at "r"
  refine d4 hW.at_.tup (b9 (j:=0) rfl) ?_
  walk_at "r"
  refine d4 hW.at_.tup (b9 (j:=1) rfl) ?_
  walk_at "r"
  refine U0 (U1 (t:="dict") (.inr (.inr ⟨rfl,_,hW.at_.pts⟩)) (by simp) ?_)
  rw[vf]
  walk_at "r"
  refine U0 (U1 (t:="dict") (.inr (.inr ⟨rfl,_,hW.at_.ties⟩)) (by simp) ?_)
  rw[vf]
  walk_at "r"
  refine Z9 hW.hp (fun ndp o8=>?_)
  refine B7 (n:=(J6 W.pts).length) (fun i out H'=>Same (K1 p o8 (J6 W.pts) H) H'∧out=(W.pts.take i).map fun x=>V.bl (my x)) ⟨Same.refl _,rfl⟩ (fun i out H' hi hp=>⟨hp.1 _ _ g7,hi⟩) ?_ ?_
  ·rintro N i v out H8' H8 hi ⟨s8,rfl⟩ ⟨t,kv,hkv,nt,rfl,rfl⟩ hN'
   obtain⟨x,hx,rfl⟩:=dR hkv
   obtain⟨H9,e9,f9,m9,_⟩:=b6 (o:= .tup _) nt
   rw[e9]
   have hxm:=List.mem_of_getElem? hx
   have hxs:=hW.sp x hxm
   have sl:((W.pts.take i).map fun x=>V.bl (my x)).length≤1000:=by rw[List.length_map,List.length_take];omega
   refine bF (SqT.of f9) rfl ?_
   walk_at "r"
   refine⟨rfl,?_⟩
   walk_at "r"
   refine⟨.str x.1,rfl,.inl ⟨x.1,rfl,hxs.1,fun H10 m10=>?_⟩⟩
   cases hb:x8 x.1
   ·refine⟨false,rfl,?_⟩
    rw[if_neg (by decide)]
    refine⟨d7 sl,hN' _ _ ⟨s8.trans (m9.trans m10),?_⟩⟩
    rw[←G5 my hx,show my x=false by unfold my;rw[hb];rfl]
   ·refine⟨true,rfl,?_⟩
    rw[if_pos rfl]
    walk_at "r"
    refine⟨.str x.2,rfl,.inl ⟨x.2,rfl,hxs.2,fun H11 m11=>?_⟩⟩
    refine⟨d7 sl,hN' _ _ ⟨s8.trans (m9.trans (m10.trans m11)),?_⟩⟩
    rw[←G5 my hx,show my x=o6 x.2 by unfold my;rw[hb];rfl]
  ·rintro out H8 ⟨s8,rfl⟩
   have eT:W.pts.take (J6 W.pts).length=W.pts:=List.take_of_length_le (by omega)
   rw[eT]
   refine⟨⟨s8 _ _ g7,Nat.le_refl _⟩,fun D8 hD8=>⟨d7 (by rw[List.length_map];omega),?_⟩⟩
   have sM:=dJ hW.hp s8 hD8 (u:= .lst (W.pts.map fun x=>V.bl (my x)))
   have fM:=kD s8 hD8 (u:= .lst (W.pts.map fun x=>V.bl (my x)))
   generalize thaw p (A5 H8 D8 (.lst (W.pts.map fun x=>V.bl (my x))))=HM at sM fM⊢
   walk_at "r"
   refine cZ (bs:=W.pts.map my) (SqL.of (by rw[fM,List.map_map];rfl)) ?_
   rw[Y7]
   cases hpa:W.pts.all my
   ·walk_at "r"
    have z:=k _ sM
    rw[show dY W=false by unfold dY;rw[hpa];rfl] at z
    exact z
   walk_at "r"
   have WM:=hW.same sM
   refine Z9 WM.hq (fun ndq o10=>?_)
   refine B7 (n:=kvs.length) (fun i out H'=>Same (K1 q o10 kvs HM) H'∧out=(W.ts.take i).map fun x=>V.bl (jU W.pts x)) ⟨Same.refl _,rfl⟩ (fun i out H' hi hp=>⟨hp.1 _ _ g7,hi⟩) ?_ ?_
   ·rintro N i v out H11' H11 hi ⟨s11,rfl⟩ ⟨t,kv,hkv,nt,rfl,rfl⟩ hN'
    obtain⟨H12,e12,f12,m12,_⟩:=b6 (o:= .tup _) nt
    rw[e12]
    have le12:=(aE (o:=o10) WM.hq).trans (s11.trans m12).le
    have W12:=WM.at_.mono le12
    obtain⟨x,hx,ex,bb,eb,sb⟩:=W12.ts.get hkv
    obtain⟨kk,kvv⟩:=kv
    have ex':kk=Sum.inr x.1:=ex
    have eb':kvv= .ref bb:=eb
    subst ex' eb'
    have hxm:=List.mem_of_getElem? hx
    have hxs:=hW.st x hxm
    have sl:((W.ts.take i).map fun x=>V.bl (jU W.pts x)).length≤1000:=by rw[List.length_map,List.length_take];omega
    refine bF (SqT.of f12) rfl ?_
    walk_at "r"
    refine⟨rfl,?_⟩
    walk_at "r"
    refine⟨.str x.1,rfl,.inl ⟨x.1,rfl,hxs.1,fun H13 m13=>?_⟩⟩
    cases hb:x8 x.1
    ·refine⟨false,rfl,?_⟩
     rw[if_neg (by decide)]
     refine⟨d7 sl,hN' _ _ ⟨s11.trans (m12.trans m13),?_⟩⟩
     rw[←G5 (jU W.pts) hx,show jU W.pts x=false by unfold jU;rw[hb];rfl]
    refine⟨true,rfl,?_⟩
    rw[if_pos rfl]
    walk_at "r"
    refine cg (P6 (k:=Sum.inr x.1) (m13.rd W12.pts)) ?_
    rw[M4]
    cases hd:decide (x.1∈W.pts.map (·.1))
    ·refine⟨true,rfl,?_⟩
     rw[if_pos rfl]
     walk_at "r"
     refine⟨bb,p,x.2,W.pts,rfl,m13.tup sb,m13.rd W12.pts,hxs.2.1,hxs.2.2.1,hxs.2.2.2,fun H14 m14=>?_⟩
     refine⟨d7 sl,hN' _ _ ⟨s11.trans (m12.trans (m13.trans m14)),?_⟩⟩
     rw[←G5 (jU W.pts) hx,show jU W.pts x=jP W.pts x.2 by unfold jU;rw[hb,hd];rfl]
    ·refine⟨false,rfl,?_⟩
     rw[if_neg (by decide)]
     refine⟨d7 sl,hN' _ _ ⟨s11.trans (m12.trans m13),?_⟩⟩
     rw[←G5 (jU W.pts) hx,show jU W.pts x=false by unfold jU;rw[hb,hd];rfl]
   ·rintro out H11 ⟨s11,rfl⟩
    have eT2:W.ts.take kvs.length=W.ts:=List.take_of_length_le (by omega)
    rw[eT2]
    refine⟨⟨s11 _ _ g7,Nat.le_refl _⟩,fun D11 hD11=>⟨d7 (by rw[List.length_map];omega),?_⟩⟩
    have sN:=dJ WM.hq s11 hD11 (u:= .lst (W.ts.map fun x=>V.bl (jU W.pts x)))
    have fN:=kD s11 hD11 (u:= .lst (W.ts.map fun x=>V.bl (jU W.pts x)))
    generalize thaw q (A5 H11 D11 (.lst (W.ts.map fun x=>V.bl (jU W.pts x))))=HN at sN fN⊢
    walk_at "r"
    refine cZ (bs:=W.ts.map (jU W.pts)) (SqL.of (by rw[fN,List.map_map];rfl)) ?_
    rw[Y7]
    have z:=k _ (sM.trans sN)
    rw[show dY W=W.ts.all (jU W.pts) by unfold dY;rw[hpa];rfl] at z
    exact z
structure PieceX (m:Nat) (W:G8):Prop where
 web:dY W=true
 l1:W.pts.length≤m
 l2:W.ts.length≤m
 kds:∀n∈A8 W,o6 n=true
def du (K:PySem.W.Frag):Sp:=fun vs H Q _=>∃(a p q a' p' q':Addr) (kvs kvs':List (j6×V)) (W O:G8),vs=[.ref a,.ref a']∧WebX K H a p q kvs W∧WebX K H a' p' q' kvs' O∧∀b,(b=true↔(∀x∈W.pts,x∈O.pts)∧∀x∈W.ts,x∈O.ts)→∀H',Same H H'→Q (.bl b) H'
def cf (K:PySem.W.Frag):Sp:=fun vs H Q _=>∃(a p q:Addr) (kvs:List (j6×V)) (W:G8) (m:Nat),vs=[.ref a,.int m]∧WebX K H a p q kvs W∧m≤6∧∀b,(b=true↔PieceX m W)→∀H',Same H H'→Q (.bl b) H'
def jY (K:PySem.W.Frag):Sp:=fun vs H Q _=>∃(a p q a' p' q':Addr) (kvs kvs':List (j6×V)) (W O:G8),vs=[.ref a,.ref a']∧WebAt K H a p q kvs W∧WebAt K H a' p' q' kvs' O∧(A8 W).length≤24∧∀(l:Addr) (H':Hp) (s1 s2:List Str),H l=none→Same H H'→Ordr W s1 s2→H' l=some (.lst (((s1++s2).filter fun n=>decide (n∈A8 O)).map V.str))→Q (.ref l) H'
theorem cw {α:Type}{f:α→Bool}{l:List α}(h:l.all f=false):∃x∈l,f x=false:=by
 rw[List.all_eq_false] at h
 obtain⟨x,h1,h2⟩:=h
 exact⟨x,h1,by simpa using h2⟩
theorem mQ {f:Addr}{fd:FuncData}(T:Txt K mg)(F:Fun K "is_part" "is_part" X6 f fd):E3 P w K mg base B4 1 f fd ["web","other"] (du K):=by
 refine F.ok sc_is_part (fun vs H Q E h=>?_) (fun cdv A outer s H vs Q E hr h=>?_)
 ·obtain⟨a,p,q,a',p',q',kvs,kvs',W,O,rfl,_⟩:=h
  rfl
 ·obtain⟨a,p,q,a',p',q',kvs,kvs',W,O,rfl,hW,hO,k⟩:=h
  have hlp:=hW.lp
  have hlt:=hW.lt
  have hptl:=D7 W.pts
  have hkl:=hW.at_.ts.length
  have hN:=sc_is_part.nd
  have hu:=C0 hr
  refine⟨_,QSs.r (A0 (S2 (E6 (D2 K (qB (iG K rfl) T.b_all Boot.«all» (d9 (O7 (own:=["name","kind"]) (js:=[1]) (by kernel_rfl) rfl (gd (C9 (C8 K hu) (qV 0) b5 (fun _ _=>rfl))) (fun _ _ _ _=>(wF K rfl (jV (T6 (i:=0) (show List.Nodup (["name","kind","other"]:List Str) by decide+kernel) rfl (by walk_at "l")) (jV (T6 (i:=1) (show List.Nodup (["name","kind","other"]:List Str) by decide+kernel) rfl (by walk_at "l")) wV)))) (fun _ _ _ _=>X3) (fun _ _ _ _=>(ke (W6 K hr) (gH hu (C9 (C8 K hu) (qV 2) b5 (fun _ _=>rfl)) (qV 0)) (qV 1) (j9 _)))) i8)))) (B9 (x5 eG)) T8)
   (B9 (x5 (qB (iG K rfl) T.b_all Boot.«all» (d9 (O7 (own:=["name","tie"]) (js:=[1]) (by kernel_rfl) rfl (gd (C9 (C8 K hu) (qV 0) b5 (fun _ _=>rfl))) (fun _ _ _ _=>(wF K rfl (jV (T6 (i:=0) (show List.Nodup (["name","tie","other"]:List Str) by decide+kernel) rfl (by walk_at "l")) (jV (T6 (i:=1) (show List.Nodup (["name","tie","other"]:List Str) by decide+kernel) rfl (by walk_at "l")) wV)))) (fun _ _ _ _=>X3) (fun _ _ _ _=>(ke (W6 K hr) (gH hu (C9 (C8 K hu) (qV 2) b5 (fun _ _=>rfl)) (qV 0)) (qV 1) (j9 _)))) i8))))),?_⟩
  walk_at "r"
  refine d4 hW.at_.tup (b9 (j:=0) rfl) ?_
  refine Z9 hW.hp (fun ndp o8=>?_)
  refine B7 (n:=(J6 W.pts).length) (fun i out H'=>Same (K1 p o8 (J6 W.pts) H) H'∧out=(W.pts.take i).map fun x=>V.bl (decide (x∈O.pts))) ⟨Same.refl _,rfl⟩ (fun i out H' hi hp=>⟨hp.1 _ _ g7,hi⟩) ?_ ?_
  ·rintro N i v out H8' H8 hi ⟨s8,rfl⟩ ⟨t,kv,hkv,nt,rfl,rfl⟩ hN'
   obtain⟨x,hx,rfl⟩:=dR hkv
   obtain⟨H9,e9,f9,m9,_⟩:=b6 (o:= .tup _) nt
   rw[e9]
   have hxm:=List.mem_of_getElem? hx
   have O9:=hO.at_.mono ((aE (o:=o8) hW.hp).trans (s8.trans m9).le)
   refine bF (SqT.of f9) rfl ?_
   walk_at "r"
   refine⟨rfl,?_⟩
   walk_at "r"
   refine d4 O9.tup (b9 (j:=0) rfl) ?_
   refine⟨p',rfl,.inl ⟨_,O9.pts⟩,?_⟩
   walk_at "r"
   refine⟨_,P6 (k:=Sum.inr x.1) O9.pts,?_⟩
   walk_at "r"
   refine xW (hO.np) ?_
   refine⟨d7 (by rw[List.length_map,List.length_take];omega),hN' _ _ ⟨s8.trans m9,?_⟩⟩
   rw[←G5 (fun x=>decide (x∈O.pts)) hx]
  ·rintro out H8 ⟨s8,rfl⟩
   rw[show W.pts.take (J6 W.pts).length=W.pts from List.take_of_length_le (by omega)]
   refine⟨⟨s8 _ _ g7,Nat.le_refl _⟩,fun D8 hD8=>⟨d7 (by rw[List.length_map];omega),?_⟩⟩
   have sM:=dJ hW.hp s8 hD8 (u:= .lst (W.pts.map fun x=>V.bl (decide (x∈O.pts))))
   have fM:=kD s8 hD8 (u:= .lst (W.pts.map fun x=>V.bl (decide (x∈O.pts))))
   generalize thaw p (A5 H8 D8 (.lst (W.pts.map fun x=>V.bl (decide (x∈O.pts)))))=HM at sM fM⊢
   walk_at "r"
   refine cZ (bs:=W.pts.map fun x=>decide (x∈O.pts)) (SqL.of (by rw[fM,List.map_map];rfl)) ?_
   rw[Y7]
   cases hpa:W.pts.all fun x=>decide (x∈O.pts)
   ·walk_at "r"
    obtain⟨x,hx,hf⟩:=cw hpa
    exact k false ⟨fun z=>(nomatch z),fun z=>absurd (z.1 x hx) (of_decide_eq_false hf)⟩ _ sM
   walk_at "r"
   have WM:=hW.same sM
   have OM:=hO.same sM
   refine d4 WM.at_.tup (b9 (j:=1) rfl) ?_
   refine Z9 WM.hq (fun ndq o10=>?_)
   refine B7 (n:=kvs.length) (fun i out H'=>Same (K1 q o10 kvs HM) H'∧out=(W.ts.take i).map fun x=>V.bl (decide (x∈O.ts))) ⟨Same.refl _,rfl⟩ (fun i out H' hi hp=>⟨hp.1 _ _ g7,hi⟩) ?_ ?_
   ·rintro N i v out H11' H11 hi ⟨s11,rfl⟩ ⟨t,kv,hkv,nt,rfl,rfl⟩ hN'
    obtain⟨H12,e12,f12,m12,_⟩:=b6 (o:= .tup _) nt
    rw[e12]
    have le12:=(aE (o:=o10) WM.hq).trans (s11.trans m12).le
    have W12:=WM.at_.mono le12
    have O12:=OM.at_.mono le12
    obtain⟨x,hx,ex,bb,eb,sb⟩:=W12.ts.get hkv
    obtain⟨kk,kvv⟩:=kv
    have ex':kk=Sum.inr x.1:=ex
    have eb':kvv= .ref bb:=eb
    subst ex' eb'
    have hxm:=List.mem_of_getElem? hx
    refine bF (SqT.of f12) rfl ?_
    walk_at "r"
    refine⟨rfl,?_⟩
    walk_at "r"
    refine d4 O12.tup (b9 (j:=1) rfl) ?_
    refine⟨q',rfl,.inl ⟨_,O12.ties⟩,?_⟩
    walk_at "r"
    refine⟨_,P6 (k:=Sum.inr x.1) O12.ties,?_⟩
    walk_at "r"
    refine rM O12.ts (hO.nt) sb ?_
    refine⟨d7 (by rw[List.length_map,List.length_take];omega),hN' _ _ ⟨s11.trans m12,?_⟩⟩
    rw[←G5 (fun x=>decide (x∈O.ts)) hx]
   ·rintro out H11 ⟨s11,rfl⟩
    rw[show W.ts.take kvs.length=W.ts from List.take_of_length_le (by omega)]
    refine⟨⟨s11 _ _ g7,Nat.le_refl _⟩,fun D11 hD11=>⟨d7 (by rw[List.length_map];omega),?_⟩⟩
    have sN:=dJ WM.hq s11 hD11 (u:= .lst (W.ts.map fun x=>V.bl (decide (x∈O.ts))))
    have fN:=kD s11 hD11 (u:= .lst (W.ts.map fun x=>V.bl (decide (x∈O.ts))))
    generalize thaw q (A5 H11 D11 (.lst (W.ts.map fun x=>V.bl (decide (x∈O.ts)))))=HN at sN fN⊢
    walk_at "r"
    refine cZ (bs:=W.ts.map fun x=>decide (x∈O.ts)) (SqL.of (by rw[fN,List.map_map];rfl)) ?_
    rw[Y7]
    refine k _ ⟨fun z=>⟨fun x hx=>of_decide_eq_true (List.all_eq_true.mp hpa x hx),fun x hx=>of_decide_eq_true (List.all_eq_true.mp z x hx)⟩,fun z=>List.all_eq_true.mpr fun x hx=>decide_eq_true (z.2 x hx)⟩ _ (sM.trans sN)
theorem lR {f:Addr}{fd:FuncData}(T:Txt K mg)(aW:E2 P w K mg base B4 4 "is_web" ["thing"] [] (cM K))(N8:E2 P w K mg base B4 2 "is_kind" ["thing"] [] (Y5 K))(aV:E2 P w K mg base B4 1 "things" ["web"] [] (cQ K))(F:Fun K "is_piece" "is_piece" U5 f fd):E3 P w K mg base B4 5 f fd ["thing","most"] (cf K):=by
 refine F.ok sc_is_piece (fun vs H Q E h=>?_) (fun cdv A outer s H vs Q E hr h=>?_)
 ·obtain⟨a,p,q,kvs,W,m,rfl,_⟩:=h
  rfl
 ·obtain⟨a,p,q,kvs,W,m,rfl,hW,hm,k⟩:=h
  have hN:=sc_is_piece.nd
  have hu:=C0 hr
  refine⟨_,QSs.r (A0 (S2 (fV (Q0 (E6 (D2 K (qC aW (hr.mono (by decide)) j0 (d9 (qV 0) i8)))) (Q0 (r6 ai (qB (E4 K P w) T.b_len Boot.«len» (d9 (C9 (C8 K hu) (qV 0) b5 (fun _ _=>rfl)) i8)) (qV 1) (j9 _)) (M5 (r6 ai (qB (E4 K P w) T.b_len Boot.«len» (d9 (C9 (C8 K hu) (qV 0) b5 (fun _ _=>rfl)) i8)) (qV 1) (j9 _)))))) (B9 (x5 eG)) T8)
   (B9 (x5 (qB (iG K rfl) T.b_all Boot.«all» (d9 (O7 (own:=["name"]) (js:=[]) (by kernel_rfl) rfl (U2 K (qC aV (hr.mono (by decide)) j0 (d9 (qV 0) i8))) (fun _ _ _ _=>(T6 (i:=0) (show List.Nodup (["name"]:List Str) by decide+kernel) rfl (by walk_at "l"))) (fun _ _ _ _=>X3) (fun _ _ _ _=>(qC N8 (hr.mono (by decide)) j0 (d9 (qV 0) i8)))) i8))))),?_⟩
  walk_at "r"
  refine⟨a,p,q,kvs,W,rfl,hW,fun H1 m1=>?_⟩
  have W1:=hW.same m1
  cases hwb:dY W
  ·walk_at "r"
   exact k false ⟨fun z=>(nomatch z),fun z=>by have:=z.web;rw[hwb] at this;cases this⟩ _ m1
  walk_at "r"
  refine d4 W1.at_.tup (b9 (j:=0) rfl) ?_
  walk_at "r"
  refine E5 (G9 W1.at_.pts ?_)
  rw[D7]
  walk_at "r"
  refine P5 (fun c1=>?_) (fun c1=>?_)
  ·walk_at "r"
   exact k false ⟨fun z=>(nomatch z),fun z=>by have:=z.l1;omega⟩ _ m1
  walk_at "r"
  refine d4 W1.at_.tup (b9 (j:=1) rfl) ?_
  walk_at "r"
  refine E5 (G9 W1.at_.ties ?_)
  rw[W1.at_.ts.length]
  walk_at "r"
  refine P5 (fun c2=>?_) (fun c2=>?_)
  ·walk_at "r"
   exact k false ⟨fun z=>(nomatch z),fun z=>by have:=z.l2;omega⟩ _ m1
  walk_at "r"
  have hnl:=br W
  refine⟨a,p,q,kvs,W,rfl,W1.at_,by omega,fun l2 H2 s1 s2 n2 m2 f2 or=>?_⟩
  have hlen:=or.len
  have hsh:∀n∈s1++s2,Sh n:=fun n hn=>by
   rcases List.mem_append.mp (or.mem.mp hn) with z|z
   ·obtain⟨x,hx,rfl⟩:=List.mem_map.mp z
    exact(hW.sp x hx).1
   ·obtain⟨x,hx,rfl⟩:=List.mem_map.mp z
    exact(hW.st x hx).1
  generalize hss:s1++s2=ss at*
  refine C7 (SqL.of f2) ?_
  refine B7 (n:=ss.length) (fun i out H'=>Same H2 H'∧out=(ss.take i).map fun x=>V.bl (o6 x)) ⟨Same.refl _,rfl⟩ (fun i out H' hi hp=>⟨_,.str (ss[i]),SqL.of (hp.1 _ _ f2),by rw[List.getElem?_map,List.getElem?_eq_getElem hi];rfl⟩) ?_ ?_
  ·rintro N i v out H3' H3 hi ⟨s3,rfl⟩ y hN'
   obtain⟨rfl,hx⟩:=Itl.get y (SqL.of (s3 _ _ f2))
   rw[List.getElem?_map,List.getElem?_eq_getElem hi] at hx
   cases hx
   walk_at "r"
   refine⟨rfl,?_⟩
   walk_at "r"
   refine⟨_,rfl,.inl ⟨_,rfl,hsh _ (List.getElem_mem hi),fun H4 m4=>?_⟩⟩
   refine⟨d7 (by rw[List.length_map,List.length_take];omega),hN' _ _ ⟨s3.trans m4,?_⟩⟩
   rw[←G5 o6 (List.getElem?_eq_getElem hi)]
  ·rintro out H3 ⟨s3,rfl⟩
   rw[List.take_of_length_le (Nat.le_refl _)]
   refine⟨⟨_,SqL.of (s3 _ _ f2),by rw[List.length_map];exact Nat.le_refl _⟩,fun D hD=>⟨d7 (by rw[List.length_map];omega),?_⟩⟩
   obtain⟨H4,e4,f4,m4,_⟩:=b6 (H:=H3) (o:= .lst (ss.map fun x=>V.bl (o6 x))) hD
   walk_at "r"
   change mz K _ (A5 H3 D _) _
   rw[e4]
   refine cZ (bs:=ss.map o6) (SqL.of (by rw[f4,List.map_map];rfl)) ?_
   rw[Y7]
   refine k _ ⟨fun z=>⟨hwb,by omega,by omega,fun n hn=>List.all_eq_true.mp z n ?_⟩,fun z=>List.all_eq_true.mpr fun n hn=>z.kds n ?_⟩ _ (m1.trans (m2.trans (s3.trans m4)))
   ·rw[←hss];exact or.mem.mpr hn
   ·rw[←hss] at hn;exact or.mem.mp hn
theorem wX {f:Addr}{fd:FuncData}(T:Txt K mg)(aV:E2 P w K mg base B4 1 "things" ["web"] [] (cQ K))(F:Fun K "both" "both" eP f fd):E3 P w K mg base B4 2 f fd ["web","other"] (jY K):=by
 refine F.ok sc_both (fun vs H Q E h=>?_) (fun cdv A outer s H vs Q E hr h=>?_)
 ·obtain⟨a,p,q,a',p',q',kvs,kvs',W,O,rfl,_⟩:=h
  rfl
 ·obtain⟨a,p,q,a',p',q',kvs,kvs',W,O,rfl,hW,hO,hWl,k⟩:=h
  have hN:=sc_both.nd
  have hu:=C0 hr
  refine⟨_,QSs.r (B9 (x5 (O7 (own:=["name"]) (js:=[1]) (by kernel_rfl) rfl (U2 K (qC aV (hr.mono (by decide)) j0 (d9 (qV 0) i8))) (fun _ _ _ _=>(T6 (i:=0) (show List.Nodup (["name","other"]:List Str) by decide+kernel) rfl (by walk_at "l"))) (fun _ _ _ _=>(yg (fV (Q0 (r6 (kIn K hu) (qV 0) (C9 (C8 K hu) (qV 1) b5 (fun _ _=>rfl)) (by rfl)) (M5 (r6 (kIn K hu) (qV 0) (C9 (C8 K hu) (qV 1) b5 (fun _ _=>rfl)) (by rfl))))))) (fun _ _ _ _=>(qV 0))))),?_⟩
  walk_at "r"
  refine⟨a,p,q,kvs,W,rfl,hW,by omega,fun l1 H1 s1 s2 n1 m1 f1 or=>?_⟩
  have hlen:=or.len
  refine C7 (SqL.of f1) ?_
  refine B7 (n:=(s1++s2).length) (fun i out H'=>Same H1 H'∧out=(((s1++s2).take i).filter fun n=>decide (n∈A8 O)).map V.str) ⟨Same.refl _,rfl⟩ (fun i out H' hi hp=>⟨_,.str ((s1++s2)[i]),SqL.of (hp.1 _ _ f1),by rw[List.getElem?_map,List.getElem?_eq_getElem hi];rfl⟩) ?_ ?_
  ·rintro N i v out H3' H3 hi ⟨s3,rfl⟩ y hN'
   obtain⟨rfl,hx⟩:=Itl.get y (SqL.of (s3 _ _ f1))
   rw[List.getElem?_map,List.getElem?_eq_getElem hi] at hx
   cases hx
   have O3:=hO.mono (m1.trans s3).le
   have e7:(s1++s2).take (i+1)=(s1++s2).take i++[(s1++s2)[i]]:=by rw[List.take_succ,List.getElem?_eq_getElem hi];rfl
   have hfl:=List.length_filter_le (fun n=>decide (n∈A8 O)) ((s1++s2).take i)
   rw[List.length_take] at hfl
   have yes:(decide ((s1++s2)[i]∈A8 O))=true→((((s1++s2).take i).filter fun n=>decide (n∈A8 O)).map V.str).length≤sizeLine∧N ((((s1++s2).take i).filter fun n=>decide (n∈A8 O)).map V.str++[V.str (s1++s2)[i]]) H3:=fun hb=>by
    refine⟨d7 (by rw[List.length_map];omega),hN' _ _ ⟨s3,?_⟩⟩
    rw[e7,List.filter_append,List.filter_cons_of_pos (p:=fun n=>decide (n∈A8 O)) hb,List.filter_nil,List.map_append];rfl
   have no:(decide ((s1++s2)[i]∈A8 O))=false→N ((((s1++s2).take i).filter fun n=>decide (n∈A8 O)).map V.str) H3:=fun hb=>by
    refine hN' _ _ ⟨s3,?_⟩
    rw[e7,List.filter_append,List.filter_cons_of_neg (p:=fun n=>decide (n∈A8 O)) (by rw[hb];simp),List.filter_nil,List.append_nil]
   walk_at "r"
   refine⟨rfl,?_⟩
   walk_at "r"
   refine d4 O3.tup (b9 (j:=0) rfl) ?_
   refine S1 (P6 (k:=Sum.inr (s1++s2)[i]) O3.pts) ?_
   rw[M4]
   walk_at "r"
   refine P5 (fun b1=>?_) (fun b1=>?_)
   ·walk_at "r"
    refine yes (by rw[decide_eq_true (show(s1++s2)[i]∈A8 O from List.mem_append_left _ b1)])
   ·walk_at "r"
    refine d4 O3.tup (b9 (j:=1) rfl) ?_
    refine S1 (P6 (k:=Sum.inr (s1++s2)[i]) O3.ties) ?_
    rw[U7 O3.ts]
    walk_at "r"
    refine P5 (fun b2=>?_) (fun b2=>?_)
    ·walk_at "r"
     refine yes (by rw[decide_eq_true (show(s1++s2)[i]∈A8 O from List.mem_append_right _ b2)])
    ·exact no (by rw[decide_eq_false (show(s1++s2)[i]∉A8 O from fun z=>(List.mem_append.mp z).elim b1 b2)])
  ·rintro out H3 ⟨s3,rfl⟩
   have hfl:=List.length_filter_le (fun n=>decide (n∈A8 O)) ((s1++s2).take (s1++s2).length)
   rw[List.length_take] at hfl
   refine⟨⟨_,SqL.of (s3 _ _ f1),by rw[List.length_map];exact Nat.le_refl _⟩,fun D hD=>⟨d7 (by rw[List.length_map];omega),?_⟩⟩
   rw[List.take_of_length_le (Nat.le_refl _)]
   obtain⟨H4,e4,f4,m4,_⟩:=b6 (H:=H3) (o:= .lst (((s1++s2).filter fun n=>decide (n∈A8 O)).map V.str)) hD
   refine k D _ s1 s2 ((m1.trans s3).free hD) ?_ or ?_
   ·show Same _ (A5 _ D _)
    rw[e4];exact m1.trans (s3.trans m4)
   ·show A5 _ D _ D=_
    rw[g7]
structure Sd where
 a:Addr
 p:Addr
 q:Addr
 kvs:List (j6×V)
 W:G8
def SdX (K:PySem.W.Frag)(H:Hp)(s:Sd):Prop:=WebX K H s.a s.p s.q s.kvs s.W
theorem SdX.same {H H':Hp}{s:Sd}(h:SdX K H s)(m:Same H H'):SdX K H' s:=WebX.same h m
structure RuleX (K:PySem.W.Frag) (H:Hp) (r bl:Addr) (L R:Sd) (bs:List Sd):Prop where
 tup:SqT K H r [.ref L.a,.ref R.a,.ref bl]
 l:SdX K H L
 r:SdX K H R
 bl:SqL K H bl (bs.map fun s=>V.ref s.a)
 bars:∀b∈bs,SdX K H b
theorem RuleX.same {H H':Hp}{r bl:Addr}{L R:Sd}{bs:List Sd}(h:RuleX K H r bl L R bs)(m:Same H H'):RuleX K H' r bl L R bs:=⟨m.tup h.tup,h.l.same m,h.r.same m,m.seq h.bl,fun b hb=>(h.bars b hb).same m⟩
structure fu (n:Str) (L R:G8):Prop where
 p:∀k,(n,k)∈L.pts↔(n,k)∈R.pts
 t:∀t,(n,t)∈L.ts↔(n,t)∈R.ts
structure RuleOx (L R:G8) (bs:List G8):Prop where
 l:PieceX 4 L
 r:PieceX 4 R
 ag:∀n∈A8 L,n∈A8 R→fu n L R
 len:bs.length≤3
 bars:∀b∈bs,PieceX 6 b∧(∀x∈L.pts,x∈b.pts)∧∀x∈L.ts,x∈b.ts
def dw (K:PySem.W.Frag):Sp:=fun vs H Q _=>∃(n:Str) (L R:Sd),vs=[.str n,.ref L.a,.ref R.a]∧SdX K H L∧SdX K H R∧∀b,(b=true↔fu n L.W R.W)→Q (.bl b) H
def dg (K:PySem.W.Frag):Sp:=fun vs H Q _=>∃(r bl:Addr) (L R:Sd) (bs:List Sd),vs=[.ref r]∧RuleX K H r bl L R bs∧bs.length≤100000∧∀b,(b=true↔RuleOx L.W R.W (bs.map (·.W)))→∀H',Same H H'→Q (.bl b) H'
theorem xV {H:Hp}{Q:VK}(q:Q (.bl true) H):cE K .non .non H Q:=iH (.inl ⟨rfl,by rw[decide_eq_true rfl];exact q⟩)
theorem Bm {H:Hp}{Q:VK}{k:Str}(q:Q (.bl false) H):cE K (.str k) .non H Q:=iH (.inl ⟨rfl,by rw[decide_eq_false (by intro z;cases z)];exact q⟩)
theorem vM {H:Hp}{Q:VK}{n:Str}{A B:List (Str×Str)}(ndA:(A.map (·.1)).Nodup)(ndB:(B.map (·.1)).Nodup)(q:∀b,(b=true↔∀k,(n,k)∈A↔(n,k)∈B)→Q (.bl b) H):cE K ((D0 (J6 A) (Sum.inr n:j6)).getD .non) ((D0 (J6 B) (Sum.inr n:j6)).getD .non) H Q:=by
 cases e:D0 (J6 B) (Sum.inr n:j6) with
 |none=>
  have nb:∀k,(n,k)∉B:=fun k hk=>by rw[T2 ndB hk] at e;cases e
  cases e':D0 (J6 A) (Sum.inr n:j6) with
  |none=>
   have na:∀k,(n,k)∉A:=fun k hk=>by rw[T2 ndA hk] at e';cases e'
   exact xV (q true ⟨fun _ k=>⟨fun z=>absurd z (na k),fun z=>absurd z (nb k)⟩,fun _=>rfl⟩)
  |some v=>
   obtain⟨k,rfl,hk⟩:=dZ e'
   exact Bm (q false ⟨fun z=>(nomatch z),fun z=>absurd ((z k).mp hk) (nb k)⟩)
 |some v=>
  obtain⟨k,rfl,hk⟩:=dZ e
  refine xW ndA (q _ ⟨fun z k'=>?_,fun z=>decide_eq_true ((z k).mpr hk)⟩)
  have za:=of_decide_eq_true z
  constructor
  ·intro h
   have e1:=T2 ndA h
   rw[T2 ndA za] at e1
   cases e1
   exact hk
  ·intro h
   have e1:=T2 ndB h
   rw[T2 ndB hk] at e1
   cases e1
   exact za
theorem pU {B:List (Str×M7)}{n:Str}{x y:M7}(nd:(B.map (·.1)).Nodup)(h1:(n,x)∈B)(h2:(n,y)∈B):x=y:=by
 induction B with
 |nil=>cases h1
 |cons b r ih=>
  rw[List.map_cons,List.nodup_cons] at nd
  rcases List.mem_cons.mp h1 with e1|e1
  ·rcases List.mem_cons.mp h2 with e2|e2
   ·exact(Prod.ext_iff.mp (e1.trans e2.symm)).2
   ·exact absurd (List.mem_map.mpr ⟨_,e2,by rw[←e1]⟩) nd.1
  ·rcases List.mem_cons.mp h2 with e2|e2
   ·exact absurd (List.mem_map.mpr ⟨_,e1,by rw[←e2]⟩) nd.1
   ·exact ih nd.2 e1 e2
theorem zf {H:Hp}{Q:VK}{n:Str}{ka kb:List (j6×V)}{A B:List (Str×M7)}(wA:TiesIs K H ka A)(wB:TiesIs K H kb B)(ndA:(A.map (·.1)).Nodup)(ndB:(B.map (·.1)).Nodup)(q:∀b,(b=true↔∀t,(n,t)∈A↔(n,t)∈B)→Q (.bl b) H):vg K ((D0 ka (Sum.inr n:j6)).getD .non) ((D0 kb (Sum.inr n:j6)).getD .non) H Q:=by
 have none_of:∀{kz:List (j6×V)} {Z:List (Str×M7)},TiesIs K H kz Z→n∉Z.map (·.1)→D0 kz (Sum.inr n:j6)=none:=fun w hz=>by
  have z:=U7 (n:=n) w
  rw[decide_eq_false hz] at z
  cases e:D0 _ (Sum.inr n:j6) with
  |none=>rfl
  |some v=>rw[e] at z;cases z
 by_cases hb:n∈B.map (·.1)
 ·obtain⟨c,x,h1,h2,h3⟩:=TiesIs.val (ts:=B) wB hb
  rw[h1]
  refine .inl (rM wA ndA h3 (q _ ⟨fun z k'=>?_,fun z=>decide_eq_true ((z x).mpr h2)⟩))
  have za:=of_decide_eq_true z
  exact⟨fun h=>pU ndA za h▸h2,fun h=>pU ndB h2 h▸za⟩
 ·have nb:∀t,(n,t)∉B:=fun t ht=>hb (List.mem_map.mpr ⟨_,ht,rfl⟩)
  rw[none_of wB hb]
  by_cases ha:n∈A.map (·.1)
  ·obtain⟨c,x,h1,h2,h3⟩:=TiesIs.val (ts:=A) wA ha
   rw[h1]
   exact .inr ⟨c,_,h3,.inl ⟨rfl,.inl rfl⟩,q false ⟨fun z=>(nomatch z),fun z=>absurd ((z x).mp h2) (nb x)⟩⟩
  ·have na:∀t,(n,t)∉A:=fun t ht=>ha (List.mem_map.mpr ⟨_,ht,rfl⟩)
   rw[none_of wA ha]
   exact .inl (xV (q true ⟨fun _ t=>⟨fun z=>absurd z (na t),fun z=>absurd z (nb t)⟩,fun _=>rfl⟩))
theorem oE {f:Addr}{fd:FuncData}(T:Txt K mg)(F:Fun K "is_same" "is_same" Y0 f fd):E3 P w K mg base B4 1 f fd ["name","left","right"] (dw K):=by
 refine F.ok sc_is_same (fun vs H Q E h=>?_) (fun cdv A outer s H vs Q E hr h=>?_)
 ·obtain⟨n,L,R,rfl,_⟩:=h
  rfl
 ·obtain⟨n,L,R,rfl,hL,hR,k⟩:=h
  have hN:=sc_is_same.nd
  have hu:=C0 hr
  refine⟨_,QSs.r (B9 (x5 (mY (ke (vd K hr) (gH hu (C9 (C8 K hu) (qV 1) b5 (fun _ _=>rfl)) (qV 0)) (gH hu (C9 (C8 K hu) (qV 2) b5 (fun _ _=>rfl)) (qV 0)) (j9 _)) (qz (ke (vd K hr) (gH hu (C9 (C8 K hu) (qV 1) b5 (fun _ _=>rfl)) (qV 0)) (gH hu (C9 (C8 K hu) (qV 2) b5 (fun _ _=>rfl)) (qV 0)) (j9 _)))))),?_⟩
  walk_at "r"
  refine d4 hL.at_.tup (b9 (j:=0) rfl) ?_
  refine⟨L.p,rfl,.inl ⟨_,hL.at_.pts⟩,?_⟩
  walk_at "r"
  refine⟨_,P6 (k:=Sum.inr n) hL.at_.pts,?_⟩
  walk_at "r"
  refine d4 hR.at_.tup (b9 (j:=0) rfl) ?_
  refine⟨R.p,rfl,.inl ⟨_,hR.at_.pts⟩,?_⟩
  walk_at "r"
  refine⟨_,P6 (k:=Sum.inr n) hR.at_.pts,?_⟩
  refine .inl (vM hL.np hR.np fun b hb=>?_)
  cases b
  ·refine⟨false,rfl,?_⟩
   rw[if_neg (by decide)]
   exact k false ⟨fun z=>(nomatch z),fun z=>hb.mpr z.p⟩
  refine⟨true,rfl,?_⟩
  rw[if_pos rfl]
  walk_at "r"
  refine d4 hL.at_.tup (b9 (j:=1) rfl) ?_
  refine⟨L.q,rfl,.inl ⟨_,hL.at_.ties⟩,?_⟩
  walk_at "r"
  refine⟨_,P6 (k:=Sum.inr n) hL.at_.ties,?_⟩
  walk_at "r"
  refine d4 hR.at_.tup (b9 (j:=1) rfl) ?_
  refine⟨R.q,rfl,.inl ⟨_,hR.at_.ties⟩,?_⟩
  walk_at "r"
  refine⟨_,P6 (k:=Sum.inr n) hR.at_.ties,?_⟩
  exact zf hL.at_.ts hR.at_.ts hL.nt hR.nt fun b h2=>k b ⟨fun z=>⟨hb.mp rfl,h2.mp z⟩,fun z=>h2.mpr z.t⟩
theorem nY {α β:Type}{F:α→β→Prop}:∀{l l':List α} {m m':List β},Paired F l m→Paired F l' m'→Paired F (l++l') (m++m')
 |[],_,[],_,_,h=>h
 |_::_,_,_::_,_,.cons a r,h=> .cons a (nY r h)
theorem jr {α β:Type}{F:α→β→Prop}:∀{l:List α} {m:List β} {a:α},Paired F l m→a∈l→∃b∈m,F a b
 |_::_,_::_,a,.cons h r,ha=>by
  rcases List.mem_cons.mp ha with rfl|z
  ·exact⟨_,List.mem_cons_self,h⟩
  ·obtain⟨b,hb,hf⟩:=jr r z
   exact⟨b,List.mem_cons_of_mem _ hb,hf⟩
theorem jw {α β:Type}{F:α→β→Prop}:∀{l:List α} {m:List β} {b:β},Paired F l m→b∈m→∃a∈l,F a b
 |[],[],_,_,hb=>nomatch hb
 |_::_,_::_,b,.cons h r,hb=>by
  rcases List.mem_cons.mp hb with rfl|z
  ·exact⟨_,List.mem_cons_self,h⟩
  ·obtain⟨a,ha,hf⟩:=jw r z
   exact⟨a,List.mem_cons_of_mem _ ha,hf⟩
theorem mS {f:Addr}{fd:FuncData}(T:Txt K mg)(Z4:E2 P w K mg base B4 5 "is_piece" ["thing","most"] [] (cf K))(eI:E2 P w K mg base B4 1 "is_same" ["name","left","right"] [] (dw K))(ox:E2 P w K mg base B4 2 "both" ["web","other"] [] (jY K))(eV:E2 P w K mg base B4 1 "is_part" ["web","other"] [] (du K))(F:Fun K "is_rule" "is_rule" Y3 f fd):E3 P w K mg base B4 6 f fd ["thing"] (dg K):=by
 refine F.ok sc_is_rule (fun vs H Q E h=>?_) (fun cdv A outer s H vs Q E hr h=>?_)
 ·obtain⟨r,bl,L,R,bs,rfl,_⟩:=h
  rfl
 ·obtain⟨r,bl,L,R,bs,rfl,hR,hbz,k⟩:=h
  have hN:=sc_is_rule.nd
  have hu:=C0 hr
  refine⟨_,QSs.r (A0 (S2 (fV (Q0 (E6 (D2 K (qB (bO K P w) T.b_isinstance Boot.«isinstance» (d9 (qV 0) (d9 (qr "tuple" T.b_tuple Boot.«tuple») i8))))) (M5 (r6 (Z8 K hr) (qB (E4 K P w) T.b_len Boot.«len» (d9 (qV 0) i8)) b5 (j9 _))))) (B9 (x5 eG)) T8)
   (A0 (u6 (i:=1) hN rfl (by walk_at "l") (C9 (C8 K hu) (qV 0) b5 (fun _ _=>rfl)))
   (A0 (u6 (i:=2) hN rfl (by walk_at "l") (C9 (C8 K hu) (qV 0) b5 (fun _ _=>rfl)))
   (A0 (u6 (i:=3) hN rfl (by walk_at "l") (C9 (C8 K hu) (qV 0) b5 (fun _ _=>rfl)))
   (A0 (S2 (fV (Q0 (E6 (D2 K (qC Z4 (hr.mono (by decide)) j0 (d9 (qV 1) (d9 (qg T.c_MOST_IN_SIDE) i8))))) (M5 (E6 (D2 K (qC Z4 (hr.mono (by decide)) j0 (d9 (qV 2) (d9 (qg T.c_MOST_IN_SIDE) i8)))))))) (B9 (x5 eG)) T8)
   (A0 (S2 (E6 (D2 K (qB (iG K rfl) T.b_all Boot.«all» (d9 (O7 (own:=["name"]) (js:=[1,2]) (by kernel_rfl) rfl (U2 K (qC ox (hr.mono (by decide)) j0 (d9 (qV 1) (d9 (qV 2) i8)))) (fun _ _ _ _=>(T6 (i:=0) (show List.Nodup (["name","left","right"]:List Str) by decide+kernel) rfl (by walk_at "l"))) (fun _ _ _ _=>X3) (fun _ _ _ _=>(qC eI (hr.mono (by decide)) j0 (d9 (qV 0) (d9 (qV 1) (d9 (qV 2) i8)))))) i8)))) (B9 (x5 eG)) T8)
   (A0 (S2 (fV (Q0 (E6 (D2 K (qB (bO K P w) T.b_isinstance Boot.«isinstance» (d9 (qV 3) (d9 (qr "list" T.b_list Boot.«list») i8))))) (M5 (r6 ai (qB (E4 K P w) T.b_len Boot.«len» (d9 (qV 3) i8)) (qg T.c_MOST_BARS) (j9 _))))) (B9 (x5 eG)) T8)
   (B9 (x5 (qB (iG K rfl) T.b_all Boot.«all» (d9 (O7 (own:=["bar"]) (js:=[1]) (by kernel_rfl) rfl (U2 K (qV 3)) (fun _ _ _ _=>(T6 (i:=0) (show List.Nodup (["bar","left"]:List Str) by decide+kernel) rfl (by walk_at "l"))) (fun _ _ _ _=>X3) (fun _ _ _ _=>(mY (qC Z4 (hr.mono (by decide)) j0 (d9 (qV 0) (d9 (qg T.c_MOST_IN_BAR) i8))) (qz (qC eV (hr.mono (by decide)) j0 (d9 (qV 1) (d9 (qV 0) i8))))))) i8))))))))))),?_⟩
  walk_at "r"
  refine U0 (U1 (t:="tuple") (.inr (.inl ⟨rfl,_,hR.tup⟩)) (by simp) ?_)
  rw[oH]
  walk_at "r"
  refine E5 (eX hR.tup ?_)
  walk_at "r"
  rw[show(!decide ((([V.ref L.a,V.ref R.a,V.ref bl]:List V).length:Int)=3))=false from rfl]
  walk_at "r"
  refine d4 hR.tup (b9 (j:=0) rfl) ?_
  walk_at "r"
  refine d4 hR.tup (b9 (j:=1) rfl) ?_
  walk_at "r"
  refine d4 hR.tup (b9 (j:=2) rfl) ?_
  walk_at "r"
  refine⟨L.a,L.p,L.q,L.kvs,L.W,4,rfl,hR.l,by decide,fun b1 hb1 H1 m1=>?_⟩
  cases b1
  ·walk_at "r"
   exact k false ⟨fun z=>(nomatch z),fun z=>hb1.mpr z.l⟩ _ m1
  walk_at "r"
  refine⟨R.a,R.p,R.q,R.kvs,R.W,4,rfl,(hR.same m1).r,by decide,fun b2 hb2 H2 m2=>?_⟩
  have m12:=m1.trans m2
  cases b2
  ·walk_at "r"
   exact k false ⟨fun z=>(nomatch z),fun z=>hb2.mpr z.r⟩ _ m12
  have pL:=hb1.mp rfl
  have pR:=hb2.mp rfl
  have R2:=hR.same m12
  have hLl:(A8 L.W).length≤8:=by
   have z1:=pL.l1
   have z2:=pL.l2
   rw[br];omega
  walk_at "r"
  refine⟨_,_,_,_,_,_,_,_,_,_,rfl,R2.l.at_,R2.r.at_,by omega,fun l3 H3 s1 s2 n3 m3 or f3=>?_⟩
  have hlen:=or.len
  generalize hss:((s1++s2).filter fun n=>decide (n∈A8 R.W))=ss at f3
  have hssl:ss.length≤24:=by
   have z:=List.length_filter_le (fun n=>decide (n∈A8 R.W)) (s1++s2)
   rw[hss] at z;omega
  have hmem:∀n,n∈ss↔n∈A8 L.W∧n∈A8 R.W:=fun n=>by
   rw[←hss,List.mem_filter,or.mem]
   simp
  refine C7 (SqL.of f3) ?_
  refine B7 (n:=ss.length) (fun i out H'=>Same H3 H'∧∃cs:List Bool,out=cs.map V.bl∧Paired (fun c n=>(c=true↔fu n L.W R.W)) cs (ss.take i)) ⟨Same.refl _,[],rfl,.nil⟩ (fun i out H' hi hp=>⟨_,.str (ss[i]),SqL.of (hp.1 _ _ f3),by rw[List.getElem?_map,List.getElem?_eq_getElem hi];rfl⟩) ?_ ?_
  ·rintro N i v out H4' H4 hi ⟨s4,cs,rfl,hcs⟩ y hN'
   obtain⟨rfl,hx⟩:=Itl.get y (SqL.of (s4 _ _ f3))
   rw[List.getElem?_map,List.getElem?_eq_getElem hi] at hx
   cases hx
   have R4:=R2.same (m3.trans s4)
   have hcl:=hcs.length
   rw[List.length_take] at hcl
   walk_at "r"
   refine⟨rfl,?_⟩
   walk_at "r"
   refine⟨_,L,R,rfl,R4.l,R4.r,fun c hc=>?_⟩
   refine⟨d7 (by rw[List.length_map];omega),hN' _ _ ⟨s4,cs++[c],by rw[List.map_append];rfl,?_⟩⟩
   rw[List.take_succ,List.getElem?_eq_getElem hi]
   exact nY hcs (.cons hc .nil)
  rintro out H4 ⟨s4,cs,rfl,hcs⟩
  rw[List.take_of_length_le (Nat.le_refl _)] at hcs
  have hcl:=hcs.length
  refine⟨⟨_,SqL.of (s4 _ _ f3),by rw[List.length_map];exact Nat.le_refl _⟩,fun D hD=>⟨d7 (by rw[List.length_map];omega),?_⟩⟩
  obtain⟨H5,e5,f5,m5,_⟩:=b6 (H:=H4) (o:= .lst (cs.map V.bl)) hD
  walk_at "r"
  change mz K _ (A5 H4 D _) _
  rw[e5]
  refine cZ (bs:=cs) (SqL.of f5) ?_
  have m15:=m12.trans (m3.trans (s4.trans m5))
  have R5:=hR.same m15
  cases hca:cs.all id
  ·walk_at "r"
   refine k false ⟨fun z=>(nomatch z),fun z=>?_⟩ _ m15
   obtain⟨c,hc1,hc2⟩:=cw hca
   obtain⟨n,hn,hag⟩:=jr hcs hc1
   have hn':=(hmem n).mp hn
   have:=hag.mpr (z.ag n hn'.1 hn'.2)
   rw[this] at hc2;cases hc2
  have hag:∀n∈A8 L.W,n∈A8 R.W→fu n L.W R.W:=fun n h1 h2=>by
   obtain⟨c,hc,hz⟩:=jw hcs ((hmem n).mpr ⟨h1,h2⟩)
   exact hz.mp (List.all_eq_true.mp hca c hc)
  walk_at "r"
  refine U0 (U1 (t:="list") (.inl ⟨rfl,_,R5.bl⟩) (by simp) ?_)
  rw[show Y8 "list" "list"=true from rfl]
  walk_at "r"
  refine E5 (K3 R5.bl ?_)
  rw[List.length_map]
  walk_at "r"
  refine P5 (fun c3=>?_) (fun c3=>?_)
  ·walk_at "r"
   exact k false ⟨fun z=>(nomatch z),fun z=>by have:=z.len;rw[List.length_map] at this;omega⟩ _ m15
  walk_at "r"
  refine C7 R5.bl ?_
  refine B7 (n:=bs.length) (fun i out H'=>Same H5 H'∧∃cs:List Bool,out=cs.map V.bl∧Paired (fun c (b:Sd)=>(c=true↔PieceX 6 b.W∧(∀x∈L.W.pts,x∈b.W.pts)∧∀x∈L.W.ts,x∈b.W.ts)) cs (bs.take i)) ⟨Same.refl _,[],rfl,.nil⟩ (fun i out H' hi hp=>⟨_,.ref (bs[i]).a,hp.1.seq R5.bl,by rw[List.getElem?_map,List.getElem?_eq_getElem hi];rfl⟩) ?_ ?_
  ·rintro N i v out H6' H6 hi ⟨s6,cs6,rfl,hcs6⟩ y hN'
   obtain⟨rfl,hx⟩:=Itl.get y (s6.seq R5.bl)
   rw[List.getElem?_map,List.getElem?_eq_getElem hi] at hx
   cases hx
   have R6:=R5.same s6
   have B6:=R6.bars _ (List.getElem_mem hi)
   have hcl6:=hcs6.length
   rw[List.length_take] at hcl6
   have put:∀(c:Bool) (H':Hp),Same H6 H'→(c=true↔PieceX 6 bs[i].W∧(∀x∈L.W.pts,x∈bs[i].W.pts)∧∀x∈L.W.ts,x∈bs[i].W.ts)→(cs6.map V.bl).length≤sizeLine∧N (cs6.map V.bl++[V.bl c]) H':=fun c H' mm hc=>by
    refine⟨d7 (by rw[List.length_map];omega),hN' _ _ ⟨s6.trans mm,cs6++[c],by rw[List.map_append];rfl,?_⟩⟩
    rw[List.take_succ,List.getElem?_eq_getElem hi]
    exact nY hcs6 (.cons hc .nil)
   walk_at "r"
   refine⟨rfl,?_⟩
   walk_at "r"
   refine⟨_,_,_,_,_,6,rfl,B6,by decide,fun b7 hb7 H7 m7=>?_⟩
   cases b7
   ·refine⟨false,rfl,?_⟩
    rw[if_neg (by decide)]
    exact put false _ m7 ⟨fun z=>(nomatch z),fun z=>hb7.mpr z.1⟩
   refine⟨true,rfl,?_⟩
   rw[if_pos rfl]
   walk_at "r"
   refine⟨_,_,_,_,_,_,_,_,_,_,rfl,(R6.same m7).l,B6.same m7,fun b8 hb8 H8 m8=>?_⟩
   exact put b8 _ (m7.trans m8) ⟨fun z=>⟨hb7.mp rfl,hb8.mp z⟩,fun z=>hb8.mpr z.2⟩
  rintro out H6 ⟨s6,cs6,rfl,hcs6⟩
  rw[List.take_of_length_le (Nat.le_refl _)] at hcs6
  have hcl6:=hcs6.length
  refine⟨⟨_,s6.seq R5.bl,by rw[List.length_map];exact Nat.le_refl _⟩,fun D6 hD6=>⟨d7 (by rw[List.length_map];omega),?_⟩⟩
  obtain⟨H7,e7,f7,m7,_⟩:=b6 (H:=H6) (o:= .lst (cs6.map V.bl)) hD6
  walk_at "r"
  change mz K _ (A5 H6 D6 _) _
  rw[e7]
  refine cZ (bs:=cs6) (SqL.of f7) ?_
  refine k _ ⟨fun z=>⟨pL,pR,hag,by rw[List.length_map];omega,fun b hb=>?_⟩,fun z=>List.all_eq_true.mpr fun c hc=>?_⟩ _ (m15.trans (s6.trans m7))
  ·obtain⟨sd,hsd,rfl⟩:=List.mem_map.mp hb
   obtain⟨c,hc,hz⟩:=jw hcs6 hsd
   exact hz.mp (List.all_eq_true.mp z c hc)
  ·obtain⟨sd,hsd,hz⟩:=jr hcs6 hc
   exact hz.mpr (z.bars _ (List.mem_map.mpr ⟨sd,hsd,rfl⟩))
theorem aX (x y s:Str):J5 (x++y) s=(J5 x s&&J5 y s):=by
 unfold J5
 rw[show(x++y).cps.toList=x.cps.toList++y.cps.toList from Array.toList_append,List.all_append]
theorem M0 {c:Nat}{s:Str}(h:c∈s.cps.toList):J5 ⟨#[c]⟩ s=true:=by
 unfold J5
 simpa using h
theorem Q8 {x s:Str}(h:J5 x s=true){c:Nat}(hc:c∈x.cps.toList):c∈s.cps.toList:=of_decide_eq_true (List.all_eq_true.mp h c hc)
theorem aN {x y s:Str}(h:J5 y s=true)(hs:∀c∈x.cps.toList,c∈y.cps.toList):J5 x s=true:=List.all_eq_true.mpr fun c hc=>decide_eq_true (Q8 h (hs c hc))
theorem ph (b:Str)(i:Int)(h0:0≤i)(h1:i≤b.length):(Txt.slice b none (some i)).cps.toList=b.cps.toList.take i.toNat:=by
 have e:Txt.slice b none (some i)=⟨((b.cps.toList.drop 0).take (i -0).toNat).toArray⟩:=by
  show StrLaws.sliceText b none (some i)=_
  exact StrLaws.sliceText_to ⟨h0,by simpa [Str.length] using h1⟩
 rw[e]
 simp
theorem gi (b:Str)(i:Int)(h0:0≤i)(h1:i≤b.length):(Txt.slice b (some i) none).cps.toList=b.cps.toList.drop i.toNat:=by
 have hl:(b.length:Int)=b.cps.toList.length:=by simp [Str.length]
 have e:Txt.slice b (some i) none=⟨((b.cps.toList.drop i.toNat).take ((b.cps.toList.length:Int) -i).toNat).toArray⟩:=by
  show StrLaws.sliceText b (some i) none=_
  exact StrLaws.sliceText_from ⟨h0,by omega⟩
 rw[e]
 show(b.cps.toList.drop i.toNat).take ((b.cps.toList.length:Int) -i).toNat=_
 exact List.take_of_length_le (by rw[List.length_drop];omega)
theorem Y4 (i:Int)(h0:0≤i)(h1:i<26):Z5 i∈kSL.cps.toList:=by
 have hl:kSL.cps.toList.length=26:=by decide+kernel
 unfold Z5
 rw[List.getD_eq_getElem?_getD,List.getElem?_eq_getElem (by rw[hl];omega)]
 exact List.getElem_mem _
theorem uF:∀c∈kSL.cps.toList,c∈kNS.cps.toList:=by decide+kernel
theorem AL:kSL++("0123456789.":Str)=kNS:=by decide+kernel
theorem oI (c:Nat):∀(n:Nat) (a:Array Nat) (x:Nat),x∈((List.replicate n #[c]).foldl (·++·) a).toList→x∈a.toList∨x=c
 |0,a,x,h=> .inl h
 |n+1,a,x,h=>by
  rw[List.replicate_succ,List.foldl_cons] at h
  rcases oI c n _ x h with h|h
  ·rw[Array.toList_append,List.mem_append] at h
   rcases h with h|h
   ·exact .inl h
   ·exact .inr (by simpa using h)
  ·exact .inr h
theorem kh (c:Nat)(n:Int)(x:Nat)(h:x∈(Txt.mul ⟨#[c]⟩ n).cps.toList):x=c:=by
 unfold Txt.mul at h
 split at h
 ·exact absurd h (by simp [Str.empty])
 ·split at h
  ·simpa using h
  ·rcases oI c _ _ x h with z|z
   ·simp at z
   ·exact z
theorem kP (c:Nat)(n:Int)(h:0≤n):(Txt.mul ⟨#[c]⟩ n).length=n.toNat:=by
 unfold Txt.mul
 split
 ·show 0=n.toNat
  omega
 ·split
  ·next h=>
   have h':n=1:=by simpa [Str.length] using h
   rw[h'];rfl
  ·show((List.replicate n.toNat (#[c]:Array Nat)).foldl (·++·) #[]).size=n.toNat
   rw[eo];simp
theorem lg {x s : Str} (h : J5 x s = true) (h1 : 1 ≤ x.length) : lQ x s = true := by
  unfold lQ
  refine decide_eq_true (Q8 h ?_)
  cases e : x.cps.toList with
  | nil => exfalso; have : x.cps.toList.length = x.length := by simp [Str.length]
           rw [e] at this; simp at this; omega
  | cons a r => exact List.mem_cons_self
theorem bg {x s:Str}{m:Int}(h1:1≤x.length)(h2:(x.length:Int)≤m)(h3:J5 x s=true):J0 x s m=true:=by
 unfold J0
 rw[h3,decide_eq_true (by omega),decide_eq_true h2];rfl
theorem qF (c:Int)(k:Nat)(hk:k<24):x8 (oh c k)=true:=by
 have hs:J5 (oh c k) kSL=true:=aN (y:=⟨#[Z5 (c/4 % 26)]⟩) (M0 (Y4 _ (by omega) (by omega))) fun x hx=>by
  rw[kh _ _ x hx];exact List.mem_singleton_self _
 have hl:=ib c k
 unfold x8
 rw[bg (by omega) (by omega) (aN (y:=kSL) (by decide+kernel) fun x hx=>Q8 hs hx),lg hs (by omega)];rfl
theorem qm (b:Str)(at_ c:Int)(k:Nat)(h0:0≤at_)(h1:at_≤b.length)(hb:b.length≤23)(hb1:1≤b.length)(ha:J5 b kNS=true)(hh:lQ b kSL=true):x8 (iA b at_ c k)=true:=by
 have e:(iA b at_ c k).cps.toList=b.cps.toList.take at_.toNat++[Z5 ((0+(k:Int)+c/4) % 26)]++b.cps.toList.drop at_.toNat:=by
  unfold iA
  rw[show ∀x y:Str,(x++y).cps.toList=x.cps.toList++y.cps.toList from fun x y=>Array.toList_append,show ∀x y:Str,(x++y).cps.toList=x.cps.toList++y.cps.toList from fun x y=>Array.toList_append,ph b at_ h0 h1,gi b at_ h0 h1]
 have hm:=Y4 ((0+(k:Int)+c/4) % 26) (by omega) (by omega)
 have hbl:b.cps.toList.length=b.length:=by simp [Str.length]
 have hl:(iA b at_ c k).length=b.length+1:=by
  have z:=congrArg List.length e
  rw[List.length_append,List.length_append,List.length_take,List.length_drop,List.length_singleton] at z
  have z2:(iA b at_ c k).cps.toList.length=(iA b at_ c k).length:=by simp [Str.length]
  omega
 unfold x8
 rw[bg (by omega) (by omega) (List.all_eq_true.mpr fun x hx=>?_)]
 ·show(true&&lQ _ _)=true
  rw[Bool.true_and]
  unfold lQ
  rw[e]
  refine decide_eq_true ?_
  unfold lQ at hh
  have hh':=of_decide_eq_true hh
  cases eb:b.cps.toList with
  |nil=>rw[eb] at hbl;simp at hbl;omega
  |cons y r=>
   rw[eb] at hh'
   cases hn:at_.toNat with
   |zero=>exact hm
   |succ j=>exact hh'
 ·rw[e] at hx
  refine decide_eq_true ?_
  rcases List.mem_append.mp hx with hx|hx
  ·rcases List.mem_append.mp hx with hx|hx
   ·exact Q8 ha (List.mem_of_mem_take hx)
   ·rw[List.mem_singleton.mp hx];exact uF _ hm
  ·exact Q8 ha (List.mem_of_mem_drop hx)
theorem BW (z:Str)(h:z.length≤9):(Txt.slice z (some 1) (some 9)).cps.toList=z.cps.toList.drop 1:=by
 by_cases h1:1≤z.length
 ·have e:Txt.slice z (some 1) (some 9)=Txt.slice z (some 1) none:=by
   show StrLaws.sliceText z (some 1) (some 9)=StrLaws.sliceText z (some 1) none
   have q:Builtin.Str.strSliceIndices (some 1) (some 9) 1 z.length=Builtin.Str.strSliceIndices (some 1) none 1 z.length:=by
    unfold Builtin.Str.strSliceIndices
    have e1:max (0:Int) (min (9:Int) (z.length:Int))=z.length:=by omega
    simp [e1]
   unfold StrLaws.sliceText
   rw[q]
  rw[e]
  exact gi z 1 (by omega) (by omega)
 ·have e:z.cps.toList=[]:=by
   have q:z.cps.toList.length=z.length:=by simp [Str.length]
   exact List.length_eq_zero_iff.mp (by omega)
  rw[e]
  have q:=Txt.slice_le z (some 1) (some 9)
  have q2:(Txt.slice z (some 1) (some 9)).cps.toList.length=(Txt.slice z (some 1) (some 9)).length:=by simp [Str.length]
  exact List.length_eq_zero_iff.mp (by omega)
theorem iF {f:Addr}{fd:FuncData}(T:Txt K mg)(F:Fun K "_law_mixed" "_law_mixed" N1 f fd):E3 P w K mg base B4 1 f fd ["_law_cell","_law_k"] (E1 K):=by
 refine F.ok sc__law_mixed (fun vs H Q E h=>?_) (fun cdv A outer s H vs Q E hr h=>?_)
 ·obtain⟨c,k,rfl,_⟩:=h
  rfl
 ·obtain⟨c,k,rfl,h0,h1,q⟩:=h
  have hN:=sc__law_mixed.nd
  have hu:=C0 hr
  refine⟨_,QSs.r (A0 (u6 (i:=2) hN rfl (by walk_at "l") (p0 j8 (p0 (t7 K) (p0 j8 (qV 0) b5) (p0 op_mulY b5 (p0 (t7 K) (qV 1) b5))) b5))
   (A0 (u6 (i:=2) hN rfl (by walk_at "l") (p0 j8 (p0 (t7 K) (p0 (t7 K) (p0 op_mulY (qV 2) (qV 2)) (p0 op_mulY b5 (qV 1))) b5) b5))
   (B9 (x5 (p0 j8 (p0 op_mulY (qV 2) (qV 2)) b5))))),?_⟩
  walk_at "r"
  exact q _ (by omega)
theorem iC {f : Addr} {fd : FuncData} (T : Txt K mg) (i4 : E2 P w K mg base B4 1 "_law_mixed" ["_law_cell", "_law_k"] [] (E1 K)) (F : Fun K "_law_names" "_law_names" N7 f fd) : E3 P w K mg base B4 2 f fd ["_law_cell", "_law_many_here"] (aF K) := by
  refine F.ok sc__law_names (fun vs H Q E h => ?_) (fun cdv A outer s H vs Q E hr h => ?_)
  · obtain ⟨c, n, rfl, _⟩ := h
    rfl
  · obtain ⟨c, n, rfl, h0, h1, k⟩ := h
    have hN := sc__law_names.nd
    have hu := C0 hr
    refine ⟨_, QSs.r (A0 (u6 (i := 2) hN rfl (by walk_at "l") z9)
      (A0 (S2 (r6 (W6 K hr) (p0 j8 (qV 0) b5) b5 (j9 _)) (B9 (x5 (O7 (own := ["_law_k"]) (js := [2, 0]) (by kernel_rfl) rfl (fX T.b_range (d9 (qV 1) i8)) (fun _ _ _ _ => (T6 (i := 0) (show List.Nodup (["_law_k", "_law_letters", "_law_cell"] : List Str) by decide +kernel) rfl (by walk_at "l"))) (fun _ _ _ _ => X3) (fun _ _ _ _ => (p0 op_mulY (C9 (C8 K hu) (qV 1) (p0 j8 (p0 C4 (qV 2) b5) b5) (fun _ _ => rfl)) (p0 (t7 K) (qV 0) b5)))))) T8)
      (A0 (u6 (i := 3) hN rfl (by walk_at "l") (p0 (t7 K) (qV 2) z9))
      (A0 (u6 (i := 4) hN rfl (by walk_at "l") (C9 (C8 K hu) (qV 2) (p0 j8 (p0 C4 (qV 0) b5) b5) (fun _ _ => rfl)))
      (A0 (aP PassesOwn.never rfl (fX T.b_range (d9 (p0 j8 (p0 C4 (qV 0) b5) b5) i8)) (T6 (i := 5) hN rfl (by walk_at "l"))
        (B9 (u6 (i := 4) hN rfl (by walk_at "l") (p0 (t7 K) (qV 4) (C9 (C8 K hu) (qV 3) (p0 j8 (qC i4 (hr.mono (by decide)) j0 (d9 (p0 C4 (qV 0) b5) (d9 (qV 5) i8))) b5) (fun _ _ => rfl))))))
      (A0 (u6 (i := 6) hN rfl (by walk_at "l") (p0 j8 (qC i4 (hr.mono (by decide)) j0 (d9 (qV 0) (d9 b5 i8))) (p0 (t7 K) (qB (E4 K P w) T.b_len Boot.«len» (d9 (qV 4) i8)) b5)))
      (B9 (x5 (O7 (own := ["_law_k"]) (js := [4, 2, 6, 0]) (by kernel_rfl) rfl (fX T.b_range (d9 (qV 1) i8)) (fun _ _ _ _ => (T6 (i := 0) (show List.Nodup (["_law_k", "_law_base", "_law_letters", "_law_at", "_law_cell"] : List Str) by decide +kernel) rfl (by walk_at "l"))) (fun _ _ _ _ => X3) (fun _ _ _ _ => (p0 (t7 K) (p0 (t7 K) (bT (bU K) (qV 1) dA (aM (qV 3))) (C9 (C8 K hu) (qV 2) (p0 j8 (p0 (t7 K) (qV 0) (p0 C4 (qV 4) b5)) b5) (fun _ _ => rfl))) (bT (bU K) (qV 1) (aM (qV 3)) dA)))))))))))), ?_⟩
    refine jf ?_
    walk_at "e"
    refine Ao (fun σ H' => H' = H ∧ σ = [some (.int c), some (.int n), some (.str kSL), none, none, none, none]) ?_ ?_
    · rintro σ H0 ⟨rfl, rfl⟩
      refine jf ?_
      walk_at "e"
      refine o3 (by decide +kernel) ?_
      walk_at "e"
      refine jf ?_
      walk_at "e"
      have hch := dz (c / 4 % 26) (by omega) (by omega)
      have hcm := Y4 (c / 4 % 26) (by omega) (by omega)
      refine M3 U6 hch ?_
      walk_at "e"
      refine jf ?_
      walk_at "e"
      refine P8 (by omega) (by omega) ?_
      refine G7 (n := (c / 104 % 23).toNat) (fun i σ H' => H' = H0 ∧ ∃ (b : Str) (v : Option V), σ = [some (.int c), some (.int n), some (.str kSL), some (.str (kSL ++ ("0123456789." : Str))), some (.str b), v, none] ∧ b.length = i + 1 ∧ J5 b kNS = true ∧ lQ b kSL = true) ⟨rfl, _, none, rfl, rfl, M0 (uF _ hcm), lg (M0 hcm) (Nat.le_refl 1)⟩ (fun i σ H' hi _ => by exact hi) ?_ ?_
      · rintro _ i v σ H1 H2 hi ⟨rfl, b, v', rfl, hb, hba, hbh⟩ ⟨rfl, rfl⟩
        walk_at "e"
        refine ⟨_, _, rfl, by omega, by omega, fun m hm => ?_⟩
        walk_at "e"
        have hl : (kSL ++ ("0123456789." : Str)).cps.toList.length = 37 := by decide +kernel
        obtain ⟨c2, hc2, hc2m⟩ := kx (xs := (kSL ++ ("0123456789." : Str)).cps.toList) (i := m % 37) (by omega) (by rw [hl]; omega)
        refine M3 (by decide +kernel) hc2 ?_
        refine o3 (j := ⟨#[c2]⟩) (d7 (by rw [o9]; omega)) ?_
        walk_at "e"
        have hc2n : c2 ∈ kNS.cps.toList := by rw [← AL]; exact List.mem_of_getElem? hc2m
        refine ⟨rfl, _, _, rfl, by rw [i7, o9]; omega, by rw [aX, hba, M0 hc2n]; rfl, ?_⟩
        unfold lQ at hbh ⊢
        rw [show (b ++ (⟨#[c2]⟩ : Str)).cps.toList = b.cps.toList ++ [c2] from Array.toList_append]
        cases eb : b.cps.toList with
        | nil => have z : b.cps.toList.length = b.length := by simp [Str.length]
                 rw [eb] at z; simp at z; omega
        | cons y r => rw [eb] at hbh; exact hbh
      · rintro σ H1 ⟨rfl, b, v', rfl, hb, hba, hbh⟩
        refine ⟨Nat.le_refl _, ?_⟩
        have hb2 : b.length ≤ 23 := by omega
        refine jf ?_
        walk_at "e"
        refine ⟨_, _, rfl, by omega, by omega, fun m hm => ?_⟩
        walk_at "e"
        refine E5 (Q6 (d7 (by omega)) ?_)
        walk_at "e"
        refine P8 h0 (by omega) ?_
        refine B7 (n := n.toNat) (fun i out H' => H' = H1 ∧ out = (List.range i).map fun k => V.str (iA b (m % ((b.length : Int) + 1)) c k)) ⟨rfl, rfl⟩ (fun i out H' hi _ => by exact hi) ?_ ?_
        · rintro N i v out H2 H3 hi ⟨rfl, rfl⟩ ⟨rfl, rfl⟩ hN'
          walk_at "e"
          refine ⟨rfl, ?_⟩
          walk_at "e"
          refine z8 (d7 (by omega)) ?_
          walk_at "e"
          have hc3 := dz ((0 + (i : Int) + c / 4) % 26) (by omega) (by omega)
          refine M3 U6 hc3 ?_
          have g1 := Txt.slice_le b Option.none (some (m % ((b.length : Int) + 1)))
          have g2 := Txt.slice_le b (some (m % ((b.length : Int) + 1))) Option.none
          refine o3 (j := ⟨#[Z5 ((0 + (i : Int) + c / 4) % 26)]⟩) (d7 (by rw [o9]; omega)) ?_
          walk_at "e"
          refine z8 (d7 (by omega)) ?_
          refine o3 (d7 (by rw [i7, o9]; omega)) ?_
          refine ⟨d7 (by rw [List.length_map, List.length_range]; omega), hN' _ _ ⟨rfl, ?_⟩⟩
          rw [List.range_succ, List.map_append]; rfl
        · rintro out H2 ⟨rfl, rfl⟩
          refine ⟨Nat.le_refl _, fun D hD => ⟨d7 (by rw [List.length_map, List.length_range]; omega), ?_⟩⟩
          obtain ⟨H5, e5, f5, m5, _⟩ := b6 (o := .lst _) hD
          refine k D _ ((List.range n.toNat).map (iA b (m % ((b.length : Int) + 1)) c)) hD ?_ ?_ ⟨by rw [List.length_map, List.length_range], pH _ _ _ _ (by omega), fun s hs => ?_⟩
          · show Same _ (A5 _ D _)
            rw [e5]; exact m5
          · show A5 _ D _ D = _
            rw [g7, List.map_map]; rfl
          · obtain ⟨i, _, rfl⟩ := List.mem_map.mp hs
            have hz0 := Int.emod_nonneg m (show (b.length : Int) + 1 ≠ 0 by omega)
            have hz1 := Int.emod_lt_of_pos m (show (0 : Int) < (b.length : Int) + 1 by omega)
            exact qm b _ c i hz0 (by omega) (by omega) (by omega) hba hbh
    · intro nx hn
      walk_at "e"
      refine P5 (fun h => ?_) (fun h => ?_)
      · walk_at "e"
        refine P8 h0 (by omega) ?_
        refine B7 (n := n.toNat) (fun i out H' => H' = H ∧ out = (List.range i).map fun k => V.str (oh c k)) ⟨rfl, rfl⟩ (fun i out H' hi _ => by exact hi) ?_ ?_
        · rintro N i v out H2 H3 hi ⟨rfl, rfl⟩ ⟨rfl, rfl⟩ hN'
          walk_at "e"
          refine ⟨rfl, ?_⟩
          walk_at "e"
          have hc3 := dz (c / 4 % 26) (by omega) (by omega)
          refine M3 U6 hc3 ?_
          walk_at "e"
          refine cW (z := ⟨#[Z5 (c / 4 % 26)]⟩) (by rw [o9]; omega) (by omega) (by omega) ?_
          refine ⟨d7 (by rw [List.length_map, List.length_range]; omega), hN' _ _ ⟨rfl, ?_⟩⟩
          rw [List.range_succ, List.map_append]; rfl
        · rintro out H2 ⟨rfl, rfl⟩
          refine ⟨Nat.le_refl _, fun D hD => ⟨d7 (by rw [List.length_map, List.length_range]; omega), ?_⟩⟩
          obtain ⟨H5, e5, f5, m5, _⟩ := b6 (o := .lst _) hD
          refine k D _ ((List.range n.toNat).map (oh c)) hD ?_ ?_ ⟨by rw [List.length_map, List.length_range], vx _ _, fun s hs => ?_⟩
          · show Same _ (A5 _ D _)
            rw [e5]; exact m5
          · show A5 _ D _ D = _
            rw [g7, List.map_map]; rfl
          · obtain ⟨i, hi, rfl⟩ := List.mem_map.mp hs
            have hi' := List.mem_range.mp hi
            exact qF c i (by omega)
      · walk_at "e"
        exact hn _ _ ⟨rfl, rfl⟩
theorem iI {f:Addr}{fd:FuncData}(T:Txt K mg)(F:Fun K "_law_kinds" "_law_kinds" N6 f fd):E3 P w K mg base B4 1 f fd ["_law_cell"] (V6 K):=by
 refine F.ok sc__law_kinds (fun vs H Q E h=>?_) (fun cdv A outer s H vs Q E hr h=>?_)
 ·obtain⟨c,rfl,_⟩:=h
  rfl
 ·obtain⟨c,rfl,k⟩:=h
  have hN:=sc__law_kinds.nd
  have hu:=C0 hr
  refine⟨_,QSs.r (A0 (u6 (i:=1) hN rfl (by walk_at "l") z9)
   (A0 (u6 (i:=2) hN rfl (by walk_at "l") (C9 (C8 K hu) (qV 1) (p0 j8 (qV 0) b5) (fun _ _=>rfl)))
   (A0 (u6 (i:=3) hN rfl (by walk_at "l") (C9 (C8 K hu) (qV 1) (p0 j8 (p0 C4 (qV 0) b5) b5) (fun _ _=>rfl)))
   (A0 (u6 (i:=4) hN rfl (by walk_at "l") (p0 j8 (p0 C4 (qV 0) b5) b5))
   (B9 (x5 (aI (d9 (p0 (t7 K) (qV 2) (p0 op_mulY (qV 3) (qV 4))) (d9 (p0 (t7 K) (p0 op_mulY (qV 3) (qV 4)) (qV 2)) (d9 (bT (bU K) (p0 (t7 K) (p0 op_mulY (qV 2) (p0 (t7 K) (qV 4) b5)) (qV 3)) (aM b5) (aM b5)) i8)))))))))),?_⟩
  walk_at "r"
  have hch:=dz (c % 26) (by omega) (by omega)
  have hcm:=Y4 (c % 26) (by omega) (by omega)
  generalize Z5 (c % 26)=ch at hch hcm
  refine M3 U6 hch ?_
  walk_at "r"
  have hco:=dz (c/26 % 26) (by omega) (by omega)
  have hom:=Y4 (c/26 % 26) (by omega) (by omega)
  generalize Z5 (c/26 % 26)=co at hco hom
  refine M3 U6 hco ?_
  walk_at "r"
  have b1:=pT co (c/676 % 8) (by omega)
  have b2:=pT ch (c/676 % 8+1) (by omega)
  refine cW (z:=⟨#[co]⟩) (by rw[o9];omega) (by omega) (by omega) ?_
  refine o3 (i:=⟨#[ch]⟩) (d7 (by rw[o9];omega)) ?_
  walk_at "r"
  refine cW (z:=⟨#[co]⟩) (by rw[o9];omega) (by omega) (by omega) ?_
  walk_at "r"
  refine o3 (j:=⟨#[ch]⟩) (d7 (by rw[o9];omega)) ?_
  walk_at "r"
  refine cW (z:=⟨#[ch]⟩) (by rw[o9];omega) (by omega) (by omega) ?_
  walk_at "r"
  refine o3 (j:=⟨#[co]⟩) (d7 (by rw[o9];omega)) ?_
  walk_at "r"
  refine z8 (d7 (by rw[i7,o9];omega)) ?_
  walk_at "r"
  refine⟨d7 (by simp),fun p n=>?_⟩
  obtain⟨H5,e5,f5,m5,_⟩:=b6 (o:= .lst _) n
  rw[e5]
  have z1:=kP co (c/676 % 8) (by omega)
  have z2:=kP ch (c/676 % 8+1) (by omega)
  have a1:J5 (Txt.mul ⟨#[co]⟩ (c/676 % 8)) kSL=true:=aN (y:=⟨#[co]⟩) (M0 hom) fun x hx=>by rw[kh _ _ x hx];exact List.mem_singleton_self _
  have a2:J5 (Txt.mul ⟨#[ch]⟩ (c/676 % 8+1)) kSL=true:=aN (y:=⟨#[ch]⟩) (M0 hcm) fun x hx=>by rw[kh _ _ x hx];exact List.mem_singleton_self _
  refine k p H5 [_,_,_] n m5 f5 ⟨rfl,fun x hx=>?_⟩
  rcases List.mem_cons.mp hx with rfl|hx
  ·exact bg (by rw[i7,o9];omega) (by rw[i7,o9];omega) (by rw[aX,M0 hcm,a1];rfl)
  rcases List.mem_cons.mp hx with rfl|hx
  ·exact bg (by rw[i7,o9];omega) (by rw[i7,o9];omega) (by rw[aX,M0 hcm,a1];rfl)
  rw[List.mem_singleton.mp hx]
  have hA:J5 (Txt.mul ⟨#[ch]⟩ (c/676 % 8+1)++(⟨#[co]⟩:Str)) kSL=true:=by rw[aX,a2,M0 hom];rfl
  have hL:(Txt.mul ⟨#[ch]⟩ (c/676 % 8+1)++(⟨#[co]⟩:Str)).length=(c/676 % 8).toNat+2:=by rw[i7,o9];omega
  generalize Txt.mul ⟨#[ch]⟩ (c/676 % 8+1)++(⟨#[co]⟩:Str)=z at hA hL
  have e9:=BW z (by omega)
  have hl9:(Txt.slice z (some 1) (some 9)).length=(c/676 % 8).toNat+1:=by
   have q1:(Txt.slice z (some 1) (some 9)).cps.toList.length=(Txt.slice z (some 1) (some 9)).length:=by simp [Str.length]
   have q2:z.cps.toList.length=z.length:=by simp [Str.length]
   rw[e9,List.length_drop] at q1
   omega
  exact bg (by omega) (by omega) (aN hA fun x hx=>by rw[e9] at hx;exact List.mem_of_mem_drop hx)
theorem ft {x s:Str}{m:Int}(h:J0 x s m=true):(x.length:Int)≤m:=by
 unfold J0 at h
 simp only[Bool.and_eq_true,decide_eq_true_eq] at h
 exact h.1.2
theorem P9 (x y:Str):(x++y).cps.toList=x.cps.toList++y.cps.toList:=Array.toList_append
theorem S0 {x y:Str}(h:x.cps.toList=y.cps.toList):x=y:=Str.ext' (Array.toList_inj.mp h)
theorem J3 (x:Str):x.cps.toList.length=x.length:=by simp [Str.length]
theorem gO {c:Nat}:∀{u u' v v':List Nat},c∉u→c∉u'→u++c::v=u'++c::v'→u=u'∧v=v'
 |[],[],v,v',_,_,h=>⟨rfl,(List.cons.inj h).2⟩
 |[],y::t,v,v',_,h',h=>absurd (List.mem_cons.mpr (.inl (List.cons.inj h).1)) h'
 |x::r,[],v,v',h',_,h=>absurd (List.mem_cons.mpr (.inl (List.cons.inj h).1.symm)) h'
 |x::r,y::t,v,v',h1,h2,h=>by
  have e:=List.cons.inj h
  have z:=gO (fun m=>h1 (List.mem_cons_of_mem _ m)) (fun m=>h2 (List.mem_cons_of_mem _ m)) e.2
  exact⟨by rw[e.1,z.1],z.2⟩
theorem lG (x y:Str):PySem.Txt.split x y≠[]:=by
 unfold PySem.Txt.split
 split
 ·simp
 ·split
  ·simp
  ·rw[StrLaws.partsBetween_eq]
   obtain⟨p,r,e⟩:=StrLaws.partsFrom_ne x y.length 0 (Builtin.Str.occurrences x y 0 x.length (x.length+1))
   rw[e];simp
theorem jz (x:Str)(c i:Nat):StrLaws.At x ⟨#[c]⟩ x.length i↔x.cps.toList[i]?=some c:=StrLaws.subAt_one x c i
theorem gr (c:Nat)(n r:Str)(h:c∉n.cps.toList):PySem.Txt.partition (n++(⟨#[c]⟩:Str)++r) ⟨#[c]⟩=(n,⟨#[c]⟩,r):=by
 have e:(n++(⟨#[c]⟩:Str)++r).cps.toList=n.cps.toList++c::r.cps.toList:=by rw[P9,P9,List.append_assoc];rfl
 generalize n++(⟨#[c]⟩:Str)++r=x at e
 have hn:x.cps.toList[n.cps.toList.length]?=some c:=by rw[e];simp
 unfold PySem.Txt.partition
 rcases StrLaws.occ_head x ⟨#[c]⟩ 1 (Nat.le_refl 1) with⟨_,h2⟩|⟨i,t,h1,h2,h3⟩
 ·exact absurd ((jz x c _).mpr hn) (h2 _)
 ·have hi:=(jz x c i).mp h2
  have e1:¬n.cps.toList.length<i:=fun z=>h3 _ z ((jz x c _).mpr hn)
  have e2:¬i<n.cps.toList.length:=fun z=>by
   rw[e,List.getElem?_append_left z] at hi
   exact h (List.mem_of_getElem? hi)
  have e3:i=n.cps.toList.length:=by omega
  rw[h1]
  show(Builtin.Str.strSub x 0 i,(⟨#[c]⟩:Str),Builtin.Str.strSub x (i+1) x.length)=_
  have q1:Builtin.Str.strSub x 0 i=n:=S0 (by rw[StrLaws.strSub_toList,e,e3];simp)
  have q2:Builtin.Str.strSub x (i+1) x.length=r:=S0 (by
   rw[StrLaws.strSub_toList,←J3,e,e3]
   have z:(n.cps.toList++c::r.cps.toList).drop (n.cps.toList.length+1)=r.cps.toList:=by
    rw[List.drop_append];simp
   rw[z]
   exact List.take_of_length_le (by simp;omega))
  rw[q1,q2]
theorem pY (c:Nat)(x:Str)(h:c∉x.cps.toList):PySem.Txt.partition x ⟨#[c]⟩=(x,Str.empty,Str.empty):=by
 unfold PySem.Txt.partition
 rcases StrLaws.occ_head x ⟨#[c]⟩ 1 (Nat.le_refl 1) with⟨h1,_⟩|⟨i,t,_,h2,_⟩
 ·rw[h1]
 ·exact absurd (List.mem_of_getElem? ((jz x c i).mp h2)) h
theorem qL (c:Nat)(x:Str):PySem.Txt.endswith (x++(⟨#[c]⟩:Str)) ⟨#[c]⟩=true:=by
 unfold PySem.Txt.endswith
 have hl:(x++(⟨#[c]⟩:Str)).length=x.length+1:=by rw[i7,o9]
 have h:=(StrLaws.subAt_one (x++(⟨#[c]⟩:Str)) c x.length).mpr (by rw[P9,←J3 x];simp)
 rw[hl]
 show(decide (0+1≤x.length+1)&&Builtin.Str.subAt (x++(⟨#[c]⟩:Str)) ⟨#[c]⟩ (x.length+1 -1))=true
 rw[Nat.add_sub_cancel,h.2,decide_eq_true (by omega)];rfl
theorem oX (c:Nat)(x:Str):PySem.Txt.slice (x++(⟨#[c]⟩:Str)) none (some (-1))=x:=by
 have hl:(x++(⟨#[c]⟩:Str)).length=x.length+1:=by rw[i7,o9]
 show StrLaws.sliceText _ none (some (-1))=x
 rw[StrLaws.sliceText_neg_hi _ _ (by omega) (by omega),hl]
 show PySem.Txt.slice (x++(⟨#[c]⟩:Str)) none (some (-1+((x.length+1:Nat):Int)))=x
 refine S0 ?_
 rw[ph _ _ (by omega) (by omega),P9,show(-1+((x.length+1:Nat):Int)).toNat=x.cps.toList.length by rw[J3];omega]
 simp
def Af (x:Str×Str):Str:=x.1++":"++x.2
def si (x:Str×M7):Str:=x.1++":"++x.2.1++"("++x.2.2.1++","++x.2.2.2++")"
abbrev P0:=Str×Sum Str M7
def Be (x:P0):Str:=match x.2 with
 | .inl k=>Af (x.1,k)
 | .inr t=>si (x.1,t)
def Dn (x:Str×Str):P0:=(x.1,.inl x.2)
def AD (x:Str×M7):P0:=(x.1,.inr x.2)
def items (W:G8):List P0:=W.pts.map Dn++W.ts.map AD
def As:List Str→Str
 |[]=>"-"
 |w::r=>Str.join " " (w::r)
theorem uV:(" ":Str)=⟨#[32]⟩:=by decide+kernel
theorem bw:(":":Str)=⟨#[58]⟩:=by decide+kernel
theorem di:("(":Str)=⟨#[40]⟩:=by decide+kernel
theorem fk:(",":Str)=⟨#[44]⟩:=by decide+kernel
theorem cX:(")":Str)=⟨#[41]⟩:=by decide+kernel
structure tN (x:P0):Prop where
 nm:x8 x.1=true
 pt:∀k,x.2= .inl k→o6 k=true
 ti:∀t,x.2= .inr t→o6 t.1=true∧x8 t.2.1=true∧x8 t.2.2=true
theorem fZ {x:Str}(h:x8 x=true):J5 x kNS=true:=by
 unfold x8 J0 at h
 simp only[Bool.and_eq_true] at h
 exact h.1.2
theorem gf {x:Str}(h:o6 x=true):J5 x kSL=true:=by
 unfold o6 J0 at h
 simp only[Bool.and_eq_true] at h
 exact h.2
theorem X5 {x:Str}(h:x8 x=true):x.length≤24:=by
 unfold x8 at h
 have:=ft (Bool.and_eq_true _ _▸h).1
 omega
theorem eU {x:Str}(h:o6 x=true):x.length≤8:=by
 have:=ft (show J0 x kSL 8=true from h)
 omega
theorem fK {x s:Str}{c:Nat}(h:J5 x s=true)(hc:c∉s.cps.toList):c∉x.cps.toList:=fun m=>hc (Q8 h m)
theorem DQ:58∉kNS.cps.toList:=by decide+kernel
theorem DI:44∉kNS.cps.toList:=by decide+kernel
theorem Bl:40∉kSL.cps.toList:=by decide+kernel
theorem rW (c:Nat):(⟨#[c]⟩:Str).cps.toList=[c]:=rfl
theorem me {x:P0}(h:tN x):(Be x).length≤100:=by
 obtain⟨n,k|t⟩:=x
 ·show(n++":"++k:Str).length≤100
  have l1:n.length≤24:=X5 h.nm
  have l2:=eU (h.pt k rfl)
  rw[bw,i7,i7,o9];omega
 ·obtain⟨k,a,b⟩:=t
  show(n++":"++k++"("++a++","++b++")":Str).length≤100
  have l1:n.length≤24:=X5 h.nm
  have l2:k.length≤8:=eU (h.ti _ rfl).1
  have l3:a.length≤24:=X5 (h.ti _ rfl).2.1
  have l4:b.length≤24:=X5 (h.ti _ rfl).2.2
  rw[bw,di,fk,cX]
  simp only[i7,o9];omega
theorem pJ {B:Nat}(c:Nat):∀{ws:List Str},(∀y∈ws,y.length≤B)→(Str.join ⟨#[c]⟩ ws).length≤ws.length*(B+1)
 |[],_=>Nat.zero_le _
 |[x],h=>by
  show x.length≤1*(B+1)
  have:=h x List.mem_cons_self
  omega
 |x::y::r,h=>by
  show((x++(⟨#[c]⟩:Str))++Str.join ⟨#[c]⟩ (y::r)).length≤(r.length+1+1)*(B+1)
  have ih:(Str.join ⟨#[c]⟩ (y::r)).length≤(r.length+1)*(B+1):=pJ c (ws:=y::r) fun z hz=>h z (List.mem_cons_of_mem _ hz)
  have:=h x List.mem_cons_self
  rw[i7,i7,o9]
  rw[Nat.succ_mul (r.length+1)]
  omega
theorem bu (c:Nat)(x:Str):(c∉x.cps.toList∧PySem.Txt.partition x ⟨#[c]⟩=(x,Str.empty,Str.empty))∨∃n r:Str,c∉n.cps.toList∧x=n++(⟨#[c]⟩:Str)++r∧PySem.Txt.partition x ⟨#[c]⟩=(n,⟨#[c]⟩,r):=by
 by_cases h:c∈x.cps.toList
 ·obtain⟨as,bs,e,hn⟩:=List.eq_append_cons_of_mem h
  have ex:x=(⟨as.toArray⟩:Str)++(⟨#[c]⟩:Str)++(⟨bs.toArray⟩:Str):=S0 (by rw[P9,P9,List.append_assoc];exact e)
  refine .inr ⟨⟨as.toArray⟩,⟨bs.toArray⟩,hn,ex,?_⟩
  conv=>lhs;rw[ex]
  exact gr c _ _ hn
 ·exact .inl ⟨h,pY c x h⟩
theorem cj (c:Nat)(x:Str):(PySem.Txt.partition x ⟨#[c]⟩).1.length≤x.length∧(PySem.Txt.partition x ⟨#[c]⟩).2.2.length≤x.length:=by
 rcases bu c x with⟨_,e⟩|⟨n,r,_,e1,e⟩
 ·rw[e];exact⟨Nat.le_refl _,Nat.zero_le _⟩
 ·rw[e,e1,i7,i7];exact⟨by show n.length≤_;omega,by show r.length≤_;omega⟩
def rE (w:Str):Option P0:=
 let n:=PySem.Txt.partition w ":"
 let t:=PySem.Txt.partition n.2.2 "("
 if t.2.1="" then some (n.1,.inl t.1)
 else if PySem.Txt.endswith t.2.2 ")"=true then
  let e:=PySem.Txt.partition (PySem.Txt.slice t.2.2 none (some (-1))) ","
  some (n.1,.inr (t.1,e.1,e.2.2))
 else none
theorem mq {x:Str}(h:PySem.Txt.endswith x ")"=true):1≤x.length:=by
 unfold PySem.Txt.endswith at h
 rw[Bool.and_eq_true] at h
 have z:=of_decide_eq_true h.1
 rw[cX] at z
 simp only[o9] at z
 omega
theorem tG (x:Str)(h:1≤x.length):(PySem.Txt.slice x none (some (-1))).length≤x.length:=by
 show(StrLaws.sliceText x none (some (-1))).length≤_
 rw[StrLaws.sliceText_neg_hi _ _ (by omega) (by omega)]
 exact Nat.le_trans (uN x _ (by omega) (by omega)) (by omega)
theorem jK {c:Str}{i:Nat}(h:c=⟨#[i]⟩):c.length=1:=by rw[h];rfl
def ItAt (K:PySem.W.Frag)(H:Hp)(v:V)(x:P0):Prop:=∃a,v= .ref a∧match x.2 with
 | .inl k=>SqT K H a [.str x.1,.str k]
 | .inr t=>∃b,SqT K H a [.str x.1,.ref b]∧SqT K H b (bX t)
theorem ItAt.mono {K:PySem.W.Frag}{H H':Hp}{v:V}{x:P0}(h:ItAt K H v x)(s:Same H H'):ItAt K H' v x:=by
 obtain⟨a,e,h⟩:=h
 obtain⟨n,k|t⟩:=x
 ·exact⟨a,e,s.tup h⟩
 ·obtain⟨b,h1,h2⟩:=h
  exact⟨a,e,b,s.tup h1,s.tup h2⟩
def NoT (K:PySem.W.Frag)(H:Hp)(E:XK):Prop:=∀H' e,Same H H'→H' e=none→E (.ref (cA K "NoText")) (some e) H'
def aC (K:PySem.W.Frag):Sp:=fun vs H Q E=>∃w:Str,vs=[.str w]∧Sh w∧(∀x,rE w=some x→∀v H',Same H H'→ItAt K H' v x→Q v H')∧(rE w=none→NoT K H E)
theorem iP {f:Addr}{fd:FuncData}(T:Txt K mg)(F:Fun K "thing_read" "thing_read" O2 f fd):E3 P w K mg base (eg P w) 1 f fd ["text"] (aC K):=by
 refine F.okE sc_thing_read (fun vs H Q E h=>?_) (fun cdv A outer s H vs Q E hr h=>?_)
 ·obtain⟨w,rfl,_⟩:=h
  rfl
 ·obtain⟨w,rfl,hw,q,qE⟩:=h
  have hN:=sc_thing_read.nd
  have hu:=C0 hr
  refine⟨_,QSs.r (A0 (u6 (i:=1) hN rfl (by walk_at "l") (qM PySem.F.plainAttrs_str PySem.F.slot_str_partition PySem.F.type_str_partition T4 K (qV 0) (d9 z9 i8)))
   (A0 (u6 (i:=2) hN rfl (by walk_at "l") (qM PySem.F.plainAttrs_str PySem.F.slot_str_partition PySem.F.type_str_partition T4 K (C9 (C8 K hu) (qV 1) b5 (fun _ _=>rfl)) (d9 z9 i8)))
   (A0 (S2 (r6 (W6 K hr) (C9 (C8 K hu) (qV 2) b5 (fun _ _=>rfl)) z9 (j9 _)) (B9 (x5 (bR (d9 (C9 (C8 K hu) (qV 1) b5 (fun _ _=>rfl)) (d9 (C9 (C8 K hu) (qV 2) b5 (fun _ _=>rfl)) i8))))) T8)
   (A0 (S2 (E6 (D2 K (qM PySem.F.plainAttrs_str PySem.F.slot_str_endswith PySem.F.type_str_endswith eY K (C9 (C8 K hu) (qV 2) b5 (fun _ _=>rfl)) (d9 z9 i8)))) (B9 (bZ aj T.r_NoText rfl (d9 z9 i8))) T8)
   (A0 (u6 (i:=3) hN rfl (by walk_at "l") (qM PySem.F.plainAttrs_str PySem.F.slot_str_partition PySem.F.type_str_partition T4 K (bT (bU K) (C9 (C8 K hu) (qV 2) b5 (fun _ _=>rfl)) dA (aM (Cu oj b5))) (d9 z9 i8)))
   (B9 (x5 (bR (d9 (C9 (C8 K hu) (qV 1) b5 (fun _ _=>rfl)) (d9 (bR (d9 (C9 (C8 K hu) (qV 2) b5 (fun _ _=>rfl)) (d9 (C9 (C8 K hu) (qV 3) b5 (fun _ _=>rfl)) (d9 (C9 (C8 K hu) (qV 3) b5 (fun _ _=>rfl)) i8)))) i8)))))))))),?_⟩
  walk_at "r"
  refine⟨rfl,?_⟩
  walk_at "r"
  refine⟨_,_,rfl,rfl,jK bw,hw,fun p1 n1=>?_⟩
  unfold rE at q qE
  have l1:(PySem.Txt.partition w ":").2.2.length≤w.length:=by rw[bw];exact(cj 58 w).2
  generalize PySem.Txt.partition w ":"=A at q qE l1⊢
  obtain⟨A1,A2,A3⟩:=A
  obtain⟨H1,e1,f1,m1,_⟩:=b6 (o:= .tup _) n1
  rw[e1]
  walk_at "r"
  refine d4 (SqT.of f1) (b9 (j:=2) rfl) ?_
  refine⟨rfl,?_⟩
  walk_at "r"
  have hA3:A3.length≤100000:=Nat.le_trans l1 hw
  refine⟨_,_,rfl,rfl,jK di,hA3,fun p2 n2=>?_⟩
  have l2:(PySem.Txt.partition A3 "(").2.2.length≤A3.length:=by rw[di];exact(cj 40 A3).2
  have d2:(PySem.Txt.partition A3 "(").2.1=""∨(PySem.Txt.partition A3 "(").2.1≠"":=Classical.em _
  simp only[] at q qE
  generalize PySem.Txt.partition A3 "("=B at q qE l2⊢
  obtain⟨B1,B2,B3⟩:=B
  obtain⟨H2,e2,f2,m2,_⟩:=b6 (o:= .tup _) n2
  rw[e2]
  walk_at "r"
  refine d4 (SqT.of f2) (b9 (j:=1) rfl) ?_
  walk_at "r"
  have m12:=m1.trans m2
  refine P5 (fun c1=>?_) (fun c1=>?_)
  ·walk_at "r"
   refine d4 (SqT.of (m2 _ _ f1)) (b9 (j:=0) rfl) ?_
   walk_at "r"
   refine d4 (SqT.of f2) (b9 (j:=0) rfl) ?_
   walk_at "r"
   refine⟨d7 (by simp),fun p3 n3=>?_⟩
   obtain⟨H3,e3,f3,m3,_⟩:=b6 (o:= .tup _) n3
   rw[e3]
   exact q _ (if_pos c1) _ H3 (m12.trans m3) ⟨p3,rfl,SqT.of f3⟩
  rw[if_neg c1] at q qE
  walk_at "r"
  refine d4 (SqT.of f2) (b9 (j:=2) rfl) ?_
  refine⟨rfl,?_⟩
  walk_at "r"
  refine⟨_,_,rfl,rfl,?_⟩
  cases c2:PySem.Txt.endswith B3 ")"
  ·rw[c2] at q qE
   walk_at "r"
   exact⟨by decide,fun e he=>qE (if_neg (by decide)) _ e m12 he⟩
  rw[c2] at q qE
  walk_at "r"
  refine d4 (SqT.of f2) (b9 (j:=2) rfl) ?_
  walk_at "r"
  have hB3:B3.length≤100000:=Nat.le_trans l2 hA3
  refine z8 (K0 hB3) ?_
  refine⟨rfl,?_⟩
  walk_at "r"
  refine⟨_,_,rfl,rfl,jK fk,Nat.le_trans (tG _ (mq c2)) hB3,fun p4 n4=>?_⟩
  generalize PySem.Txt.partition (PySem.Txt.slice B3 none (some (-1))) ","=C at q qE⊢
  obtain⟨C1,C2,C3⟩:=C
  obtain⟨H4,e4,f4,m4,_⟩:=b6 (o:= .tup _) n4
  rw[e4]
  walk_at "r"
  refine d4 (SqT.of (m4 _ _ (m2 _ _ f1))) (b9 (j:=0) rfl) ?_
  walk_at "r"
  refine d4 (SqT.of (m4 _ _ f2)) (b9 (j:=0) rfl) ?_
  walk_at "r"
  refine d4 (SqT.of f4) (b9 (j:=0) rfl) ?_
  walk_at "r"
  refine d4 (SqT.of f4) (b9 (j:=2) rfl) ?_
  walk_at "r"
  refine⟨d7 (by simp),fun p5 n5=>?_⟩
  obtain⟨H5,e5,f5,m5,_⟩:=b6 (o:= .tup _) n5
  rw[e5]
  walk_at "r"
  refine⟨d7 (by simp),fun p6 n6=>?_⟩
  obtain⟨H6,e6,f6,m6,_⟩:=b6 (o:= .tup _) n6
  rw[e6]
  exact q _ (if_pos rfl) _ H6 (m12.trans (m4.trans (m5.trans m6))) ⟨p6,rfl,p5,SqT.of f6,SqT.of (m6 _ _ f5)⟩
theorem C5 {α:Type}{l:List α}{i:Nat}{x:α}(h:l[i]?=some x):l.take (i+1)=l.take i++[x]:=by rw[List.take_succ,h];rfl
theorem jx {sep:Str}(hs:1≤sep.length):∀ws:List Str,(∀y∈ws,y.length≤(Str.join sep ws).length)∧ws.length≤(Str.join sep ws).length+1
 |[]=>⟨fun _ h=>(nomatch h),Nat.zero_le _⟩
 |[x]=>⟨fun y h=>by rw[List.mem_singleton.mp h];exact Nat.le_refl _,by show 1≤_+1;omega⟩
 |x::y::r=>by
  have ih:=jx hs (y::r)
  have e:(Str.join sep (x::y::r)).length=x.length+sep.length+(Str.join sep (y::r)).length:=by
   show((x++sep)++Str.join sep (y::r)).length=_
   rw[i7,i7]
  refine⟨fun z hz=>?_,?_⟩
  ·rcases List.mem_cons.mp hz with q|q
   ·rw[q,e];omega
   ·have:=ih.1 z q
    omega
  ·have:=ih.2
   rw[e,List.length_cons];omega
theorem cz {t sep y:Str}(hs:1≤sep.length)(h:y∈PySem.Txt.split t sep):y.length≤t.length:=by
 have z:=(jx hs (PySem.Txt.split t sep)).1 y h
 rw[StrLaws.join_split] at z;exact z
theorem dj {t sep:Str}(hs:1≤sep.length):(PySem.Txt.split t sep).length≤t.length+1:=by
 have z:=(jx hs (PySem.Txt.split t sep)).2
 rw[StrLaws.join_split] at z;exact z
theorem jR {c:Str}{i:Nat}(h:c=⟨#[i]⟩):1≤c.length:=by rw[h];exact Nat.le_refl 1
def E7 (t:Str):List Str:=if t="-" then [] else PySem.Txt.split t " "
theorem dD {t y:Str}(h:y∈E7 t):y.length≤t.length:=by
 unfold E7 at h
 split at h
 ·nomatch h
 ·exact cz (jR uV) h
theorem dv (t:Str):(E7 t).length≤t.length+1:=by
 unfold E7
 split
 ·exact Nat.zero_le _
 ·exact dj (jR uV)
abbrev xJ (w:Str)(x:P0):Prop:=rE w=some x
theorem NoT.mono {H H':Hp}{E:XK}(h:NoT K H E)(s:Same H H'):NoT K H' E:=fun H2 e m he=>h H2 e (s.trans m) he
def Z3 (K:PySem.W.Frag):Sp:=fun vs H Q E=>∃v,vs=[v]∧((∃t:Str,v= .str t∧t.length≤50000∧(∀(xs:List P0),Paired xJ (E7 t) xs→∀(l:Addr) (H':Hp) (vs':List V),Same H H'→H' l=some (.lst vs')→Paired (ItAt K H') vs' xs→Q (.ref l) H')∧((∃w∈E7 t,rE w=none)→NoT K H E))∨(NoTxt K H v∧NoT K H E))
theorem gF {f:Addr}{fd:FuncData}(T:Txt K mg)(bM:E2 P w K mg base (eg P w) 1 "thing_read" ["text"] [] (aC K))(F:Fun K "things_read" "things_read" L8 f fd):E3 P w K mg base (eg P w) 2 f fd ["text"] (Z3 K):=by
 refine F.okE sc_things_read (fun vs H Q E h=>?_) (fun cdv A outer s H vs Q E hr h=>?_)
 ·obtain⟨v,rfl,_⟩:=h
  rfl
 ·obtain⟨v,rfl,h⟩:=h
  have hN:=sc_things_read.nd
  have hu:=C0 hr
  refine⟨_,QSs.r (A0 (S2 (E6 (D2 K (qB (bO K P w) T.b_isinstance Boot.«isinstance» (d9 (qV 0) (d9 (qr "str" T.b_str Boot.«str») i8))))) (B9 (bZ aj T.r_NoText rfl (d9 z9 i8))) T8)
   (A0 (S2 (r6 (W6 K hr) (qV 0) (qg T.c_NOTHING) (j9 _)) (B9 (x5 (aI i8))) T8)
   (B9 (x5 (yf oV (own:=["part"]) (js:=[]) (by kernel_rfl) rfl (U2 K (qM PySem.F.plainAttrs_str PySem.F.slot_str_split PySem.F.type_str_split L9 K (qV 0) (d9 z9 i8))) (fun _ _ _ _=>(T6 (i:=0) (show List.Nodup (["part"]:List Str) by decide+kernel) rfl (by walk_at "l"))) (fun _ _ _ _=>X3) (fun _ _ _ _=>(qC bM (hr.mono (by decide)) ur (d9 (qV 0) i8)))))))),?_⟩
  walk_at "r"
  rcases h with⟨t,rfl,hl,q,qE⟩|⟨⟨ty,hty,hne⟩,qE⟩
  ·refine U0 (U1 (t:="str") rfl (by simp) ?_)
   rw[show Y8 "str" "str"=true from rfl]
   walk_at "r"
   by_cases hd:t="-"
   ·rw[show decide (t=cT)=true from decide_eq_true hd]
    walk_at "r"
    refine⟨d7 (by simp),fun p1 n1=>?_⟩
    obtain⟨H1,e1,f1,m1,_⟩:=b6 (o:= .lst _) n1
    rw[e1]
    have e0:E7 t=[]:=if_pos hd
    rw[e0] at q
    exact q [] .nil p1 H1 [] m1 f1 .nil
   ·rw[show decide (t=cT)=false from decide_eq_false hd]
    walk_at "r"
    refine⟨rfl,?_⟩
    walk_at "r"
    refine⟨_,_,rfl,rfl,jR uV,by omega,fun p1 n1=>?_⟩
    have e0:E7 t=PySem.Txt.split t " ":=if_neg hd
    have hm:=dv t
    have hw:∀y∈E7 t,y.length≤t.length:=fun y hy=>dD hy
    rw[←e0]
    generalize E7 t=ws at q qE hm hw⊢
    obtain⟨H1,e1,f1,m1,_⟩:=b6 (o:= .lst _) n1
    rw[e1]
    refine C7 (SqL.of f1) ?_
    refine B7 (n:=ws.length) (fun i out H'=>Same H1 H'∧∃ys:List P0,Paired xJ (ws.take i) ys∧Paired (ItAt K H') out ys) ⟨Same.refl _,[],.nil,.nil⟩ (fun i out H' hi hp=>⟨_,.str ws[i],SqL.of (hp.1 _ _ f1),by rw[List.getElem?_map,List.getElem?_eq_getElem hi];rfl⟩) ?_ ?_
    ·rintro N i v out H2 H3 hi ⟨s2,ys,pw,pr⟩ y hN'
     obtain⟨rfl,hx⟩:=Itl.get y (SqL.of (s2 _ _ f1))
     rw[List.getElem?_map] at hx
     have hxi:=List.getElem?_eq_getElem hi
     generalize ws[i]=x at hxi
     rw[hxi] at hx
     cases hx
     have hxm:=List.mem_of_getElem? hxi
     walk_at "r"
     refine⟨rfl,?_⟩
     walk_at "r"
     refine⟨x,rfl,Nat.le_trans (hw x hxm) (by omega),fun it hit v3 H3 m3 a3=>?_,fun hn=>(qE ⟨x,hxm,hn⟩).mono (m1.trans s2)⟩
     have hol:=Paired.length pr
     have hol2:=Paired.length pw
     rw[List.length_take] at hol2
     refine⟨K0 (by omega),hN' _ _ ⟨s2.trans m3,ys++[it],?_,A6 (Paired.imp' (fun _ _ z=>z.mono m3) pr) a3⟩⟩
     rw[C5 hxi]
     exact A6 pw hit
    ·rintro out H2 ⟨s2,ys,pw,pr⟩
     have hol:=Paired.length pr
     have hol2:=Paired.length pw
     rw[List.length_take] at hol2
     refine⟨⟨_,SqL.of (s2 _ _ f1),by rw[List.length_map];exact Nat.le_refl _⟩,fun D hD=>⟨K0 (by omega),?_⟩⟩
     rw[List.take_of_length_le (Nat.le_refl _)] at pw
     obtain⟨H3,e3,f3,m3,_⟩:=b6 (H:=H2) (o:= .lst out) hD
     show Q (.ref D) (A5 H2 D _)
     rw[e3]
     exact q ys pw D H3 out (m1.trans (s2.trans m3)) f3 (Paired.imp' (fun _ _ z=>z.mono m3) pr)
  ·refine U0 (U1 hty (by simp) ?_)
   rw[show Y8 ty "str"=false by unfold Y8;simp [hne]]
   walk_at "r"
   exact⟨by decide,fun e he=>qE _ e (Same.refl _) he⟩
def G0 (x:P0):Option (Str×Str):=match x.2 with
 | .inl k=>some (x.1,k)
 | .inr _=>none
def D4 (x:P0):Option (Str×M7):=match x.2 with
 | .inl _=>none
 | .inr t=>some (x.1,t)
theorem fh:∀xs:List P0,(xs.filterMap G0).length+(xs.filterMap D4).length=xs.length
 |[]=>rfl
 |(n,.inl k)::r=>by
  have ih:=fh r
  rw[List.filterMap_cons_some (show G0 (n,.inl k)=some (n,k) from rfl),List.filterMap_cons_none (show D4 (n,.inl k)=none from rfl)]
  simp only[List.length_cons];omega
 |(n,.inr t)::r=>by
  have ih:=fh r
  rw[List.filterMap_cons_none (show G0 (n,.inr t)=none from rfl),List.filterMap_cons_some (show D4 (n,.inr t)=some (n,t) from rfl)]
  simp only[List.length_cons];omega
theorem gu {α β:Type}{f:α→Option β}{l:List α}{i:Nat}{x:α}(h:l[i]?=some x):(l.take (i+1)).filterMap f=(l.take i).filterMap f++[x].filterMap f:=by rw[C5 h,List.filterMap_append]
theorem rK {w:Str}{x:P0}(h:rE w=some x):x.1.length≤w.length∧(∀k,x.2= .inl k→k.length≤w.length)∧∀t,x.2= .inr t→t.1.length≤w.length∧t.2.1.length≤w.length∧t.2.2.length≤w.length:=by
 unfold rE at h
 have p1:(PySem.Txt.partition w ":").1.length≤w.length∧(PySem.Txt.partition w ":").2.2.length≤w.length:=by rw[bw];exact cj 58 w
 generalize PySem.Txt.partition w ":"=A at h p1
 obtain⟨A1,A2,A3⟩:=A
 simp only[] at h p1
 have p2:(PySem.Txt.partition A3 "(").1.length≤A3.length∧(PySem.Txt.partition A3 "(").2.2.length≤A3.length:=by rw[di];exact cj 40 A3
 generalize PySem.Txt.partition A3 "("=B at h p2
 obtain⟨B1,B2,B3⟩:=B
 simp only[] at h p2
 by_cases c1:B2=""
 ·rw[if_pos c1] at h
  cases h
  exact⟨p1.1,fun k e=>by cases e;exact Nat.le_trans p2.1 p1.2,fun t e=>by cases e⟩
 rw[if_neg c1] at h
 by_cases c2:PySem.Txt.endswith B3 ")"=true
 ·rw[if_pos c2] at h
  have p3:(PySem.Txt.partition (PySem.Txt.slice B3 none (some (-1))) ",").1.length≤(PySem.Txt.slice B3 none (some (-1))).length∧(PySem.Txt.partition (PySem.Txt.slice B3 none (some (-1))) ",").2.2.length≤(PySem.Txt.slice B3 none (some (-1))).length:=by rw[fk];exact cj 44 _
  have p4:=tG _ (mq c2)
  cases h
  exact⟨p1.1,fun k e=>(by cases e),fun t e=>by cases e;exact⟨Nat.le_trans p2.1 p1.2,Nat.le_trans p3.1 (Nat.le_trans p4 (Nat.le_trans p2.2 p1.2)),Nat.le_trans p3.2 (Nat.le_trans p4 (Nat.le_trans p2.2 p1.2))⟩⟩
 ·rw[if_neg c2] at h;cases h
theorem sY (a:List (j6×V))(k:j6)(v:V):((N0 a k v).length=a.length∧k∈a.map (·.1))∨(N0 a k v=a++[(k,v)]∧k∉a.map (·.1)):=by
 unfold N0
 by_cases h:(a.any fun kv=>decide (kv.1=k))=true
 ·rw[if_pos h]
  refine .inl ⟨List.length_map ..,?_⟩
  obtain⟨x,hx,e⟩:=List.any_eq_true.mp h
  exact List.mem_map.mpr ⟨x,hx,of_decide_eq_true e⟩
 ·rw[if_neg h]
  refine .inr ⟨rfl,fun z=>h ?_⟩
  obtain⟨x,hx,e⟩:=List.mem_map.mp z
  exact List.any_eq_true.mpr ⟨x,hx,decide_eq_true e⟩
theorem hV:∀(l a:List (j6×V)),(l.foldl (fun a x=>N0 a x.1 x.2) a).length≤a.length+l.length∧((l.foldl (fun a x=>N0 a x.1 x.2) a).length=a.length+l.length→(l.map (·.1)).Nodup∧∀k∈l.map (·.1),k∉a.map (·.1))
 |[],a=>⟨Nat.le_refl _,fun _=>⟨.nil,fun _ h=>(nomatch h)⟩⟩
 |x::r,a=>by
  have ih:=hV r (N0 a x.1 x.2)
  rw[List.foldl_cons]
  rcases sY a x.1 x.2 with⟨h1,h2⟩|⟨h1,h2⟩
  ·have:=ih.1
   exact⟨by rw[List.length_cons];omega,fun e=>by rw[List.length_cons] at e;omega⟩
  ·have hl:(N0 a x.1 x.2).length=a.length+1:=by rw[h1];simp
   refine⟨by rw[List.length_cons];have:=ih.1;omega,fun e=>?_⟩
   have z:=ih.2 (by rw[List.length_cons] at e;omega)
   rw[h1] at z
   refine⟨List.nodup_cons.mpr ⟨fun q=>z.2 x.1 q (by simp),z.1⟩,fun k hk q=>?_⟩
   rcases List.mem_cons.mp hk with e|e
   ·rw[e] at q;exact h2 q
   ·exact z.2 k e (by rw[List.map_append];exact List.mem_append_left _ q)
theorem gG (l:List (j6×V)):(cm l).length≤l.length:=by have:=(hV l []).1;simpa [cm] using this
theorem mr {l:List (j6×V)}(h:¬(l.map (·.1)).Nodup):(cm l).length<l.length:=by
 have z:=hV l []
 refine Nat.lt_of_le_of_ne (gG l) fun e=>h (z.2 (by rw[List.length_nil,Nat.zero_add];exact e)).1
structure WebRd (t:Str) (W:G8):Prop where
 xs:∃xs:List P0,Paired xJ (E7 t) xs∧W.pts=xs.filterMap G0∧W.ts=xs.filterMap D4
 np:(W.pts.map (·.1)).Nodup
 nt:(W.ts.map (·.1)).Nodup
 lp:W.pts.length≤40
 lt:W.ts.length≤60
 ok:dY W=true
theorem cU:∀{ws:List Str} {xs ys:List P0},Paired xJ ws xs→Paired xJ ws ys→xs=ys
 |[],[],[],.nil,.nil=>rfl
 |w::r,x::xs,y::ys,.cons a p,.cons b q=>by
  have e:x=y:=Option.some.inj (a.symm.trans b)
  rw[e,cU p q]
theorem WebRd.uniq {t:Str}{W W':G8}(h:WebRd t W)(h':WebRd t W'):W=W':=by
 obtain⟨xs,p,a,b⟩:=h.xs
 obtain⟨ys,p',a',b'⟩:=h'.xs
 have e:=cU p p'
 obtain⟨W1,W2⟩:=W
 obtain⟨V1,V2⟩:=W'
 simp only[] at a b a' b'
 rw[a,b,a',b',e]
theorem jh {l:List Str}(h:(l.map fun x=>(Sum.inr x:j6)).Nodup):l.Nodup:=List.Pairwise.of_map (S:=(·≠·)) _ (fun a b h e=>h (congrArg _ e)) h
def aa (K:PySem.W.Frag):Sp:=fun vs H Q E=>∃v,vs=[v]∧((∃t:Str,v= .str t∧t.length≤50000∧(∀W,WebRd t W→NewP K H Q W)∧((∀W,¬WebRd t W)→NoT K H E))∨(NoTxt K H v∧NoT K H E))
theorem lS {f:Addr}{fd:FuncData}(T:Txt K mg)(aJ:E2 P w K mg base (eg P w) 2 "things_read" ["text"] [] (Z3 K))(aW:E2 P w K mg base B4 4 "is_web" ["thing"] [] (cM K))(ie:E2 P w K mg base B4 2 "copied" ["web"] [] (eO K))(F:Fun K "web_read" "web_read" U4 f fd):E3 P w K mg base (eg P w) 5 f fd ["text"] (aa K):=by
 refine F.okE sc_web_read (fun vs H Q E h=>?_) (fun cdv A outer s H vs Q E hr h=>?_)
 ·obtain⟨v,rfl,_⟩:=h
  rfl
 ·obtain⟨v,rfl,h⟩:=h
  have hN:=sc_web_read.nd
  have hu:=C0 hr
  refine⟨_,QSs.r (A0 (u6 (i:=1) hN rfl (by walk_at "l") (qC aJ (hr.mono (by decide)) xZ (d9 (qV 0) i8)))
   (A0 (u6 (i:=2) hN rfl (by walk_at "l") (qj (mn K rfl) T.b_dict Boot.«dict» (d9 (O7 (own:=["thing"]) (js:=[]) (by kernel_rfl) rfl (U2 K (qV 1)) (fun _ _ _ _=>(T6 (i:=0) (show List.Nodup (["thing"]:List Str) by decide+kernel) rfl (by walk_at "l"))) (fun _ _ _ _=>(yg (D2 K (qB (bO K P w) T.b_isinstance Boot.«isinstance» (d9 (C9 (C8 K hu) (qV 0) b5 (fun _ _=>rfl)) (d9 (qr "str" T.b_str Boot.«str») i8)))))) (fun _ _ _ _=>(qV 0))) i8)))
   (A0 (u6 (i:=3) hN rfl (by walk_at "l") (qj (mn K rfl) T.b_dict Boot.«dict» (d9 (O7 (own:=["thing"]) (js:=[]) (by kernel_rfl) rfl (U2 K (qV 1)) (fun _ _ _ _=>(T6 (i:=0) (show List.Nodup (["thing"]:List Str) by decide+kernel) rfl (by walk_at "l"))) (fun _ _ _ _=>(yg (D2 K (qB (bO K P w) T.b_isinstance Boot.«isinstance» (d9 (C9 (C8 K hu) (qV 0) b5 (fun _ _=>rfl)) (d9 (qr "tuple" T.b_tuple Boot.«tuple») i8)))))) (fun _ _ _ _=>(qV 0))) i8)))
   (A0 (S2 (r6 (Z8 K hr) (p0 (t7 K) (qB (E4 K P w) T.b_len Boot.«len» (d9 (qV 2) i8)) (qB (E4 K P w) T.b_len Boot.«len» (d9 (qV 3) i8))) (qB (E4 K P w) T.b_len Boot.«len» (d9 (qV 1) i8)) (j9 _)) (B9 (bZ aj T.r_NoText rfl (d9 z9 i8))) T8)
   (A0 (S2 (fV (Q0 (r6 ai (qB (E4 K P w) T.b_len Boot.«len» (d9 (qV 2) i8)) (qg T.c_MOST_POINTS) (j9 _)) (M5 (r6 ai (qB (E4 K P w) T.b_len Boot.«len» (d9 (qV 3) i8)) (qg T.c_MOST_TIES) (j9 _))))) (B9 (bZ aj T.r_NoText rfl (d9 z9 i8))) T8)
   (A0 (S2 (E6 (D2 K (qC aW (hr.mono (by decide)) j0 (d9 (bR (d9 (qV 2) (d9 (qV 3) i8))) i8)))) (B9 (bZ aj T.r_NoText rfl (d9 z9 i8))) T8)
   (B9 (x5 (qC ie (hr.mono (by decide)) j0 (d9 (bR (d9 (qV 2) (d9 (qV 3) i8))) i8)))))))))),?_⟩
  walk_at "r"
  rcases h with⟨t,rfl,hl,k,kE⟩|⟨hty,kE⟩
  case inr=>exact⟨v,rfl,.inr ⟨hty,kE⟩⟩
  refine⟨_,rfl,.inl ⟨t,rfl,hl,fun xs pw l H1 vs m1 f1 pr1=>?_,fun⟨w,hw,e⟩=>kE fun W hW=>?_⟩⟩
  case refine_2=>
   obtain⟨xs,p,_⟩:=hW.xs
   obtain⟨i,hi,ei⟩:=List.mem_iff_getElem.mp hw
   obtain⟨x,_,ex⟩:=B8 p (List.getElem?_eq_getElem hi)
   rw[ei] at ex
   rw[show rE w=some x from ex] at e
   cases e
  have hwl:=dv t
  have hxl:=Paired.length pw
  have hli:=fh xs
  have hIle:∀x∈xs,∃w∈E7 t,rE w=some x:=fun x hx=>by
   obtain⟨i,hi,ei⟩:=List.mem_iff_getElem.mp hx
   have hi':i<(E7 t).length:=by omega
   obtain⟨y,hy,ey⟩:=B8 pw (List.getElem?_eq_getElem hi')
   rw[List.getElem?_eq_getElem hi,ei] at hy
   cases hy
   exact⟨_,List.getElem_mem hi',ey⟩
  have hvl:=Paired.length pr1
  walk_at "r"
  refine C7 (SqL.of f1) ?_
  refine B7 (n:=xs.length) (fun i out H'=>Same H1 H'∧Paired (PrV K H') out (J6 ((xs.take i).filterMap G0))) ⟨Same.refl _,.nil⟩ (fun i out H' hi hp=>⟨_,vs[i],SqL.of (hp.1 _ _ f1),List.getElem?_eq_getElem (by omega)⟩) ?_ ?_
  ·rintro N i v out H2 H3 hi ⟨s2,pr⟩ y hN'
   obtain⟨rfl,hx⟩:=Itl.get y (SqL.of (s2 _ _ f1))
   obtain⟨x,hxi,ax⟩:=B8 pr1 hx
   obtain⟨a,rfl,ay⟩:=ax.mono s2
   have hol:=Paired.length pr
   have hfl:=List.length_filterMap_le G0 (xs.take i)
   rw[D7] at hol
   rw[List.length_take] at hfl
   walk_at "r"
   refine⟨rfl,?_⟩
   walk_at "r"
   obtain⟨n,kd|t⟩:=x
   ·have ax':SqT K H3 a [.str n,.str kd]:=ay
    refine d4 ax' (b9 (j:=1) rfl) ?_
    walk_at "r"
    refine U0 (U1 (t:="str") rfl (by simp) ?_)
    rw[show Y8 "str" "str"=true from rfl]
    walk_at "r"
    refine⟨K0 (by omega),hN' _ _ ⟨s2,?_⟩⟩
    rw[gu hxi]
    unfold J6 at pr⊢
    rw[List.map_append]
    exact A6 pr ⟨a,rfl,ax'⟩
   ·obtain⟨b,ax',bx⟩:=ay
    refine d4 ax' (b9 (j:=1) rfl) ?_
    walk_at "r"
    refine U0 (U1 (t:="tuple") (.inr (.inl ⟨rfl,_,bx⟩)) (by simp) ?_)
    rw[show Y8 "tuple" "str"=false from rfl]
    walk_at "r"
    refine hN' _ _ ⟨s2,?_⟩
    rw[gu hxi,show [(n,(Sum.inr t:Sum Str M7))].filterMap G0=[] from rfl,List.append_nil]
    exact pr
  ·rintro out H2 ⟨s2,pr⟩
   have hol:=Paired.length pr
   have hfl:=List.length_filterMap_le G0 (xs.take xs.length)
   rw[D7] at hol
   rw[List.length_take] at hfl
   refine⟨⟨_,SqL.of (s2 _ _ f1),by omega⟩,fun D hD=>⟨K0 (by omega),?_⟩⟩
   rw[List.take_of_length_le (Nat.le_refl _)] at pr
   obtain⟨H3,e3,f3,m3,_⟩:=b6 (H:=H2) (o:= .lst out) hD
   show fS _ (A5 H2 D _) _
   rw[e3]
   walk_at "r"
   refine dn (SqL.of f3) (Paired.imp' (fun _ _ z=>PrV.mono m3.le z) pr) (K0 (by rw[D7];omega)) (fun dp np=>?_)
   obtain⟨H4,e4,f4,m4,_⟩:=b6 (o:= .dK _) np
   rw[e4]
   have s14:=s2.trans (m3.trans m4)
   have f14:=s14 _ _ f1
   have pr4:=Paired.imp' (fun _ _ z=>ItAt.mono z s14) pr1
   walk_at "r"
   refine C7 (SqL.of f14) ?_
   refine B7 (n:=xs.length) (fun i out H'=>Same H4 H'∧∃kvs,Paired (PrV K H') out kvs∧TiesIs K H' kvs ((xs.take i).filterMap D4)) ⟨Same.refl _,[],.nil,.nil⟩ (fun i out H' hi hp=>⟨_,vs[i],SqL.of (hp.1 _ _ f14),List.getElem?_eq_getElem (by omega)⟩) ?_ ?_
   ·rintro N i v out H5 H6 hi ⟨s5,kvs,pr,ti⟩ y hN'
    obtain⟨rfl,hx⟩:=Itl.get y (SqL.of (s5 _ _ f14))
    obtain⟨x,hxi,ax⟩:=B8 pr4 hx
    obtain⟨a,rfl,ay⟩:=ax.mono s5
    have hol:=Paired.length pr
    have hol2:=ti.length
    have hfl:=List.length_filterMap_le D4 (xs.take i)
    rw[List.length_take] at hfl
    walk_at "r"
    refine⟨rfl,?_⟩
    walk_at "r"
    obtain⟨n,kd|t⟩:=x
    ·have ax':SqT K H6 a [.str n,.str kd]:=ay
     refine d4 ax' (b9 (j:=1) rfl) ?_
     walk_at "r"
     refine U0 (U1 (t:="str") rfl (by simp) ?_)
     rw[show Y8 "str" "tuple"=false from rfl]
     walk_at "r"
     refine hN' _ _ ⟨s5,kvs,pr,?_⟩
     rw[gu hxi,show [(n,(Sum.inl kd:Sum Str M7))].filterMap D4=[] from rfl,List.append_nil]
     exact ti
    ·obtain⟨b,ax',bx⟩:=ay
     refine d4 ax' (b9 (j:=1) rfl) ?_
     walk_at "r"
     refine U0 (U1 (t:="tuple") (.inr (.inl ⟨rfl,_,bx⟩)) (by simp) ?_)
     rw[show Y8 "tuple" "tuple"=true from rfl]
     walk_at "r"
     refine⟨K0 (by omega),hN' _ _ ⟨s5,kvs++[(Sum.inr n,.ref b)],A6 (b:=((Sum.inr n:j6),V.ref b)) pr ⟨a,rfl,ax'⟩,?_⟩⟩
     rw[gu hxi]
     exact A6 ti ⟨rfl,b,rfl,bx⟩
   ·rintro out H5 ⟨s5,kvs,pr,ti⟩
    have hol:=Paired.length pr
    have hol2:=ti.length
    have hfl:=List.length_filterMap_le D4 (xs.take xs.length)
    rw[List.length_take] at hfl
    refine⟨⟨_,SqL.of (s5 _ _ f14),by omega⟩,fun D5 hD5=>⟨K0 (by omega),?_⟩⟩
    rw[List.take_of_length_le (Nat.le_refl _)] at ti
    obtain⟨H6,e6,f6,m6,_⟩:=b6 (H:=H5) (o:= .lst out) hD5
    show fS _ (A5 H5 D5 _) _
    rw[e6]
    walk_at "r"
    refine dn (SqL.of f6) (Paired.imp' (fun _ _ z=>PrV.mono m6.le z) pr) (K0 (by omega)) (fun dq nq=>?_)
    obtain⟨H7,e7,f7,m7,_⟩:=b6 (o:= .dK _) nq
    rw[e7]
    have s47:=s5.trans (m6.trans m7)
    have g4:=s47 _ _ f4
    have ti7:=ti.mono (m6.trans m7).le
    have hkl:=ti7.length
    have f17:=s47 _ _ f14
    have sAll:Same H H7:=m1.trans (s14.trans s47)
    have l1:=gG (J6 (xs.filterMap G0))
    have l2:=gG kvs
    rw[D7] at l1
    walk_at "r"
    refine E5 (G9 (.inl g4) ?_)
    walk_at "r"
    refine E5 (G9 (.inl f7) ?_)
    walk_at "r"
    refine E5 (K3 (SqL.of f17) ?_)
    walk_at "r"
    by_cases nd:((xs.filterMap G0).map (·.1)).Nodup∧((xs.filterMap D4).map (·.1)).Nodup
    case neg=>
     have hlt:(cm (J6 (xs.filterMap G0))).length+(cm kvs).length<vs.length:=by
      by_cases n1:((xs.filterMap G0).map (·.1)).Nodup
      ·have n2:¬(kvs.map (·.1)).Nodup:=fun z=>nd ⟨n1,by
        rw[ti.keys,←G6] at z
        exact jh z⟩
       have:=mr n2
       omega
      ·have n2:¬((J6 (xs.filterMap G0)).map (·.1)).Nodup:=fun z=>n1 (by
        rw[R9,←G6] at z
        exact jh z)
       have:=mr n2
       rw[D7] at this
       omega
     rw[if_pos (by simp;omega)]
     walk_at "r"
     refine⟨by decide,fun e he=>kE (fun W hW=>?_) _ e sAll he⟩
     obtain⟨ys,p,a,b⟩:=hW.xs
     have e:=cU p pw
     subst e
     exact nd ⟨by rw[←a];exact hW.np,by rw[←b];exact hW.nt⟩
    obtain⟨nd1,nd2⟩:=nd
    rw[ig (pz nd1)] at g4⊢
    rw[ig (vR ti nd2)] at f7⊢
    rw[D7]
    rw[if_neg (by simp;omega)]
    walk_at "r"
    refine E5 (G9 (.inl g4) ?_)
    rw[D7]
    walk_at "r"
    have far:¬((xs.filterMap G0).length≤40∧(xs.filterMap D4).length≤60∧dY ⟨xs.filterMap G0,xs.filterMap D4⟩=true)→∀H',Same H H'→∀e,H' e=none→E (.ref (cA K "NoText")) (some e) H':=fun hn H' s e he=>kE (fun W hW=>by
     obtain⟨ys,p,a,b⟩:=hW.xs
     have e:=cU p pw
     subst e
     obtain⟨W1,W2⟩:=W
     simp only[] at a b
     subst a b
     exact hn ⟨hW.lp,hW.lt,hW.ok⟩) H' e s he
    by_cases c1:40<(xs.filterMap G0).length
    ·rw[if_pos (by simp;omega)]
     walk_at "r"
     exact⟨by decide,fun e he=>far (fun z=>by omega) _ sAll e he⟩
    rw[if_neg (by simp;omega)]
    walk_at "r"
    refine E5 (G9 (.inl f7) ?_)
    walk_at "r"
    by_cases c2:60<(xs.filterMap D4).length
    ·rw[if_pos (by simp;omega)]
     walk_at "r"
     exact⟨by decide,fun e he=>far (fun z=>by omega) _ sAll e he⟩
    rw[if_neg (by simp;omega)]
    walk_at "r"
    refine⟨d7 (by simp),fun l8 n8=>?_⟩
    obtain⟨H8,e8,f8,m8,_⟩:=b6 (o:= .tup _) n8
    rw[e8]
    have hpq:dp≠dq:=i6 ((s5.trans m6) _ _ f4) nq
    have WI:WebX K H8 l8 dp dq kvs ⟨xs.filterMap G0,xs.filterMap D4⟩:=⟨⟨SqT.of f8,.inl (m8 _ _ g4),.inl (m8 _ _ f7),ti7.mono m8.le⟩,m8 _ _ g4,m8 _ _ f7,hpq,nd1,nd2,by show(xs.filterMap G0).length≤60;omega,by show(xs.filterMap D4).length≤60;omega,fun x hx=>?_,fun x hx=>?_⟩
    case refine_1=>
     obtain⟨y,hy,ey⟩:=List.mem_filterMap.mp (show x∈xs.filterMap G0 from hx)
     obtain⟨w,hw,ew⟩:=hIle y hy
     have z:=rK ew
     have hw':=dD hw
     obtain⟨y1,y2|y2⟩:=y
     ·cases ey
      have z1:y1.length≤w.length:=z.1
      have z2:=z.2.1 _ rfl
      exact⟨by show y1.length≤100000;omega,by show y2.length≤100000;omega⟩
     ·cases ey
    case refine_2=>
     obtain⟨y,hy,ey⟩:=List.mem_filterMap.mp (show x∈xs.filterMap D4 from hx)
     obtain⟨w,hw,ew⟩:=hIle y hy
     have z:=rK ew
     have hw':=dD hw
     obtain⟨y1,y2|y2⟩:=y
     ·cases ey
     ·cases ey
      have z1:y1.length≤w.length:=z.1
      have z2:=z.2.2 _ rfl
      exact⟨by show y1.length≤100000;omega,by show y2.1.length≤100000;omega,by show y2.2.1.length≤100000;omega,by show y2.2.2.length≤100000;omega⟩
    walk_at "r"
    refine⟨l8,dp,dq,kvs,_,rfl,WI,fun H9 m9=>?_⟩
    cases c3:dY ⟨xs.filterMap G0,xs.filterMap D4⟩
    ·walk_at "r"
     exact⟨by decide,fun e he=>far (fun z=>by rw[c3] at z;cases z.2.2) _ (sAll.trans (m8.trans m9)) e he⟩
    walk_at "r"
    refine⟨d7 (by simp),fun l10 n10=>?_⟩
    obtain⟨H10,e10,f10,m10,_⟩:=b6 (o:= .tup _) n10
    rw[e10]
    have WJ:=WI.at_.mono (m9.trans m10).le
    walk_at "r"
    refine⟨l10,dp,dq,kvs,⟨xs.filterMap G0,xs.filterMap D4⟩,rfl,⟨SqT.of f10,WJ.pts,WJ.ties,WJ.ts⟩,nd1,nd2,WI.lp,WI.lt,?_⟩
    have sA:Same H H10:=sAll.trans (m8.trans (m9.trans m10))
    exact fun a' p' q' kv' W' H11 s11 h1 h2 h3 h4 h5 h6 h7 h8=>k ⟨xs.filterMap G0,xs.filterMap D4⟩ ⟨⟨xs,pw,rfl,rfl⟩,nd1,nd2,by show(xs.filterMap G0).length≤40;omega,by show(xs.filterMap D4).length≤60;omega,c3⟩ a' p' q' kv' W' H11 (sA.trans s11) h1 h2 h3 h4 (sA.free h5) (sA.free h6) h7 h8
theorem sv (x:V)(xs:List V):V9 (x::xs) (some 1) none=xs:=by
 unfold V9
 rw[show(some (1:Int))=some ((1:Nat):Int) from rfl,HT.sIx_nat,HT.sIx_none,show min 1 (x::xs).length=1 by rw[List.length_cons];omega]
 simp
structure CpW (H:Hp) (s:Sd) (W:G8):Prop where
 p:H s.p=none
 q:H s.q=none
 m1:s.W.pts.Perm W.pts
 m2:s.W.ts.Perm W.ts
theorem CpW.up {H H':Hp}{s:Sd}{W:G8}(h:CpW H' s W)(m:Same H H'):CpW H s W:=⟨m.free h.p,m.free h.q,h.m1,h.m2⟩
theorem gE {W W':G8}(p1:W'.pts.Perm W.pts)(p2:W'.ts.Perm W.ts):(A8 W').Perm (A8 W):=(p1.map _).append (p2.map _)
theorem aS (W:G8):dY W=true↔(∀x∈W.pts,x8 x.1=true∧o6 x.2=true)∧∀x∈W.ts,x8 x.1=true∧x.1∉W.pts.map (·.1)∧o6 x.2.1=true∧(x8 x.2.2.1=true∧x.2.2.1∈W.pts.map (·.1))∧x8 x.2.2.2=true∧x.2.2.2∈W.pts.map (·.1):=by
 unfold dY
 rw[Bool.and_eq_true,List.all_eq_true,List.all_eq_true]
 refine⟨fun⟨h1,h2⟩=>⟨fun x hx=>?_,fun x hx=>?_⟩,fun⟨h1,h2⟩=>⟨fun x hx=>?_,fun x hx=>?_⟩⟩
 ·have z:=h1 x hx
  unfold my at z
  rw[Bool.and_eq_true] at z
  exact z
 ·have z:=h2 x hx
  unfold jU jP kY at z
  simp only[Bool.and_eq_true,Bool.not_eq_true',decide_eq_false_iff_not,decide_eq_true_eq] at z
  exact z
 ·unfold my
  rw[Bool.and_eq_true]
  exact h1 x hx
 ·unfold jU jP kY
  simp only[Bool.and_eq_true,Bool.not_eq_true',decide_eq_false_iff_not,decide_eq_true_eq]
  exact h2 x hx
theorem jj {W W':G8}(p1:W'.pts.Perm W.pts)(p2:W'.ts.Perm W.ts)(h:dY W=true):dY W'=true:=by
 rw[aS] at h⊢
 have m:∀{n:Str},n∈W'.pts.map (·.1)↔n∈W.pts.map (·.1):=(p1.map (·.1)).mem_iff
 exact⟨fun x hx=>h.1 x (p1.mem_iff.mp hx),fun x hx=>by
  obtain⟨z1,z2,z3,⟨z4,z5⟩,z6,z7⟩:=h.2 x (p2.mem_iff.mp hx)
  exact⟨z1,fun q=>z2 (m.mp q),z3,⟨z4,m.mpr z5⟩,z6,m.mpr z7⟩⟩
theorem PieceX.perm {m:Nat}{W W':G8}(h:PieceX m W)(p1:W'.pts.Perm W.pts)(p2:W'.ts.Perm W.ts):PieceX m W':=
 ⟨jj p1 p2 h.web,by rw[p1.length_eq];exact h.l1,by rw[p2.length_eq];exact h.l2,fun n hn=>h.kds n ((gE p1 p2).mem_iff.mp hn)⟩
structure PW (A B:G8):Prop where
 m1:A.pts.Perm B.pts
 m2:A.ts.Perm B.ts
theorem PW.symm {A B:G8}(h:PW A B):PW B A:=⟨h.m1.symm,h.m2.symm⟩
theorem CpW.pw {H:Hp}{s:Sd}{W:G8}(h:CpW H s W):PW s.W W:=⟨h.m1,h.m2⟩
theorem RuleOx.perm {L R L' R':G8}{bs bs':List G8}(h:RuleOx L R bs)(cl:PW L' L)(cr:PW R' R)(cb:Paired PW bs' bs):RuleOx L' R' bs':=by
 refine⟨h.l.perm cl.m1 cl.m2,h.r.perm cr.m1 cr.m2,fun n h1 h2=>?_,by rw[Paired.length cb];exact h.len,fun b hb=>?_⟩
 ·have z:=h.ag n ((gE cl.m1 cl.m2).mem_iff.mp h1) ((gE cr.m1 cr.m2).mem_iff.mp h2)
  exact⟨fun k=>by rw[cl.m1.mem_iff,cr.m1.mem_iff];exact z.p k,fun t=>by rw[cl.m2.mem_iff,cr.m2.mem_iff];exact z.t t⟩
 ·obtain⟨j,hj⟩:=List.getElem?_of_mem hb
  obtain⟨c,hc,z⟩:=B8 cb hj
  have q:=h.bars c (List.mem_of_getElem? hc)
  exact⟨q.1.perm z.m1 z.m2,fun x hx=>z.m1.mem_iff.mpr (q.2.1 x (cl.m1.mem_iff.mp hx)),fun x hx=>z.m2.mem_iff.mpr (q.2.2 x (cl.m2.mem_iff.mp hx))⟩
structure RuleRd (t:Str) (L R:G8) (bs:List G8):Prop where
 sd:∃a b:Str,PySem.Txt.split t " > "=[a,b]∧WebRd a L∧Paired WebRd (PySem.Txt.split b " ! ") (R::bs)
 ok:RuleOx L R bs
def RuleNw (K:PySem.W.Frag)(H:Hp)(Q:VK)(L R:G8)(bs:List G8):Prop:=∀(r bl:Addr) (L' R':Sd) (bs':List Sd) (H':Hp),Same H H'→RuleX K H' r bl L' R' bs'→H bl=none→CpW H L' L→CpW H R' R→Paired (CpW H) bs' bs→Q (.ref r) H'
def bB (K:PySem.W.Frag):Sp:=fun vs H Q E=>∃v,vs=[v]∧((∃t:Str,v= .str t∧t.length≤50000∧(∀L R bs,RuleRd t L R bs→RuleNw K H Q L R bs)∧((∀L R bs,¬RuleRd t L R bs)→NoT K H E))∨(NoTxt K H v∧NoT K H E))
theorem ik {H:Hp}{t:Str}{a p q:Addr}{kvs:List (j6×V)}{W W':G8}(h:WebRd t W)(w:WebAt K H a p q kvs W')(hp:H p=some (.dK (J6 W'.pts)))(hq:H q=some (.dK kvs))(ne:p≠q)(p1:W'.pts.Perm W.pts)(p2:W'.ts.Perm W.ts):SdX K H ⟨a,p,q,kvs,W'⟩:=by
 have o:=(aS W').mp (jj p1 p2 h.ok)
 have l1:=p1.length_eq
 have l2:=p2.length_eq
 have z1:=h.lp
 have z2:=h.lt
 have n24:∀{x:Str},x8 x=true→Sh x:=fun{x} hx=>by unfold Sh;have:=X5 hx;omega
 have k8:∀{x:Str},o6 x=true→Sh x:=fun{x} hx=>by unfold Sh;have:=eU hx;omega
 exact⟨w,hp,hq,ne,(p1.map _).nodup_iff.mpr h.np,(p2.map _).nodup_iff.mpr h.nt,by show W'.pts.length≤60;omega,by show W'.ts.length≤60;omega,fun x hx=>⟨n24 (o.1 x hx).1,k8 (o.1 x hx).2⟩,fun x hx=>⟨n24 (o.2 x hx).1,k8 (o.2 x hx).2.2.1,n24 (o.2 x hx).2.2.2.1.1,n24 (o.2 x hx).2.2.2.2.1⟩⟩
theorem cn {α β:Type}{F:α→β→Prop}(hF:∀a b c,F a b→F a c→b=c):∀{l:List α} {r s:List β},Paired F l r→Paired F l s→r=s
 |[],[],[],.nil,.nil=>rfl
 |w::r,x::xs,y::ys,.cons a p,.cons b q=>by rw[hF _ _ _ a b,cn hF p q]
theorem xT {H:Hp}:∀{ss:List Sd} {ws:List G8},Paired (CpW H) ss ws→Paired PW (ss.map (·.W)) ws
 |[],[],.nil=> .nil
 |_::_,_::_,.cons h r=> .cons h.pw (xT r)
theorem oZ:∀{a b:List G8},Paired PW a b→Paired PW b a
 |[],[],.nil=> .nil
 |_::_,_::_,.cons h r=> .cons h.symm (oZ r)
theorem Ce:(1:Nat)≤(" > ":Str).length:=by decide+kernel
theorem Ai:(1:Nat)≤(" ! ":Str).length:=by decide+kernel
theorem jX {f:Addr}{fd:FuncData}(T:Txt K mg)(J2:E2 P w K mg base (eg P w) 5 "web_read" ["text"] [] (aa K))(fi:E2 P w K mg base B4 6 "is_rule" ["thing"] [] (dg K))(F:Fun K "rule_read" "rule_read" Q1 f fd):E3 P w K mg base (eg P w) 7 f fd ["text"] (bB K):=by
 refine F.okE sc_rule_read (fun vs H Q E h=>?_) (fun cdv A outer s H vs Q E hr h=>?_)
 ·obtain⟨v,rfl,_⟩:=h
  rfl
 ·obtain⟨v,rfl,h⟩:=h
  have hN:=sc_rule_read.nd
  have hu:=C0 hr
  refine⟨_,QSs.r (A0 (S2 (E6 (D2 K (qB (bO K P w) T.b_isinstance Boot.«isinstance» (d9 (qV 0) (d9 (qr "str" T.b_str Boot.«str») i8))))) (B9 (bZ aj T.r_NoText rfl (d9 z9 i8))) T8)
   (A0 (u6 (i:=1) hN rfl (by walk_at "l") (qM PySem.F.plainAttrs_str PySem.F.slot_str_split PySem.F.type_str_split L9 K (qV 0) (d9 z9 i8)))
   (A0 (S2 (r6 (Z8 K hr) (qB (E4 K P w) T.b_len Boot.«len» (d9 (qV 1) i8)) b5 (j9 _)) (B9 (bZ aj T.r_NoText rfl (d9 z9 i8))) T8)
   (A0 (rA (i:=2) hN rfl (by walk_at "l") oV (own:=["part"]) (js:=[]) (by kernel_rfl) rfl (U2 K (qM PySem.F.plainAttrs_str PySem.F.slot_str_split PySem.F.type_str_split L9 K (C9 (C8 K hu) (qV 1) b5 (fun _ _=>rfl)) (d9 z9 i8))) (fun _ _ _ _=>(T6 (i:=0) (show List.Nodup (["part"]:List Str) by decide+kernel) rfl (by walk_at "l"))) (fun _ _ _ _=>X3) (fun _ _ _ _=>(qC J2 (hr.mono (by decide)) ur (d9 (qV 0) i8))))
   (A0 (u6 (i:=3) hN rfl (by walk_at "l") (bR (d9 (qC J2 (hr.mono (by decide)) xZ (d9 (C9 (C8 K hu) (qV 1) b5 (fun _ _=>rfl)) i8)) (d9 (C9 (C8 K hu) (qV 2) b5 (fun _ _=>rfl)) (d9 (bT (bU K) (qV 2) (aM b5) dA) i8)))))
   (A0 (S2 (E6 (D2 K (qC fi (hr.mono (by decide)) j0 (d9 (qV 3) i8)))) (B9 (bZ aj T.r_NoText rfl (d9 z9 i8))) T8)
   (B9 (x5 (qV 3))))))))),?_⟩
  walk_at "r"
  rcases h with⟨t,rfl,hl,k,kE⟩|⟨⟨ty,hty,hne⟩,kE⟩
  case inr=>
   refine U0 (U1 hty (by simp) ?_)
   rw[show Y8 ty "str"=false by unfold Y8;simp [hne]]
   walk_at "r"
   exact⟨by decide,fun e he=>kE _ e (Same.refl _) he⟩
  refine U0 (U1 (t:="str") rfl (by simp) ?_)
  rw[show Y8 "str" "str"=true from rfl]
  walk_at "r"
  refine⟨rfl,?_⟩
  walk_at "r"
  refine⟨_,_,rfl,rfl,Ce,by omega,fun p1 n1=>?_⟩
  have hle:∀y∈PySem.Txt.split t " > ",y.length≤t.length:=fun y hy=>cz Ce hy
  obtain⟨H1,e1,f1,m1,_⟩:=b6 (o:= .lst _) n1
  rw[e1]
  walk_at "r"
  refine E5 (K3 (SqL.of f1) ?_)
  rw[List.length_map]
  walk_at "r"
  by_cases c0:(PySem.Txt.split t " > ").length=2
  case neg=>
   rw[if_pos (by simp;omega)]
   walk_at "r"
   refine⟨by decide,fun e he=>kE (fun L R bs h=>?_) _ e m1 he⟩
   obtain⟨a,b,z,_⟩:=h.sd
   rw[z] at c0
   exact c0 rfl
  rw[if_neg (by simp;omega)]
  obtain⟨ta,tb,es⟩:∃ta tb,PySem.Txt.split t " > "=[ta,tb]:=by
   match h:PySem.Txt.split t " > ",c0 with
   |[a,b],_=>exact⟨a,b,rfl⟩
  rw[es] at f1 hle
  have la:=hle ta (by simp)
  have lb:=hle tb (by simp)
  walk_at "r"
  refine x6 (SqL.of f1) (b9 (j:=1) rfl) ?_
  walk_at "r"
  refine⟨rfl,?_⟩
  walk_at "r"
  refine⟨_,_,rfl,rfl,Ai,by omega,fun p2 n2=>?_⟩
  have hps:∀y∈PySem.Txt.split tb " ! ",y.length≤tb.length:=fun y hy=>cz Ai hy
  have hpn:=dj (t:=tb) Ai
  have hp0:=lG tb " ! "
  have kE':∀H',Same H H'→∀e,H' e=none→(∀L R bs,WebRd ta L→Paired WebRd (PySem.Txt.split tb " ! ") (R::bs)→¬RuleOx L R bs)→E (.ref (cA K "NoText")) (some e) H':=fun H' s e he hn=>kE (fun L R bs h=>by
   obtain⟨a,b,z,h1,h2⟩:=h.sd
   rw[es] at z
   cases z
   exact hn L R bs h1 h2 h.ok) H' e s he
  have k':∀L R bs,WebRd ta L→Paired WebRd (PySem.Txt.split tb " ! ") (R::bs)→RuleOx L R bs→RuleNw K H Q L R bs:=fun L R bs h1 h2 h3=>k L R bs ⟨⟨ta,tb,es,h1,h2⟩,h3⟩
  clear k kE
  generalize PySem.Txt.split tb " ! "=ps at k' kE' hps hpn hp0⊢
  obtain⟨H2,e2,f2,m2,_⟩:=b6 (o:= .lst _) n2
  rw[e2]
  have m02:=m1.trans m2
  refine C7 (SqL.of f2) ?_
  refine B7 (n:=ps.length) (fun i out H'=>Same H2 H'∧∃(ss:List Sd) (ws:List G8),out=(ss.map fun s=>V.ref s.a)∧(∀s∈ss,SdX K H' s)∧Paired (CpW H2) ss ws∧Paired WebRd (ps.take i) ws) ⟨Same.refl _,[],[],rfl,(fun _ h=>nomatch h),.nil,.nil⟩ (fun i out H' hi hp=>⟨_,.str (ps[i]),SqL.of (hp.1 _ _ f2),by rw[List.getElem?_map,List.getElem?_eq_getElem hi];rfl⟩) ?_ ?_
  ·rintro N i v out H3' H3 hi ⟨s3,ss,ws,rfl,hss,pb,pr⟩ y hN'
   obtain⟨rfl,hx⟩:=Itl.get y (SqL.of (s3 _ _ f2))
   rw[List.getElem?_map] at hx
   have hxi:=List.getElem?_eq_getElem hi
   generalize ps[i]=x at hxi
   rw[hxi] at hx
   cases hx
   have hxm:=List.mem_of_getElem? hxi
   have hxl:=hps x hxm
   have hsl:=Paired.length pb
   have hrl:=Paired.length pr
   rw[List.length_take] at hrl
   walk_at "r"
   refine⟨rfl,?_⟩
   walk_at "r"
   refine⟨_,rfl,.inl ⟨x,rfl,by omega,fun W hW=>?_,fun hn H' e s he=>kE' H' (m02.trans (s3.trans s)) e he fun L R bs _ h2 _=>?_⟩⟩
   ·intro a p q kvs W' H4 s4 w4 fp fq npq np nq pm1 pm2
    refine⟨K0 (by rw[List.length_map];omega),hN' _ _ ⟨s3.trans s4,ss++[⟨a,p,q,kvs,W'⟩],ws++[W],by rw[List.map_append];rfl,fun s hs=>?_,?_,?_⟩⟩
    ·rcases List.mem_append.mp hs with h|h
     ·exact(hss s h).same s4
     ·rw[List.mem_singleton.mp h]
      exact ik hW w4 fp fq npq pm1 pm2
    ·exact A6 pb ⟨s3.free np,s3.free nq,pm1,pm2⟩
    ·rw[C5 hxi]
     exact A6 pr hW
   ·obtain⟨W,_,z⟩:=B8 h2 hxi
    exact hn W z
  ·rintro out H3 ⟨s3,ss,ws,rfl,hss,pb,pr⟩
   rw[List.take_of_length_le (Nat.le_refl _)] at pr
   have hsl:=Paired.length pb
   have hrl:=Paired.length pr
   refine⟨⟨_,SqL.of (s3 _ _ f2),by rw[List.length_map];exact Nat.le_refl _⟩,fun D hD=>⟨K0 (by rw[List.length_map];omega),?_⟩⟩
   obtain⟨H4,e4,f4,m4,_⟩:=b6 (H:=H3) (o:= .lst (ss.map fun s=>V.ref s.a)) hD
   show Y9 _ _ _ (A5 H3 D _) _
   rw[e4]
   have m24:=s3.trans m4
   have m04:=m02.trans m24
   have f14:=m24 _ _ (m2 _ _ f1)
   obtain⟨RR,bs',rfl⟩:∃RR bs',ss=RR::bs':=by
    cases ss with
    |nil=>
     cases ps with
     |nil=>exact absurd rfl hp0
     |cons _ _=>simp at hsl hrl;omega
    |cons a r=>exact⟨a,r,rfl⟩
   obtain⟨WR,wbs,rfl⟩:∃WR wbs,ws=WR::wbs:=by
    cases ws with
    |nil=>simp at hsl
    |cons a r=>exact⟨a,r,rfl⟩
   have cR:CpW H2 RR WR:=by cases pb;assumption
   have cB:Paired (CpW H2) bs' wbs:=by cases pb;assumption
   walk_at "r"
   refine x6 (SqL.of f14) (b9 (j:=0) rfl) ?_
   walk_at "r"
   refine⟨_,rfl,.inl ⟨ta,rfl,by omega,fun WL hWL=>?_,fun hn H' e s he=>kE' H' (m04.trans s) e he fun L R bs h1 _ _=>hn L h1⟩⟩
   intro a p q kvs W' H5 s5 w5 fp fq npq np nq pm1 pm2
   have SL:=ik hWL w5 fp fq npq pm1 pm2
   have f45:=s5 _ _ f4
   walk_at "r"
   refine x6 (SqL.of f45) (b9 (j:=0) rfl) ?_
   walk_at "r"
   refine P4 (SqL.of f45) (fun p6 n6=>?_)
   rw[show V9 ((RR::bs').map fun s=>V.ref s.a) (some 1) none=bs'.map fun s=>V.ref s.a from sv _ _]
   obtain⟨H6,e6,f6,m6,_⟩:=b6 (o:= .lst _) n6
   rw[e6]
   walk_at "r"
   refine⟨d7 (by simp),fun p7 n7=>?_⟩
   obtain⟨H7,e7,f7,m7,_⟩:=b6 (o:= .tup _) n7
   rw[e7]
   have m57:=m6.trans m7
   have m47:=s5.trans m57
   have RI:RuleX K H7 p7 p6 ⟨a,p,q,kvs,W'⟩ RR bs':=⟨SqT.of f7,SdX.same SL m57,(hss _ List.mem_cons_self).same (m4.trans m47),SqL.of (m7 _ _ f6),fun b hb=>(hss _ (List.mem_cons_of_mem _ hb)).same (m4.trans m47)⟩
   have cL:CpW H ⟨a,p,q,kvs,W'⟩ WL:=⟨m04.free np,m04.free nq,pm1,pm2⟩
   have cR':=cR.up m02
   have cB':Paired (CpW H) bs' wbs:=Paired.imp' (fun _ _ z=>CpW.up z m02) cB
   have hpB:=xT cB'
   have hpB':=oZ hpB
   walk_at "r"
   refine⟨p7,p6,_,_,_,rfl,RI,by simp at hsl hrl;omega,fun b hb H8 m8=>?_⟩
   have m08:=m04.trans (m47.trans m8)
   cases b with
   |false=>
    walk_at "r"
    refine⟨by decide,fun e he=>kE' _ m08 e he fun L R bs h1 h2 h3=>?_⟩
    have e1:=WebRd.uniq h1 hWL
    have e2:=cn (F:=WebRd) (fun _ _ _ x y=>WebRd.uniq x y) h2 pr
    cases e2
    subst e1
    have z:=hb.mpr (h3.perm cL.pw cR.pw hpB)
    cases z
   |true=>
    walk_at "r"
    exact k' WL WR wbs hWL pr ((hb.mp rfl).perm cL.pw.symm cR.pw.symm hpB') p7 p6 _ _ _ H8 m08 (RI.same m8) ((m04.trans s5).free n6) cL cR' cB'
def zF (x:Str)(most:Int)(first signs:Str):Bool:=J0 x signs most&&lQ x first
def bH (K:PySem.W.Frag):Sp:=fun vs H Q _=>∃(x:Str) (most:Int) (first signs:Str),vs=[.str x,.int most,.str first,.str signs]∧Sh x∧Q (.bl (zF x most first signs)) H
def X1 (K:PySem.W.Frag):Sp:=fun vs H Q _=>∃x:Str,vs=[.str x]∧Sh x∧Q (.bl (x8 x)) H
def P7 (K:PySem.W.Frag):Sp:=fun vs H Q _=>∃x:Str,vs=[.str x]∧Sh x∧Q (.bl (o6 x)) H
theorem iY {x:Str}(h:o6 x=true):x8 x=true:=by
 have h':J0 x kSL 8=true:=h
 unfold J0 at h'
 simp only[Bool.and_eq_true,decide_eq_true_eq] at h'
 unfold x8
 rw[Bool.and_eq_true]
 have ha:∀c∈x.cps.toList,c∈kSL.cps.toList:=fun c hc=>of_decide_eq_true (List.all_eq_true.mp (show J5 x kSL=true from h'.2) c hc)
 constructor
 ·unfold J0
  rw[decide_eq_true h'.1.1,decide_eq_true (show(x.length:Int)≤24 by omega),Bool.true_and,Bool.true_and]
  exact List.all_eq_true.mpr fun c hc=>decide_eq_true (uF _ (ha c hc))
 ·unfold lQ
  refine decide_eq_true (ha _ ?_)
  have hl:=jL x
  cases e:x.cps.toList with
  |nil=>rw[e] at hl;simp at hl;omega
  |cons c r=>exact List.mem_cons_self
theorem uw (x:Str):zF x 8 kSL kSL=o6 x:=by
 unfold zF
 show(J0 x kSL 8&&lQ x kSL)=J0 x kSL 8
 cases h:J0 x kSL 8
 ·rfl
 ·have z:=iY (show o6 x=true from h)
  unfold x8 at z
  rw[Bool.and_eq_true] at z
  rw[z.2];rfl
theorem zG:kSL++("0123456789.":Str)=kNS:=by decide+kernel
theorem mX {f:Addr}{fd:FuncData}(T:Txt K mg)(F:Fun K "_law_is" "_law_is" X8 f fd):E3 P w K mg base B4 1 f fd ["_law_text","_law_most","_law_first","_law_signs"] (bH K):=by
 refine F.ok sc__law_is (fun vs H Q E h=>?_) (fun cdv A outer s H vs Q E hr h=>?_)
 ·obtain⟨x,most,first,signs,rfl,_⟩:=h
  rfl
 ·obtain⟨x,most,first,signs,rfl,hx,k⟩:=h
  have hN:=sc__law_is.nd
  have hu:=C0 hr
  refine⟨_,QSs.r (A0 (S2 (fV (Q0 (E6 (xc xI xI b5 (qB (E4 K P w) T.b_len Boot.«len» (d9 (qV 0) i8)) (qV 1))) (M5 (r6 (iw K hu) (C9 (C8 K hu) (qV 0) b5 (fun _ _=>rfl)) (qV 2) (by rfl))))) (B9 (x5 eG)) T8)
   (A0 (aP PassesOwn.never rfl (U2 K (qV 0)) (T6 (i:=4) hN rfl (by walk_at "l"))
    (B9 (S2 (r6 (iw K hu) (qV 4) (qV 3) (by rfl)) (B9 (x5 eG)) T8)))
   (B9 (x5 eG)))),?_⟩
  walk_at "r"
  refine E5 (Q6 (K0 hx) ?_)
  walk_at "r"
  have no:¬(1≤(x.length:Int)∧(x.length:Int)≤most)→zF x most first signs=false:=fun h=>by
   unfold zF J0
   by_cases h1:1≤(x.length:Int)
   ·rw[decide_eq_false (show ¬((x.length:Int)≤most) from fun z=>h ⟨h1,z⟩)];simp
   ·rw[decide_eq_false h1];simp
  by_cases h1:1≤(x.length:Int)
  case neg=>
   rw[decide_eq_false h1]
   walk_at "r"
   rw[no fun z=>h1 z.1] at k
   exact k
  rw[decide_eq_true h1]
  walk_at "r"
  by_cases h2:(x.length:Int)≤most
  case neg=>
   rw[decide_eq_false h2]
   walk_at "r"
   rw[no fun z=>h2 z.2] at k
   exact k
  rw[decide_eq_true h2]
  walk_at "r"
  refine M3 (K0 hx) (lh h1) ?_
  walk_at "r"
  have ev:zF x most first signs=(J5 x signs&&lQ x first):=by
   unfold zF J0
   rw[decide_eq_true h1,decide_eq_true h2];rfl
  rw[ev] at k
  show(if(!lQ x first)=true then _ else _)
  cases hh:lQ x first
  ·rw[hh,Bool.and_false] at k
   walk_at "r"
   exact k
  rw[hh,Bool.and_true] at k
  walk_at "r"
  refine G7 (n:=x.cps.size) (fun i σ H'=>H'=H∧(∀c∈x.cps.toList.take i,c∈signs.cps.toList)∧∃v,σ=[some (.str x),some (.int most),some (.str first),some (.str signs),v]) ⟨rfl,(fun _ h=>(nomatch h)),none,rfl⟩ (fun i σ H' hi _=>by exact hi) ?_ ?_
  ·rintro _ i v σ H1 H2 hi ⟨rfl,ha,v4,rfl⟩ y
   obtain⟨rfl,c,hc,rfl⟩:=Its.lt y
   walk_at "r"
   by_cases hm:c∈signs.cps.toList
   ·rw[if_neg (by simpa using hm)]
    walk_at "r"
    refine⟨rfl,fun d hd=>?_,_,rfl⟩
    rw[C5 hc] at hd
    rcases List.mem_append.mp hd with z|z
    ·exact ha d z
    ·rw[List.mem_singleton.mp z];exact hm
   ·rw[if_pos (by simpa using hm)]
    walk_at "r"
    have e:J5 x signs=false:=Bool.eq_false_iff.mpr fun z=>hm (of_decide_eq_true (List.all_eq_true.mp z c (List.mem_of_getElem? hc)))
    rw[e] at k
    exact k
  ·rintro σ H1 ⟨rfl,ha,v4,rfl⟩
   refine⟨Nat.le_refl _,?_⟩
   walk_at "r"
   have e:J5 x signs=true:=List.all_eq_true.mpr fun c hc=>decide_eq_true (ha c (by rw[List.take_of_length_le (by simp)];exact hc))
   rw[e] at k
   exact k
theorem fQ {f:Addr}{fd:FuncData}(T:Txt K mg)(X9:E2 P w K mg base B4 1 "_law_is" ["_law_text","_law_most","_law_first","_law_signs"] [] (bH K))(F:Fun K "_law_is_name" "_law_is_name" K5 f fd):E3 P w K mg base B4 2 f fd ["_law_text"] (X1 K):=by
 refine F.ok sc__law_is_name (fun vs H Q E h=>?_) (fun cdv A outer s H vs Q E hr h=>?_)
 ·obtain⟨x,rfl,_⟩:=h
  rfl
 ·obtain⟨x,rfl,hx,k⟩:=h
  have hN:=sc__law_is_name.nd
  have hu:=C0 hr
  refine⟨_,QSs.r (A0 (u6 (i:=1) hN rfl (by walk_at "l") z9)
   (B9 (x5 (qC X9 (hr.mono (by decide)) j0 (d9 (qV 0) (d9 b5 (d9 (qV 1) (d9 (p0 (t7 K) (qV 1) z9) i8)))))))),?_⟩
  walk_at "r"
  refine o3 (d7 (by decide+kernel)) ?_
  walk_at "r"
  refine⟨x,24,kSL,_,rfl,hx,?_⟩
  rw[show(Str.ofString "abcdefghijklmnopqrstuvwxyz"++Str.ofString "0123456789.")=kNS from zG]
  exact k
theorem fY {f:Addr}{fd:FuncData}(T:Txt K mg)(X9:E2 P w K mg base B4 1 "_law_is" ["_law_text","_law_most","_law_first","_law_signs"] [] (bH K))(F:Fun K "_law_is_kind" "_law_is_kind" K4 f fd):E3 P w K mg base B4 2 f fd ["_law_text"] (P7 K):=by
 refine F.ok sc__law_is_kind (fun vs H Q E h=>?_) (fun cdv A outer s H vs Q E hr h=>?_)
 ·obtain⟨x,rfl,_⟩:=h
  rfl
 ·obtain⟨x,rfl,hx,k⟩:=h
  have hN:=sc__law_is_kind.nd
  have hu:=C0 hr
  refine⟨_,QSs.r (A0 (u6 (i:=1) hN rfl (by walk_at "l") z9)
   (B9 (x5 (qC X9 (hr.mono (by decide)) j0 (d9 (qV 0) (d9 b5 (d9 (qV 1) (d9 (qV 1) i8)))))))),?_⟩
  walk_at "r"
  refine⟨x,8,kSL,kSL,rfl,hx,?_⟩
  rw[uw]
  exact k
def Cn (x:Str):Prop:=58∉x.cps.toList∧40∉x.cps.toList∧41∉x.cps.toList∧44∉x.cps.toList
def vn (r:Str)(y:Sum Str M7):Prop:=match y with
 | .inl k=>r=k∧o6 k=true
 | .inr t=>r=t.1++"("++(t.2.1++","++t.2.2++")")∧o6 t.1=true∧Cn t.2.1∧Cn t.2.2
def kH (w:Str)(x:P0):Prop:=∃r:Str,w=x.1++":"++r∧x8 x.1=true∧vn r x.2
theorem DJ:58∉kSL.cps.toList:=by decide+kernel
theorem DO:41∉kSL.cps.toList:=by decide+kernel
theorem DX:44∉kSL.cps.toList:=by decide+kernel
theorem DD:40∉kNS.cps.toList:=by decide+kernel
theorem DG:41∉kNS.cps.toList:=by decide+kernel
theorem bW {x:Str}(h:x8 x=true):Cn x:=⟨fK (fZ h) DQ,fK (fZ h) DD,fK (fZ h) DG,fK (fZ h) DI⟩
theorem Z2 {x:Str}(h:o6 x=true):Cn x:=⟨fK (gf h) DJ,fK (gf h) Bl,fK (gf h) DO,fK (gf h) DX⟩
theorem fb (k a b:Str):(k++"("++(a++","++b++")"):Str).cps.toList=k.cps.toList++40::(a.cps.toList++44::(b.cps.toList++[41])):=by
 rw[di,fk,cX]
 simp only[P9,rW,List.append_assoc,List.singleton_append,List.cons_append,List.nil_append]
theorem Ab {r:Str}{y:Sum Str M7}(h:vn r y):58∉r.cps.toList:=by
 cases y with
 |inl k=>rw[h.1];exact(Z2 h.2).1
 |inr t=>
  obtain⟨k,a,b⟩:=t
  obtain⟨e,h1,h2,h3⟩:=h
  have c1:=(Z2 h1).1
  have c2:=h2.1
  have c3:=h3.1
  simp only[] at e c1 c2 c3
  rw[e,fb]
  simp only[List.mem_append,List.mem_cons,not_or]
  exact⟨c1,by decide,c2,by decide,c3,by decide,by simp⟩
theorem nT (n r:Str):(n++":"++r:Str).cps.toList=n.cps.toList++58::r.cps.toList:=by
 rw[bw,P9,P9,rW,List.append_assoc];rfl
theorem xm {c:Nat}{u v:List Nat}(h1:c∉u)(h2:c∉v):(u++c::v).count c=1:=by
 rw[List.count_append,List.count_cons_self,List.count_eq_zero.mpr h1,List.count_eq_zero.mpr h2]
theorem mR {c:Nat}{l:List Nat}(h:l.count c=1):∃u v,l=u++c::v∧c∉u∧c∉v:=by
 obtain⟨u,v,e,hu⟩:=List.eq_append_cons_of_mem (List.count_pos_iff.mp (by omega:0<l.count c))
 refine⟨u,v,e,hu,fun hv=>?_⟩
 have z:=List.count_pos_iff.mpr hv
 rw[e,List.count_append,List.count_cons_self] at h
 omega
theorem wI {w:Str}{x:P0}(h:kH w x):w.cps.toList.count 58=1:=by
 obtain⟨r,e,h1,h2⟩:=h
 rw[e,nT]
 exact xm (bW h1).1 (Ab h2)
theorem zv {w n r:Str}{x:P0}(e:w.cps.toList=n.cps.toList++58::r.cps.toList)(hn:58∉n.cps.toList)(h:kH w x):x.1=n∧x8 n=true∧vn r x.2:=by
 obtain⟨r',e',h1,h2⟩:=h
 have z:w.cps.toList=x.1.cps.toList++58::r'.cps.toList:=by rw[e',nT]
 rw[e] at z
 have q:=gO hn (bW h1).1 z
 have q1:=S0 q.1
 have q2:=S0 q.2
 exact⟨q1.symm,q1▸h1,q2▸h2⟩
theorem oY {r:Str}{t:M7}(h:vn r (.inr t)):r.cps.toList.count 40=1∧r.cps.toList.count 41=1∧r.cps.toList.count 44=1∧∃e:Str,r=e++")":=by
 obtain⟨k,a,b⟩:=t
 obtain⟨e,h1,h2,h3⟩:=h
 have c1:=Z2 h1
 simp only[] at e c1 h2 h3
 have cl:∀{c:Nat} {l:List Nat},c∉l→l.count c=0:=fun h=>List.count_eq_zero.mpr h
 refine⟨?_,?_,?_,k++"("++(a++","++b),by rw[e];simp only[Str.append_assoc]⟩
 ·rw[e,fb]
  exact xm c1.2.1 (by simp only[List.mem_append,List.mem_cons,not_or];exact⟨h2.2.1,by decide,h3.2.1,by decide,by simp⟩)
 ·rw[e,fb,show k.cps.toList++40::(a.cps.toList++44::(b.cps.toList++[41]))=(k.cps.toList++40::(a.cps.toList++44::b.cps.toList))++41::[] by simp]
  exact xm (by simp only[List.mem_append,List.mem_cons,not_or];exact⟨c1.2.2.1,by decide,h2.2.2.1,by decide,h3.2.2.1⟩) (by simp)
 ·rw[e,fb,show k.cps.toList++40::(a.cps.toList++44::(b.cps.toList++[41]))=(k.cps.toList++40::a.cps.toList)++44::(b.cps.toList++[41]) by simp]
  exact xm (by simp only[List.mem_append,List.mem_cons,not_or];exact⟨c1.2.2.2,by decide,h2.2.2.2⟩) (by simp only[List.mem_append,List.mem_cons,not_or];exact⟨h3.2.2.2,by decide,by simp⟩)
theorem dS {x:Str}{c:Nat}{u v:List Nat}(e:x.cps.toList=u++c::v)(hu:c∉u):PySem.Txt.find x ⟨#[c]⟩=(u.length:Nat):=by
 refine wz x c u.length (by rw[e];simp) fun j hj z=>?_
 rw[e,List.getElem?_append_left hj] at z
 exact hu (List.mem_of_getElem? z)
theorem ux {x:Str}{u v:List Nat}(e:x.cps.toList=u++v):PySem.Txt.slice x none (some (u.length:Int))=⟨u.toArray⟩:=by
 refine S0 ?_
 have hl:x.length=u.length+v.length:=by rw[←J3,e,List.length_append]
 rw[ph _ _ (by omega) (by omega),e,Int.toNat_natCast,List.take_left]
theorem oU {x:Str}{u v:List Nat}{i:Int}(e:x.cps.toList=u++v)(hi:i=(u.length:Int)):PySem.Txt.slice x (some i) none=⟨v.toArray⟩:=by
 refine S0 ?_
 have hl:x.length=u.length+v.length:=by rw[←J3,e,List.length_append]
 rw[hi,gi _ _ (by omega) (by omega),e,Int.toNat_natCast,List.drop_left]
theorem zw {x:Str}{u v:List Nat}{c:Nat}{i:Int}(e:x.cps.toList=u++(v++[c]))(hi:i=(u.length:Int)):PySem.Txt.slice x (some i) (some (-1))=⟨v.toArray⟩:=by
 have hl:x.cps.toList.length=u.length+v.length+1:=by rw[e];simp;omega
 have hl':=J3 x
 show StrLaws.sliceText x (some i) (some (-1))=_
 rw[StrLaws.sliceText_neg_hi _ _ (by omega) (by omega),StrLaws.sliceText_plain ⟨by omega,by omega,by omega⟩,e]
 congr 1
 rw[show i.toNat=u.length by omega,List.drop_left,show(-1+(x.length:Int) -i).toNat=v.length by omega,List.take_left]
theorem qa (x:Str):(PySem.Txt.slice x (some (-1)) none=")")↔∃e:Str,x=e++")":=by
 constructor
 ·intro h
  by_cases h0:x.length=0
  ·have e:x=Str.empty:=S0 (by
    have z:=J3 x
    rw[h0] at z
    rw[List.eq_nil_of_length_eq_zero z];rfl)
   rw[e] at h
   exact absurd h (by decide+kernel)
  ·have z:=J3 x
   have e:=(List.dropLast_concat_getLast (l:=x.cps.toList) (fun q=>by rw[q] at z;simp at z;omega)).symm
   generalize x.cps.toList.dropLast=u at e
   generalize x.cps.toList.getLast _=c at e
   have hu:x.length=u.length+1:=by rw[←z,e];simp
   have h1:PySem.Txt.slice x (some (-1)) none=(⟨[c].toArray⟩:Str):=by
    show StrLaws.sliceText x (some (-1)) none=_
    rw[StrLaws.sliceText_neg_lo _ _ (by omega) (by omega)]
    exact oU e (by omega)
   rw[h1,cX] at h
   have h2:c=41:=by
    have q:=congrArg (fun s:Str=>s.cps.toList) h
    simpa using q
   refine⟨⟨u.toArray⟩,S0 ?_⟩
   rw[cX,P9,e,h2]
 ·rintro⟨e,rfl⟩
  have hl:(e++")":Str).length=e.cps.toList.length+1:=by rw[cX,i7,J3];rfl
  show StrLaws.sliceText _ (some (-1)) none=_
  rw[StrLaws.sliceText_neg_lo _ _ (by omega) (by omega)]
  have z:=oU (x:=(e++")":Str)) (u:=e.cps.toList) (v:=[41]) (i:= -1+(((e++")":Str).length:Nat):Int)) (by rw[cX,P9]) (by omega)
  exact z.trans (by rw[cX])
theorem qG {r:Str}(h1:r.cps.toList.count 40=1)(h2:r.cps.toList.count 41=1)(h3:r.cps.toList.count 44=1)(h4:∃e:Str,r=e++")"):∃k e:Str,r.cps.toList=k.cps.toList++40::(e.cps.toList++[41])∧40∉k.cps.toList∧41∉k.cps.toList∧40∉e.cps.toList∧41∉e.cps.toList∧((∃u v,k.cps.toList=u++44::v∧44∉u)∨(44∉k.cps.toList∧∃a b:Str,e.cps.toList=a.cps.toList++44::b.cps.toList∧44∉a.cps.toList∧44∉b.cps.toList)):=by
 obtain⟨y,rfl⟩:=h4
 have e0:(y++")":Str).cps.toList=y.cps.toList++[41]:=by rw[cX,P9]
 rw[e0] at h1 h2 h3⊢
 have g1:y.cps.toList.count 40=1:=by rw[List.count_append] at h1;simpa using h1
 have g2:41∉y.cps.toList:=fun z=>by
  have:=List.count_pos_iff.mpr z
  rw[List.count_append,show [41].count 41=1 from rfl] at h2;omega
 have g3:y.cps.toList.count 44=1:=by rw[List.count_append] at h3;simpa using h3
 obtain⟨u,v,e,hu,hv⟩:=mR g1
 rw[e] at g2 g3
 refine⟨⟨u.toArray⟩,⟨v.toArray⟩,by rw[e];simp,hu,fun z=>g2 (List.mem_append_left _ z),hv,fun z=>g2 (List.mem_append_right _ (List.mem_cons_of_mem _ z)),?_⟩
 by_cases hk:44∈u
 ·obtain⟨a,b,ea,ha⟩:=List.eq_append_cons_of_mem hk
  exact .inl ⟨a,b,ea,ha⟩
 ·refine .inr ⟨hk,?_⟩
  have gv:v.count 44=1:=by
   rw[List.count_append,List.count_cons_of_ne (by decide),List.count_eq_zero.mpr hk] at g3
   omega
  obtain⟨a,b,ea,ha,hb⟩:=mR gv
  exact⟨⟨a.toArray⟩,⟨b.toArray⟩,ea,ha,hb⟩
theorem pG {r k e:Str}{t:M7}(he:r.cps.toList=k.cps.toList++40::(e.cps.toList++[41]))(hk:40∉k.cps.toList)(h:vn r (.inr t)):o6 k=true:=by
 obtain⟨k',a,b⟩:=t
 obtain⟨e',h1,_⟩:=h
 simp only[] at e' h1
 have z:r.cps.toList=k'.cps.toList++40::(a.cps.toList++44::(b.cps.toList++[41])):=by rw[e',fb]
 rw[he] at z
 have q:=gO hk (Z2 h1).2.1 z
 rw[S0 q.1];exact h1
def Dv (p q:Addr)(H H':Hp):Prop:=∀b o,b≠p→b≠q→H b=some o→H' b=some o
def bI (K:PySem.W.Frag):Sp:=fun vs H Q _=>∃(tw:Str) (p q:Addr) (kvs:List (j6×V)) (Pt:List (Str×Str)) (Ti:List (Str×M7)),vs=[.str tw,.ref p,.ref q]∧Sh tw∧H p=some (.dK (J6 Pt))∧H q=some (.dK kvs)∧TiesIs K H kvs Ti∧p≠q∧Pt.length≤90000∧Ti.length≤90000∧
 (∀x,kH tw x→x.1∉Pt.map (·.1)→x.1∉Ti.map (·.1)→∀(H':Hp) (kvs':List (j6×V)),Dv p q H H'→H' p=some (.dK (J6 (Pt++[x].filterMap G0)))→H' q=some (.dK kvs')→TiesIs K H' kvs' (Ti++[x].filterMap D4)→Q (.bl true) H')∧
 ((∀x,kH tw x→x.1∈Pt.map (·.1)∨x.1∈Ti.map (·.1))→Q (.bl false) H)
theorem BB:[V.str (Str.ofString ":")]=[V.str ⟨#[58]⟩]:=by rw[show Str.ofString ":"=⟨#[58]⟩ from bw]
theorem AM:[V.str (Str.ofString "(")]=[V.str ⟨#[40]⟩]:=by rw[show Str.ofString "("=⟨#[40]⟩ from di]
theorem Bu:[V.str (Str.ofString ")")]=[V.str ⟨#[41]⟩]:=by rw[show Str.ofString ")"=⟨#[41]⟩ from cX]
theorem By:[V.str (Str.ofString ",")]=[V.str ⟨#[44]⟩]:=by rw[show Str.ofString ","=⟨#[44]⟩ from fk]
theorem km {f:Addr}{fd:FuncData}(T:Txt K mg)(Y6:E2 P w K mg base B4 2 "_law_is_name" ["_law_text"] [] (X1 K))(G4:E2 P w K mg base B4 2 "_law_is_kind" ["_law_text"] [] (P7 K))(F:Fun K "_law_word" "_law_word" R1 f fd):E3 P w K mg base B4 3 f fd ["_law_word_here","_law_points","_law_ties"] (bI K):=by
 refine F.ok sc__law_word (fun vs H Q E h=>?_) (fun cdv A outer s H vs Q E hr h=>?_)
 ·obtain⟨tw,p,q,kvs,Pt,Ti,rfl,_⟩:=h
  rfl
 ·obtain⟨tw,p,q,kvs,Pt,Ti,rfl,htw,hp,hq,ti,hpq,hlP,hlT,k,kF⟩:=h
  have hN:=sc__law_word.nd
  have hu:=C0 hr
  refine⟨_,QSs.r (A0 (S2 (r6 (Z8 K hr) (qM PySem.F.plainAttrs_str PySem.F.slot_str_count PySem.F.type_str_count V7 K (qV 0) (d9 z9 i8)) b5 (j9 _)) (B9 (x5 eG)) T8)
   (A0 (u6 (i:=3) hN rfl (by walk_at "l") (qM PySem.F.plainAttrs_str PySem.F.slot_str_find PySem.F.type_str_find K8 K (qV 0) (d9 z9 i8)))
   (A0 (u6 (i:=4) hN rfl (by walk_at "l") (bT (bU K) (qV 0) dA (aM (qV 3))))
   (A0 (u6 (i:=5) hN rfl (by walk_at "l") (bT (bU K) (qV 0) (aM (p0 (t7 K) (qV 3) b5)) dA))
   (A0 (S2 (fV (Q0 (E6 (D2 K (qC Y6 (hr.mono (by decide)) j0 (d9 (qV 4) i8)))) (Q0 (r6 (kIn K hu) (qV 4) (qV 1) (by rfl)) (M5 (r6 (kIn K hu) (qV 4) (qV 2) (by rfl)))))) (B9 (x5 eG)) T8)
   (A0 (S2 (D2 K (qC G4 (hr.mono (by decide)) j0 (d9 (qV 5) i8))) (A0 (kA (qV 5) (xD (qV 1) (qV 4) (Q9 P w hu)))
   (B9 (x5 eG))) T8)
   (A0 (S2 (fV (Q0 (r6 (Z8 K hr) (qM PySem.F.plainAttrs_str PySem.F.slot_str_count PySem.F.type_str_count V7 K (qV 5) (d9 z9 i8)) b5 (j9 _)) (Q0 (r6 (Z8 K hr) (qM PySem.F.plainAttrs_str PySem.F.slot_str_count PySem.F.type_str_count V7 K (qV 5) (d9 z9 i8)) b5 (j9 _)) (Q0 (r6 (Z8 K hr) (qM PySem.F.plainAttrs_str PySem.F.slot_str_count PySem.F.type_str_count V7 K (qV 5) (d9 z9 i8)) b5 (j9 _)) (M5 (r6 (Z8 K hr) (bT (bU K) (qV 5) (aM (Cu oj b5)) dA) z9 (j9 _))))))) (B9 (x5 eG)) T8)
   (A0 (u6 (i:=6) hN rfl (by walk_at "l") (bT (bU K) (qV 5) dA (aM (qM PySem.F.plainAttrs_str PySem.F.slot_str_find PySem.F.type_str_find K8 K (qV 5) (d9 z9 i8)))))
   (A0 (u6 (i:=7) hN rfl (by walk_at "l") (bT (bU K) (qV 5) (aM (p0 (t7 K) (qM PySem.F.plainAttrs_str PySem.F.slot_str_find PySem.F.type_str_find K8 K (qV 5) (d9 z9 i8)) b5)) (aM (Cu oj b5))))
   (A0 (S2 (fV (Q0 (r6 jQ (qM PySem.F.plainAttrs_str PySem.F.slot_str_find PySem.F.type_str_find K8 K (qV 5) (d9 z9 i8)) (qM PySem.F.plainAttrs_str PySem.F.slot_str_find PySem.F.type_str_find K8 K (qV 5) (d9 z9 i8)) (j9 _)) (M5 (E6 (D2 K (qC G4 (hr.mono (by decide)) j0 (d9 (qV 6) i8))))))) (B9 (x5 eG)) T8)
   (A0 (kA (bR (d9 (qV 6) (d9 (bT (bU K) (qV 7) dA (aM (qM PySem.F.plainAttrs_str PySem.F.slot_str_find PySem.F.type_str_find K8 K (qV 7) (d9 z9 i8)))) (d9 (bT (bU K) (qV 7) (aM (p0 (t7 K) (qM PySem.F.plainAttrs_str PySem.F.slot_str_find PySem.F.type_str_find K8 K (qV 7) (d9 z9 i8)) b5)) dA) i8)))) (xD (qV 2) (qV 4) (Q9 P w hu)))
   (B9 (x5 eG))))))))))))),?_⟩
  walk_at "r"
  refine⟨rfl,?_⟩
  walk_at "r"
  refine⟨_,58,rfl,BB,?_⟩
  walk_at "r"
  by_cases c0:tw.cps.toList.count 58=1
  case neg=>
   rw[decide_eq_false (show ¬(((tw.cps.toList.count 58:Nat):Int)=1) by omega)]
   walk_at "r"
   exact kF fun x hx=>absurd (wI hx) c0
  rw[decide_eq_true (show(((tw.cps.toList.count 58:Nat):Int)=1) by omega)]
  obtain⟨u,v,e0,hu,hv⟩:=mR c0
  obtain⟨n,rfl⟩:∃n:Str,u=n.cps.toList:=⟨⟨u.toArray⟩,rfl⟩
  obtain⟨r,rfl⟩:∃r:Str,v=r.cps.toList:=⟨⟨v.toArray⟩,rfl⟩
  have hal:∀x,kH tw x→x.1=n∧x8 n=true∧vn r x.2:=fun x hx=>zv e0 hu hx
  have hmk:∀y,x8 n=true→vn r y→kH tw (n,y):=fun y h1 h2=>⟨r,S0 (by rw[e0,nT]),h1,h2⟩
  have hln:n.length≤100000:=by
   have:=congrArg List.length e0
   rw[J3,List.length_append,J3] at this
   have hh:tw.length≤100000:=htw
   omega
  have hlr:r.length≤100000:=by
   have:=congrArg List.length e0
   rw[J3,List.length_append,List.length_cons,J3 r] at this
   have hh:tw.length≤100000:=htw
   omega
  walk_at "r"
  refine⟨rfl,?_⟩
  walk_at "r"
  refine⟨_,_,rfl,rfl,?_⟩
  rw[show PySem.Txt.find tw (Str.ofString ":")=(n.cps.toList.length:Nat) from(by rw[show Str.ofString ":"=⟨#[58]⟩ from bw];exact dS e0 hu)]
  walk_at "r"
  refine z8 (K0 htw) ?_
  rw[show PySem.Txt.slice tw none (some ((n.cps.toList.length:Nat):Int))=n from ux e0]
  walk_at "r"
  refine z8 (K0 htw) ?_
  rw[show PySem.Txt.slice tw (some (((n.cps.toList.length:Nat):Int)+1)) none=r from oU (u:=n.cps.toList++[58]) (v:=r.cps.toList) (by rw[e0];simp) (by simp)]
  walk_at "r"
  refine⟨n,rfl,hln,?_⟩
  cases hn:x8 n
  ·walk_at "r"
   exact kF fun x hx=>by have z:=(hal x hx).2.1;rw[hn] at z;cases z
  walk_at "r"
  refine S1 (P6 (k:=Sum.inr n) (.inl hp)) ?_
  rw[M4]
  by_cases i1:n∈Pt.map (·.1)
  ·rw[decide_eq_true i1]
   walk_at "r"
   exact kF fun x hx=> .inl (by rw[(hal x hx).1];exact i1)
  rw[decide_eq_false i1]
  walk_at "r"
  refine S1 (P6 (k:=Sum.inr n) (.inl hq)) ?_
  rw[U7 ti]
  by_cases i2:n∈Ti.map (·.1)
  ·rw[decide_eq_true i2]
   walk_at "r"
   exact kF fun x hx=> .inr (by rw[(hal x hx).1];exact i2)
  rw[decide_eq_false i2]
  walk_at "r"
  refine⟨r,rfl,hlr,?_⟩
  cases hk:o6 r
  case true=>
   walk_at "r"
   refine ez (N4 (k:=Sum.inr n) hp (K0 (by unfold J6;rw[List.length_map];omega)) ?_)
   walk_at "r"
   have ep:N0 (J6 Pt) (Sum.inr n:j6) (.str r)=J6 (Pt++[(n,r)]):=by
    rw[W7 _ (M6 (by rw[R9,←G6];exact fun m=>i1 (ao m)))]
    unfold J6;rw[List.map_append];rfl
   refine k (n,.inl r) (hmk _ hn ⟨rfl,hk⟩) i1 i2 _ kvs (fun b o h1 h2 z=>by rw[d6 h1];exact z) (by rw[g7,ep];rfl) (by rw[d6 (Ne.symm hpq)];exact hq) ?_
   rw[show [((n,Sum.inl r):P0)].filterMap D4=[] from rfl,List.append_nil]
   exact Paired.imp' (fun _ _ z=>af hp z) ti
  walk_at "r"
  have noK:∀x,kH tw x→∃t,x.2= .inr t∧vn r (.inr t):=fun x hx=>by
   have z:=(hal x hx).2.2
   obtain⟨x1,x2⟩:=x
   cases x2 with
   |inl k'=>
    have z1:=z.1
    have z2:=z.2
    rw[←z1,hk] at z2;cases z2
   |inr t=>exact⟨t,rfl,z⟩
  have no:¬(r.cps.toList.count 40=1∧r.cps.toList.count 41=1∧r.cps.toList.count 44=1∧∃e:Str,r=e++")")→Q (.bl false) H:=fun h=>kF fun x hx=>by
   obtain⟨t,_,z⟩:=noK x hx
   exact absurd (oY z) h
  refine⟨rfl,?_⟩
  walk_at "r"
  refine⟨_,40,rfl,AM,?_⟩
  walk_at "r"
  by_cases c1:r.cps.toList.count 40=1
  case neg=>
   rw[decide_eq_false (show ¬(((r.cps.toList.count 40:Nat):Int)=1) by omega)]
   walk_at "r"
   exact no fun z=>c1 z.1
  rw[decide_eq_true (show(((r.cps.toList.count 40:Nat):Int)=1) by omega)]
  walk_at "r"
  refine⟨rfl,?_⟩
  walk_at "r"
  refine⟨_,41,rfl,Bu,?_⟩
  walk_at "r"
  by_cases c2:r.cps.toList.count 41=1
  case neg=>
   rw[decide_eq_false (show ¬(((r.cps.toList.count 41:Nat):Int)=1) by omega)]
   walk_at "r"
   exact no fun z=>c2 z.2.1
  rw[decide_eq_true (show(((r.cps.toList.count 41:Nat):Int)=1) by omega)]
  walk_at "r"
  refine⟨rfl,?_⟩
  walk_at "r"
  refine⟨_,44,rfl,By,?_⟩
  walk_at "r"
  by_cases c3:r.cps.toList.count 44=1
  case neg=>
   rw[decide_eq_false (show ¬(((r.cps.toList.count 44:Nat):Int)=1) by omega)]
   walk_at "r"
   exact no fun z=>c3 z.2.2.1
  rw[decide_eq_true (show(((r.cps.toList.count 44:Nat):Int)=1) by omega)]
  walk_at "r"
  refine z8 (K0 hlr) ?_
  walk_at "r"
  by_cases c4:PySem.Txt.slice r (some (-1)) none=")"
  case neg=>
   rw[decide_eq_false (show ¬(PySem.Txt.slice r (some (-1)) none=Str.ofString ")") from c4)]
   walk_at "r"
   exact no fun z=>c4 ((qa r).mpr z.2.2.2)
  rw[decide_eq_true (show PySem.Txt.slice r (some (-1)) none=Str.ofString ")" from c4)]
  walk_at "r"
  obtain⟨kk,ee,er,hk40,hk41,he40,he41,hcm⟩:=qG c1 c2 c3 ((qa r).mp c4)
  have f40:PySem.Txt.find r (Str.ofString "(")=(kk.cps.toList.length:Nat):=by
   rw[show Str.ofString "("=⟨#[40]⟩ from di];exact dS er hk40
  have hlk:kk.length≤100000:=by
   have:=congrArg List.length er
   rw[J3,List.length_append,J3] at this
   omega
  have hle:ee.length≤100000:=by
   have:=congrArg List.length er
   rw[J3,List.length_append,List.length_cons,List.length_append,J3 ee] at this
   omega
  refine⟨rfl,?_⟩
  walk_at "r"
  refine⟨_,_,rfl,rfl,?_⟩
  rw[f40]
  walk_at "r"
  refine z8 (K0 hlr) ?_
  rw[show PySem.Txt.slice r none (some ((kk.cps.toList.length:Nat):Int))=kk from ux er]
  walk_at "r"
  refine⟨rfl,?_⟩
  walk_at "r"
  refine⟨_,_,rfl,rfl,?_⟩
  rw[f40]
  walk_at "r"
  refine z8 (K0 hlr) ?_
  rw[show PySem.Txt.slice r (some (((kk.cps.toList.length:Nat):Int)+1)) (some (-1))=ee from zw (u:=kk.cps.toList++[40]) (v:=ee.cps.toList) (c:=41) (by rw[er];simp) (by simp)]
  walk_at "r"
  refine⟨rfl,?_⟩
  walk_at "r"
  refine⟨_,_,rfl,rfl,?_⟩
  walk_at "r"
  refine⟨rfl,?_⟩
  walk_at "r"
  refine⟨_,_,rfl,rfl,?_⟩
  rw[f40]
  rcases hcm with⟨u,v,eu,hu4⟩|⟨hk44,a,b,ea,ha,hb⟩
  ·have f44:PySem.Txt.find r (Str.ofString ",")=(u.length:Nat):=by
    rw[show Str.ofString ","=⟨#[44]⟩ from fk]
    exact dS (v:=v++40::(ee.cps.toList++[41])) (by rw[er,eu];simp) hu4
   have hul:u.length<kk.cps.toList.length:=by rw[eu];simp
   rw[f44]
   walk_at "r"
   rw[if_pos (by simp only[decide_eq_true_eq];omega)]
   walk_at "r"
   refine kF fun x hx=>?_
   obtain⟨t,_,z⟩:=noK x hx
   have q:=(Z2 (pG er hk40 z)).2.2.2
   rw[eu] at q
   exact absurd (by simp) q
  have f44:PySem.Txt.find r (Str.ofString ",")=((kk.cps.toList.length+1+a.cps.toList.length:Nat):Int):=by
   rw[show Str.ofString ","=⟨#[44]⟩ from fk]
   have z:=dS (x:=r) (c:=44) (u:=kk.cps.toList++40::a.cps.toList) (v:=b.cps.toList++[41]) (by rw[er,ea];simp) (by simp only[List.mem_append,List.mem_cons,not_or];exact⟨hk44,by decide,ha⟩)
   rw[z,List.length_append,List.length_cons]
   congr 1;omega
  rw[f44]
  walk_at "r"
  rw[if_neg (by simp only[decide_eq_true_eq];omega)]
  walk_at "r"
  refine⟨kk,rfl,hlk,?_⟩
  cases hkk:o6 kk
  ·walk_at "r"
   refine kF fun x hx=>?_
   obtain⟨t,_,z⟩:=noK x hx
   have q:=pG er hk40 z
   rw[hkk] at q;cases q
  walk_at "r"
  have fe:PySem.Txt.find ee (Str.ofString ",")=(a.cps.toList.length:Nat):=by
   rw[show Str.ofString ","=⟨#[44]⟩ from fk];exact dS ea ha
  refine⟨rfl,?_⟩
  walk_at "r"
  refine⟨_,_,rfl,rfl,?_⟩
  rw[fe]
  walk_at "r"
  refine z8 (K0 hle) ?_
  rw[show PySem.Txt.slice ee none (some ((a.cps.toList.length:Nat):Int))=a from ux ea]
  walk_at "r"
  refine⟨rfl,?_⟩
  walk_at "r"
  refine⟨_,_,rfl,rfl,?_⟩
  rw[fe]
  walk_at "r"
  refine z8 (K0 hle) ?_
  rw[show PySem.Txt.slice ee (some (((a.cps.toList.length:Nat):Int)+1)) none=b from oU (u:=a.cps.toList++[44]) (v:=b.cps.toList) (by rw[ea];simp) (by simp)]
  walk_at "r"
  refine⟨d7 (by simp),fun l1 n1=>?_⟩
  obtain⟨H1,e1,f1,m1,_⟩:=b6 (o:= .tup _) n1
  rw[e1]
  have ti1:=ti.mono m1.le
  have hq1:=m1 _ _ hq
  walk_at "r"
  refine ez (N4 (k:=Sum.inr n) hq1 (K0 (by have:=ti.length;omega)) ?_)
  walk_at "r"
  have no58:58∉a.cps.toList∧58∉b.cps.toList:=by
   rw[er,ea] at hv
   simp only[List.mem_append,List.mem_cons,not_or] at hv
   exact⟨hv.2.2.1.1,hv.2.2.1.2.2⟩
  have no40:40∉a.cps.toList∧40∉b.cps.toList:=by
   rw[ea] at he40
   simp only[List.mem_append,List.mem_cons,not_or] at he40
   exact⟨he40.1,he40.2.2⟩
  have no41:41∉a.cps.toList∧41∉b.cps.toList:=by
   rw[ea] at he41
   simp only[List.mem_append,List.mem_cons,not_or] at he41
   exact⟨he41.1,he41.2.2⟩
  have ir:vn r (.inr (kk,a,b)):=⟨S0 (by rw[fb,er,ea];simp),hkk,⟨no58.1,no40.1,no41.1,ha⟩,⟨no58.2,no40.2,no41.2,hb⟩⟩
  have ep:N0 kvs (Sum.inr n:j6) (.ref l1)=kvs++[(Sum.inr n,.ref l1)]:=W7 _ (M6 (by rw[ti.keys,←G6];exact fun m=>i2 (ao m)))
  refine k (n,.inr (kk,a,b)) (hmk _ hn ir) i1 i2 _ (kvs++[(Sum.inr n,.ref l1)]) (fun b o h1 h2 z=>by rw[d6 h2];exact m1 _ _ z) (by rw[d6 hpq,show [((n,Sum.inr (kk,a,b)):P0)].filterMap G0=[] from rfl,List.append_nil];exact m1 _ _ hp) (by rw[g7,ep]) ?_
  exact A6 (Paired.imp' (fun _ _ z=>af hq1 z) ti1) (af hq1 (x:=(n,(kk,a,b))) ⟨rfl,l1,rfl,SqT.of f1⟩)
theorem xx:Str.empty=("":Str):=by decide+kernel
theorem op_ne:("(":Str)≠"":=by decide+kernel
theorem zl {t:Str}{x:P0}(h:kH t x):rE t=some x:=by
 obtain⟨r,e,h1,h2⟩:=h
 obtain⟨n,y⟩:=x
 have e1:PySem.Txt.partition t ":"=(n,(":":Str),r):=by
  rw[e,bw]
  exact gr 58 n r (bW h1).1
 unfold rE
 rw[e1]
 simp only[]
 cases y with
 |inl k=>
  obtain⟨rfl,hk⟩:=h2
  have e2:PySem.Txt.partition r "("=(r,Str.empty,Str.empty):=by
   rw[di]
   exact pY 40 r (Z2 hk).2.1
  rw[e2]
  simp only[]
  rw[if_pos xx]
 |inr t=>
  obtain⟨k,a,b⟩:=t
  obtain⟨er,hk,ha,hb⟩:=h2
  simp only[] at er hk ha hb
  have e2:PySem.Txt.partition r "("=(k,("(":Str),a++","++b++")"):=by
   rw[er,di]
   exact gr 40 k _ (Z2 hk).2.1
  have e3:PySem.Txt.partition (a++","++b) ","=(a,(",":Str),b):=by
   rw[fk]
   exact gr 44 a b ha.2.2.2
  rw[e2]
  simp only[]
  rw[if_neg op_ne,if_pos (show PySem.Txt.endswith (a++","++b++")") ")"=true by rw[cX];exact qL 41 _),show PySem.Txt.slice (a++","++b++")") none (some (-1))=a++","++b by rw[cX];exact oX 41 _,e3]
theorem uq:o6 Str.empty=false:=by decide+kernel
theorem tP:x8 Str.empty=false:=by decide+kernel
theorem wx {x:Str}(h:PySem.Txt.endswith x ")"=true):∃e:Str,x=e++")":=by
 unfold PySem.Txt.endswith at h
 rw[Bool.and_eq_true] at h
 obtain⟨h1,h2⟩:=h
 have h1:=of_decide_eq_true h1
 rw[cX] at h1 h2
 simp only[o9] at h1 h2
 have hl:=J3 x
 have z:=(StrLaws.subAt_one x 41 (x.length -1)).mp ⟨by simp only[o9];omega,h2⟩
 have hx:x.cps.toList≠[]:=fun q=>by rw[q] at hl;simp at hl;omega
 refine⟨⟨x.cps.toList.dropLast.toArray⟩,S0 ?_⟩
 rw[cX,P9]
 have e:=(List.dropLast_concat_getLast hx).symm
 have g:x.cps.toList.getLast hx=41:=by
  rw[←hl] at z
  have q:=List.getLast?_eq_getElem? (l:=x.cps.toList)
  rw[z,List.getLast?_eq_some_getLast hx] at q
  exact Option.some.inj q
 rw[g] at e
 exact e
theorem yj {t:Str}{x:P0}(h:rE t=some x)(hn:x8 x.1=true)(hp:∀k,x.2= .inl k→o6 k=true)(ht:∀y,x.2= .inr y→o6 y.1=true∧x8 y.2.1=true∧x8 y.2.2=true):kH t x:=by
 unfold rE at h
 have p1:=bu 58 t
 rw[←bw] at p1
 have key:∀n r:Str,(if(PySem.Txt.partition r "(").2.1="" then some ((n,.inl (PySem.Txt.partition r "(").1):P0) else if PySem.Txt.endswith (PySem.Txt.partition r "(").2.2 ")"=true then some (n,.inr ((PySem.Txt.partition r "(").1,(PySem.Txt.partition (PySem.Txt.slice (PySem.Txt.partition r "(").2.2 none (some (-1))) ",").1,(PySem.Txt.partition (PySem.Txt.slice (PySem.Txt.partition r "(").2.2 none (some (-1))) ",").2.2)) else none)=some x→x.1=n∧vn r x.2:=by
  intro n r h
  have p2:=bu 40 r
  rw[←di] at p2
  rcases p2 with⟨h40,e2⟩|⟨k,m,h40,er,e2⟩
  ·rw[e2] at h
   simp only[] at h
   rw[if_pos xx] at h
   cases h
   exact⟨rfl,rfl,hp _ rfl⟩
  ·rw[e2] at h
   simp only[] at h
   rw[if_neg op_ne] at h
   by_cases c2:PySem.Txt.endswith m ")"=true
   ·rw[if_pos c2] at h
    obtain⟨e,rfl⟩:=wx c2
    rw[show PySem.Txt.slice (e++")") none (some (-1))=e by rw[cX];exact oX 41 _] at h
    have p3:=bu 44 e
    rw[←fk] at p3
    rcases p3 with⟨h44,e3⟩|⟨a,b,h44,ee,e3⟩
    ·rw[e3] at h
     cases h
     have z:=(ht _ rfl).2.2
     simp only[] at z
     rw[tP] at z;cases z
    ·rw[e3] at h
     cases h
     have z:=ht _ rfl
     simp only[] at z
     exact⟨rfl,by rw[er,ee],z.1,bW z.2.1,bW z.2.2⟩
   ·rw[if_neg c2] at h;cases h
 rcases p1 with⟨h58,e1⟩|⟨n,r,h58,et,e1⟩
 ·rw[e1] at h
  have z:=key t Str.empty h
  obtain⟨x1,x2⟩:=x
  cases x2 with
  |inl k=>
   have q:=z.2.1
   have q2:=z.2.2
   rw[←q,uq] at q2;cases q2
  |inr y=>
   have q:=(oY z.2).1
   exact absurd q (by decide+kernel)
 ·rw[e1] at h
  have z:=key n r h
  exact⟨r,by rw[z.1];exact et,hn,z.2⟩
theorem bf:∀xs:List P0,(xs.map (·.1)).Perm ((xs.filterMap G0).map (·.1)++(xs.filterMap D4).map (·.1))
 |[]=> .nil
 |(n,.inl k)::r=>by
  rw[List.filterMap_cons_some (show G0 (n,.inl k)=some (n,k) from rfl),List.filterMap_cons_none (show D4 (n,.inl k)=none from rfl)]
  exact(bf r).cons n
 |(n,.inr t)::r=>by
  rw[List.filterMap_cons_none (show G0 (n,.inr t)=none from rfl),List.filterMap_cons_some (show D4 (n,.inr t)=some (n,t) from rfl)]
  exact((bf r).cons n).trans List.perm_middle.symm
theorem pV {t:Str}{W:G8}(h:WebRd t W){ys:List P0}(p:Paired xJ (E7 t) ys):Paired kH (E7 t) ys∧(ys.map (·.1)).Nodup∧W.pts=ys.filterMap G0∧W.ts=ys.filterMap D4:=by
 obtain⟨xs,p',e1,e2⟩:=h.xs
 have e:=cU p p'
 subst e
 have o:=(aS W).mp h.ok
 refine⟨?_,?_,e1,e2⟩
 ·have g:∀x∈ys,x8 x.1=true∧(∀k,x.2= .inl k→o6 k=true)∧∀y,x.2= .inr y→o6 y.1=true∧x8 y.2.1=true∧x8 y.2.2=true:=fun x hx=>by
   obtain⟨n,k|y⟩:=x
   ·have z:=o.1 (n,k) (by rw[e1];exact List.mem_filterMap.mpr ⟨_,hx,rfl⟩)
    exact⟨z.1,fun k' q=>by cases q;exact z.2,fun y q=>by cases q⟩
   ·have z:=o.2 (n,y) (by rw[e2];exact List.mem_filterMap.mpr ⟨_,hx,rfl⟩)
    exact⟨z.1,fun k' q=>(by cases q),fun y' q=>by cases q;exact⟨z.2.2.1,z.2.2.2.1.1,z.2.2.2.2.1⟩⟩
  have go:∀{ws:List Str} {ys:List P0},Paired xJ ws ys→(∀x∈ys,x8 x.1=true∧(∀k,x.2= .inl k→o6 k=true)∧∀y,x.2= .inr y→o6 y.1=true∧x8 y.2.1=true∧x8 y.2.2=true)→Paired kH ws ys:=by
   intro ws ys p g
   induction p with
   |nil=>exact .nil
   |cons h _ ih=>
    have z:=g _ List.mem_cons_self
    exact .cons (yj h z.1 z.2.1 z.2.2) (ih fun x hx=>g x (List.mem_cons_of_mem _ hx))
  exact go p g
 ·refine(bf ys).nodup_iff.mpr ?_
  rw[←e1,←e2]
  exact List.nodup_append.mpr ⟨h.np,h.nt,fun a ha b hb e=>by
   obtain⟨x,hx,rfl⟩:=List.mem_map.mp hb
   exact(o.2 x hx).2.1 (e▸ha)⟩
theorem eD:∀{ws:List Str} {xs:List P0},Paired kH ws xs→Paired xJ ws xs
 |[],[],.nil=> .nil
 |_::_,_::_,.cons h r=> .cons (zl h) (eD r)
theorem ud {t:Str}{xs:List P0}(p:Paired kH (E7 t) xs)(nd:(xs.map (·.1)).Nodup)(he:∀x∈xs.filterMap D4,x.2.2.1∈(xs.filterMap G0).map (·.1)∧x.2.2.2∈(xs.filterMap G0).map (·.1))(l1:(xs.filterMap G0).length≤40)(l2:(xs.filterMap D4).length≤60):WebRd t ⟨xs.filterMap G0,xs.filterMap D4⟩:=by
 have nd':=(bf xs).nodup_iff.mp nd
 obtain⟨n1,n2,n3⟩:=List.nodup_append.mp nd'
 have g:∀x∈xs,∃w∈E7 t,kH w x:=fun x hx=>by
  obtain⟨i,hi,ei⟩:=List.mem_iff_getElem.mp hx
  have hl:=Paired.length p
  have hi':i<(E7 t).length:=by omega
  obtain⟨y,hy,ey⟩:=B8 p (List.getElem?_eq_getElem hi')
  rw[List.getElem?_eq_getElem hi,ei] at hy
  cases hy
  exact⟨_,List.getElem_mem hi',ey⟩
 have gp:∀x∈xs.filterMap G0,x8 x.1=true∧o6 x.2=true:=fun x hx=>by
  obtain⟨y,hy,ey⟩:=List.mem_filterMap.mp hx
  obtain⟨w,_,r,_,h1,h2⟩:=g y hy
  obtain⟨n,k|y'⟩:=y
  ·cases ey
   exact⟨h1,h2.2⟩
  ·cases ey
 have gn:∀n∈(xs.filterMap G0).map (·.1),x8 n=true:=fun n hn=>by
  obtain⟨x,hx,rfl⟩:=List.mem_map.mp hn
  exact(gp x hx).1
 refine⟨⟨xs,eD p,rfl,rfl⟩,n1,n2,l1,l2,(aS _).mpr ⟨gp,fun x hx=>?_⟩⟩
 have hx':x∈xs.filterMap D4:=hx
 obtain⟨y,hy,ey⟩:=List.mem_filterMap.mp hx'
 obtain⟨w,_,r,_,h1,h2⟩:=g y hy
 have z:=he x hx'
 obtain⟨n,k|y'⟩:=y
 ·cases ey
 ·cases ey
  exact⟨h1,fun q=>n3 n q n (List.mem_map.mpr ⟨(n,y'),hx',rfl⟩) rfl,h2.2.1,⟨gn _ z.1,z.1⟩,gn _ z.2,z.2⟩
def LR (K:PySem.W.Frag)(H:Hp)(t:Str)(v:V):Prop:=(∃s:Sd,v= .ref s.a∧SdX K H s∧WebRd t s.W)∨(v= .non∧∀W,¬WebRd t W)
theorem LR.same {H H':Hp}{t:Str}{v:V}(h:LR K H t v)(s:Same H H'):LR K H' t v:=by
 rcases h with⟨sd,e,h1,h2⟩|h
 ·exact .inl ⟨sd,e,h1.same s,h2⟩
 ·exact .inr h
def X2 (K:PySem.W.Frag):Sp:=fun vs H Q _=>∃t:Str,vs=[.str t]∧t.length≤50000∧∀(v:V) (H':Hp),Same H H'→LR K H' t v→Q v H'
theorem lP {H:Hp}{t:Str}{a p q:Addr}{kvs:List (j6×V)}{W:G8}(h:WebRd t W)(w:WebAt K H a p q kvs W)(hp:H p=some (.dK (J6 W.pts)))(hq:H q=some (.dK kvs))(ne:p≠q):SdX K H ⟨a,p,q,kvs,W⟩:=ik h w hp hq ne (.refl _) (.refl _)
theorem ug {H H1 H2:Hp}{p q:Addr}(s:Same H H1)(h:Dv p q H1 H2)(np:H p=none)(nq:H q=none):Same H H2:=fun b o e=>h b o (i6 e np) (i6 e nq) (s b o e)
theorem fG {α β:Type}{F:α→β→Prop}:∀(i:Nat) {l:List α} {m:List β},Paired F l m→Paired F (l.take i) (m.take i)
 |0,_,_,_=> .nil
 |_+1,[],[],.nil=> .nil
 |i+1,_::_,_::_,.cons h r=> .cons h (fG i r)
theorem kc {f:Addr}{fd:FuncData}(T:Txt K mg)(cK:E2 P w K mg base B4 3 "_law_word" ["_law_word_here","_law_points","_law_ties"] [] (bI K))(F:Fun K "_law_read" "_law_read" Q3 f fd):E3 P w K mg base B4 4 f fd ["_law_text"] (X2 K):=by
 refine F.ok sc__law_read (fun vs H Q E h=>?_) (fun cdv A outer s H vs Q E hr h=>?_)
 ·obtain⟨t,rfl,_⟩:=h
  rfl
 ·obtain⟨t,rfl,hl,kk⟩:=h
  have k:∀W,WebRd t W→∀(a p q:Addr) (kvs:List (j6×V)) (H':Hp),Same H H'→SdX K H' ⟨a,p,q,kvs,W⟩→Q (.ref a) H':=fun W hW a p q kvs H' s hX=>kk _ H' s (.inl ⟨⟨a,p,q,kvs,W⟩,rfl,hX,hW⟩)
  have kN:(∀W,¬WebRd t W)→∀H',Same H H'→Q .non H':=fun hn H' s=>kk _ H' s (.inr ⟨rfl,hn⟩)
  clear kk
  have hN:=sc__law_read.nd
  have hu:=C0 hr
  refine⟨_,QSs.r (A0 (u6 (i:=1) hN rfl (by walk_at "l") xu)
   (A0 (u6 (i:=2) hN rfl (by walk_at "l") xu)
   (A0 (S2 (r6 (W6 K hr) (qV 0) z9 (j9 _)) (B9 (x5 (bR (d9 (qV 1) (d9 (qV 2) i8))))) T8)
   (A0 (aP PassesOwn.never rfl (U2 K (qM PySem.F.plainAttrs_str PySem.F.slot_str_split PySem.F.type_str_split L9 K (qV 0) (d9 z9 i8))) (T6 (i:=3) hN rfl (by walk_at "l"))
    (B9 (S2 (E6 (D2 K (qC cK (hr.mono (by decide)) j0 (d9 (qV 3) (d9 (qV 1) (d9 (qV 2) i8)))))) (B9 (x5 fj)) T8)))
   (A0 (aP PassesOwn.never rfl (U2 K (qV 2)) (T6 (i:=4) hN rfl (by walk_at "l"))
    (B9 (S2 (fV (Q0 (r6 (iw K hu) (C9 (C8 K hu) (C9 (C8 K hu) (qV 2) (qV 4) (fun _ _=>rfl)) b5 (fun _ _=>rfl)) (qV 1) (by rfl)) (M5 (r6 (iw K hu) (C9 (C8 K hu) (C9 (C8 K hu) (qV 2) (qV 4) (fun _ _=>rfl)) b5 (fun _ _=>rfl)) (qV 1) (by rfl))))) (B9 (x5 fj)) T8)))
   (A0 (S2 (fV (Q0 (r6 ai (qB (E4 K P w) T.b_len Boot.«len» (d9 (qV 1) i8)) b5 (j9 _)) (M5 (r6 ai (qB (E4 K P w) T.b_len Boot.«len» (d9 (qV 2) i8)) b5 (j9 _))))) (B9 (x5 fj)) T8)
   (B9 (x5 (bR (d9 (qV 1) (d9 (qV 2) i8))))))))))),?_⟩
  walk_at "r"
  intro p np
  obtain⟨H1,e1,f1,m1,o1⟩:=b6 (o:= .dK []) np
  rw[e1]
  walk_at "r"
  intro q nq
  obtain⟨H2,e2,f2,m2,o2⟩:=b6 (o:= .dK []) nq
  rw[e2]
  have hpq:p≠q:=fun z=>by rw[←z,f1] at nq;cases nq
  have nq0:H q=none:=m1.free nq
  have m02:=m1.trans m2
  walk_at "r"
  by_cases hd:t="-"
  ·rw[show decide (t=Str.ofString "-")=true from decide_eq_true hd]
   walk_at "r"
   refine⟨d7 (by simp),fun l3 n3=>?_⟩
   obtain⟨H3,e3,f3,m3,_⟩:=b6 (o:= .tup _) n3
   rw[e3]
   have e0:E7 t=[]:=if_pos hd
   have wr:WebRd t ⟨[],[]⟩:=ud (xs:=[]) (by rw[e0];exact .nil) .nil (fun x h=>nomatch h) (Nat.zero_le _) (Nat.zero_le _)
   exact k ⟨[],[]⟩ wr l3 p q [] H3 (m02.trans m3) (lP wr ⟨SqT.of f3,.inl (m3 _ _ (m2 _ _ f1)),.inl (m3 _ _ f2),.nil⟩ (m3 _ _ (m2 _ _ f1)) (m3 _ _ f2) hpq)
  rw[show decide (t=Str.ofString "-")=false from decide_eq_false hd]
  walk_at "r"
  refine⟨rfl,?_⟩
  walk_at "r"
  refine⟨_,_,rfl,rfl,jR uV,by omega,fun p1 n1=>?_⟩
  have e0:E7 t=PySem.Txt.split t " ":=if_neg hd
  have hm:=dv t
  have hw:∀y∈E7 t,y.length≤t.length:=fun y hy=>dD hy
  rw[←e0]
  have hWe:∀xs,Paired kH (E7 t) xs→∀W,WebRd t W→W=⟨xs.filterMap G0,xs.filterMap D4⟩:=fun xs px W hW=>by
   obtain⟨_,_,z1,z2⟩:=pV hW (eD px)
   obtain⟨W1,W2⟩:=W
   simp only[] at z1 z2
   rw[z1,z2]
  have hgo:∀W,WebRd t W→∃ys,Paired kH (E7 t) ys∧(ys.map (·.1)).Nodup:=fun W hW=>by
   obtain⟨ys,py,_⟩:=hW.xs
   have z:=pV hW py
   exact⟨ys,z.1,z.2.1⟩
  have hwo:=fun xs=>ud (t:=t) (xs:=xs)
  generalize E7 t=ws at hm hw hWe hgo hwo⊢
  obtain⟨H3,e3,f3,m3,_⟩:=b6 (o:= .lst _) n1
  rw[e3]
  have m03:=m02.trans m3
  refine C7 (SqL.of f3) ?_
  refine G7 (n:=ws.length) (fun i σ H'=>Same H H'∧H' p1=some (.lst (ws.map V.str))∧∃(xs:List P0) (kvs:List (j6×V)) (v1 v2:Option V),σ=[some (.str t),some (.ref p),some (.ref q),v1,v2]∧Paired kH (ws.take i) xs∧(xs.map (·.1)).Nodup∧H' p=some (.dK (J6 (xs.filterMap G0)))∧H' q=some (.dK kvs)∧TiesIs K H' kvs (xs.filterMap D4)) ⟨m03,f3,[],[],none,none,rfl,.nil,.nil,m3 _ _ (m2 _ _ f1),m3 _ _ f2,.nil⟩ (fun i σ H' hi hp=>⟨_,.str ws[i],SqL.of hp.2.1,by rw[List.getElem?_map,List.getElem?_eq_getElem hi];rfl⟩) ?_ ?_
  ·rintro _ i v σ H4' H4 hi ⟨s4,g4,xs,kvs,v1,v2,rfl,px,nd,hp4,hq4,ti4⟩ y
   obtain⟨rfl,hx⟩:=Itl.get y (SqL.of g4)
   rw[List.getElem?_map] at hx
   have hxi:=List.getElem?_eq_getElem hi
   generalize ws[i]=tw at hxi
   rw[hxi] at hx
   cases hx
   have hxm:=List.mem_of_getElem? hxi
   have hxl:=Paired.length px
   rw[List.length_take] at hxl
   have hl1:=List.length_filterMap_le G0 xs
   have hl2:=List.length_filterMap_le D4 xs
   have memN:∀n,n∈xs.map (·.1)↔n∈(xs.filterMap G0).map (·.1)∨n∈(xs.filterMap D4).map (·.1):=fun n=>by rw[(bf xs).mem_iff,List.mem_append]
   walk_at "r"
   refine⟨tw,p,q,kvs,_,_,rfl,by have:=hw tw hxm;unfold Sh;omega,hp4,hq4,ti4,hpq,by omega,by omega,fun x hx h1 h2 H5 kv5 sm hp5 hq5 ti5=>?_,fun hno=>?_⟩
   ·walk_at "r"
    have np1:p1≠p:=fun z=>by rw[z,hp4] at g4;cases g4
    have nq1:p1≠q:=fun z=>by rw[z,hq4] at g4;cases g4
    refine⟨ug s4 sm np nq0,sm _ _ np1 nq1 g4,xs++[x],kv5,_,_,rfl,by rw[C5 hxi];exact A6 px hx,?_,by rw[List.filterMap_append];exact hp5,hq5,by rw[List.filterMap_append];exact ti5⟩
    rw[List.map_append]
    refine List.nodup_append.mpr ⟨nd,by simp,fun a ha b hb e=>?_⟩
    have eb:b=x.1:=by simpa using hb
    rw[e,eb,memN] at ha
    exact ha.elim h1 h2
   ·walk_at "r"
    refine kN (fun W hW=>?_) _ s4
    obtain⟨ys,py,ndy⟩:=hgo W hW
    obtain⟨y,hyi,hy⟩:=B8 py hxi
    have exs:xs=ys.take i:=by
     have z:Paired kH (ws.take i) (ys.take i):=fG i py
     exact cU (eD px) (eD z)
    have q:=(memN y.1).mpr (hno y hy)
    rw[exs] at q
    have z:(ys.map (·.1)).take (i+1)=(ys.map (·.1)).take i++[y.1]:=C5 (by rw[List.getElem?_map,hyi];rfl)
    have z2:((ys.map (·.1)).take (i+1)).Nodup:=ndy.sublist (List.take_sublist _ _)
    rw[z,←List.map_take] at z2
    exact(List.nodup_append.mp z2).2.2 y.1 q y.1 (by simp) rfl
  ·rintro σ H4 ⟨s4,g4,xs,kvs,v1,v2,rfl,px,nd,hp4,hq4,ti4⟩
   rw[List.take_of_length_le (Nat.le_refl _)] at px
   refine⟨⟨_,SqL.of g4,by rw[List.length_map];exact Nat.le_refl _⟩,?_⟩
   have hkl:=ti4.length
   walk_at "r"
   refine cx hq4 (fun ndq o5=>?_)
   refine G7 (n:=kvs.length) (fun i σ H'=>Same (K1 q o5 kvs H4) H'∧(∃v4,σ=[some (.str t),some (.ref p),some (.ref q),v1,v4])∧∀x∈(xs.filterMap D4).take i,x.2.2.1∈(xs.filterMap G0).map (·.1)∧x.2.2.2∈(xs.filterMap G0).map (·.1)) ⟨Same.refl _,⟨_,rfl⟩,(fun _ h=>(nomatch h))⟩ (fun i σ H' hi hp=>⟨hp.1 _ _ g7,hi⟩) ?_ ?_
   ·rintro _ i v σ H5' H5 hi ⟨s5,⟨v4,rfl⟩,ha⟩ ⟨rfl,kv,hkv,rfl⟩
    have le5:=(aE (o:=o5) hq4).trans s5.le
    have ti5:=ti4.mono le5
    have hp5:Rd H5 p (.dK (J6 (xs.filterMap G0))):=le5.dic (.inl hp4)
    have hq5:Rd H5 q (.dK kvs):=le5.dic (.inl hq4)
    obtain⟨x,hx,ex,c,ec,sc⟩:=ti5.get hkv
    obtain⟨kk,kvv⟩:=kv
    have ex':kk=Sum.inr x.1:=ex
    have ec':kvv= .ref c:=ec
    subst ex' ec'
    have hxm:=List.mem_of_getElem? hx
    have ixq:∀{Q:VK},Q (.ref c) H5→gB K (.ref q) (.str x.1) H5 Q:=fun z=>L6 (v:= .ref c) (by have z':=P6 (k:=Sum.inr x.1) hq5;rw[ak (kv:=(Sum.inr x.1,.ref c)) ndq (List.mem_of_getElem? hkv)] at z';exact z') z
    have bad:¬(x.2.2.1∈(xs.filterMap G0).map (·.1)∧x.2.2.2∈(xs.filterMap G0).map (·.1))→∀W,¬WebRd t W:=fun h W hW=>by
     have e:=hWe xs px W hW
     subst e
     have z:=((aS _).mp hW.ok).2 x hxm
     exact h ⟨z.2.2.2.1.2,z.2.2.2.2.2⟩
    obtain⟨xn,xk,xa,xb⟩:=x
    walk_at "r"
    refine ixq ?_
    walk_at "r"
    refine d4 sc (b9 (j:=1) rfl) ?_
    walk_at "r"
    refine cg (P6 (k:=Sum.inr xa) hp5) ?_
    rw[M4]
    by_cases c1:xa∈(xs.filterMap G0).map (·.1)
    case neg=>
     rw[decide_eq_false c1]
     walk_at "r"
     exact kN (bad fun z=>c1 z.1) _ (s4.trans (s5.thaw hq4))
    rw[decide_eq_true c1]
    walk_at "r"
    refine ixq ?_
    walk_at "r"
    refine d4 sc (b9 (j:=2) rfl) ?_
    walk_at "r"
    refine cg (P6 (k:=Sum.inr xb) hp5) ?_
    rw[M4]
    by_cases c2:xb∈(xs.filterMap G0).map (·.1)
    case neg=>
     rw[decide_eq_false c2]
     walk_at "r"
     exact kN (bad fun z=>c2 z.2) _ (s4.trans (s5.thaw hq4))
    rw[decide_eq_true c2]
    walk_at "r"
    refine⟨s5,⟨_,rfl⟩,fun y hy=>?_⟩
    rw[C5 hx] at hy
    rcases List.mem_append.mp hy with z|z
    ·exact ha y z
    ·rw[List.mem_singleton.mp z];exact⟨c1,c2⟩
   ·rintro σ H5 ⟨s5,⟨v4,rfl⟩,ha⟩
    refine⟨⟨s5 _ _ g7,Nat.le_refl _⟩,?_⟩
    rw[List.take_of_length_le (by omega)] at ha
    have s6:=s5.thaw hq4
    generalize thaw q H5=H6 at s6⊢
    have hp6:=s6 _ _ hp4
    have hq6:=s6 _ _ hq4
    walk_at "r"
    refine E5 (G9 (.inl hp6) ?_)
    rw[D7]
    walk_at "r"
    have far:¬((xs.filterMap G0).length≤40∧(xs.filterMap D4).length≤60)→∀W,¬WebRd t W:=fun h W hW=>by
     have e:=hWe xs px W hW
     subst e
     exact h ⟨hW.lp,hW.lt⟩
    by_cases c1:40<(xs.filterMap G0).length
    ·rw[if_pos (by simp only[decide_eq_true_eq];omega)]
     walk_at "r"
     exact kN (far fun z=>by omega) _ (s4.trans s6)
    rw[if_neg (by simp only[decide_eq_true_eq];omega)]
    walk_at "r"
    refine E5 (G9 (.inl hq6) ?_)
    walk_at "r"
    by_cases c2:60<(xs.filterMap D4).length
    ·rw[if_pos (by simp only[decide_eq_true_eq];omega)]
     walk_at "r"
     exact kN (far fun z=>by omega) _ (s4.trans s6)
    rw[if_neg (by simp only[decide_eq_true_eq];omega)]
    walk_at "r"
    refine⟨d7 (by simp),fun l7 n7=>?_⟩
    obtain⟨H7,e7,f7,m7,_⟩:=b6 (o:= .tup _) n7
    rw[e7]
    have wr:=hwo xs px nd ha (by omega) (by omega)
    exact k _ wr l7 p q kvs H7 (s4.trans (s6.trans m7)) (lP wr ⟨SqT.of f7,.inl (m7 _ _ hp6),.inl (m7 _ _ hq6),ti4.mono (s6.trans m7).le⟩ (m7 _ _ hp6) (m7 _ _ hq6) hpq)
def kn (m:Nat)(W:G8):Prop:=W.pts.length≤m∧W.ts.length≤m∧∀n∈A8 W,o6 n=true
def au (K:PySem.W.Frag):Sp:=fun vs H Q _=>∃(v:V) (m:Nat),vs=[v,.int m]∧((v= .non∧Q (.bl false) H)∨∃s:Sd,v= .ref s.a∧SdX K H s∧∀b,(b=true↔kn m s.W)→∀H',Same H H'→Q (.bl b) H')
theorem vQ {l:List Str}:((l.map fun n=>o6 n).all id=true)↔∀n∈l,o6 n=true:=by
 rw[List.all_eq_true]
 refine⟨fun h n hn=>h _ (List.mem_map.mpr ⟨n,hn,rfl⟩),fun h b hb=>?_⟩
 obtain⟨n,hn,rfl⟩:=List.mem_map.mp hb
 exact h n hn
theorem iM {f:Addr}{fd:FuncData}(T:Txt K mg)(G4:E2 P w K mg base B4 2 "_law_is_kind" ["_law_text"] [] (P7 K))(F:Fun K "_law_small" "_law_small" M9 f fd):E3 P w K mg base B4 3 f fd ["_law_web_here","_law_most"] (au K):=by
 refine F.ok sc__law_small (fun vs H Q E h=>?_) (fun cdv A outer s H vs Q E hr h=>?_)
 ·obtain⟨v,m,rfl,_⟩:=h
  rfl
 ·obtain⟨v,m,rfl,h⟩:=h
  have hN:=sc__law_small.nd
  have hu:=C0 hr
  refine⟨_,QSs.r (A0 (S2 (fV (Q0 (r6 xF (qV 0) fj (j9 _)) (Q0 (r6 ai (qB (E4 K P w) T.b_len Boot.«len» (d9 (C9 (C8 K hu) (qV 0) b5 (fun _ _=>rfl)) i8)) (qV 1) (j9 _)) (M5 (r6 ai (qB (E4 K P w) T.b_len Boot.«len» (d9 (C9 (C8 K hu) (qV 0) b5 (fun _ _=>rfl)) i8)) (qV 1) (j9 _)))))) (B9 (x5 eG)) T8)
   (B9 (x5 (qB (iG K rfl) T.b_all Boot.«all» (d9 (O7 (own:=["_law_name"]) (js:=[]) (by kernel_rfl) rfl (U2 K (p0 (t7 K) (qj (jy K rfl) T.b_list Boot.«list» (d9 (C9 (C8 K hu) (qV 0) b5 (fun _ _=>rfl)) i8)) (qj (jy K rfl) T.b_list Boot.«list» (d9 (C9 (C8 K hu) (qV 0) b5 (fun _ _=>rfl)) i8)))) (fun _ _ _ _=>(T6 (i:=0) (show List.Nodup (["_law_name"]:List Str) by decide+kernel) rfl (by walk_at "l"))) (fun _ _ _ _=>X3) (fun _ _ _ _=>(qC G4 (hr.mono (by decide)) j0 (d9 (qV 0) i8)))) i8))))),?_⟩
  walk_at "r"
  rcases h with⟨rfl,k⟩|⟨sd,rfl,hS,k⟩
  ·rw[show decide (V.non=V.non)=true from decide_eq_true rfl]
   walk_at "r"
   exact k
  rw[show decide (V.ref sd.a=V.non)=false from decide_eq_false (by intro z;cases z),if_neg (by simp)]
  have hW:WebX K H sd.a sd.p sd.q sd.kvs sd.W:=hS
  have hlp:=hW.lp
  have hlt:=hW.lt
  have hkl:=hW.at_.ts.length
  walk_at "r"
  refine d4 hW.at_.tup (b9 (j:=0) rfl) ?_
  walk_at "r"
  refine E5 (G9 hW.at_.pts ?_)
  rw[D7]
  walk_at "r"
  by_cases c1:m<sd.W.pts.length
  ·rw[if_pos (by simp only[decide_eq_true_eq];omega)]
   walk_at "r"
   exact k false ⟨fun z=>(nomatch z),fun z=>by have:=z.1;omega⟩ _ (Same.refl _)
  rw[if_neg (by simp only[decide_eq_true_eq];omega)]
  walk_at "r"
  refine d4 hW.at_.tup (b9 (j:=1) rfl) ?_
  walk_at "r"
  refine E5 (G9 hW.at_.ties ?_)
  walk_at "r"
  by_cases c2:m<sd.W.ts.length
  ·rw[if_pos (by simp only[decide_eq_true_eq];omega)]
   walk_at "r"
   exact k false ⟨fun z=>(nomatch z),fun z=>by have:=z.2.1;omega⟩ _ (Same.refl _)
  rw[if_neg (by simp only[decide_eq_true_eq];omega)]
  walk_at "r"
  refine d4 hW.at_.tup (b9 (j:=0) rfl) ?_
  walk_at "r"
  refine jO (bh hW.at_.pts (fun l1 n1=>?_))
  obtain⟨H1,e1,f1,m1,_⟩:=b6 (o:= .lst _) n1
  rw[e1]
  have f1':H1 l1=some (.lst ((sd.W.pts.map (·.1)).map V.str)):=by rw[f1];unfold J6;rw[List.map_map,List.map_map];rfl
  have W1:=hW.same m1
  walk_at "r"
  refine d4 W1.at_.tup (b9 (j:=1) rfl) ?_
  walk_at "r"
  refine jO (bh W1.at_.ties (fun l2 n2=>?_))
  obtain⟨H2,e2,f2,m2,_⟩:=b6 (o:= .lst _) n2
  rw[e2]
  have f2':H2 l2=some (.lst ((sd.W.ts.map (·.1)).map V.str)):=by
   have z:sd.kvs.map (fun x=>kV x.1)=(sd.W.ts.map (·.1)).map V.str:=by
    have q:=congrArg (List.map kV) W1.at_.ts.keys
    rw[List.map_map,List.map_map] at q
    rw[List.map_map]
    exact q
   rw[f2,z]
  have m12:=m1.trans m2
  refine ip (m2 _ _ f1') f2' (d7 (by simp only[List.length_map];omega)) (fun l3 n3=>?_)
  obtain⟨H3,e3,f3,m3,_⟩:=b6 (o:= .lst _) n3
  rw[e3]
  rw[←List.map_append] at f3
  have hsh:∀n∈sd.W.pts.map (·.1)++sd.W.ts.map (·.1),Sh n:=fun n hn=>by
   rcases List.mem_append.mp hn with z|z
   ·obtain⟨x,hx,rfl⟩:=List.mem_map.mp z
    exact(hW.sp x hx).1
   ·obtain⟨x,hx,rfl⟩:=List.mem_map.mp z
    exact(hW.st x hx).1
  have hal:∀b,(b=true↔∀n∈sd.W.pts.map (·.1)++sd.W.ts.map (·.1),o6 n=true)→∀H',Same H H'→Q (.bl b) H':=fun b hb=>k b ⟨fun z=>⟨by omega,by omega,hb.mp z⟩,fun z=>hb.mpr z.2.2⟩
  have hll:(sd.W.pts.map (·.1)++sd.W.ts.map (·.1)).length≤200:=by simp only[List.length_append,List.length_map];omega
  generalize sd.W.pts.map (·.1)++sd.W.ts.map (·.1)=ns at f3 hsh hal hll
  refine C7 (SqL.of f3) ?_
  refine B7 (n:=ns.length) (fun i out H'=>Same H3 H'∧out=(ns.take i).map fun n=>V.bl (o6 n)) ⟨Same.refl _,rfl⟩ (fun i out H' hi hp=>⟨_,.str ns[i],SqL.of (hp.1 _ _ f3),by rw[List.getElem?_map,List.getElem?_eq_getElem hi];rfl⟩) ?_ ?_
  ·rintro N i v out H4' H4 hi ⟨s4,rfl⟩ y hN'
   obtain⟨rfl,hx⟩:=Itl.get y (SqL.of (s4 _ _ f3))
   rw[List.getElem?_map] at hx
   have hxi:=List.getElem?_eq_getElem hi
   generalize ns[i]=x at hxi
   rw[hxi] at hx
   cases hx
   walk_at "r"
   refine⟨rfl,?_⟩
   walk_at "r"
   refine⟨x,rfl,hsh x (List.mem_of_getElem? hxi),?_⟩
   refine⟨d7 (by rw[List.length_map,List.length_take];omega),hN' _ _ ⟨s4,?_⟩⟩
   exact G5 (fun n=>o6 n) hxi
  ·rintro out H4 ⟨s4,rfl⟩
   rw[List.take_of_length_le (Nat.le_refl _)]
   refine⟨⟨_,SqL.of (s4 _ _ f3),by rw[List.length_map];exact Nat.le_refl _⟩,fun D hD=>⟨d7 (by rw[List.length_map];omega),?_⟩⟩
   obtain⟨H5,e5,f5,m5,_⟩:=b6 (H:=H4) (o:= .lst (ns.map fun n=>V.bl (o6 n))) hD
   show fS _ (A5 H4 D _) _
   rw[e5]
   walk_at "r"
   refine cZ (bs:=ns.map fun n=>o6 n) (SqL.of (by rw[f5,List.map_map];rfl)) ?_
   exact hal _ vQ _ (m12.trans (m3.trans (s4.trans m5)))
theorem A4 {t u:TS}{nx:L2.St→Hp→Prop}{rt:V→Hp→Prop}{bk ct:L2.St→Hp→Prop}{σ:L2.St}{H:Hp}(h:∀nx':L2.St→Hp→Prop,(∀σ H,u ⟨nx,rt,bk,ct⟩ σ H→nx' σ H)→t ⟨nx',rt,bk,ct⟩ σ H):uj t u ⟨nx,rt,bk,ct⟩ σ H:=h _ fun _ _ z=>z
structure Dr (L R:G8):Prop where
 p:∀x∈L.pts,(∀k,(x.1,k)∈R.pts→k=x.2)∧x.1∉R.ts.map (·.1)
 t:∀x∈L.ts,(∀k,(x.1,k)∈R.ts→k=x.2)∧x.1∉R.pts.map (·.1)
def aH (K:PySem.W.Frag):Sp:=fun vs H Q _=>∃L R:Sd,vs=[.ref L.a,.ref R.a]∧SdX K H L∧SdX K H R∧∀b,(b=true↔Dr L.W R.W)→∀H',Same H H'→Q (.bl b) H'
theorem BU {H:Hp}{Q:VK}{n kd:Str}{A:List (Str×Str)}(nd:(A.map (·.1)).Nodup)(q:∀b,(b=false↔∀k,(n,k)∈A→k=kd)→Q (.bl b) H):fz K ((D0 (J6 A) (Sum.inr n:j6)).getD (.str kd)) (.str kd) H Q:=by
 cases e:D0 (J6 A) (Sum.inr n:j6) with
 |none=>
  refine dO ?_
  rw[decide_eq_true rfl]
  exact q _ ⟨fun _ k hk=>by rw[T2 nd hk] at e;(cases e),fun _=>rfl⟩
 |some v=>
  obtain⟨k,rfl,hk⟩:=dZ e
  refine dO ?_
  refine q _ ⟨fun z k' hk'=>?_,fun z=>?_⟩
  ·have e1:=B0 nd hk hk'
   rw[←e1]
   simpa using z
  ·rw[decide_eq_true (z k hk)];rfl
theorem Bd {H:Hp}{Q:VK}{n:Str}{t:M7}{c:Addr}{kb:List (j6×V)}{B:List (Str×M7)}(wB:TiesIs K H kb B)(nd:(B.map (·.1)).Nodup)(hc:SqT K H c (bX t))(q:∀b,(b=false↔∀k,(n,k)∈B→k=t)→Q (.bl b) H):fz K ((D0 kb (Sum.inr n:j6)).getD (.ref c)) (.ref c) H Q:=by
 by_cases hm:n∈B.map (·.1)
 ·obtain⟨x,hx,rfl⟩:=List.mem_map.mp hm
  obtain⟨b,hb,sb⟩:=gh wB nd hx
  rw[hb]
  refine qR (gK sb hc (W4 _) (W4 _) ?_)
  rw[dM]
  refine q _ ⟨fun z k hk=>?_,fun z=>?_⟩
  ·have e1:=B0 nd hx hk
   rw[←e1]
   simpa using z
  ·rw[decide_eq_true (z x.2 hx)];rfl
 ·have z:=U7 (n:=n) wB
  rw[decide_eq_false hm] at z
  rw[Option.isSome_eq_false_iff.mp z|>Option.isNone_iff_eq_none.mp]
  refine qR (gK hc hc (W4 _) (W4 _) ?_)
  rw[dM,decide_eq_true rfl]
  exact q _ ⟨fun _ k hk=>absurd (List.mem_map.mpr ⟨_,hk,rfl⟩) hm,fun _=>rfl⟩
theorem rX {td ty tx:TE}{σ:L2.St}{H:Hp}{Q:VK}(q:td σ H fun x H1=>∃a,x= .ref a∧AW H1 a∧ty σ H1 fun y H2=>tx σ H2 fun z H3=>∃o,aA H3 a y o∧Q (o.getD z) H3):mU td ty tx σ H Q:=q
theorem iL {f:Addr}{fd:FuncData}(T:Txt K mg)(F:Fun K "_law_agree" "_law_agree" O0 f fd):E3 P w K mg base B4 1 f fd ["_law_left","_law_right_here"] (aH K):=by
 refine F.ok sc__law_agree (fun vs H Q E h=>?_) (fun cdv A outer s H vs Q E hr h=>?_)
 ·obtain⟨L,R,rfl,_⟩:=h
  rfl
 ·obtain⟨L,R,rfl,hL,hR,k⟩:=h
  have wL:WebX K H L.a L.p L.q L.kvs L.W:=hL
  have wR:WebX K H R.a R.p R.q R.kvs R.W:=hR
  have hkl:=wL.at_.ts.length
  have hN:=sc__law_agree.nd
  have hu:=C0 hr
  refine⟨_,QSs.r (A0 (aP PassesOwn.never rfl (fX T.b_range (d9 b5 i8)) (T6 (i:=2) hN rfl (by walk_at "l"))
    (B9 (aP PassesOwn.never rfl (U2 K (C9 (C8 K hu) (qV 0) (qV 2) (fun _ _=>rfl))) (T6 (i:=3) hN rfl (by walk_at "l"))
    (A0 (u6 (i:=4) hN rfl (by walk_at "l") (C9 (C8 K hu) (C9 (C8 K hu) (qV 0) (qV 2) (fun _ _=>rfl)) (qV 3) (fun _ _=>rfl)))
   (B9 (S2 (fV (Q0 (r6 (Z8 K hr) (Aq hu (C9 (C8 K hu) (qV 1) (qV 2) (fun _ _=>rfl)) (qV 3) (qV 4)) (qV 4) (j9 _)) (M5 (r6 (kIn K hu) (qV 3) (C9 (C8 K hu) (qV 1) (p0 uP b5 (qV 2)) (fun _ _=>rfl)) (by rfl))))) (B9 (x5 eG)) T8))))))
   (B9 (x5 eG))),?_⟩
  walk_at "r"
  refine P8 (by omega) (by omega) ?_
  refine G7 (n:=(2:Int).toNat) (fun i σ H'=>Same H H'∧(1≤i→∀x∈L.W.pts,(∀k,(x.1,k)∈R.W.pts→k=x.2)∧x.1∉R.W.ts.map (·.1))∧(2≤i→∀x∈L.W.ts,(∀k,(x.1,k)∈R.W.ts→k=x.2)∧x.1∉R.W.pts.map (·.1))∧∃v2 v3 v4,σ=[some (.ref L.a),some (.ref R.a),v2,v3,v4]) ⟨Same.refl _,fun h=>absurd h (by decide),fun h=>absurd h (by decide),none,none,none,rfl⟩ (fun i σ H' hi _=>by exact hi) ?_ ?_
  ·rintro _ i v σ H1' H1 hi ⟨s1,h1,h2,v2,v3,v4,rfl⟩ ⟨rfl,rfl⟩
   have wL1:=wL.same s1
   have wR1:=wR.same s1
   have hi2:i<2:=hi
   rcases(show i=0∨i=1 by omega) with rfl|rfl
   ·walk_at "r"
    refine d4 wL1.at_.tup (b9 (j:=0) rfl) ?_
    refine cx wL1.hp (fun nd5 o5=>?_)
    refine G7 (n:=(J6 L.W.pts).length) (fun i σ H'=>Same (K1 L.p o5 (J6 L.W.pts) H1) H'∧(∀x∈L.W.pts.take i,(∀k,(x.1,k)∈R.W.pts→k=x.2)∧x.1∉R.W.ts.map (·.1))∧∃v3 v4,σ=[some (.ref L.a),some (.ref R.a),some (.int 0),v3,v4]) ⟨Same.refl _,(fun _ h=>(nomatch h)),_,_,rfl⟩ (fun i σ H' hi hp=>⟨hp.1 _ _ g7,hi⟩) ?_ ?_
    ·rintro _ i v σ H2' H2 hi ⟨s2,ha,v3,v4,rfl⟩ ⟨rfl,kv,hkv,rfl⟩
     obtain⟨x,hx,rfl⟩:=dR hkv
     have le2:=(aE (o:=o5) wL1.hp).trans s2.le
     have aL:=wL1.at_.mono le2
     have aR:=wR1.at_.mono le2
     have hxm:=List.mem_of_getElem? hx
     have sT:Same H (thaw L.p H2):=s1.trans (s2.thaw wL1.hp)
     walk_at "r"
     refine d4 aL.tup (b9 (j:=0) rfl) ?_
     walk_at "r"
     refine L6 (v:= .str x.2) (by have z':=P6 (k:=Sum.inr x.1) aL.pts;rw[T2 wL.np hxm] at z';exact z') ?_
     walk_at "r"
     refine rX ?_
     walk_at "r"
     refine d4 aR.tup (b9 (j:=0) rfl) ?_
     refine⟨R.p,rfl,.inl ⟨_,aR.pts⟩,?_⟩
     walk_at "r"
     refine⟨_,P6 (k:=Sum.inr x.1) aR.pts,?_⟩
     walk_at "r"
     refine BU wR.np fun b hb=>?_
     cases b with
     |true=>
      walk_at "r"
      exact k false ⟨fun z=>(nomatch z),fun z=>(by have q:=hb.mpr (z.p x hxm).1;cases q)⟩ _ sT
     |false=>
      walk_at "r"
      refine d4 aR.tup (b9 (j:=1) rfl) ?_
      walk_at "r"
      refine S1 (P6 (k:=Sum.inr x.1) aR.ties) ?_
      rw[U7 aR.ts]
      by_cases c1:x.1∈R.W.ts.map (·.1)
      ·rw[decide_eq_true c1]
       walk_at "r"
       exact k false ⟨fun z=>(nomatch z),fun z=>absurd c1 (z.p x hxm).2⟩ _ sT
      rw[decide_eq_false c1]
      walk_at "r"
      refine⟨s2,fun y hy=>?_,_,_,rfl⟩
      rw[C5 hx] at hy
      rcases List.mem_append.mp hy with z|z
      ·exact ha y z
      ·rw[List.mem_singleton.mp z];exact⟨hb.mp rfl,c1⟩
    ·rintro σ H2 ⟨s2,ha,v3,v4,rfl⟩
     rw[List.take_of_length_le (by rw[D7];omega)] at ha
     refine⟨⟨s2 _ _ g7,Nat.le_refl _⟩,s1.trans (s2.thaw wL1.hp),fun _=>ha,fun h=>absurd h (by omega),_,_,_,rfl⟩
   ·walk_at "r"
    refine d4 wL1.at_.tup (b9 (j:=1) rfl) ?_
    refine cx wL1.hq (fun nd5 o5=>?_)
    refine G7 (n:=L.kvs.length) (fun i σ H'=>Same (K1 L.q o5 L.kvs H1) H'∧(∀x∈L.W.ts.take i,(∀k,(x.1,k)∈R.W.ts→k=x.2)∧x.1∉R.W.pts.map (·.1))∧∃v3 v4,σ=[some (.ref L.a),some (.ref R.a),some (.int 1),v3,v4]) ⟨Same.refl _,(fun _ h=>(nomatch h)),_,_,rfl⟩ (fun i σ H' hi hp=>⟨hp.1 _ _ g7,hi⟩) ?_ ?_
    ·rintro _ i v σ H2' H2 hi ⟨s2,ha,v3,v4,rfl⟩ ⟨rfl,kv,hkv,rfl⟩
     have le2:=(aE (o:=o5) wL1.hq).trans s2.le
     have aL:=wL1.at_.mono le2
     have aR:=wR1.at_.mono le2
     obtain⟨x,hx,ex,c,ec,sc⟩:=aL.ts.get hkv
     obtain⟨kk,kvv⟩:=kv
     have ex':kk=Sum.inr x.1:=ex
     have ec':kvv= .ref c:=ec
     subst ex' ec'
     have hxm:=List.mem_of_getElem? hx
     have sT:Same H (thaw L.q H2):=s1.trans (s2.thaw wL1.hq)
     have ixq:∀{Q:VK},Q (.ref c) H2→gB K (.ref L.q) (.str x.1) H2 Q:=fun z=>L6 (v:= .ref c) (by have z':=P6 (k:=Sum.inr x.1) aL.ties;rw[ak (kv:=(Sum.inr x.1,.ref c)) nd5 (List.mem_of_getElem? hkv)] at z';exact z') z
     walk_at "r"
     refine d4 aL.tup (b9 (j:=1) rfl) ?_
     walk_at "r"
     refine ixq ?_
     walk_at "r"
     refine rX ?_
     walk_at "r"
     refine d4 aR.tup (b9 (j:=1) rfl) ?_
     refine⟨R.q,rfl,.inl ⟨_,aR.ties⟩,?_⟩
     walk_at "r"
     refine⟨_,P6 (k:=Sum.inr x.1) aR.ties,?_⟩
     walk_at "r"
     refine Bd aR.ts wR.nt sc fun b hb=>?_
     cases b with
     |true=>
      walk_at "r"
      exact k false ⟨fun z=>(nomatch z),fun z=>(by have q:=hb.mpr (z.t x hxm).1;cases q)⟩ _ sT
     |false=>
      walk_at "r"
      refine d4 aR.tup (b9 (j:=0) rfl) ?_
      walk_at "r"
      refine S1 (P6 (k:=Sum.inr x.1) aR.pts) ?_
      rw[M4]
      by_cases c1:x.1∈R.W.pts.map (·.1)
      ·rw[decide_eq_true c1]
       walk_at "r"
       exact k false ⟨fun z=>(nomatch z),fun z=>absurd c1 (z.t x hxm).2⟩ _ sT
      rw[decide_eq_false c1]
      walk_at "r"
      refine⟨s2,fun y hy=>?_,_,_,rfl⟩
      rw[C5 hx] at hy
      rcases List.mem_append.mp hy with z|z
      ·exact ha y z
      ·rw[List.mem_singleton.mp z];exact⟨hb.mp rfl,c1⟩
    ·rintro σ H2 ⟨s2,ha,v3,v4,rfl⟩
     rw[List.take_of_length_le (by omega)] at ha
     refine⟨⟨s2 _ _ g7,Nat.le_refl _⟩,s1.trans (s2.thaw wL1.hq),fun _=>h1 (by omega),fun _=>ha,_,_,_,rfl⟩
  ·rintro σ H1 ⟨s1,h1,h2,v2,v3,v4,rfl⟩
   refine⟨Nat.le_refl _,?_⟩
   walk_at "r"
   exact k true ⟨fun _=>⟨h1 (by decide),h2 (by decide)⟩,fun _=>rfl⟩ _ s1
theorem wj {L R:G8}(dL:∀x∈L.ts,x.1∉L.pts.map (·.1))(n1:(L.pts.map (·.1)).Nodup)(n2:(L.ts.map (·.1)).Nodup):Dr L R↔∀n∈A8 L,n∈A8 R→fu n L R:=by
 have fm:∀{α:Type} {l:List (Str×α)} {n:Str} {y:α},(n,y)∈l→n∈l.map (·.1):=fun h=>List.mem_map.mpr ⟨_,h,rfl⟩
 have pk:∀{α:Type} {l:List (Str×α)} {n:Str},n∈l.map (·.1)→∃y,(n,y)∈l:=fun h=>by
  obtain⟨x,hx,rfl⟩:=List.mem_map.mp h
  exact⟨x.2,hx⟩
 constructor
 ·intro h n hL hR
  rcases List.mem_append.mp hL with z|z
  ·obtain⟨k0,hk0⟩:=pk z
   obtain⟨a1,a2⟩:=h.p _ hk0
   rcases List.mem_append.mp hR with y|y
   ·obtain⟨k1,hk1⟩:=pk y
    have e:=a1 _ hk1
    have e':k1=k0:=e
    subst e'
    refine⟨fun k=>⟨fun q=>?_,fun q=>?_⟩,fun t=>⟨fun q=>absurd z (dL _ q),fun q=>absurd (fm q) a2⟩⟩
    ·rw[B0 n1 q hk0];exact hk1
    ·have e2:k=k1:=a1 _ q
     rw[e2];exact hk0
   ·exact absurd y a2
  ·obtain⟨t0,ht0⟩:=pk z
   obtain⟨a1,a2⟩:=h.t _ ht0
   rcases List.mem_append.mp hR with y|y
   ·exact absurd y a2
   ·obtain⟨t1,ht1⟩:=pk y
    have e':t1=t0:=a1 _ ht1
    subst e'
    refine⟨fun k=>⟨fun q=>absurd (fm q) (dL _ ht0),fun q=>absurd (fm q) a2⟩,fun t=>⟨fun q=>?_,fun q=>?_⟩⟩
    ·rw[B0 n2 q ht0];exact ht1
    ·have e2:t=t1:=a1 _ q
     rw[e2];exact ht0
 ·intro h
  refine⟨fun x hx=>⟨fun k hk=>?_,fun hm=>?_⟩,fun x hx=>⟨fun t ht=>?_,fun hm=>?_⟩⟩
  ·have z:=(h x.1 (List.mem_append_left _ (fm hx)) (List.mem_append_left _ (fm hk))).p k
   exact B0 n1 (z.mpr hk) hx
  ·obtain⟨t,ht⟩:=pk hm
   have z:=(h x.1 (List.mem_append_left _ (fm hx)) (List.mem_append_right _ hm)).t t
   exact dL _ (z.mpr ht) (fm hx)
  ·have z:=(h x.1 (List.mem_append_right _ (fm hx)) (List.mem_append_right _ (fm ht))).t t
   exact B0 n2 (z.mpr ht) hx
  ·obtain⟨k,hk⟩:=pk hm
   have z:=(h x.1 (List.mem_append_right _ (fm hx)) (List.mem_append_left _ hm)).p k
   exact dL _ hx (fm (z.mpr hk))
theorem WebRd.dis {t:Str}{W:G8}(h:WebRd t W):∀x∈W.ts,x.1∉W.pts.map (·.1):=fun x hx=>(((aS W).mp h.ok).2 x hx).2.1
theorem Y2 {t:Str}{W:G8}{m:Nat}(h:WebRd t W):PieceX m W↔kn m W:=⟨fun z=>⟨z.l1,z.l2,z.kds⟩,fun z=>⟨h.ok,z.1,z.2.1,z.2.2⟩⟩
theorem yh {H:Hp}{Q:VK}{n kd:Str}{A:List (Str×Str)}(nd:(A.map (·.1)).Nodup)(q:∀b,(b=false↔(n,kd)∈A)→Q (.bl b) H):fz K ((D0 (J6 A) (Sum.inr n:j6)).getD .non) (.str kd) H Q:=by
 cases e:D0 (J6 A) (Sum.inr n:j6) with
 |none=>exact qR (jA (q _ ⟨fun z=>(nomatch z),fun z=>by rw[T2 nd z] at e;(cases e)⟩))
 |some v=>
  obtain⟨k,rfl,hk⟩:=dZ e
  refine dO (q _ ⟨fun z=>?_,fun z=>?_⟩)
  ·have z':k=kd:=by simpa using z
   rw[←z'];exact hk
  ·rw[decide_eq_true (B0 nd hk z)];rfl
theorem Aa {H:Hp}{Q:VK}{n:Str}{t:M7}{c:Addr}{kb:List (j6×V)}{B:List (Str×M7)}(wB:TiesIs K H kb B)(nd:(B.map (·.1)).Nodup)(hc:SqT K H c (bX t))(q:∀b,(b=false↔(n,t)∈B)→Q (.bl b) H):fz K ((D0 kb (Sum.inr n:j6)).getD .non) (.ref c) H Q:=by
 by_cases hm:n∈B.map (·.1)
 ·obtain⟨x,hx,rfl⟩:=List.mem_map.mp hm
  obtain⟨b,hb,sb⟩:=gh wB nd hx
  rw[hb]
  refine qR (gK sb hc (W4 _) (W4 _) ?_)
  rw[dM]
  refine q _ ⟨fun z=>?_,fun z=>?_⟩
  ·have z':x.2=t:=by simpa using z
   rw[←z'];exact hx
  ·rw[decide_eq_true (B0 nd hx z)];rfl
 ·have z:=U7 (n:=n) wB
  rw[decide_eq_false hm] at z
  rw[Option.isSome_eq_false_iff.mp z|>Option.isNone_iff_eq_none.mp]
  exact qR (jZ hc (q _ ⟨fun z=>(nomatch z),fun z=>absurd (List.mem_map.mpr ⟨_,z,rfl⟩) hm⟩))
def Dy (L B:G8):Prop:=(∀x∈L.pts,x∈B.pts)∧∀x∈L.ts,x∈B.ts
def S5 (K:PySem.W.Frag):Sp:=fun vs H Q _=>∃t:Str,vs=[.str t]∧t.length≤50000∧(∀L R bs,RuleRd t L R bs→∀(r bl:Addr) (L' R':Sd) (bs':List Sd) (H':Hp),Same H H'→RuleX K H' r bl L' R' bs'→L'.W=L→R'.W=R→bs'.map (·.W)=bs→(∃xs,H' bl=some (.lst xs))→Q (.ref r) H')∧((∀L R bs,¬RuleRd t L R bs)→∀H',Same H H'→Q .non H')
theorem dQ {f:Addr}{fd:FuncData}(T:Txt K mg)(K7:E2 P w K mg base B4 4 "_law_read" ["_law_text"] [] (X2 K))(S9:E2 P w K mg base B4 3 "_law_small" ["_law_web_here","_law_most"] [] (au K))(bq:E2 P w K mg base B4 1 "_law_agree" ["_law_left","_law_right_here"] [] (aH K))(F:Fun K "_law_rule_read" "_law_rule_read" G3 f fd):E3 P w K mg base B4 5 f fd ["_law_text"] (S5 K):=by
 refine F.ok sc__law_rule_read (fun vs H Q E h=>?_) (fun cdv A outer s H vs Q E hr h=>?_)
 ·obtain⟨t,rfl,_⟩:=h
  rfl
 ·obtain⟨t,rfl,hl,k,kN⟩:=h
  have hN:=sc__law_rule_read.nd
  have hu:=C0 hr
  refine⟨_,QSs.r (A0 (u6 (i:=1) hN rfl (by walk_at "l") (qM PySem.F.plainAttrs_str PySem.F.slot_str_split PySem.F.type_str_split L9 K (qV 0) (d9 z9 i8)))
   (A0 (S2 (r6 (Z8 K hr) (qB (E4 K P w) T.b_len Boot.«len» (d9 (qV 1) i8)) b5 (j9 _)) (B9 (x5 fj)) T8)
   (A0 (u6 (i:=2) hN rfl (by walk_at "l") (qC K7 (hr.mono (by decide)) j0 (d9 (C9 (C8 K hu) (qV 1) b5 (fun _ _=>rfl)) i8)))
   (A0 (gJ (i:=3) hN rfl (by walk_at "l") (own:=["_law_part"]) (js:=[]) (by kernel_rfl) rfl (U2 K (qM PySem.F.plainAttrs_str PySem.F.slot_str_split PySem.F.type_str_split L9 K (C9 (C8 K hu) (qV 1) b5 (fun _ _=>rfl)) (d9 z9 i8))) (fun _ _ _ _=>(T6 (i:=0) (show List.Nodup (["_law_part"]:List Str) by decide+kernel) rfl (by walk_at "l"))) (fun _ _ _ _=>X3) (fun _ _ _ _=>(qC K7 (hr.mono (by decide)) j0 (d9 (qV 0) i8))))
   (A0 (S2 (fV (Q0 (E6 (D2 K (qC S9 (hr.mono (by decide)) j0 (d9 (qV 2) (d9 b5 i8))))) (Q0 (E6 (D2 K (qC S9 (hr.mono (by decide)) j0 (d9 (C9 (C8 K hu) (qV 3) b5 (fun _ _=>rfl)) (d9 b5 i8))))) (M5 (r6 ai (qB (E4 K P w) T.b_len Boot.«len» (d9 (qV 3) i8)) b5 (j9 _)))))) (B9 (x5 fj)) T8)
   (A0 (S2 (E6 (D2 K (qC bq (hr.mono (by decide)) j0 (d9 (qV 2) (d9 (C9 (C8 K hu) (qV 3) b5 (fun _ _=>rfl)) i8))))) (B9 (x5 fj)) T8)
   (A0 (aP PassesOwn.never rfl (U2 K (bT (bU K) (qV 3) (aM b5) dA)) (T6 (i:=4) hN rfl (by walk_at "l"))
    (A0 (S2 (E6 (D2 K (qC S9 (hr.mono (by decide)) j0 (d9 (qV 4) (d9 b5 i8))))) (B9 (x5 fj)) T8)
   (B9 (aP PassesOwn.never rfl (fX T.b_range (d9 b5 i8)) (T6 (i:=5) hN rfl (by walk_at "l"))
    (B9 (aP PassesOwn.never rfl (U2 K (C9 (C8 K hu) (qV 2) (qV 5) (fun _ _=>rfl))) (T6 (i:=6) hN rfl (by walk_at "l"))
    (B9 (S2 (r6 (Z8 K hr) (gH hu (C9 (C8 K hu) (qV 4) (qV 5) (fun _ _=>rfl)) (qV 6)) (C9 (C8 K hu) (C9 (C8 K hu) (qV 2) (qV 5) (fun _ _=>rfl)) (qV 6) (fun _ _=>rfl)) (j9 _)) (B9 (x5 fj)) T8))))))))
   (B9 (x5 (bR (d9 (qV 2) (d9 (C9 (C8 K hu) (qV 3) b5 (fun _ _=>rfl)) (d9 (bT (bU K) (qV 3) (aM b5) dA) i8))))))))))))),?_⟩
  walk_at "r"
  refine⟨rfl,?_⟩
  walk_at "r"
  refine⟨_,_,rfl,rfl,Ce,by omega,fun p1 n1=>?_⟩
  have hle:∀y∈PySem.Txt.split t " > ",y.length≤t.length:=fun y hy=>cz Ce hy
  obtain⟨H1,e1,f1,m1,_⟩:=b6 (o:= .lst _) n1
  rw[e1]
  walk_at "r"
  refine E5 (K3 (SqL.of f1) ?_)
  rw[List.length_map]
  walk_at "r"
  by_cases c0:(PySem.Txt.split t " > ").length=2
  case neg=>
   rw[if_pos (by simp;omega)]
   walk_at "r"
   refine kN (fun L R bs h=>?_) _ m1
   obtain⟨a,b,z,_⟩:=h.sd
   rw[z] at c0
   exact c0 rfl
  rw[if_neg (by simp;omega)]
  obtain⟨ta,tb,es⟩:∃ta tb,PySem.Txt.split t " > "=[ta,tb]:=by
   match h:PySem.Txt.split t " > ",c0 with
   |[a,b],_=>exact⟨a,b,rfl⟩
  rw[es] at f1 hle
  have la:=hle ta (by simp)
  have lb:=hle tb (by simp)
  have hps:∀y∈PySem.Txt.split tb " ! ",y.length≤tb.length:=fun y hy=>cz Ai hy
  have hpn:=dj (t:=tb) Ai
  have hp0:=lG tb " ! "
  have kN':∀H',Same H H'→(∀L R bs,WebRd ta L→Paired WebRd (PySem.Txt.split tb " ! ") (R::bs)→¬RuleOx L R bs)→Q .non H':=fun H' s hn=>kN (fun L R bs h=>by
   obtain⟨a,b,z,h1,h2⟩:=h.sd
   rw[es] at z
   cases z
   exact hn L R bs h1 h2 h.ok) H' s
  have k':∀L R bs,WebRd ta L→Paired WebRd (PySem.Txt.split tb " ! ") (R::bs)→RuleOx L R bs→∀(r bl:Addr) (L' R':Sd) (bs':List Sd) (H':Hp),Same H H'→RuleX K H' r bl L' R' bs'→L'.W=L→R'.W=R→bs'.map (·.W)=bs→(∃xs,H' bl=some (.lst xs))→Q (.ref r) H':=fun L R bs h1 h2 h3=>k L R bs ⟨⟨ta,tb,es,h1,h2⟩,h3⟩
  clear k kN
  walk_at "r"
  refine x6 (SqL.of f1) (b9 (j:=0) rfl) ?_
  walk_at "r"
  refine⟨ta,rfl,by omega,fun vl H2 s2 hvl=>?_⟩
  walk_at "r"
  have f2:=s2 _ _ f1
  have m02:=m1.trans s2
  refine x6 (SqL.of f2) (b9 (j:=1) rfl) ?_
  walk_at "r"
  refine⟨rfl,?_⟩
  walk_at "r"
  refine⟨_,_,rfl,rfl,Ai,by omega,fun p3 n3=>?_⟩
  generalize PySem.Txt.split tb " ! "=ps at k' kN' hps hpn hp0⊢
  obtain⟨H3,e3,f3,m3,_⟩:=b6 (o:= .lst _) n3
  rw[e3]
  have m03:=m02.trans m3
  refine C7 (SqL.of f3) ?_
  refine B7 (n:=ps.length) (fun i out H'=>Same H3 H'∧Paired (LR K H') (ps.take i) out) ⟨Same.refl _,.nil⟩ (fun i out H' hi hp=>⟨_,.str (ps[i]),SqL.of (hp.1 _ _ f3),by rw[List.getElem?_map,List.getElem?_eq_getElem hi];rfl⟩) ?_ ?_
  ·rintro N i v out H4' H4 hi ⟨s4,pr⟩ y hN'
   obtain⟨rfl,hx⟩:=Itl.get y (SqL.of (s4 _ _ f3))
   rw[List.getElem?_map] at hx
   have hxi:=List.getElem?_eq_getElem hi
   generalize ps[i]=x at hxi
   rw[hxi] at hx
   cases hx
   have hxl:=hps x (List.mem_of_getElem? hxi)
   have hrl:=Paired.length pr
   rw[List.length_take] at hrl
   walk_at "r"
   refine⟨rfl,?_⟩
   walk_at "r"
   refine⟨x,rfl,by omega,fun v5 H5 s5 h5=>⟨K0 (by omega),hN' _ _ ⟨s4.trans s5,?_⟩⟩⟩
   rw[C5 hxi]
   exact A6 (Paired.imp' (fun _ _ z=>LR.same z s5) pr) h5
  ·rintro out H4 ⟨s4,pr⟩
   rw[List.take_of_length_le (Nat.le_refl _)] at pr
   have hrl:=Paired.length pr
   refine⟨⟨_,SqL.of (s4 _ _ f3),by rw[List.length_map];exact Nat.le_refl _⟩,fun D hD=>⟨K0 (by omega),?_⟩⟩
   obtain⟨H5,e5,f5,m5,_⟩:=b6 (H:=H4) (o:= .lst out) hD
   show Y9 _ _ _ (A5 H4 D _) _
   rw[e5]
   have m05:=m03.trans (s4.trans m5)
   have hvl5:=hvl.same (m3.trans (s4.trans m5))
   obtain⟨t0,ps',rfl⟩:∃t0 ps',ps=t0::ps':=by
    cases ps with
    |nil=>exact absurd rfl hp0
    |cons a r=>exact⟨a,r,rfl⟩
   obtain⟨v0,vs',rfl⟩:∃v0 vs',out=v0::vs':=by
    cases out with
    |nil=>simp at hrl
    |cons a r=>exact⟨a,r,rfl⟩
   have pr5:Paired (LR K H5) (t0::ps') (v0::vs'):=Paired.imp' (fun _ _ z=>LR.same z m5) pr
   have lr0:LR K H5 t0 v0:=by cases pr5;assumption
   have lrs:Paired (LR K H5) ps' vs':=by cases pr5;assumption
   clear pr pr5
   rw[List.length_cons,List.length_cons] at hrl
   walk_at "r"
   rcases hvl5 with⟨sL,rfl,xL,rL⟩|⟨rfl,noL⟩
   case inr=>
    refine⟨_,4,rfl,.inl ⟨rfl,?_⟩⟩
    walk_at "r"
    exact kN' _ m05 fun L R bs h1 _ _=>noL L h1
   have uL:∀L,WebRd ta L→L=sL.W:=fun L h=>h.uniq rL
   refine⟨_,4,rfl,.inr ⟨sL,rfl,xL,fun b1 hb1 H6 s6=>?_⟩⟩
   cases b1 with
   |false=>
    walk_at "r"
    refine kN' _ (m05.trans s6) fun L R bs h1 _ h3=>?_
    have z:=hb1.mpr ((Y2 rL).mp (uL L h1▸h3.l))
    cases z
   |true=>
   walk_at "r"
   have f6:=s6 _ _ f5
   refine x6 (SqL.of f6) (b9 (j:=0) rfl) ?_
   walk_at "r"
   rcases lr0 with⟨sR,rfl,xR,rR⟩|⟨rfl,noR⟩
   case inr=>
    refine⟨_,4,rfl,.inl ⟨rfl,?_⟩⟩
    walk_at "r"
    refine kN' _ (m05.trans s6) fun L R bs _ h2 _=>?_
    cases h2
    exact noR _ ‹_›
   have uR:∀R,WebRd t0 R→R=sR.W:=fun R h=>h.uniq rR
   refine⟨_,4,rfl,.inr ⟨sR,rfl,xR.same s6,fun b2 hb2 H7 s7=>?_⟩⟩
   have m07:=m05.trans (s6.trans s7)
   cases b2 with
   |false=>
    walk_at "r"
    refine kN' _ m07 fun L R bs _ h2 h3=>?_
    have e:R=sR.W:=by cases h2;exact uR _ ‹_›
    have z:=hb2.mpr ((Y2 rR).mp (e▸h3.r))
    cases z
   |true=>
   walk_at "r"
   have f7:=s7 _ _ f6
   refine E5 (K3 (SqL.of f7) ?_)
   rw[List.length_cons]
   walk_at "r"
   by_cases c4:3<vs'.length
   ·rw[if_pos (by simp only[decide_eq_true_eq];omega)]
    walk_at "r"
    refine kN' _ m07 fun L R bs _ h2 h3=>?_
    have z:=Paired.length h2
    rw[List.length_cons,List.length_cons] at z
    have:=h3.len
    omega
   rw[if_neg (by simp only[decide_eq_true_eq];omega)]
   walk_at "r"
   refine x6 (SqL.of f7) (b9 (j:=0) rfl) ?_
   walk_at "r"
   have m57:=s6.trans s7
   refine⟨sL,sR,rfl,xL.same m57,xR.same m57,fun b3 hb3 H8 s8=>?_⟩
   have m08:=m07.trans s8
   have hagr:=wj (L:=sL.W) (R:=sR.W) rL.dis rL.np rL.nt
   cases b3 with
   |false=>
    walk_at "r"
    refine kN' _ m08 fun L R bs h1 h2 h3=>?_
    have e:R=sR.W:=by cases h2;exact uR _ ‹_›
    have e1:=uL L h1
    subst e e1
    have z:=hb3.mpr (hagr.mpr h3.ag)
    cases z
   |true=>
   have hag:=hagr.mp (hb3.mp rfl)
   walk_at "r"
   have f8:=s8 _ _ f7
   refine P4 (SqL.of f8) (fun p9 n9=>?_)
   rw[show V9 (V.ref sR.a::vs') (some 1) none=vs' from sv _ _]
   obtain⟨H9,e9,f9,m9,_⟩:=b6 (o:= .lst _) n9
   rw[e9]
   have m59:=m57.trans (s8.trans m9)
   have m09:=m05.trans m59
   have f59:=m9 _ _ f8
   have lr9:Paired (LR K H9) ps' vs':=Paired.imp' (fun _ _ z=>LR.same z m59) lrs
   have xL9:=xL.same m59
   have wL9:WebX K H9 sL.a sL.p sL.q sL.kvs sL.W:=xL9
   have hkl:=wL9.at_.ts.length
   refine C7 (SqL.of f9) ?_
   refine G7 (n:=vs'.length) (fun i σ H'=>Same H9 H'∧(∃v4 v5 v6,σ=[some (.str t),some (.ref p1),some (.ref sL.a),some (.ref D),v4,v5,v6])∧∃ss:List Sd,vs'.take i=ss.map (fun s=>V.ref s.a)∧(∀s∈ss,SdX K H' s∧kn 6 s.W∧Dy sL.W s.W)∧Paired WebRd (ps'.take i) (ss.map (·.W))) ⟨Same.refl _,⟨none,none,none,rfl⟩,[],rfl,(fun _ h=>(nomatch h)),.nil⟩ (fun i σ H' hi hp=>⟨_,vs'[i],SqL.of (hp.1 _ _ f9),List.getElem?_eq_getElem hi⟩) ?_ ?_
   ·rintro _ i v σ HA' HA hi ⟨sA,⟨v4,v5,v6,rfl⟩,ss,hss,hsx,hsr⟩ y
    obtain⟨rfl,hx⟩:=Itl.get y (SqL.of (sA _ _ f9))
    have hpi:i<ps'.length:=by omega
    obtain⟨v',hv',lrv⟩:=B8 lr9 (List.getElem?_eq_getElem hpi)
    have hti:=List.getElem?_eq_getElem hpi
    generalize ps'[i]=ti at hti lrv
    rw[hx] at hv'
    cases hv'
    have lrA:=lrv.same sA
    have m0A:=m09.trans sA
    have wLA:=wL9.same sA
    have inB:∀{bs:List G8} {R:G8},Paired WebRd (t0::ps') (R::bs)→∃B,B∈bs∧WebRd ti B:=fun{bs R} h2=>by
     cases h2
     obtain⟨B,hB,z⟩:=B8 ‹Paired WebRd ps' bs› hti
     exact⟨B,List.mem_of_getElem? hB,z⟩
    walk_at "r"
    rcases lrA with⟨sB,rfl,xB,rB⟩|⟨rfl,noB⟩
    case inr=>
     refine⟨_,6,rfl,.inl ⟨rfl,?_⟩⟩
     walk_at "r"
     refine kN' _ m0A fun L R bs _ h2 _=>?_
     obtain⟨B,_,z⟩:=inB h2
     exact noB B z
    have no:¬(kn 6 sB.W∧Dy sL.W sB.W)→∀L R bs,WebRd ta L→Paired WebRd (t0::ps') (R::bs)→¬RuleOx L R bs:=fun hn L R bs h1 h2 h3=>by
     obtain⟨B,hB,z⟩:=inB h2
     have e1:=uL L h1
     have e2:=z.uniq rB
     subst e1 e2
     have q:=h3.bars _ hB
     exact hn ⟨(Y2 rB).mp q.1,q.2⟩
    refine⟨_,6,rfl,.inr ⟨sB,rfl,xB,fun b4 hb4 HB s_B=>?_⟩⟩
    have m0B:=m0A.trans s_B
    cases b4 with
    |false=>
     walk_at "r"
     exact kN' _ m0B (no fun z=>by have q:=hb4.mpr z.1;cases q)
    |true=>
    have wLB:=wLA.same s_B
    have wB:WebX K HB sB.a sB.p sB.q sB.kvs sB.W:=xB.same s_B
    walk_at "r"
    refine P8 (by omega) (by omega) ?_
    refine G7 (n:=(2:Int).toNat) (fun j σ H'=>Same HB H'∧(1≤j→∀x∈sL.W.pts,x∈sB.W.pts)∧(2≤j→∀x∈sL.W.ts,x∈sB.W.ts)∧∃v5 v6,σ=[some (.str t),some (.ref p1),some (.ref sL.a),some (.ref D),some (.ref sB.a),v5,v6]) ⟨Same.refl _,fun h=>absurd h (by decide),fun h=>absurd h (by decide),_,_,rfl⟩ (fun i σ H' hi _=>by exact hi) ?_ ?_
    ·rintro _ j v σ HC' HC hj ⟨sC,h1,h2,v5,v6,rfl⟩ ⟨rfl,rfl⟩
     have wLC:=wLB.same sC
     have wBC:=wB.same sC
     have hj2:j<2:=hj
     rcases(show j=0∨j=1 by omega) with rfl|rfl
     ·walk_at "r"
      refine d4 wLC.at_.tup (b9 (j:=0) rfl) ?_
      refine cx wLC.hp (fun nd5 o5=>?_)
      refine G7 (n:=(J6 sL.W.pts).length) (fun i σ H'=>Same (K1 sL.p o5 (J6 sL.W.pts) HC) H'∧(∀x∈sL.W.pts.take i,x∈sB.W.pts)∧∃v6,σ=[some (.str t),some (.ref p1),some (.ref sL.a),some (.ref D),some (.ref sB.a),some (.int 0),v6]) ⟨Same.refl _,(fun _ h=>(nomatch h)),_,rfl⟩ (fun i σ H' hi hp=>⟨hp.1 _ _ g7,hi⟩) ?_ ?_
      ·rintro _ i v σ HE' HE hi ⟨sE,ha,v6,rfl⟩ ⟨rfl,kv,hkv,rfl⟩
       obtain⟨x,hx,rfl⟩:=dR hkv
       have le2:=(aE (o:=o5) wLC.hp).trans sE.le
       have aL:=wLC.at_.mono le2
       have aB:=wBC.at_.mono le2
       have hxm:=List.mem_of_getElem? hx
       have sT:Same H (thaw sL.p HE):=m0B.trans (sC.trans (sE.thaw wLC.hp))
       walk_at "r"
       refine d4 aB.tup (b9 (j:=0) rfl) ?_
       refine⟨sB.p,rfl,.inl ⟨_,aB.pts⟩,?_⟩
       walk_at "r"
       refine⟨_,P6 (k:=Sum.inr x.1) aB.pts,?_⟩
       walk_at "r"
       refine d4 aL.tup (b9 (j:=0) rfl) ?_
       walk_at "r"
       refine L6 (v:= .str x.2) (by have z':=P6 (k:=Sum.inr x.1) aL.pts;rw[T2 wL9.np hxm] at z';exact z') ?_
       walk_at "r"
       refine yh wB.np fun b hb=>?_
       cases b with
       |true=>
        walk_at "r"
        exact kN' _ sT (no fun z=>by have q:=hb.mpr (z.2.1 x hxm);cases q)
       |false=>
        walk_at "r"
        refine⟨sE,fun y hy=>?_,_,rfl⟩
        rw[C5 hx] at hy
        rcases List.mem_append.mp hy with z|z
        ·exact ha y z
        ·rw[List.mem_singleton.mp z];exact hb.mp rfl
      ·rintro σ HE ⟨sE,ha,v6,rfl⟩
       rw[List.take_of_length_le (by rw[D7];omega)] at ha
       refine⟨⟨sE _ _ g7,Nat.le_refl _⟩,sC.trans (sE.thaw wLC.hp),fun _=>ha,fun h=>absurd h (by omega),_,_,rfl⟩
     ·walk_at "r"
      refine d4 wLC.at_.tup (b9 (j:=1) rfl) ?_
      refine cx wLC.hq (fun nd5 o5=>?_)
      refine G7 (n:=sL.kvs.length) (fun i σ H'=>Same (K1 sL.q o5 sL.kvs HC) H'∧(∀x∈sL.W.ts.take i,x∈sB.W.ts)∧∃v6,σ=[some (.str t),some (.ref p1),some (.ref sL.a),some (.ref D),some (.ref sB.a),some (.int 1),v6]) ⟨Same.refl _,(fun _ h=>(nomatch h)),_,rfl⟩ (fun i σ H' hi hp=>⟨hp.1 _ _ g7,hi⟩) ?_ ?_
      ·rintro _ i v σ HE' HE hi ⟨sE,ha,v6,rfl⟩ ⟨rfl,kv,hkv,rfl⟩
       have le2:=(aE (o:=o5) wLC.hq).trans sE.le
       have aL:=wLC.at_.mono le2
       have aB:=wBC.at_.mono le2
       obtain⟨x,hx,ex,c,ec,sc⟩:=aL.ts.get hkv
       obtain⟨kk,kvv⟩:=kv
       have ex':kk=Sum.inr x.1:=ex
       have ec':kvv= .ref c:=ec
       subst ex' ec'
       have hxm:=List.mem_of_getElem? hx
       have sT:Same H (thaw sL.q HE):=m0B.trans (sC.trans (sE.thaw wLC.hq))
       have ixq:∀{Q:VK},Q (.ref c) HE→gB K (.ref sL.q) (.str x.1) HE Q:=fun z=>L6 (v:= .ref c) (by have z':=P6 (k:=Sum.inr x.1) aL.ties;rw[ak (kv:=(Sum.inr x.1,.ref c)) nd5 (List.mem_of_getElem? hkv)] at z';exact z') z
       walk_at "r"
       refine d4 aB.tup (b9 (j:=1) rfl) ?_
       refine⟨sB.q,rfl,.inl ⟨_,aB.ties⟩,?_⟩
       walk_at "r"
       refine⟨_,P6 (k:=Sum.inr x.1) aB.ties,?_⟩
       walk_at "r"
       refine d4 aL.tup (b9 (j:=1) rfl) ?_
       walk_at "r"
       refine ixq ?_
       walk_at "r"
       refine Aa aB.ts wB.nt sc fun b hb=>?_
       cases b with
       |true=>
        walk_at "r"
        exact kN' _ sT (no fun z=>by have q:=hb.mpr (z.2.2 x hxm);cases q)
       |false=>
        walk_at "r"
        refine⟨sE,fun y hy=>?_,_,rfl⟩
        rw[C5 hx] at hy
        rcases List.mem_append.mp hy with z|z
        ·exact ha y z
        ·rw[List.mem_singleton.mp z];exact hb.mp rfl
      ·rintro σ HE ⟨sE,ha,v6,rfl⟩
       rw[List.take_of_length_le (by omega)] at ha
       refine⟨⟨sE _ _ g7,Nat.le_refl _⟩,sC.trans (sE.thaw wLC.hq),fun _=>h1 (by omega),fun _=>ha,_,_,rfl⟩
    ·rintro σ HC ⟨sC,h1,h2,v5,v6,rfl⟩
     refine⟨Nat.le_refl _,?_⟩
     have sAC:=s_B.trans sC
     refine⟨sA.trans sAC,⟨_,_,_,rfl⟩,ss++[sB],?_,fun s hs=>?_,?_⟩
     ·rw[C5 hx,hss,List.map_append];rfl
     ·rcases List.mem_append.mp hs with z|z
      ·exact⟨(hsx s z).1.same sAC,(hsx s z).2⟩
      ·rw[List.mem_singleton.mp z]
       exact⟨xB.same sAC,hb4.mp rfl,h1 (by decide),h2 (by decide)⟩
     ·rw[C5 hti,List.map_append]
      exact A6 hsr rB
   ·rintro σ HA ⟨sA,⟨v4,v5,v6,rfl⟩,ss,hss,hsx,hsr⟩
    refine⟨⟨_,SqL.of (sA _ _ f9),Nat.le_refl _⟩,?_⟩
    rw[List.take_of_length_le (Nat.le_refl _)] at hss
    rw[List.take_of_length_le (by omega)] at hsr
    subst hss
    have m5A:=m59.trans sA
    have f5A:=m5A _ _ f5
    walk_at "r"
    refine x6 (SqL.of f5A) (b9 (j:=0) rfl) ?_
    walk_at "r"
    refine P4 (SqL.of f5A) (fun pB nB=>?_)
    rw[show V9 (V.ref sR.a::ss.map fun s=>V.ref s.a) (some 1) none=ss.map fun s=>V.ref s.a from sv _ _]
    obtain⟨HB,eB,fB,mB,_⟩:=b6 (o:= .lst _) nB
    rw[eB]
    walk_at "r"
    refine⟨d7 (by simp),fun pC nC=>?_⟩
    obtain⟨HC,eC,fC,mC,_⟩:=b6 (o:= .tup _) nC
    rw[eC]
    have mAC:=mB.trans mC
    have ro:RuleOx sL.W sR.W (ss.map (·.W)):=⟨(Y2 rL).mpr (hb1.mp rfl),(Y2 rR).mpr (hb2.mp rfl),hag,by rw[List.length_map];rw[List.length_map] at c4;omega,fun b hb=>by
     obtain⟨s,hs,rfl⟩:=List.mem_map.mp hb
     obtain⟨j,hj,ej⟩:=List.mem_iff_getElem.mp hb
     have hz:=(hsx s hs).2
     have rB:∃tt,WebRd tt s.W:=by
      obtain⟨i,hi,ei⟩:=List.mem_iff_getElem.mp hb
      have hl':=Paired.length hsr
      have hi':i<ps'.length:=by omega
      obtain⟨y,hy,ey⟩:=B8 hsr (List.getElem?_eq_getElem hi')
      rw[List.getElem?_eq_getElem hi,ei] at hy
      cases hy
      exact⟨_,ey⟩
     obtain⟨tt,rB⟩:=rB
     exact⟨(Y2 rB).mpr hz.1,hz.2⟩⟩
    exact k' sL.W sR.W (ss.map (·.W)) rL (.cons rR hsr) ro pC pB sL sR ss HC (m05.trans (m5A.trans mAC)) ⟨SqT.of fC,xL.same (m5A.trans mAC),xR.same (m5A.trans mAC),SqL.of (mC _ _ fB),fun b hb=>(hsx b hb).1.same mAC⟩ rfl rfl rfl ⟨_,mC _ _ fB⟩
def CF (K:PySem.W.Frag)(H:Hp)(Q:VK)(v:V):Prop:=(∃t:Str,v= .str t∧t.length≤50000∧(∀W,WebRd t W→NewP K H Q W)∧((∀W,¬WebRd t W)→∀H',Same H H'→Q (.int 2) H'))∨(NoTxt K H v∧∀H',Same H H'→Q (.int 2) H')
def Dh (K:PySem.W.Frag)(H:Hp)(Q:VK)(v:V):Prop:=(∃t:Str,v= .str t∧t.length≤50000∧(∀L R bs,RuleRd t L R bs→RuleNw K H Q L R bs)∧((∀L R bs,¬RuleRd t L R bs)→∀H',Same H H'→Q (.int 2) H'))∨(NoTxt K H v∧∀H',Same H H'→Q (.int 2) H')
def bz (K:PySem.W.Frag):Sp:=fun vs H Q _=>∃(wh way:Int) (v:V),vs=[.int wh,v,.int way]∧((wh=0∧CF K H Q v)∨(wh=1∧Dh K H Q v))
theorem NewP.up {H H1:Hp}{Q:VK}{W:G8}(h:NewP K H Q W)(m:Same H H1):NewP K H1 Q W:=fun a p q kvs W' H' s w f1 f2 ne n1 n2 p1 p2=>h a p q kvs W' H' (m.trans s) w f1 f2 ne (m.free n1) (m.free n2) p1 p2
theorem RuleNw.up {H H1:Hp}{Q:VK}{L R:G8}{bs:List G8}(h:RuleNw K H Q L R bs)(m:Same H H1):RuleNw K H1 Q L R bs:=fun r bl L' R' bs' H' s x n cl cr cb=>h r bl L' R' bs' H' (m.trans s) x (m.free n) (cl.up m) (cr.up m) (Paired.imp' (fun _ _ z=>CpW.up z m) cb)
theorem oN {mg':Str→Option Value}{x y:Str}{sp sp':Sp}{E:L2.St→XK}{tc:TE}{t:TA}{σ:L2.St}{H:Hp}{Q:VK}(q:tc σ H fun v H1=>(v= .ref (xN mg' x)∧t σ H1 fun vs H2=>sp vs H2 Q (E σ))∨(v= .ref (xN mg' y)∧t σ H1 fun vs H2=>sp' vs H2 Q (E σ))):gM mg' x y sp sp' E tc t σ H Q:=q
theorem xf {mg':Str→Option Value}{x:Str}{σ:L2.St}{H:Hp}{Q:VK}(q:Q (.ref (xN mg' x)) H):ya mg' x σ H Q:=q
theorem sQ {mg':Str→Option Value}{x y:Str}{sp sp':Sp}{E:L2.St→XK}{v:V}{σ:L2.St}{H:Hp}{Q:VK}(q:∀H1,Same H H1→sp [v] H1 Q (E (some (.int 0)::some v::σ))):gM mg' x y sp sp' E (rG (gB K) (uE (de (ya mg' x) (de (ya mg' y) fS))) (lU 0)) (de (lU 1) fS) (some (.int 0)::some v::σ) H Q:=by
 refine oN ?_
 walk_at "r"
 refine xf ?_
 walk_at "r"
 refine xf ?_
 walk_at "r"
 refine⟨d7 (by simp),fun l1 n1=>?_⟩
 obtain⟨H1,e1,f1,m1,_⟩:=b6 (o:= .lst _) n1
 rw[e1]
 walk_at "r"
 refine x6 (SqL.of f1) (b9 (j:=0) rfl) ?_
 refine .inl ⟨rfl,?_⟩
 walk_at "r"
 exact q H1 m1
theorem sk {mg':Str→Option Value}{x y:Str}{sp sp':Sp}{E:L2.St→XK}{v:V}{σ:L2.St}{H:Hp}{Q:VK}(q:∀H1,Same H H1→sp' [v] H1 Q (E (some (.int 1)::some v::σ))):gM mg' x y sp sp' E (rG (gB K) (uE (de (ya mg' x) (de (ya mg' y) fS))) (lU 0)) (de (lU 1) fS) (some (.int 1)::some v::σ) H Q:=by
 refine oN ?_
 walk_at "r"
 refine xf ?_
 walk_at "r"
 refine xf ?_
 walk_at "r"
 refine⟨d7 (by simp),fun l1 n1=>?_⟩
 obtain⟨H1,e1,f1,m1,_⟩:=b6 (o:= .lst _) n1
 rw[e1]
 walk_at "r"
 refine x6 (SqL.of f1) (b9 (j:=1) rfl) ?_
 refine .inr ⟨rfl,?_⟩
 walk_at "r"
 exact q H1 m1
theorem jF {f:Addr}{fd:FuncData}(T:Txt K mg)(Q5:E2 P w K mg base (eg P w) 7 "rule_read" ["text"] [] (bB K))(J2:E2 P w K mg base (eg P w) 5 "web_read" ["text"] [] (aa K))(F:Fun K "_law_told" "_law_told" Q2 f fd):E3 P w K mg base B4 8 f fd ["_law_which","_law_text","_law_way"] (bz K):=by
 refine F.ok sc__law_told (fun vs H Q E h=>?_) (fun cdv A outer s H vs Q E hr h=>?_)
 ·obtain⟨wh,way,v,rfl,_⟩:=h
  rfl
 ·obtain⟨wh,way,v,rfl,h⟩:=h
  have hN:=sc__law_told.nd
  have hu:=C0 hr
  refine⟨_,QSs.r (A0 (u6 (i:=3) hN rfl (by walk_at "l") b5)
   (A0 (u6 (i:=4) hN rfl (by walk_at "l") fj)
   (A0 (S2 (r6 (W6 K hr) (qV 2) b5 (j9 _)) (B9 (Ba (i:=5) T.t_NoText hN rfl (fun pins Es=>(B9 (u6 (i:=4) hN rfl (by walk_at "l") (BD J2 Q5 (hr.mono (by decide)) (hr.mono (by decide)) (C9 (C8 K hu) (aI (d9 (vG J2) (d9 (vG Q5) i8))) (qV 0) (fun _ _=>rfl)) (d9 (qV 1) i8))))) (fun ex=>(B9 (u6 (i:=3) hN rfl (by walk_at "l") (p0 (t7 K) b5 (qj iX T.b_int Boot.«int» (d9 (qB (xH K) T.b_isinstance Boot.«isinstance» (d9 (qV 5) (d9 (qr "ValueError" T.b_ValueError Boot.«ValueError») i8))) i8)))))))) (B9 (Ba (i:=5) T.t_GlueError hN rfl (fun pins Es=>(B9 (u6 (i:=4) hN rfl (by walk_at "l") (BD J2 Q5 (hr.mono (by decide)) (hr.mono (by decide)) (C9 (C8 K hu) (aI (d9 (vG J2) (d9 (vG Q5) i8))) (qV 0) (fun _ _=>rfl)) (d9 (qV 1) i8))))) (fun ex=>(B9 (u6 (i:=3) hN rfl (by walk_at "l") (p0 (t7 K) b5 (qj iX T.b_int Boot.«int» (d9 (qB (xH K) T.b_isinstance Boot.«isinstance» (d9 (qV 5) (d9 (qg T.g_NoText) i8))) i8)))))))))
   (A0 (S2 (r6 ai (qV 3) b5 (j9 _)) (B9 (x5 (qV 3))) T8)
   (B9 (x5 (qV 4))))))),?_⟩
  refine A4 fun nx1 hx=>?_
  walk_at "r"
  refine hx [some (.int wh),some v,some (.int way),some (.int 0),none,none] _ ?_
  clear hx
  refine A4 fun nx1 hx=>?_
  walk_at "r"
  refine hx [some (.int wh),some v,some (.int way),some (.int 0),some .non,none] _ ?_
  clear hx
  refine A4 fun nx1 hx=>?_
  have good:∀(r:V) (H':Hp) (v5:Option V),Q r H'→nx1 [some (.int wh),some v,some (.int way),some (.int 0),some r,v5] H':=fun r H' v5 q=>by
   refine hx _ _ ?_
   walk_at "r"
   rw[if_neg (by decide)]
   walk_at "r"
   exact q
  have bad:∀(H':Hp) (v5:Option V),Q (.int 2) H'→nx1 [some (.int wh),some v,some (.int way),some (.int 2),some .non,v5] H':=fun H' v5 q=>by
   refine hx _ _ ?_
   walk_at "r"
   rw[if_pos (by decide)]
   walk_at "r"
   exact q
  clear hx
  walk_at "r"
  refine P5 (fun hw=>?_) (fun hw=>?_)
  ·walk_at "r"
   rcases h with⟨rfl,ho⟩|⟨rfl,ho⟩
   ·refine sQ fun H1 m1=>?_
    rcases ho with⟨t,rfl,hl,k,kE⟩|⟨nt,kE⟩
    ·refine⟨_,rfl,.inl ⟨t,rfl,hl,fun W hW a p q kvs W' H2 s2 w2 f1 f2 ne n1 n2 p1 p2=>?_,fun hno H2 e s2 he=>?_⟩⟩
     ·walk_at "r"
      exact good _ _ _ ((k W hW).up m1 a p q kvs W' H2 s2 w2 f1 f2 ne n1 n2 p1 p2)
     ·refine⟨_,e,rfl,rfl,T.s_NoText_NoText,?_⟩
      have s3:Same H1 (A5 H2 e (.ext (IsExc e (cA K "NoText")))):=T9 s2 (s2.free he)
      have f3:(A5 H2 e (.ext (IsExc e (cA K "NoText")))) e=some (.ext (IsExc e (cA K "NoText"))):=g7
      generalize A5 H2 e (.ext (IsExc e (cA K "NoText")))=H3 at s3 f3⊢
      walk_at "r"
      refine⟨e,_,.type "ValueError",.ty "ValueError",_,rfl,rfl,f3,T.e_NoText,T.i_NoText_ValueError,?_⟩
      walk_at "r"
      refine .inr ⟨true,rfl,?_⟩
      walk_at "r"
      exact bad _ _ (kE hno _ (m1.trans s3))
    ·refine⟨_,rfl,.inr ⟨nt.mono m1,fun H2 e s2 he=>?_⟩⟩
     refine⟨_,e,rfl,rfl,T.s_NoText_NoText,?_⟩
     have s3:Same H1 (A5 H2 e (.ext (IsExc e (cA K "NoText")))):=T9 s2 (s2.free he)
     have f3:(A5 H2 e (.ext (IsExc e (cA K "NoText")))) e=some (.ext (IsExc e (cA K "NoText"))):=g7
     generalize A5 H2 e (.ext (IsExc e (cA K "NoText")))=H3 at s3 f3⊢
     walk_at "r"
     refine⟨e,_,.type "ValueError",.ty "ValueError",_,rfl,rfl,f3,T.e_NoText,T.i_NoText_ValueError,?_⟩
     walk_at "r"
     refine .inr ⟨true,rfl,?_⟩
     walk_at "r"
     exact bad _ _ (kE _ (m1.trans s3))
   ·refine sk fun H1 m1=>?_
    rcases ho with⟨t,rfl,hl,k,kE⟩|⟨nt,kE⟩
    ·refine⟨_,rfl,.inl ⟨t,rfl,hl,fun L R bs hR r bl L' R' bs' H2 s2 x2 n2 cl cr cb=>?_,fun hno H2 e s2 he=>?_⟩⟩
     ·walk_at "r"
      exact good _ _ _ ((k L R bs hR).up m1 r bl L' R' bs' H2 s2 x2 n2 cl cr cb)
     ·refine⟨_,e,rfl,rfl,T.s_NoText_NoText,?_⟩
      have s3:Same H1 (A5 H2 e (.ext (IsExc e (cA K "NoText")))):=T9 s2 (s2.free he)
      have f3:(A5 H2 e (.ext (IsExc e (cA K "NoText")))) e=some (.ext (IsExc e (cA K "NoText"))):=g7
      generalize A5 H2 e (.ext (IsExc e (cA K "NoText")))=H3 at s3 f3⊢
      walk_at "r"
      refine⟨e,_,.type "ValueError",.ty "ValueError",_,rfl,rfl,f3,T.e_NoText,T.i_NoText_ValueError,?_⟩
      walk_at "r"
      refine .inr ⟨true,rfl,?_⟩
      walk_at "r"
      exact bad _ _ (kE hno _ (m1.trans s3))
    ·refine⟨_,rfl,.inr ⟨nt.mono m1,fun H2 e s2 he=>?_⟩⟩
     refine⟨_,e,rfl,rfl,T.s_NoText_NoText,?_⟩
     have s3:Same H1 (A5 H2 e (.ext (IsExc e (cA K "NoText")))):=T9 s2 (s2.free he)
     have f3:(A5 H2 e (.ext (IsExc e (cA K "NoText")))) e=some (.ext (IsExc e (cA K "NoText"))):=g7
     generalize A5 H2 e (.ext (IsExc e (cA K "NoText")))=H3 at s3 f3⊢
     walk_at "r"
     refine⟨e,_,.type "ValueError",.ty "ValueError",_,rfl,rfl,f3,T.e_NoText,T.i_NoText_ValueError,?_⟩
     walk_at "r"
     refine .inr ⟨true,rfl,?_⟩
     walk_at "r"
     exact bad _ _ (kE _ (m1.trans s3))
  ·walk_at "r"
   rcases h with⟨rfl,ho⟩|⟨rfl,ho⟩
   ·refine sQ fun H1 m1=>?_
    rcases ho with⟨t,rfl,hl,k,kE⟩|⟨nt,kE⟩
    ·refine⟨_,rfl,.inl ⟨t,rfl,hl,fun W hW a p q kvs W' H2 s2 w2 f1 f2 ne n1 n2 p1 p2=>?_,fun hno H2 e s2 he=>?_⟩⟩
     ·walk_at "r"
      exact good _ _ _ ((k W hW).up m1 a p q kvs W' H2 s2 w2 f1 f2 ne n1 n2 p1 p2)
     ·refine⟨_,e,rfl,rfl,T.s_NoText_GlueError,?_⟩
      have s3:Same H1 (A5 H2 e (.ext (IsExc e (cA K "NoText")))):=T9 s2 (s2.free he)
      have f3:(A5 H2 e (.ext (IsExc e (cA K "NoText")))) e=some (.ext (IsExc e (cA K "NoText"))):=g7
      generalize A5 H2 e (.ext (IsExc e (cA K "NoText")))=H3 at s3 f3⊢
      walk_at "r"
      refine⟨e,_,.ref (cA K "NoText"),.ref (cA K "NoText"),_,rfl,rfl,f3,T.e_NoText,T.i_NoText_NoText,?_⟩
      walk_at "r"
      refine .inr ⟨true,rfl,?_⟩
      walk_at "r"
      exact bad _ _ (kE hno _ (m1.trans s3))
    ·refine⟨_,rfl,.inr ⟨nt.mono m1,fun H2 e s2 he=>?_⟩⟩
     refine⟨_,e,rfl,rfl,T.s_NoText_GlueError,?_⟩
     have s3:Same H1 (A5 H2 e (.ext (IsExc e (cA K "NoText")))):=T9 s2 (s2.free he)
     have f3:(A5 H2 e (.ext (IsExc e (cA K "NoText")))) e=some (.ext (IsExc e (cA K "NoText"))):=g7
     generalize A5 H2 e (.ext (IsExc e (cA K "NoText")))=H3 at s3 f3⊢
     walk_at "r"
     refine⟨e,_,.ref (cA K "NoText"),.ref (cA K "NoText"),_,rfl,rfl,f3,T.e_NoText,T.i_NoText_NoText,?_⟩
     walk_at "r"
     refine .inr ⟨true,rfl,?_⟩
     walk_at "r"
     exact bad _ _ (kE _ (m1.trans s3))
   ·refine sk fun H1 m1=>?_
    rcases ho with⟨t,rfl,hl,k,kE⟩|⟨nt,kE⟩
    ·refine⟨_,rfl,.inl ⟨t,rfl,hl,fun L R bs hR r bl L' R' bs' H2 s2 x2 n2 cl cr cb=>?_,fun hno H2 e s2 he=>?_⟩⟩
     ·walk_at "r"
      exact good _ _ _ ((k L R bs hR).up m1 r bl L' R' bs' H2 s2 x2 n2 cl cr cb)
     ·refine⟨_,e,rfl,rfl,T.s_NoText_GlueError,?_⟩
      have s3:Same H1 (A5 H2 e (.ext (IsExc e (cA K "NoText")))):=T9 s2 (s2.free he)
      have f3:(A5 H2 e (.ext (IsExc e (cA K "NoText")))) e=some (.ext (IsExc e (cA K "NoText"))):=g7
      generalize A5 H2 e (.ext (IsExc e (cA K "NoText")))=H3 at s3 f3⊢
      walk_at "r"
      refine⟨e,_,.ref (cA K "NoText"),.ref (cA K "NoText"),_,rfl,rfl,f3,T.e_NoText,T.i_NoText_NoText,?_⟩
      walk_at "r"
      refine .inr ⟨true,rfl,?_⟩
      walk_at "r"
      exact bad _ _ (kE hno _ (m1.trans s3))
    ·refine⟨_,rfl,.inr ⟨nt.mono m1,fun H2 e s2 he=>?_⟩⟩
     refine⟨_,e,rfl,rfl,T.s_NoText_GlueError,?_⟩
     have s3:Same H1 (A5 H2 e (.ext (IsExc e (cA K "NoText")))):=T9 s2 (s2.free he)
     have f3:(A5 H2 e (.ext (IsExc e (cA K "NoText")))) e=some (.ext (IsExc e (cA K "NoText"))):=g7
     generalize A5 H2 e (.ext (IsExc e (cA K "NoText")))=H3 at s3 f3⊢
     walk_at "r"
     refine⟨e,_,.ref (cA K "NoText"),.ref (cA K "NoText"),_,rfl,rfl,f3,T.e_NoText,T.i_NoText_NoText,?_⟩
     walk_at "r"
     refine .inr ⟨true,rfl,?_⟩
     walk_at "r"
     exact bad _ _ (kE _ (m1.trans s3))
theorem EqN.of0 {H:Hp}{x y:V}{b:Bool}(h:EqN K H 0 x y b):∀n,EqN K H n x y b
 |0=>h
 |n+1=> .inl (EqN.of0 h n)
theorem gQ {H:Hp}{A C:Sd}{n:Nat}(h:SdX K H A)(h':SdX K H C)(p1:A.W.pts.Perm C.W.pts)(p2:A.W.ts.Perm C.W.ts)(hp:A.p≠C.p)(hq:A.q≠C.q):EqN K H (n+1) (.ref A.a) (.ref C.a) true:=by
 by_cases e:A.a=C.a
 ·exact EqN.of0 (.inr ⟨A.a,C.a,rfl,rfl,.inl ⟨e,rfl⟩⟩) _
 ·refine .inr ⟨A.a,C.a,[.ref A.p,.ref A.q],[.ref C.p,.ref C.q],[true,true],rfl,rfl,e,.inl ⟨(WebX.at_ h).tup,(WebX.at_ h').tup⟩,rfl,rfl,fun j x y b hx hy hb=>?_,rfl⟩
  match j,hx,hy,hb with
  |0,hx,hy,hb=>
   cases hx;cases hy;cases hb
   exact EqN.of0 (.inr ⟨A.p,C.p,rfl,rfl,pQ hp (WebX.at_ h).pts (WebX.at_ h').pts p1 (WebX.np h')⟩) _
  |1,hx,hy,hb=>
   cases hx;cases hy;cases hb
   exact EqN.of0 (.inr ⟨A.q,C.q,rfl,rfl,mw hq (WebX.at_ h).ties (WebX.at_ h').ties (WebX.at_ h).ts (WebX.at_ h').ts p2 (WebX.nt h')⟩) _
  |j+2,hx,_,_=>cases hx
structure Ck (A B:Sd):Prop where
 m1:A.W.pts.Perm B.W.pts
 m2:A.W.ts.Perm B.W.ts
 p:A.p≠B.p
 q:A.q≠B.q
theorem CpW.ck {H:Hp}{A B:Sd}(h:CpW H A B.W)(hB:SdX K H B):Ck A B:=⟨h.m1,h.m2,(i6 (WebX.hp hB) h.p).symm,(i6 (WebX.hq hB) h.q).symm⟩
theorem wD {H:Hp}{l l':Addr}{ss ss':List Sd}{n:Nat}(h:SqL K H l (ss.map fun s=>V.ref s.a))(h':SqL K H l' (ss'.map fun s=>V.ref s.a))(ha:∀s∈ss,SdX K H s)(ha':∀s∈ss',SdX K H s)(pr:Paired Ck ss ss'):
  (ss.map fun s=>V.ref s.a).length=(ss'.map fun s=>V.ref s.a).length∧(List.replicate ss.length true).length=(ss.map fun s=>V.ref s.a).length∧∀(j:Nat) (x y:V) (b:Bool),(ss.map fun s=>V.ref s.a)[j]?=some x→(ss'.map fun s=>V.ref s.a)[j]?=some y→(List.replicate ss.length true)[j]?=some b→EqN K H (n+1) x y b:=by
 have hl:=Paired.length pr
 refine⟨by rw[List.length_map,List.length_map,hl],by rw[List.length_replicate,List.length_map],fun j x y b h1 h2 h3=>?_⟩
 rw[List.getElem?_map] at h1 h2
 obtain⟨s,hs,rfl⟩:=Option.map_eq_some_iff.mp h1
 obtain⟨s',hs',rfl⟩:=Option.map_eq_some_iff.mp h2
 have e3:=(List.mem_replicate.mp (List.mem_of_getElem? h3)).2
 subst e3
 obtain⟨s'',hs'',z⟩:=B8 pr hs
 rw[hs'] at hs''
 cases hs''
 exact gQ (ha _ (List.mem_of_getElem? hs)) (ha' _ (List.mem_of_getElem? hs')) z.m1 z.m2 z.p z.q
theorem xg {H:Hp}{r bl r' bl':Addr}{L R L' R':Sd}{bs bs':List Sd}(h:RuleX K H r bl L R bs)(h':RuleX K H r' bl' L' R' bs')(cl:Ck L' L)(cr:Ck R' R)(cb:Paired Ck bs' bs)(nb:bl'≠bl):CY K H (.ref r') (.ref r) [true,true,true]:=by
 refine⟨r',r,_,_,rfl,rfl,.inl ⟨h'.tup,h.tup⟩,rfl,rfl,fun j x y b h1 h2 h3=>?_⟩
 match j,h1,h2,h3 with
 |0,h1,h2,h3=>cases h1;cases h2;cases h3;exact gQ (n:=7) h'.l h.l cl.m1 cl.m2 cl.p cl.q
 |1,h1,h2,h3=>cases h1;cases h2;cases h3;exact gQ (n:=7) h'.r h.r cr.m1 cr.m2 cr.p cr.q
 |2,h1,h2,h3=>
  cases h1;cases h2;cases h3
  obtain⟨q1,q2,q3⟩:=wD (n:=6) h'.bl h.bl h'.bars h.bars cb
  exact .inr ⟨bl',bl,_,_,List.replicate bs'.length true,rfl,rfl,nb,.inr ⟨h'.bl,h.bl⟩,q1,q2,q3,by simp⟩
 |j+3,h1,_,_=>cases h1
def aD (K:PySem.W.Frag):Sp:=fun vs H Q _=>∃(wh way:Int) (v:V),vs=[.int wh,v,.int way]∧(wh=0∨wh=1)∧((∃t:Str,v= .str t∧t.length≤50000)∨NoTxt K H v)∧∀H',Same H H'→Q (.bl true) H'
theorem Du {H:Hp}:∀{bs' bs:List Sd},Paired (CpW H) bs' (bs.map (·.W))→(∀b∈bs,SdX K H b)→Paired Ck bs' bs
 |[],[],.nil,_=> .nil
 |_::_,_::_,.cons h r,hb=> .cons (h.ck (hb _ List.mem_cons_self)) (Du r fun b h=>hb b (List.mem_cons_of_mem _ h))
theorem Ag {H:Hp}{Q:VK}{x y:V}(h:cE K x y H Q):vg K x y H Q:= .inl h
theorem RuleRd.uniq {t:Str}{L R L' R':G8}{bs bs':List G8}(h:RuleRd t L R bs)(h':RuleRd t L' R' bs'):L=L'∧R=R'∧bs=bs':=by
 obtain⟨a,b,e,h1,h2⟩:=h.sd
 obtain⟨a',b',e',h1',h2'⟩:=h'.sd
 rw[e] at e'
 cases e'
 have z:=cn (F:=WebRd) (fun _ _ _ x y=>WebRd.uniq x y) h2 h2'
 cases z
 exact⟨h1.uniq h1',rfl,rfl⟩
theorem iR {f:Addr}{fd:FuncData}(T:Txt K mg)(O4:E2 P w K mg base B4 5 "_law_rule_read" ["_law_text"] [] (S5 K))(K7:E2 P w K mg base B4 4 "_law_read" ["_law_text"] [] (X2 K))(cD:E2 P w K mg base B4 8 "_law_told" ["_law_which","_law_text","_law_way"] [] (bz K))(F:Fun K "_law_right" "_law_right" N3 f fd):E3 P w K mg base B4 9 f fd ["_law_which","_law_text","_law_way"] (aD K):=by
 refine F.ok sc__law_right (fun vs H Q E h=>?_) (fun cdv A outer s H vs Q E hr h=>?_)
 ·obtain⟨wh,way,v,rfl,_⟩:=h
  rfl
 ·obtain⟨wh,way,v,rfl,hw,hv,k⟩:=h
  have hN:=sc__law_right.nd
  have hu:=C0 hr
  refine⟨_,QSs.r (A0 (u6 (i:=3) hN rfl (by walk_at "l") fj)
   (A0 (S2 (D2 K (qB (bO K P w) T.b_isinstance Boot.«isinstance» (d9 (qV 1) (d9 (qr "str" T.b_str Boot.«str») i8)))) (B9 (u6 (i:=3) hN rfl (by walk_at "l") (DE K7 O4 (hr.mono (by decide)) (hr.mono (by decide)) j0 (C9 (C8 K hu) (aI (d9 (CZ K7) (d9 (CZ O4) i8))) (qV 0) (fun _ _=>rfl)) (d9 (qV 1) i8)))) T8)
   (A0 (S2 (r6 xF (qV 3) fj (j9 _)) (B9 (u6 (i:=3) hN rfl (by walk_at "l") b5)) T8)
   (B9 (x5 (ke (vd K hr) (qC cD (hr.mono (by decide)) j0 (d9 (qV 0) (d9 (qV 1) (d9 (qV 2) i8)))) (qV 3) (j9 _))))))),?_⟩
  refine A4 fun nx1 hx=>?_
  walk_at "r"
  refine hx [some (.int wh),some v,some (.int way),some .non] _ ?_
  clear hx
  refine A4 fun nx1 hx=>?_
  walk_at "r"
  have none_:∀H1,Same H H1→(wh=0→∀t,v= .str t→∀W,¬WebRd t W)→(wh=1→∀t,v= .str t→∀L R bs,¬RuleRd t L R bs)→nx1 [some (.int wh),some v,some (.int way),some .non] H1:=fun H1 m1 n0 n1=>by
   refine hx _ _ ?_
   walk_at "r"
   rw[show decide (V.non=V.non)=true from decide_eq_true rfl,if_pos (by simp)]
   walk_at "r"
   refine⟨wh,way,v,rfl,?_⟩
   rcases hw with rfl|rfl
   ·refine .inl ⟨rfl,?_⟩
    have e0:(0:Int)=0:=rfl
    rcases hv with⟨t,rfl,hl⟩|nt
    ·refine .inl ⟨t,rfl,hl,fun W hW=>absurd hW (n0 e0 t rfl W),fun _ H2 s2=>?_⟩
     walk_at "r"
     refine Ag (cH ?_)
     rw[decide_eq_true rfl]
     exact k _ (m1.trans s2)
    ·refine .inr ⟨nt.mono m1,fun H2 s2=>?_⟩
     walk_at "r"
     refine Ag (cH ?_)
     rw[decide_eq_true rfl]
     exact k _ (m1.trans s2)
   ·refine .inr ⟨rfl,?_⟩
    have e1:(1:Int)=1:=rfl
    rcases hv with⟨t,rfl,hl⟩|nt
    ·refine .inl ⟨t,rfl,hl,fun L R bs hR=>absurd hR (n1 e1 t rfl L R bs),fun _ H2 s2=>?_⟩
     walk_at "r"
     refine Ag (cH ?_)
     rw[decide_eq_true rfl]
     exact k _ (m1.trans s2)
    ·refine .inr ⟨nt.mono m1,fun H2 s2=>?_⟩
     walk_at "r"
     refine Ag (cH ?_)
     rw[decide_eq_true rfl]
     exact k _ (m1.trans s2)
  rcases hv with⟨t,rfl,hl⟩|⟨ty,hty,hne⟩
  case inr=>
   refine U0 (U1 hty (by simp) ?_)
   rw[show Y8 ty "str"=false by unfold Y8;simp [hne]]
   walk_at "r"
   exact none_ H (Same.refl _) (fun _ t e=>by subst e;exact absurd hty hne) (fun _ t e=>by subst e;exact absurd hty hne)
  refine U0 (U1 (t:="str") rfl (by simp) ?_)
  rw[show Y8 "str" "str"=true from rfl]
  walk_at "r"
  rcases hw with rfl|rfl
  ·refine sQ fun H1 m1=>?_
   refine⟨t,rfl,hl,fun v2 H2 s2 hv2=>?_⟩
   walk_at "r"
   have m2:=m1.trans s2
   rcases hv2 with⟨sd,rfl,xs,rs⟩|⟨rfl,hno⟩
   case inr=>exact none_ H2 m2 (fun _ t' e W=>by cases e;exact hno W) (fun e=>by cases e)
   refine hx _ _ ?_
   walk_at "r"
   rw[show decide (V.ref sd.a=V.non)=false from decide_eq_false (by intro z;cases z),if_neg (by simp)]
   walk_at "r"
   refine⟨0,way,_,rfl,.inl ⟨rfl,.inl ⟨t,rfl,hl,fun W hW=>?_,fun hno=>absurd rs (hno _)⟩⟩⟩
   intro a p q kvs W' H3 s3 w3 f1 f2 ne n1 n2 p1 p2
   have eW:=hW.uniq rs
   subst eW
   have x3:WebX K H3 sd.a sd.p sd.q sd.kvs sd.W:=SdX.same xs s3
   have np:p≠sd.p:=(i6 (WebX.hp xs) n1).symm
   have nq:q≠sd.q:=(i6 (WebX.hq xs) n2).symm
   walk_at "r"
   refine Ag (iH (uv (r:=true) (r':=true) w3.tup x3.at_.tup (pQ np w3.pts x3.at_.pts p1 x3.np) (mw nq w3.ties x3.at_.ties w3.ts x3.at_.ts p2 x3.nt) ?_))
   exact k _ (m2.trans s3)
  ·refine sk fun H1 m1=>?_
   have okR:∀L R bs,RuleRd t L R bs→∀(r bl:Addr) (L' R':Sd) (bs':List Sd) (H2:Hp),Same H1 H2→RuleX K H2 r bl L' R' bs'→L'.W=L→R'.W=R→bs'.map (·.W)=bs→(∃xs,H2 bl=some (.lst xs))→nx1 [some (.int 1),some (.str t),some (.int way),some (.ref r)] H2:=by
    intro L R bs hR r bl L' R' bs' H2 s2 x2 eL eR eB ⟨xs2,hbl⟩
    have m2:=m1.trans s2
    subst eL eR eB
    refine hx _ _ ?_
    walk_at "r"
    rw[show decide (V.ref r=V.non)=false from decide_eq_false (by intro z;cases z),if_neg (by simp)]
    walk_at "r"
    refine⟨1,way,_,rfl,.inr ⟨rfl,.inl ⟨t,rfl,hl,fun L2 R2 bs2 hR2=>?_,fun hno=>absurd hR (hno _ _ _)⟩⟩⟩
    intro r3 bl3 L3 R3 bs3 H3 s3 x3 n3 cl cr cb
    have u:=hR2.uniq hR
    obtain⟨u1,u2,u3⟩:=u
    subst u1 u2 u3
    walk_at "r"
    have nb:bl3≠bl:=(i6 hbl n3).symm
    refine Ag (.inr ⟨_,xg (x2.same s3) x3 (cl.ck x2.l) (cr.ck x2.r) (Du cb x2.bars) nb,?_⟩)
    exact k _ (m2.trans s3)
   have noR:(∀L R bs,¬RuleRd t L R bs)→∀H2,Same H1 H2→nx1 [some (.int 1),some (.str t),some (.int way),some .non] H2:=fun hno H2 s2=>none_ H2 (m1.trans s2) (fun e=>by cases e) (fun _ t' e=>by cases e;exact hno)
   exact⟨t,rfl,hl,fun L R bs hR r bl L' R' bs' H2 s2 x2 eL eR eB hb=>okR L R bs hR r bl L' R' bs' H2 s2 x2 eL eR eB hb,fun hno H2 s2=>noR hno H2 s2⟩
structure iW (W:G8):Prop where
 nm:∀x∈A8 W,x8 x=true
 kd:∀x∈W.pts,o6 x.2=true
 tk:∀x∈W.ts,o6 x.2.1=true
structure iu (m:Nat) (W:G8):Prop where
 good:iW W
 kds:∀n∈A8 W,o6 n=true
 l1:W.pts.length≤m
 l2:W.ts.length≤m
def SdIs (K:PySem.W.Frag)(H:Hp)(s:Sd):Prop:=WebIs 24 K H s.a s.p s.q s.kvs s.W
theorem SdIs.same {H H':Hp}{s:Sd}(h:SdIs K H s)(m:Same H H'):SdIs K H' s:=WebIs.same h m
structure RuleIs (K:PySem.W.Frag) (H:Hp) (r bl:Addr) (L R:Sd) (bs:List Sd):Prop where
 tup:SqT K H r [.ref L.a,.ref R.a,.ref bl]
 l:SdIs K H L
 r:SdIs K H R
 bl:SqL K H bl (bs.map fun s=>V.ref s.a)
 bars:∀b∈bs,SdIs K H b
theorem RuleIs.same {H H':Hp}{r bl:Addr}{L R:Sd}{bs:List Sd}(h:RuleIs K H r bl L R bs)(m:Same H H'):RuleIs K H' r bl L R bs:=⟨m.tup h.tup,h.l.same m,h.r.same m,m.seq h.bl,fun b hb=>(h.bars b hb).same m⟩
structure yd (L R:G8) (bs:List Sd):Prop where
 l:iu 4 L
 r:iu 4 R
 ag:∀n∈A8 L,n∈A8 R→fu n L R
 len:bs.length≤3
 bars:∀b∈bs,iu 6 b.W∧(∀x∈L.pts,x∈b.W.pts)∧∀x∈L.ts,x∈b.W.ts
theorem gI {W:G8}{m:Nat}(h1:∀n∈A8 W,o6 n=true)(h2:∀x∈W.pts,o6 x.2=true)(h3:∀x∈W.ts,o6 x.2.1=true)(l1:W.pts.length≤m)(l2:W.ts.length≤m):iu m W:=
 ⟨⟨fun n hn=>iY (h1 n hn),h2,h3⟩,h1,l1,l2⟩
theorem uY {n kd:Str}{PL:List (Str×Str)}(h:n∉PL.map (·.1)):N0 (J6 PL) (Sum.inr n:j6) (.str kd)=J6 (PL++[(n,kd)]):=by
 rw[W7 _ (M6 (by rw[R9,←G6];exact fun m=>h (ao m)))]
 unfold J6;rw[List.map_append];rfl
theorem sx {H:Hp}{l:Addr}{n:Str}{t:M7}{kL:List (j6×V)}{TL:List (Str×M7)}(w:TiesIs K H kL TL)(h:n∉TL.map (·.1))(hl:SqT K H l (bX t)):TiesIs K H (N0 kL (Sum.inr n:j6) (.ref l)) (TL++[(n,t)]):=by
 rw[W7 _ (M6 (by rw[w.keys,←G6];exact fun m=>h (ao m)))]
 exact A6 w ⟨rfl,l,rfl,hl⟩
theorem mj {H:Hp}{a d:Addr}{k1:List V}{u:HO}{xs:List V}(h:H d=some (.lst k1))(s:SqT K H a xs):SqT K (A5 H d u) a xs:=by
 rcases s with s|s
 ·refine .inl ?_
  by_cases z:a=d
  ·subst z
   rcases s with s|⟨_,s⟩<;>(rw[h] at s;cases s)
  ·unfold Rd
   rw[d6 z];exact s
 ·exact .inr s
theorem qP {H:Hp}{d:Addr}{k1:List V}{u:HO}{kvs:List (j6×V)}{ts:List (Str×M7)}(h:H d=some (.lst k1))(w:TiesIs K H kvs ts):TiesIs K (A5 H d u) kvs ts:=
 Paired.imp' (fun _ _ ⟨e,a,ea,s⟩=>⟨e,a,ea,mj h s⟩) w
theorem pM {H:Hp}{lo:Addr}{xs:List V}{u:HO}{b:Sd}(h:H lo=some (.lst xs))(s:SdIs K H b):SdIs K (A5 H lo u) b:=by
 have hp:b.p≠lo:=fun z=>by have:=s.hp;rw[z,h] at this;cases this
 have hq:b.q≠lo:=fun z=>by have:=s.hq;rw[z,h] at this;cases this
 have e1:A5 H lo u b.p=some (.dK (J6 b.W.pts)):=by rw[d6 hp];exact s.hp
 have e2:A5 H lo u b.q=some (.dK b.kvs):=by rw[d6 hq];exact s.hq
 exact⟨⟨mj h s.at_.tup,.inl e1,.inl e2,qP h s.at_.ts⟩,e1,e2,s.ne,s.nd,s.len,s.ends,s.nl⟩
theorem lV {H H':Hp}{d:Addr}{o:Obj}{kvs:List (j6×V)}(s:Same H H'):Same (K1 d o kvs H) (K1 d o kvs H'):=fun b u e=>by
 unfold K1 at*
 by_cases z:b=d
 ·rw[z,g7] at e⊢;exact e
 ·rw[d6 z] at e⊢;exact s _ _ e
theorem cI {H:Hp}{d b:Addr}{o:Obj}{kvs:List (j6×V)}(h:b≠d):K1 d o kvs H b=H b:=d6 h
structure PcW (W:G8):Prop where
 pc:iu 4 W
 nd:(A8 W).Nodup
 ends:∀x∈W.ts,x.2.2.1∈W.pts.map (·.1)∧x.2.2.2∈W.pts.map (·.1)
theorem WebIs.to {n m:Nat}{H:Hp}{a p q:Addr}{kvs:List (j6×V)}{W:G8}(h:WebIs n K H a p q kvs W)(l:(A8 W).length≤m):WebIs m K H a p q kvs W:=⟨h.at_,h.hp,h.hq,h.ne,h.nd,l,h.ends,h.nl⟩
theorem PcW.len {W:G8}(h:PcW W):(A8 W).length≤8:=by
 rw[br]
 have:=h.pc.l1
 have:=h.pc.l2
 omega
structure Bq (L R:Sd) (bs:List Sd):Prop where
 l:PcW L.W
 r:PcW R.W
 b:∀b∈bs,PcW b.W
 len:bs.length≤3
def cJ (K:PySem.W.Frag):Sp:=fun vs H Q _=>∃(a b c:Addr) (ns:List Int) (ss ks:List Str),vs=[.ref a,.ref b,.ref c]∧SqL K H a (ns.map V.int)∧SqL K H b (ss.map V.str)∧SqL K H c (ks.map V.str)∧ss.length=ns.length∧ns.length≤16∧ks.length=3∧ss.Nodup∧(∀s∈ss,x8 s=true)∧(∀s∈ks,o6 s=true)∧AA 16 K H Q iW
def aK (K:PySem.W.Frag):Sp:=fun vs H Q _=>∃(a:Addr) (ns:List Int) (m:Nat),vs=[.ref a,.int 0,.int m]∧m≤16∧SqL K H a (ns.map V.int)∧ns.length≤63∧AA 16 K H Q iW
theorem ll {f:Addr}{fd:FuncData}(T:Txt K mg)(i4:E2 P w K mg base B4 1 "_law_mixed" ["_law_cell","_law_k"] [] (E1 K))(F:Fun K "_law_web" "_law_web" V0 f fd):E3 P w K mg base B4 2 f fd ["_law_cells","_law_names_here","_law_kinds_here"] (cJ K):=by
 refine F.ok sc__law_web (fun vs H Q E h=>?_) (fun cdv A outer s H vs Q E hr h=>?_)
 ·obtain⟨a,b,c,ns,ss,ks,rfl,_⟩:=h
  rfl
 ·obtain⟨a,b,c,ns,ss,ks,rfl,hA,hB,hC,hl,hn,hk,hkl,hsl,hkg,k⟩:=h
  have hN:=sc__law_web.nd
  have hu:=C0 hr
  refine⟨_,QSs.r (A0 (u6 (i:=3) hN rfl (by walk_at "l") xu)
   (A0 (u6 (i:=4) hN rfl (by walk_at "l") xu)
   (A0 (aP PassesOwn.never rfl (dE K T.b_enumerate (d9 (qV 0) i8)) (wF K rfl (jV (T6 (i:=5) hN rfl (by walk_at "l")) (jV (T6 (i:=6) hN rfl (by walk_at "l")) wV)))
    (A0 (u6 (i:=7) hN rfl (by walk_at "l") (qj (jy K rfl) T.b_list Boot.«list» (d9 (qV 3) i8)))
   (A0 (u6 (i:=8) hN rfl (by walk_at "l") (C9 (C8 K hu) (qV 2) (p0 j8 (p0 C4 (qV 6) b5) (qB (E4 K P w) T.b_len Boot.«len» (d9 (qV 2) i8))) (fun _ _=>rfl)))
   (B9 (S2 (fV (Q0 (r6 (W6 K hr) (qV 7) (aI i8) (j9 _)) (M5 (r6 (W6 K hr) (p0 j8 (qV 6) b5) b5 (j9 _))))) (B9 (kA (qV 8) (xD (qV 3) (C9 (C8 K hu) (qV 1) (qV 5) (fun _ _=>rfl)) (Q9 P w hu)))) (A0 (u6 (i:=9) hN rfl (by walk_at "l") (C9 (C8 K hu) (qV 7) (p0 j8 (qC i4 (hr.mono (by decide)) j0 (d9 (qV 6) (d9 b5 i8))) (qB (E4 K P w) T.b_len Boot.«len» (d9 (qV 7) i8))) (fun _ _=>rfl)))
   (B9 (kA (bR (d9 (qV 8) (d9 (qV 9) (d9 (C9 (C8 K hu) (qV 7) (p0 j8 (qC i4 (hr.mono (by decide)) j0 (d9 (qV 6) (d9 b5 i8))) (qB (E4 K P w) T.b_len Boot.«len» (d9 (qV 7) i8))) (fun _ _=>rfl)) i8)))) (xD (qV 4) (C9 (C8 K hu) (qV 1) (qV 5) (fun _ _=>rfl)) (Q9 P w hu))))))))))
   (B9 (x5 (bR (d9 (qV 3) (d9 (qV 4) i8)))))))),?_⟩
  walk_at "r"
  intro p np
  obtain⟨H1,e1,f1,m1,o1⟩:=b6 (o:= .dK []) np
  rw[e1]
  walk_at "r"
  intro q nq
  obtain⟨H2,e2,f2,m2,o2⟩:=b6 (o:= .dK []) nq
  rw[e2]
  have hpq:p≠q:=fun z=>by rw[←z,f1] at nq;cases nq
  have nq0:H q=none:=m1.free nq
  walk_at "r"
  refine⟨_,rfl,.inl ⟨a,_,rfl,(m1.trans m2).seq hA,?_⟩⟩
  refine G7 (n:=ns.length) (fun i σ H'=>∃(pts:List (Str×Str)) (kvs:List (j6×V)) (ts:List (Str×M7)) (v1 v2 v3 v4 v5:Option V),σ=[some (.ref a),some (.ref b),some (.ref c),some (.ref p),some (.ref q),v1,v2,v3,v4,v5]∧Same H H'∧H' p=some (.dK (J6 pts))∧H' q=some (.dK kvs)∧TiesIs K H' kvs ts∧(pts.map (·.1)++ts.map (·.1)).Nodup∧(∀x∈pts.map (·.1)++ts.map (·.1),x∈ss.take i)∧pts.length+ts.length≤i∧(∀x∈ts,x.2.2.1∈pts.map (·.1)∧x.2.2.2∈pts.map (·.1))∧(∀x∈pts,o6 x.2=true)∧∀x∈ts,o6 x.2.1=true) ⟨[],[],[],none,none,none,none,none,rfl,m1.trans m2,m2 _ _ f1,f2,.nil,List.nodup_nil,(by simp),Nat.le_refl _,(fun _ h=>nomatch h),(fun _ h=>nomatch h),fun _ h=>nomatch h⟩ (fun i σ H' hi hp=>?_) ?_ ?_
  ·obtain⟨_,_,_,_,_,_,_,_,_,s,_⟩:=hp
   exact⟨_,.int (ns[i]),s.seq hA,by rw[List.getElem?_map,List.getElem?_eq_getElem hi];rfl⟩
  ·rintro _ i v σ H3 H4 hi ⟨pts,kvs,ts,v1,v2,v3,v4,v5,rfl,s3,g3,t3,w3,d1,d2,l1,l2,kk1,kk2⟩ ⟨t,x,hx,nt,rfl,rfl⟩
   have hx':=hx _ (s3.seq hA)
   rw[List.getElem?_map,List.getElem?_eq_getElem hi] at hx'
   cases hx'
   obtain⟨nm,hnm,hnm'⟩:∃nm,(ss.map V.str)[i]?=some (.str nm)∧ss[i]?=some nm:=⟨ss[i],by rw[List.getElem?_map,List.getElem?_eq_getElem (by omega)];rfl,List.getElem?_eq_getElem (by omega)⟩
   have e7:ss.take (i+1)=ss.take i++[nm]:=by rw[List.take_succ,hnm'];rfl
   have nin:nm∉ss.take i:=fun m=>by
    have z:(ss.take (i+1)).Nodup:=hkl.sublist (List.take_sublist _ _)
    rw[e7] at z
    exact(List.nodup_append.mp z).2.2 nm m nm (by simp) rfl
   have fresh:nm∉pts.map (·.1)++ts.map (·.1):=fun m=>nin (d2 nm m)
   have sub1:∀x∈pts.map (·.1)++ts.map (·.1),x∈ss.take (i+1):=fun x hx=>by rw[e7];exact List.mem_append_left _ (d2 x hx)
   obtain⟨H5,e5,f5,m5,_⟩:=b6 (o:= .tup _) nt
   rw[e5]
   refine bF (SqT.of f5) rfl ?_
   walk_at "r"
   refine jO (bh (.inl (m5 _ _ g3)) (fun l nl=>?_))
   obtain⟨H6,e6,f6,m6,_⟩:=b6 (o:= .lst _) nl
   rw[e6]
   have f6':H6 l=some (.lst ((pts.map (·.1)).map V.str)):=by rw[f6];unfold J6;rw[List.map_map,List.map_map];rfl
   have s6:=s3.trans (m5.trans m6)
   walk_at "r"
   refine E5 (K3 (s6.seq hC) ?_)
   rw[List.length_map,hk]
   walk_at "r"
   obtain⟨kd,hkd,hkm⟩:=W3 (ss:=ks) (i:=ns[i]/3 % ((3:Nat):Int)) (by omega) (by omega)
   refine x6 (s6.seq hC) hkd ?_
   walk_at "r"
   refine⟨d7 (by simp),fun l8 n8=>?_⟩
   obtain⟨H8,e8,f8,m8,_⟩:=b6 (o:= .lst _) n8
   rw[e8]
   have s8:=s6.trans m8
   have g8:=m8 _ _ (m6 _ _ (m5 _ _ g3))
   have t8:=m8 _ _ (m6 _ _ (m5 _ _ t3))
   have w8:=w3.mono (m5.trans (m6.trans m8)).le
   have h8:=m8 _ _ f6'
   refine iH (lX (SqL.of h8) (SqL.of f8) (gN _) rfl ?_)
   walk_at "r"
   refine jW (fun hb=>?_) (fun hb=>?_)
   ·walk_at "r"
    refine x6 (xs:=ss.map V.str) (s8.seq hB) (b9 (j:=i) hnm) ?_
    refine ez (N4 (k:=Sum.inr nm) g8 (d7 (by unfold J6;rw[List.length_map];omega)) ?_)
    have ep:N0 (J6 pts) (Sum.inr nm:j6) (.str kd)=J6 (pts++[(nm,kd)]):=by
     rw[W7 _ (M6 (by rw[R9,←G6];exact fun m=>fresh (List.mem_append_left _ (ao m))))]
     unfold J6;rw[List.map_append];rfl
    refine⟨pts++[(nm,kd)],kvs,ts,_,_,_,_,_,rfl,T9 s8 np,by rw[g7,ep],by rw[d6 (Ne.symm hpq)];exact t8,Paired.imp' (fun _ _ z=>af g8 z) w8,?_,?_,?_,?_,fun x hx=>?_,kk2⟩
    ·exact mZ d1 fresh
    ·exact pW sub1 (by rw[e7];simp)
    ·rw[List.length_append,List.length_singleton];omega
    ·intro x hx
     rw[List.map_append]
     exact⟨List.mem_append_left _ (l2 x hx).1,List.mem_append_left _ (l2 x hx).2⟩
    ·rcases List.mem_append.mp hx with h'|h'
     ·exact kk1 x h'
     ·rw[List.mem_singleton.mp h'];exact hkg kd hkm
   ·walk_at "r"
    have hpos:0<pts.length:=by
     cases pts with
     |nil=>exact absurd hb (by decide)
     |cons _ _=>simp
    refine P5 (fun h=>?_) (fun h=>?_)
    ·walk_at "r"
     walk_at "r"
     refine x6 (xs:=ss.map V.str) (s8.seq hB) (b9 (j:=i) hnm) ?_
     refine ez (N4 (k:=Sum.inr nm) g8 (d7 (by unfold J6;rw[List.length_map];omega)) ?_)
     have ep:N0 (J6 pts) (Sum.inr nm:j6) (.str kd)=J6 (pts++[(nm,kd)]):=by
      rw[W7 _ (M6 (by rw[R9,←G6];exact fun m=>fresh (List.mem_append_left _ (ao m))))]
      unfold J6;rw[List.map_append];rfl
     refine⟨pts++[(nm,kd)],kvs,ts,_,_,_,_,_,rfl,T9 s8 np,by rw[g7,ep],by rw[d6 (Ne.symm hpq)];exact t8,Paired.imp' (fun _ _ z=>af g8 z) w8,?_,?_,?_,?_,fun x hx=>?_,kk2⟩
     ·exact mZ d1 fresh
     ·exact pW sub1 (by rw[e7];simp)
     ·rw[List.length_append,List.length_singleton];omega
     ·intro x hx
      rw[List.map_append]
      exact⟨List.mem_append_left _ (l2 x hx).1,List.mem_append_left _ (l2 x hx).2⟩
     ·rcases List.mem_append.mp hx with h'|h'
      ·exact kk1 x h'
      ·rw[List.mem_singleton.mp h'];exact hkg kd hkm
    ·walk_at "r"
     refine⟨_,_,rfl,by omega,by omega,fun m hm=>?_⟩
     walk_at "r"
     refine E5 (K3 (SqL.of h8) ?_)
     rw[List.length_map,List.length_map]
     walk_at "r"
     obtain⟨o1,ho1,hm1⟩:=W3 (ss:=pts.map (·.1)) (i:=m % (pts.length:Int)) (Int.emod_nonneg _ (by omega)) (by rw[List.length_map];exact Int.emod_lt_of_pos _ (by omega))
     refine x6 (SqL.of h8) ho1 ?_
     walk_at "r"
     refine⟨_,_,rfl,by omega,by omega,fun m' hm'=>?_⟩
     walk_at "r"
     refine E5 (K3 (SqL.of h8) ?_)
     rw[List.length_map,List.length_map]
     walk_at "r"
     obtain⟨o2,ho2,hm2⟩:=W3 (ss:=pts.map (·.1)) (i:=m' % (pts.length:Int)) (Int.emod_nonneg _ (by omega)) (by rw[List.length_map];exact Int.emod_lt_of_pos _ (by omega))
     refine x6 (SqL.of h8) ho2 ?_
     walk_at "r"
     refine⟨d7 (by simp),fun l9 n9=>?_⟩
     obtain⟨H9,e9,f9,m9,_⟩:=b6 (o:= .tup _) n9
     rw[e9]
     have s9:=s8.trans m9
     have g9:=m9 _ _ g8
     have t9:=m9 _ _ t8
     have w9:=w8.mono m9.le
     walk_at "r"
     refine x6 (xs:=ss.map V.str) (s9.seq hB) (b9 (j:=i) hnm) ?_
     refine ez (N4 (k:=Sum.inr nm) t9 (d7 (by have z:=w9.length;omega)) ?_)
     have ek:N0 kvs (Sum.inr nm:j6) (.ref l9)=kvs++[(Sum.inr nm,.ref l9)]:=W7 _ (M6 (by rw[w9.keys,←G6];exact fun m=>fresh (List.mem_append_right _ (ao m))))
     refine⟨pts,_,ts++[(nm,(kd,o1,o2))],_,_,_,_,_,rfl,T9 s9 nq0,by rw[d6 hpq];exact g9,g7,?_,?_,?_,?_,?_,kk1,fun x hx=>?_⟩
     ·rw[ek]
      exact A6 (Paired.imp' (fun _ _ z=>af t9 z) w9) (af t9 ⟨rfl,l9,rfl,SqT.of f9⟩)
     ·exact sZ d1 fresh
     ·exact wZ sub1 (by rw[e7];simp)
     ·rw[List.length_append,List.length_singleton];omega
     ·intro x hx
      rcases List.mem_append.mp hx with h'|h'
      ·exact l2 x h'
      ·rw[List.mem_singleton.mp h'];exact⟨hm1,hm2⟩
     ·rcases List.mem_append.mp hx with h'|h'
      ·exact kk2 x h'
      ·rw[List.mem_singleton.mp h'];exact hkg kd hkm
  ·rintro σ H3 ⟨pts,kvs,ts,v1,v2,v3,v4,v5,rfl,s3,g3,t3,w3,d1,d2,l1,l2,kk1,kk2⟩
   refine⟨⟨_,s3.seq hA,by rw[List.length_map];exact Nat.le_refl _⟩,?_⟩
   walk_at "r"
   refine⟨d7 (by simp),fun l9 n9=>?_⟩
   obtain⟨H9,e9,f9,m9,_⟩:=b6 (o:= .tup _) n9
   rw[e9]
   have hlen:=w3.length
   exact k l9 p q kvs ⟨pts,ts⟩ H9 (s3.trans m9) ⟨⟨SqT.of f9,.inl (m9 _ _ g3),.inl (m9 _ _ t3),w3.mono m9.le⟩,m9 _ _ g3,m9 _ _ t3,hpq,d1,by show(pts.map (·.1)++ts.map (·.1)).length≤16;rw[List.length_append,List.length_map,List.length_map];omega,l2,fun x hx=>by have:=ft (Bool.and_eq_true _ _▸(show(J0 x kNS 24&&lQ x kSL)=true from hsl x (List.mem_of_mem_take (d2 x hx)))).1;omega⟩ ⟨fun x hx=>hsl x (List.mem_of_mem_take (d2 x hx)),kk1,kk2⟩
theorem iS {f:Addr}{fd:FuncData}(T:Txt K mg)(dm:E2 P w K mg base B4 2 "_law_web" ["_law_cells","_law_names_here","_law_kinds_here"] [] (cJ K))(N5:E2 P w K mg base B4 1 "_law_kinds" ["_law_cell"] [] (V6 K))(i4:E2 P w K mg base B4 1 "_law_mixed" ["_law_cell","_law_k"] [] (E1 K))(bo:E2 P w K mg base B4 2 "_law_names" ["_law_cell","_law_many_here"] [] (aF K))(F:Fun K "_law_drawn" "_law_drawn" M8 f fd):E3 P w K mg base B4 3 f fd ["_law_script","_law_start","_law_most"] (aK K):=by
 refine F.ok sc__law_drawn (fun vs H Q E h=>?_) (fun cdv A outer s H vs Q E hr h=>?_)
 ·obtain⟨a,ns,m0,rfl,_⟩:=h
  rfl
 ·obtain⟨a,ns,m0,rfl,hm0,hA,hl,k⟩:=h
  have hN:=sc__law_drawn.nd
  have hu:=C0 hr
  refine⟨_,QSs.r (A0 (gJ (i:=3) hN rfl (by walk_at "l") (own:=["_law_cell"]) (js:=[]) (by kernel_rfl) rfl (U2 K (bT (bU K) (qV 0) (aM (qV 1)) (aM (p0 (t7 K) (qV 1) (qV 2))))) (fun _ _ _ _=>(T6 (i:=0) (show List.Nodup (["_law_cell"]:List Str) by decide+kernel) rfl (by walk_at "l"))) (fun _ _ _ _=>X3) (fun _ _ _ _=>(p0 j8 (qV 0) (p0 oo b5 b5))))
   (A0 (u6 (i:=4) hN rfl (by walk_at "l") (qB (BP K rfl) T.b_sum Boot.«sum» (d9 (bT (bU K) (qV 3) dA (aM b5)) i8)))
   (B9 (x5 (qC dm (hr.mono (by decide)) j0 (d9 (qV 3) (d9 (qC bo (hr.mono (by decide)) j0 (d9 (qV 4) (d9 (qB (E4 K P w) T.b_len Boot.«len» (d9 (qV 3) i8)) i8))) (d9 (qC N5 (hr.mono (by decide)) j0 (d9 (qC i4 (hr.mono (by decide)) j0 (d9 (qV 4) (d9 b5 i8))) i8)) i8)))))))),?_⟩
  walk_at "r"
  refine P4 hA (fun p1 n1=>?_)
  obtain⟨H1,e1,f1,m1,_⟩:=b6 (o:= .lst _) n1
  rw[e1]
  have e0:V9 (ns.map V.int) (some 0) (some (0+(m0:Int)))=(ns.take m0).map V.int:=by
   have z:=wm (ns.map V.int) m0
   rw[List.map_take,Int.zero_add];exact z
  rw[e0] at f1
  generalize hcs:ns.take m0=cs at f1
  have hc:cs.length≤16:=by rw[←hcs,List.length_take];omega
  walk_at "r"
  refine C7 (SqL.of f1) ?_
  refine B7 (n:=cs.length) (fun i out H'=>Same H1 H'∧out=(cs.take i).map fun x=>V.int (x % 10 ^ 60)) ⟨Same.refl _,rfl⟩ (fun i out H' hi hp=>⟨_,.int (cs[i]),SqL.of (hp.1 _ _ f1),by rw[List.getElem?_map,List.getElem?_eq_getElem hi];rfl⟩) ?_ ?_
  ·rintro N i v out H2 H3 hi ⟨s1,rfl⟩ y hN'
   obtain⟨rfl,hx⟩:=Itl.get y (SqL.of (s1 _ _ f1))
   rw[List.getElem?_map,List.getElem?_eq_getElem hi] at hx
   cases hx
   walk_at "r"
   refine⟨rfl,?_⟩
   walk_at "r"
   refine⟨d7 (by rw[List.length_map,List.length_take];omega),hN' _ _ ⟨s1,?_⟩⟩
   exact cY (fun x:Int=>V.int (x % 10 ^ 60)) (List.getElem?_eq_getElem hi)
  ·rintro out H2 ⟨s1,rfl⟩
   refine⟨⟨_,SqL.of (s1 _ _ f1),by rw[List.length_map];exact Nat.le_refl _⟩,fun D hD=>⟨d7 (by rw[List.length_map,List.length_take];omega),?_⟩⟩
   rw[List.take_of_length_le (Nat.le_refl _)]
   obtain⟨H3,e3,f3,m3,_⟩:=b6 (o:= .lst (cs.map fun x=>V.int (x % 10 ^ 60))) hD
   show iQ _ _ _ _ (A5 H2 D _)
   rw[e3]
   obtain⟨ds,hds,hdl⟩:∃ds:List Int,(cs.map fun x=>V.int (x % 10 ^ 60))=ds.map V.int∧ds.length=cs.length:=⟨cs.map fun x=>x % 10 ^ 60,by rw[List.map_map];rfl,List.length_map _⟩
   rw[hds] at f3
   walk_at "r"
   refine P4 (SqL.of f3) (fun p4 n4=>?_)
   obtain⟨H4,e4,f4,m4,_⟩:=b6 (o:= .lst _) n4
   rw[e4]
   rw[show V9 (ds.map V.int) none (some 1)=(ds.take 1).map V.int by rw[List.map_take];exact zW _ 1] at f4
   walk_at "r"
   refine xw (ns:=ds.take 1) (SqL.of f4) ?_
   walk_at "r"
   refine E5 (K3 (SqL.of (m4 _ _ f3)) ?_)
   rw[List.length_map,hdl]
   walk_at "r"
   refine⟨_,_,rfl,by omega,by omega,fun p5 H5 ss n5 m5 f5 hss=>?_⟩
   walk_at "r"
   refine⟨_,_,rfl,by omega,by omega,fun m hm=>?_⟩
   walk_at "r"
   refine⟨_,rfl,fun p6 H6 ks n6 m6 f6 hks=>?_⟩
   walk_at "r"
   refine⟨D,p5,p6,ds,ss,ks,rfl,SqL.of (m6 _ _ (m5 _ _ (m4 _ _ f3))),SqL.of (m6 _ _ f5),SqL.of f6,(by rw[hss.1];omega),by omega,hks.1,hss.2.1,hss.2.2,hks.2,fun a' p q kvs W H7 m7 hW=>k a' p q kvs W H7 (m1.trans (s1.trans (m3.trans (m4.trans (m5.trans (m6.trans m7)))))) hW⟩
def kf (b:Str)(at_ d:Int)(k:Nat):Str:=Txt.slice b none (some at_)++(⟨#[Z5 ((0+(k:Int)+d) % 26)]⟩:Str)++Txt.slice b (some at_) none
theorem vX (b:Str)(at_ d:Int):kf b at_ d=iA b at_ (d*4):=by
 funext k
 unfold kf iA
 rw[Int.mul_ediv_cancel _ (by decide)]
theorem uo (b:Str)(at_ d:Int)(k:Nat)(h0:0≤at_)(h1:at_≤b.length)(hb:b.length≤7)(ha:J5 b kSL=true):o6 (kf b at_ d k)=true:=by
 have e:(kf b at_ d k).cps.toList=b.cps.toList.take at_.toNat++[Z5 ((0+(k:Int)+d) % 26)]++b.cps.toList.drop at_.toNat:=by
  unfold kf
  rw[P9,P9,ph b at_ h0 h1,gi b at_ h0 h1]
 have hm:=Y4 ((0+(k:Int)+d) % 26) (by omega) (by omega)
 have hbl:b.cps.toList.length=b.length:=J3 b
 have hl:(kf b at_ d k).length=b.length+1:=by
  have z:=congrArg List.length e
  rw[List.length_append,List.length_append,List.length_take,List.length_drop,List.length_singleton] at z
  have z2:=J3 (kf b at_ d k)
  omega
 refine bg (by omega) (by omega) (List.all_eq_true.mpr fun x hx=>?_)
 rw[e] at hx
 refine decide_eq_true ?_
 rcases List.mem_append.mp hx with hx|hx
 ·rcases List.mem_append.mp hx with hx|hx
  ·exact Q8 ha (List.mem_of_mem_take hx)
  ·rw[List.mem_singleton.mp hx];exact hm
 ·exact Q8 ha (List.mem_of_mem_drop hx)
def aG (K:PySem.W.Frag):Sp:=fun vs H Q _=>∃c n:Int,vs=[.int c,.int n]∧0≤n∧n≤26∧yD H Q fun ss=>ss.length=n.toNat∧ss.Nodup∧∀s∈ss,o6 s=true
theorem iJ {f:Addr}{fd:FuncData}(T:Txt K mg)(i4:E2 P w K mg base B4 1 "_law_mixed" ["_law_cell","_law_k"] [] (E1 K))(F:Fun K "_law_words" "_law_words" O6 f fd):E3 P w K mg base B4 2 f fd ["_law_cell","_law_many_here"] (aG K):=by
 refine F.ok sc__law_words (fun vs H Q E h=>?_) (fun cdv A outer s H vs Q E hr h=>?_)
 ·obtain⟨c,n,rfl,_⟩:=h
  rfl
 ·obtain⟨c,n,rfl,h0,h1,k⟩:=h
  have hN:=sc__law_words.nd
  have hu:=C0 hr
  refine⟨_,QSs.r (A0 (u6 (i:=2) hN rfl (by walk_at "l") z9)
   (A0 (u6 (i:=3) hN rfl (by walk_at "l") z9)
   (A0 (aP PassesOwn.never rfl (fX T.b_range (d9 (p0 j8 (qV 0) b5) i8)) (T6 (i:=4) hN rfl (by walk_at "l"))
    (B9 (u6 (i:=3) hN rfl (by walk_at "l") (p0 (t7 K) (qV 3) (C9 (C8 K hu) (qV 2) (p0 j8 (qC i4 (hr.mono (by decide)) j0 (d9 (p0 C4 (qV 0) b5) (d9 (qV 4) i8))) b5) (fun _ _=>rfl))))))
   (A0 (u6 (i:=5) hN rfl (by walk_at "l") (p0 j8 (qC i4 (hr.mono (by decide)) j0 (d9 (qV 0) (d9 b5 i8))) (p0 (t7 K) (qB (E4 K P w) T.b_len Boot.«len» (d9 (qV 3) i8)) b5)))
   (B9 (x5 (O7 (own:=["_law_k"]) (js:=[3,2,5,0]) (by kernel_rfl) rfl (fX T.b_range (d9 (qV 1) i8)) (fun _ _ _ _=>(T6 (i:=0) (show List.Nodup (["_law_k","_law_base","_law_letters","_law_at","_law_cell"]:List Str) by decide+kernel) rfl (by walk_at "l"))) (fun _ _ _ _=>X3) (fun _ _ _ _=>(p0 (t7 K) (p0 (t7 K) (bT (bU K) (qV 1) dA (aM (qV 3))) (C9 (C8 K hu) (qV 2) (p0 j8 (p0 (t7 K) (qV 0) (p0 C4 (qV 4) b5)) b5) (fun _ _=>rfl))) (bT (bU K) (qV 1) (aM (qV 3)) dA)))))))))),?_⟩
  walk_at "r"
  refine P8 (by omega) (by omega) ?_
  refine G7 (n:=(c % 8).toNat) (fun i σ H'=>H'=H∧∃(b:Str) (v:Option V),σ=[some (.int c),some (.int n),some (.str kSL),some (.str b),v,none]∧b.length=i∧J5 b kSL=true) ⟨rfl,_,none,rfl,rfl,rfl⟩ (fun i σ H' hi _=>by exact hi) ?_ ?_
  ·rintro _ i v σ H1 H2 hi ⟨rfl,b,v',rfl,hb,hba⟩ ⟨rfl,rfl⟩
   walk_at "r"
   refine⟨_,_,rfl,by omega,by omega,fun m hm=>?_⟩
   walk_at "r"
   refine M3 U6 (dz (m % 26) (by omega) (by omega)) ?_
   refine o3 (j:=⟨#[Z5 (m % 26)]⟩) (d7 (by rw[o9];omega)) ?_
   walk_at "r"
   exact⟨rfl,_,_,rfl,by rw[i7,o9];omega,by rw[aX,hba,M0 (Y4 _ (by omega) (by omega))];rfl⟩
  ·rintro σ H1 ⟨rfl,b,v',rfl,hb,hba⟩
   refine⟨Nat.le_refl _,?_⟩
   walk_at "r"
   refine⟨_,_,rfl,by omega,by omega,fun m hm=>?_⟩
   walk_at "r"
   refine E5 (Q6 (d7 (by omega)) ?_)
   walk_at "r"
   have q0:=Int.emod_nonneg m (show(b.length:Int)+1≠0 by omega)
   have q1:=Int.emod_lt_of_pos m (show(0:Int)<(b.length:Int)+1 by omega)
   generalize m % ((b.length:Int)+1)=at_ at q0 q1⊢
   refine P8 h0 (by omega) ?_
   refine B7 (n:=n.toNat) (fun i out H'=>H'=H1∧out=(List.range i).map fun k=>V.str (kf b at_ (c/8) k)) ⟨rfl,rfl⟩ (fun i out H' hi _=>by exact hi) ?_ ?_
   ·rintro N i v out H2 H3 hi ⟨rfl,rfl⟩ ⟨rfl,rfl⟩ hN'
    walk_at "r"
    refine⟨rfl,?_⟩
    walk_at "r"
    refine z8 (d7 (by omega)) ?_
    walk_at "r"
    have hc3:=dz ((0+(i:Int)+c/8) % 26) (by omega) (by omega)
    refine M3 U6 hc3 ?_
    have g1:=Txt.slice_le b Option.none (some at_)
    have g2:=Txt.slice_le b (some at_) Option.none
    refine o3 (j:=⟨#[Z5 ((0+(i:Int)+c/8) % 26)]⟩) (d7 (by rw[o9];omega)) ?_
    walk_at "r"
    refine z8 (d7 (by omega)) ?_
    refine o3 (d7 (by rw[i7,o9];omega)) ?_
    refine⟨d7 (by rw[List.length_map,List.length_range];omega),hN' _ _ ⟨rfl,?_⟩⟩
    rw[List.range_succ,List.map_append];rfl
   ·rintro out H2 ⟨rfl,rfl⟩
    refine⟨Nat.le_refl _,fun D hD=>⟨d7 (by rw[List.length_map,List.length_range];omega),?_⟩⟩
    obtain⟨H5,e5,f5,m5,_⟩:=b6 (o:= .lst _) hD
    refine k D _ ((List.range n.toNat).map (kf b at_ (c/8))) hD ?_ ?_ ⟨by rw[List.length_map,List.length_range],by rw[vX];exact pH _ _ _ _ (by omega),fun s hs=>?_⟩
    ·show Same _ (A5 _ D _)
     rw[e5];exact m5
    ·show A5 _ D _ D=_
     rw[g7,List.map_map];rfl
    ·obtain⟨i,_,rfl⟩:=List.mem_map.mp hs
     exact uo b _ _ i q0 (by omega) (by omega) hba
theorem ku {ws:List Str}(nd:ws.Nodup){i j:Nat}{n:Str}(h1:ws[i]?=some n)(h2:ws[j]?=some n):i=j:=by
 obtain⟨hi,e1⟩:=List.getElem?_eq_some_iff.mp h1
 obtain⟨hj,e2⟩:=List.getElem?_eq_some_iff.mp h2
 have z:=List.pairwise_iff_getElem.mp nd
 rcases Nat.lt_trichotomy i j with h|h|h
 ·exact absurd (e1.trans e2.symm) (z i j hi hj h)
 ·exact h
 ·exact absurd (e2.trans e1.symm) (z j i hj hi h)
def Wi (ws:List Str)(o i:Nat)(n:Str):Prop:=∃j,j<i∧ws[2*j+o]?=some n
theorem Wi.up {ws:List Str}{o i:Nat}{n:Str}(h:Wi ws o i n):Wi ws o (i+1) n:=let ⟨j,a,b⟩:=h;⟨j,Nat.lt_succ_of_lt a,b⟩
theorem Wi.mem {ws:List Str}{o i:Nat}{n:Str}(h:Wi ws o i n):n∈ws:=let ⟨_,_,b⟩:=h;List.mem_of_getElem? b
structure P1 (ws:List Str) (W:G8) (i:Nat) (a:List (Str×Str)):Prop where
 nm:∀x∈a,Wi ws 0 i x.1
 kd:∀x∈a,o6 x.2=true
 len:(W.pts++a).length≤4
 nd:((W.pts++a).map (·.1)++W.ts.map (·.1)).Nodup
structure P2 (ws:List Str) (W:G8) (pts:List (Str×Str)) (i:Nat) (b:List (Str×M7)):Prop where
 nm:∀x∈b,Wi ws 1 i x.1
 kd:∀x∈b,o6 x.2.1=true
 ends:∀x∈b,x.2.2.1∈pts.map (·.1)∧x.2.2.2∈pts.map (·.1)
 len:(W.ts++b).length≤4
 nd:(pts.map (·.1)++(W.ts++b).map (·.1)).Nodup
theorem P1.up {ws:List Str}{W:G8}{i:Nat}{a:List (Str×Str)}(h:P1 ws W i a):P1 ws W (i+1) a:=⟨fun x hx=>(h.nm x hx).up,h.kd,h.len,h.nd⟩
theorem P2.up {ws:List Str}{W:G8}{pts:List (Str×Str)}{i:Nat}{b:List (Str×M7)}(h:P2 ws W pts i b):P2 ws W pts (i+1) b:=⟨fun x hx=>(h.nm x hx).up,h.kd,h.ends,h.len,h.nd⟩
theorem S7 {α:Type}{l:List (Str×α)}{n:Str}(h:n∈l.map (·.1)):∃y,(n,y)∈l:=by
 obtain⟨⟨n',y⟩,h1,h2⟩:=List.mem_map.mp h
 cases h2
 exact⟨y,h1⟩
theorem P1.fresh {ws:List Str}{W:G8}{i:Nat}{a:List (Str×Str)}{n:Str}(h:P1 ws W i a)(nd:ws.Nodup)(nw:∀n∈A8 W,n∉ws)(hn:ws[2*i+0]?=some n):n∉(W.pts++a).map (·.1)++W.ts.map (·.1):=fun m=>by
 have hw:=List.mem_of_getElem? hn
 rcases List.mem_append.mp m with m|m
 ·rw[List.map_append] at m
  rcases List.mem_append.mp m with m|m
  ·exact nw n (List.mem_append_left _ m) hw
  ·obtain⟨y,hy⟩:=S7 m
   obtain⟨j,hj,e⟩:=h.nm _ hy
   have:=ku nd hn e
   omega
 ·exact nw n (List.mem_append_right _ m) hw
theorem P1.add {ws:List Str}{W:G8}{i:Nat}{a:List (Str×Str)}{n kd:Str}(h:P1 ws W i a)(nd:ws.Nodup)(nw:∀n∈A8 W,n∉ws)(hn:ws[2*i+0]?=some n)(hk:o6 kd=true)(hl:(W.pts++a).length<4):P1 ws W (i+1) (a++[(n,kd)]):=by
 refine⟨fun x hx=>?_,fun x hx=>?_,?_,?_⟩
 ·rcases List.mem_append.mp hx with z|z
  ·exact(h.nm x z).up
  ·rw[List.mem_singleton.mp z];exact⟨i,Nat.lt_succ_self _,hn⟩
 ·rcases List.mem_append.mp hx with z|z
  ·exact h.kd x z
  ·rw[List.mem_singleton.mp z];exact hk
 ·rw[←List.append_assoc,List.length_append,List.length_singleton];omega
 ·rw[←List.append_assoc]
  exact mZ h.nd (h.fresh nd nw hn)
theorem P1.fresh2 {ws:List Str}{W:G8}{j i:Nat}{a:List (Str×Str)}{b:List (Str×M7)}{n:Str}(h1:P1 ws W j a)(h:P2 ws W (W.pts++a) i b)(nd:ws.Nodup)(nw:∀n∈A8 W,n∉ws)(hn:ws[2*i+1]?=some n):n∉(W.pts++a).map (·.1)++(W.ts++b).map (·.1):=fun m=>by
 have hw:=List.mem_of_getElem? hn
 rcases List.mem_append.mp m with m|m
 ·rw[List.map_append] at m
  rcases List.mem_append.mp m with m|m
  ·exact nw n (List.mem_append_left _ m) hw
  ·obtain⟨y,hy⟩:=S7 m
   obtain⟨j,hj,e⟩:=h1.nm _ hy
   have:=ku nd hn e
   omega
 ·rw[List.map_append] at m
  rcases List.mem_append.mp m with m|m
  ·exact nw n (List.mem_append_right _ m) hw
  ·obtain⟨y,hy⟩:=S7 m
   obtain⟨j,hj,e⟩:=h.nm _ hy
   have:=ku nd hn e
   omega
theorem P2.add {ws:List Str}{W:G8}{j i:Nat}{a:List (Str×Str)}{b:List (Str×M7)}{n kd o1 o2:Str}(h:P2 ws W (W.pts++a) i b)(h1:P1 ws W j a)(nd:ws.Nodup)(nw:∀n∈A8 W,n∉ws)(hn:ws[2*i+1]?=some n)(hk:o6 kd=true)(q1:o1∈(W.pts++a).map (·.1))(q2:o2∈(W.pts++a).map (·.1))(hl:(W.ts++b).length<4):P2 ws W (W.pts++a) (i+1) (b++[(n,(kd,o1,o2))]):=by
 refine⟨fun x hx=>?_,fun x hx=>?_,fun x hx=>?_,?_,?_⟩
 ·rcases List.mem_append.mp hx with z|z
  ·exact(h.nm x z).up
  ·rw[List.mem_singleton.mp z];exact⟨i,Nat.lt_succ_self _,hn⟩
 ·rcases List.mem_append.mp hx with z|z
  ·exact h.kd x z
  ·rw[List.mem_singleton.mp z];exact hk
 ·rcases List.mem_append.mp hx with z|z
  ·exact h.ends x z
  ·rw[List.mem_singleton.mp z];exact⟨q1,q2⟩
 ·rw[←List.append_assoc,List.length_append,List.length_singleton];omega
 ·rw[←List.append_assoc]
  exact sZ h.nd (h1.fresh2 h nd nw hn)
structure Ext (ws:List Str) (W W':G8):Prop where
 pc:PcW W'
 ps:∃a,W'.pts=W.pts++a∧∀x∈a,x.1∈ws
 ts:∃b,W'.ts=W.ts++b∧∀x∈b,x.1∈ws
theorem Ad {ws:List Str}{W:G8}{i j:Nat}{a:List (Str×Str)}{b:List (Str×M7)}(h0:PcW W)(h1:P1 ws W i a)(h2:P2 ws W (W.pts++a) j b)(hk:∀s∈ws,o6 s=true):Ext ws W ⟨W.pts++a,W.ts++b⟩:=by
 refine⟨⟨gI (fun n hn=>?_) (fun x hx=>?_) (fun x hx=>?_) h1.len h2.len,h2.nd,fun x hx=>?_⟩,⟨a,rfl,fun x hx=>(h1.nm x hx).mem⟩,⟨b,rfl,fun x hx=>(h2.nm x hx).mem⟩⟩
 ·rcases List.mem_append.mp (show n∈(W.pts++a).map (·.1)++(W.ts++b).map (·.1) from hn) with m|m
  ·rw[List.map_append] at m
   rcases List.mem_append.mp m with m|m
   ·exact h0.pc.kds n (List.mem_append_left _ m)
   ·obtain⟨y,hy⟩:=S7 m
    exact hk n (h1.nm _ hy).mem
  ·rw[List.map_append] at m
   rcases List.mem_append.mp m with m|m
   ·exact h0.pc.kds n (List.mem_append_right _ m)
   ·obtain⟨y,hy⟩:=S7 m
    exact hk n (h2.nm _ hy).mem
 ·rcases List.mem_append.mp (show x∈W.pts++a from hx) with m|m
  ·exact h0.pc.good.kd x m
  ·exact h1.kd x m
 ·rcases List.mem_append.mp (show x∈W.ts++b from hx) with m|m
  ·exact h0.pc.good.tk x m
  ·exact h2.kd x m
 ·rcases List.mem_append.mp (show x∈W.ts++b from hx) with m|m
  ·have z:=h0.ends x m
   show x.2.2.1∈(W.pts++a).map (·.1)∧x.2.2.2∈(W.pts++a).map (·.1)
   rw[List.map_append]
   exact⟨List.mem_append_left _ z.1,List.mem_append_left _ z.2⟩
  ·exact h2.ends x m
theorem xA {ws:List Str}(h:4≤ws.length)(i:Nat)(hi:i<4):∃w,ws[i]?=some w∧∀j:Int,j=(i:Int)→mx (ws.map V.str) j=some (.str w):=
 ⟨ws[i],List.getElem?_eq_getElem (by omega),fun j hj=>by rw[hj];exact b9 (j:=i) (by rw[List.getElem?_map,List.getElem?_eq_getElem (by omega)];rfl)⟩
def az (K:PySem.W.Frag):Sp:=fun vs H Q _=>∃(dp dq lw lk:Addr) (kvs:List (j6×V)) (W:G8) (ws ks:List Str) (c:Int),vs=[.ref dp,.ref dq,.ref lw,.ref lk,.int c]∧H dp=some (.dK (J6 W.pts))∧H dq=some (.dK kvs)∧TiesIs K H kvs W.ts∧PcW W∧(∀n∈A8 W,n∉ws)∧SqL K H lw (ws.map V.str)∧4≤ws.length∧ws.Nodup∧(∀s∈ws,o6 s=true)∧SqL K H lk (ks.map V.str)∧ks.length=3∧(∀s∈ks,o6 s=true)∧∀(s:Sd) (H':Hp),Same H H'→SdIs K H' s→Ext ws W s.W→Q (.ref s.a) H'
theorem iO {f:Addr}{fd:FuncData}(T:Txt K mg)(i4:E2 P w K mg base B4 1 "_law_mixed" ["_law_cell","_law_k"] [] (E1 K))(F:Fun K "_law_piece" "_law_piece" N9 f fd):E3 P w K mg base B4 2 f fd ["_law_points","_law_ties","_law_words_here","_law_kinds_here","_law_cell"] (az K):=by
 refine F.ok sc__law_piece (fun vs H Q E h=>?_) (fun cdv A outer s H vs Q E hr h=>?_)
 ·obtain⟨dp,dq,lw,lk,kvs,W,ws,ks,c,rfl,_⟩:=h
  rfl
 ·obtain⟨dp,dq,lw,lk,kvs,W,ws,ks,c,rfl,hdp,hdq,hti,hPc,hnew,hW,hwl,hwn,hwk,hK,hkl,hkk,k⟩:=h
  have hl1:=hPc.pc.l1
  have hl2:=hPc.pc.l2
  have hN:=sc__law_piece.nd
  have hu:=C0 hr
  refine⟨_,QSs.r (A0 (u6 (i:=0) hN rfl (by walk_at "l") (qj (mn K rfl) T.b_dict Boot.«dict» (d9 (qV 0) i8)))
   (A0 (u6 (i:=1) hN rfl (by walk_at "l") (qj (mn K rfl) T.b_dict Boot.«dict» (d9 (qV 1) i8)))
   (A0 (aP PassesOwn.never rfl (fX T.b_range (d9 (p0 j8 (qV 4) b5) i8)) (T6 (i:=5) hN rfl (by walk_at "l"))
    (B9 (S2 (r6 jQ (qB (E4 K P w) T.b_len Boot.«len» (d9 (qV 0) i8)) b5 (j9 _)) (B9 (kA (C9 (C8 K hu) (qV 3) (p0 j8 (qC i4 (hr.mono (by decide)) j0 (d9 (qV 4) (d9 (qV 5) i8))) b5) (fun _ _=>rfl)) (xD (qV 0) (C9 (C8 K hu) (qV 2) (p0 op_mulY b5 (qV 5)) (fun _ _=>rfl)) (Q9 P w hu)))) T8)))
   (A0 (u6 (i:=6) hN rfl (by walk_at "l") (qj (jy K rfl) T.b_list Boot.«list» (d9 (qV 0) i8)))
   (A0 (aP PassesOwn.never rfl (fX T.b_range (d9 (p0 j8 (p0 C4 (qV 4) b5) b5) i8)) (T6 (i:=5) hN rfl (by walk_at "l"))
    (B9 (S2 (fV (sO (r6 (Z8 K hr) (qV 6) (aI i8) (j9 _)) (tK (r6 jQ (qB (E4 K P w) T.b_len Boot.«len» (d9 (qV 1) i8)) b5 (j9 _))))) (A0 (u6 (i:=7) hN rfl (by walk_at "l") (C9 (C8 K hu) (qV 6) (p0 j8 (qC i4 (hr.mono (by decide)) j0 (d9 (qV 4) (d9 (p0 (t7 K) b5 (qV 5)) i8))) (qB (E4 K P w) T.b_len Boot.«len» (d9 (qV 6) i8))) (fun _ _=>rfl)))
   (A0 (u6 (i:=8) hN rfl (by walk_at "l") (C9 (C8 K hu) (qV 6) (p0 j8 (qC i4 (hr.mono (by decide)) j0 (d9 (qV 4) (d9 (p0 (t7 K) b5 (qV 5)) i8))) (qB (E4 K P w) T.b_len Boot.«len» (d9 (qV 6) i8))) (fun _ _=>rfl)))
   (B9 (kA (bR (d9 (C9 (C8 K hu) (qV 3) (p0 j8 (qC i4 (hr.mono (by decide)) j0 (d9 (qV 4) (d9 (p0 (t7 K) b5 (qV 5)) i8))) b5) (fun _ _=>rfl)) (d9 (qV 7) (d9 (qV 8) i8)))) (xD (qV 1) (C9 (C8 K hu) (qV 2) (p0 (t7 K) (p0 op_mulY b5 (qV 5)) b5) (fun _ _=>rfl)) (Q9 P w hu)))))) T8)))
   (B9 (x5 (bR (d9 (qV 0) (d9 (qV 1) i8)))))))))),?_⟩
  refine A4 fun nx1 hx=>?_
  walk_at "e"
  refine gw (.inl hdp) (fun p np=>?_)
  obtain⟨H1,e1,f1,m1,_⟩:=b6 (o:= .dK _) np
  rw[e1]
  walk_at "e"
  refine hx [some (.ref p),some (.ref dq),some (.ref lw),some (.ref lk),some (.int c),none,none,none,none] _ ?_
  clear hx
  refine A4 fun nx2 hx=>?_
  walk_at "e"
  refine gw (.inl (m1 _ _ hdq)) (fun q nq=>?_)
  obtain⟨H2,e2,f2,m2,_⟩:=b6 (o:= .dK _) nq
  rw[e2]
  have hpq:p≠q:=i6 f1 nq
  have nq0:H q=none:=m1.free nq
  have m12:=m1.trans m2
  walk_at "e"
  refine hx [some (.ref p),some (.ref q),some (.ref lw),some (.ref lk),some (.int c),none,none,none,none] _ ?_
  clear hx
  refine A4 fun nx3 hx=>?_
  walk_at "e"
  refine P8 (by omega) (by omega) ?_
  have nd0:((W.pts++([]:List (Str×Str))).map (·.1)++W.ts.map (·.1)).Nodup:=by rw[List.append_nil];exact hPc.nd
  refine G7 (n:=(c % 3).toNat) (fun i σ H'=>∃(a:List (Str×Str)) (v:Option V),σ=[some (.ref p),some (.ref q),some (.ref lw),some (.ref lk),some (.int c),v,none,none,none]∧Same H H'∧H' p=some (.dK (J6 (W.pts++a)))∧H' q=some (.dK kvs)∧P1 ws W i a) ⟨[],none,rfl,m12,by rw[List.append_nil];exact m2 _ _ f1,f2,(fun _ h=>nomatch h),(fun _ h=>nomatch h),by rw[List.append_nil];exact hl1,nd0⟩ (fun i σ H' hi _=>by exact hi) ?_ ?_
  ·rintro _ i v σ H3' H3 hi ⟨a,v',rfl,s3,g3,t3,h3⟩ ⟨rfl,rfl⟩
   obtain⟨n,hn,hna⟩:=xA hwl (2*i+0) (by omega)
   have hal:=h3.len
   walk_at "e"
   refine E5 (G9 (.inl g3) ?_)
   rw[D7]
   walk_at "e"
   refine P5 (fun c1=>?_) (fun c1=>?_)
   ·walk_at "e"
    refine⟨_,_,rfl,by omega,by omega,fun m hm=>?_⟩
    walk_at "e"
    obtain⟨kd,hkd,hkm⟩:=W3 (ss:=ks) (i:=m % 3) (by omega) (by omega)
    refine x6 (s3.seq hK) hkd ?_
    walk_at "e"
    refine x6 (s3.seq hW) (hna _ (by omega)) ?_
    walk_at "e"
    refine ez (N4 (k:=Sum.inr n) g3 (d7 (by rw[D7];omega)) ?_)
    have fr:=h3.fresh hwn hnew hn
    rw[uY (n:=n) (PL:=W.pts++a) fun z=>fr (List.mem_append_left _ z)]
    walk_at "e"
    refine⟨a++[(n,kd)],_,rfl,T9 s3 np,by rw[g7,List.append_assoc],by rw[d6 hpq.symm];exact t3,h3.add hwn hnew hn (hkk _ hkm) (by omega)⟩
   ·walk_at "e"
    exact⟨a,_,rfl,s3,g3,t3,h3.up⟩
  ·rintro σ H3 ⟨a,v',rfl,s3,g3,t3,h3⟩
   refine⟨by exact Nat.le_refl _,?_⟩
   walk_at "e"
   refine hx [some (.ref p),some (.ref q),some (.ref lw),some (.ref lk),some (.int c),v',none,none,none] _ ?_
   clear hx
   refine A4 fun nx4 hx=>?_
   have hal:=h3.len
   generalize hpts:W.pts++a=pts at g3 hal
   walk_at "e"
   refine jO (bh (.inl g3) (fun l4 n4=>?_))
   obtain⟨H4,e4,f4,m4,_⟩:=b6 (o:= .lst _) n4
   rw[e4]
   have f4':H4 l4=some (.lst ((pts.map (·.1)).map V.str)):=by rw[f4];unfold J6;rw[List.map_map,List.map_map];rfl
   have s4:=s3.trans m4
   have g4:=m4 _ _ g3
   have t4:=m4 _ _ t3
   walk_at "e"
   refine hx [some (.ref p),some (.ref q),some (.ref lw),some (.ref lk),some (.int c),v',some (.ref l4),none,none] _ ?_
   clear hx
   refine A4 fun nx5 hx=>?_
   walk_at "e"
   refine P8 (by omega) (by omega) ?_
   refine G7 (n:=(c/3 % 3).toNat) (fun i σ H'=>∃(b:List (Str×M7)) (ks1:List (j6×V)) (v1 v2 v3:Option V),σ=[some (.ref p),some (.ref q),some (.ref lw),some (.ref lk),some (.int c),v1,some (.ref l4),v2,v3]∧Same H H'∧H' p=some (.dK (J6 pts))∧H' q=some (.dK ks1)∧H' l4=some (.lst ((pts.map (·.1)).map V.str))∧TiesIs K H' ks1 (W.ts++b)∧P2 ws W pts i b) ⟨[],kvs,_,_,_,rfl,s4,g4,t4,f4',by rw[List.append_nil];exact hti.mono s4.le,(fun _ h=>nomatch h),(fun _ h=>nomatch h),(fun _ h=>nomatch h),by rw[List.append_nil];exact hl2,by rw[List.append_nil,←hpts];exact h3.nd⟩ (fun i σ H' hi _=>by exact hi) ?_ ?_
   ·rintro _ i v σ H5' H5 hi ⟨b,ks1,v1,v2,v3,rfl,s5,g5,t5,f5,w5,h5⟩ ⟨rfl,rfl⟩
    obtain⟨n,hn,hna⟩:=xA hwl (2*i+1) (by omega)
    have hbl:=h5.len
    have hkl1:=w5.length
    walk_at "e"
    refine⟨d7 (by simp),fun l6 n6=>?_⟩
    obtain⟨H6,e6,f6,m6,_⟩:=b6 (o:= .lst []) n6
    rw[e6]
    have s6:=s5.trans m6
    have g6:=m6 _ _ g5
    have t6:=m6 _ _ t5
    have f6':=m6 _ _ f5
    have w6:=w5.mono m6.le
    refine qR (sX (SqL.of f6') (SqL.of f6) (gN _) rfl ?_)
    have hem:Z6 ((pts.map (·.1)).map V.str) []=decide (pts=[]):=by cases pts<;>rfl
    rw[hem]
    walk_at "e"
    refine zc (fun c2=>?_) (fun c2=>?_)
    ·have hpos:0<pts.length:=by
      cases pts with
      |nil=>exact absurd rfl c2
      |cons _ _=>simp
     walk_at "e"
     refine E5 (G9 (.inl t6) ?_)
     rw[hkl1]
     walk_at "e"
     refine P5 (fun c3=>?_) (fun c3=>?_)
     ·walk_at "r"
      refine⟨_,_,rfl,by omega,by omega,fun m hm=>?_⟩
      walk_at "r"
      refine E5 (K3 (SqL.of f6') ?_)
      rw[List.length_map,List.length_map]
      walk_at "r"
      obtain⟨o1,ho1,hm1⟩:=W3 (ss:=pts.map (·.1)) (i:=m % (pts.length:Int)) (Int.emod_nonneg _ (by omega)) (by rw[List.length_map];exact Int.emod_lt_of_pos _ (by omega))
      refine x6 (SqL.of f6') ho1 ?_
      walk_at "r"
      refine⟨_,_,rfl,by omega,by omega,fun m' hm'=>?_⟩
      walk_at "r"
      refine E5 (K3 (SqL.of f6') ?_)
      rw[List.length_map,List.length_map]
      walk_at "r"
      obtain⟨o2,ho2,hm2⟩:=W3 (ss:=pts.map (·.1)) (i:=m' % (pts.length:Int)) (Int.emod_nonneg _ (by omega)) (by rw[List.length_map];exact Int.emod_lt_of_pos _ (by omega))
      refine x6 (SqL.of f6') ho2 ?_
      walk_at "r"
      refine⟨_,_,rfl,by omega,by omega,fun m3 hm3=>?_⟩
      walk_at "r"
      obtain⟨kd,hkd,hkm⟩:=W3 (ss:=ks) (i:=m3 % 3) (by omega) (by omega)
      refine x6 (s6.seq hK) hkd ?_
      walk_at "r"
      refine⟨d7 (by simp),fun l9 n9=>?_⟩
      obtain⟨H9,e9,f9,m9,_⟩:=b6 (o:= .tup _) n9
      rw[e9]
      have s9:=s6.trans m9
      have g9:=m9 _ _ g6
      have t9:=m9 _ _ t6
      have f9':=m9 _ _ f6'
      have w9:=w6.mono m9.le
      walk_at "r"
      refine x6 (s9.seq hW) (hna _ (by omega)) ?_
      walk_at "r"
      refine ez (N4 (k:=Sum.inr n) t9 (d7 (by omega)) ?_)
      have h5':P2 ws W (W.pts++a) i b:=by rw[hpts];exact h5
      have fr:=h3.fresh2 h5' hwn hnew hn
      have hm1':o1∈(W.pts++a).map (·.1):=by rw[hpts];exact hm1
      have hm2':o2∈(W.pts++a).map (·.1):=by rw[hpts];exact hm2
      have hadd:=h5'.add h3 hwn hnew hn (hkk _ hkm) hm1' hm2' (by omega)
      rw[hpts] at hadd
      have wt:TiesIs K H9 (N0 ks1 (Sum.inr n:j6) (.ref l9)) (W.ts++(b++[(n,(kd,o1,o2))])):=by
       rw[←List.append_assoc]
       exact sx w9 (fun z=>fr (List.mem_append_right _ z)) (SqT.of f9)
      have nl4:l4≠q:=fun z=>by rw[z,t9] at f9';cases f9'
      walk_at "r"
      exact⟨b++[(n,(kd,o1,o2))],_,_,_,_,rfl,T9 s9 nq0,by rw[d6 hpq];exact g9,g7,by rw[d6 nl4];exact f9',mf t9 wt,hadd⟩
     ·walk_at "r"
      exact⟨b,ks1,_,_,_,rfl,s6,g6,t6,f6',w6,h5.up⟩
    ·walk_at "r"
     exact⟨b,ks1,_,_,_,rfl,s6,g6,t6,f6',w6,h5.up⟩
   ·rintro σ H5 ⟨b,ks1,v1,v2,v3,rfl,s5,g5,t5,f5,w5,h5⟩
    refine⟨by exact Nat.le_refl _,?_⟩
    walk_at "e"
    refine hx [some (.ref p),some (.ref q),some (.ref lw),some (.ref lk),some (.int c),v1,some (.ref l4),v2,v3] _ ?_
    clear hx
    walk_at "e"
    refine⟨d7 (by simp),fun l9 n9=>?_⟩
    obtain⟨H9,e9,f9,m9,_⟩:=b6 (o:= .tup _) n9
    rw[e9]
    rw[←hpts] at h5 g5
    have hE:=Ad hPc h3 h5 hwk
    refine k ⟨l9,p,q,ks1,⟨W.pts++a,W.ts++b⟩⟩ H9 (s5.trans m9) ⟨⟨SqT.of f9,.inl (m9 _ _ g5),.inl (m9 _ _ t5),w5.mono m9.le⟩,m9 _ _ g5,m9 _ _ t5,hpq,hE.pc.nd,Nat.le_trans hE.pc.len (by omega),hE.pc.ends,fun x hx=>Nat.le_trans (eU (hE.pc.pc.kds x hx)) (by omega)⟩ hE
theorem xO {ws:List Str}(hl:ws.length=24)(a b:Nat)(h1:a+4≤b)(h2:a+4≤24):∃m,4≤m∧∀x y:Int,x=(a:Int)→y=(b:Int)→V9 (ws.map V.str) (some x) (some y)=((ws.drop a).take m).map V.str:=by
 refine⟨min b 24 -min a 24,by omega,fun x y hx hy=>?_⟩
 rw[hx,hy]
 unfold V9
 rw[HT.sIx_nat,HT.sIx_nat,←List.map_drop,←List.map_take,List.length_map,hl,show min a 24=a by omega]
theorem BY {ws:List Str}(hl:ws.length=24):V9 (ws.map V.str) none (some 6)=(ws.take 6).map V.str:=by
 have e:(some (6:Int))=some ((6:Nat):Int):=rfl
 rw[e]
 unfold V9
 rw[HT.sIx_nat,HT.sIx_none,←List.map_drop,←List.map_take,List.length_map,hl]
 rfl
theorem vS {ws:List Str}(nd:ws.Nodup){n:Str}{a m:Nat}(ha:6≤a)(h1:n∈ws.take 6):n∉(ws.drop a).take m:=fun h2=>by
 obtain⟨i,hi⟩:=List.getElem?_of_mem h1
 obtain⟨j,hj⟩:=List.getElem?_of_mem h2
 have hi6:i<6:=by
  have:=(List.getElem?_eq_some_iff.mp hi).1
  rw[List.length_take] at this
  omega
 have hjm:j<m:=by
  have:=(List.getElem?_eq_some_iff.mp hj).1
  rw[List.length_take] at this
  omega
 rw[List.getElem?_take_of_lt hi6] at hi
 rw[List.getElem?_take_of_lt hjm,List.getElem?_drop] at hj
 have:=ku nd hi hj
 omega
theorem oJ {ws:List Str}(hl:ws.length=24){a m:Nat}(h:4≤m)(ha:a+4≤24):4≤((ws.drop a).take m).length:=by
 rw[List.length_take,List.length_drop];omega
theorem tq {ws:List Str}(nd:ws.Nodup){a m:Nat}:((ws.drop a).take m).Nodup:=nd.sublist ((List.take_sublist _ _).trans (List.drop_sublist _ _))
theorem pq {ws:List Str}{a m:Nat}{n:Str}(h:n∈(ws.drop a).take m):n∈ws:=List.mem_of_mem_drop (List.mem_of_mem_take h)
theorem zg:PcW ⟨[],[]⟩:=⟨gI (fun _ h=>nomatch h) (fun _ h=>nomatch h) (fun _ h=>nomatch h) (Nat.zero_le _) (Nat.zero_le _),List.nodup_nil,fun _ h=>nomatch h⟩
theorem zb {W:G8}{pts:List (Str×Str)}{ts:List (Str×M7)}(h:PcW W)(h1:pts.Sublist W.pts)(h2:ts.Sublist W.ts)(he:∀x∈ts,x.2.2.1∈pts.map (·.1)∧x.2.2.2∈pts.map (·.1)):PcW ⟨pts,ts⟩:=by
 have hs:(A8 ⟨pts,ts⟩).Sublist (A8 W):=(h1.map _).append (h2.map _)
 exact⟨gI (fun n hn=>h.pc.kds n (hs.subset hn)) (fun x hx=>h.pc.good.kd x (h1.subset hx)) (fun x hx=>h.pc.good.tk x (h2.subset hx)) (Nat.le_trans h1.length_le h.pc.l1) (Nat.le_trans h2.length_le h.pc.l2),h.nd.sublist hs,he⟩
theorem Ext.names {ws:List Str}{W:G8}(h:Ext ws ⟨[],[]⟩ W):∀n∈A8 W,n∈ws:=fun n hn=>by
 obtain⟨a,ea,ha⟩:=h.ps
 obtain⟨b,eb,hb⟩:=h.ts
 rw[List.nil_append] at ea eb
 rcases List.mem_append.mp hn with m|m
 ·obtain⟨y,hy⟩:=S7 m
  rw[ea] at hy
  exact ha _ hy
 ·obtain⟨y,hy⟩:=S7 m
  rw[eb] at hy
  exact hb _ hy
theorem rZ {vs:List Str}{L R:G8}{pts:List (Str×Str)}{ts:List (Str×M7)}(hL:PcW L)(h1:pts.Sublist L.pts)(h2:ts.Sublist L.ts)(hE:Ext vs ⟨pts,ts⟩ R)(hv:∀n∈A8 L,n∉vs){n:Str}(hn:n∈A8 L)(hr:n∈A8 R):fu n L R:=by
 obtain⟨a,ea,ha⟩:=hE.ps
 obtain⟨b,eb,hb⟩:=hE.ts
 have ndp:=oD hL.nd
 have ndt:=uz hL.nd
 have dis:=(List.nodup_append.mp (show(L.pts.map (·.1)++L.ts.map (·.1)).Nodup from hL.nd)).2.2
 have hin:n∈pts.map (·.1)∨n∈ts.map (·.1):=by
  rcases List.mem_append.mp hr with m|m
  ·rw[ea,List.map_append] at m
   rcases List.mem_append.mp m with m|m
   ·exact .inl m
   ·obtain⟨y,hy⟩:=S7 m
    exact absurd (ha _ hy) (hv n hn)
  ·rw[eb,List.map_append] at m
   rcases List.mem_append.mp m with m|m
   ·exact .inr m
   ·obtain⟨y,hy⟩:=S7 m
    exact absurd (hb _ hy) (hv n hn)
 refine⟨fun k=>⟨fun z=>?_,fun z=>?_⟩,fun t=>⟨fun z=>?_,fun z=>?_⟩⟩
 ·rw[ea]
  refine List.mem_append_left _ ?_
  rcases hin with m|m
  ·obtain⟨y,hy⟩:=S7 m
   rw[B0 ndp z (h1.subset hy)];exact hy
  ·exact absurd rfl (dis n (List.mem_map.mpr ⟨_,z,rfl⟩) n ((h2.map _).subset m))
 ·rw[ea] at z
  rcases List.mem_append.mp z with z|z
  ·exact h1.subset z
  ·exact absurd (ha _ z) (hv n hn)
 ·rw[eb]
  refine List.mem_append_left _ ?_
  rcases hin with m|m
  ·exact absurd rfl (dis n ((h1.map _).subset m) n (List.mem_map.mpr ⟨_,z,rfl⟩))
  ·obtain⟨y,hy⟩:=S7 m
   rw[B0 ndt z (h2.subset hy)];exact hy
 ·rw[eb] at z
  rcases List.mem_append.mp z with z|z
  ·exact h2.subset z
  ·exact absurd (hb _ z) (hv n hn)
theorem mv {α:Type}{l r:List α}{i:Nat}{x:α}(h:l.Sublist (r.take i))(hx:r[i]?=some x):(l++[x]).Sublist (r.take (i+1)):=by
 rw[List.take_succ,hx]
 exact h.append (List.Sublist.refl _)
theorem kR {α:Type}{l r:List α}{i:Nat}(h:l.Sublist (r.take i)):l.Sublist (r.take (i+1)):=h.trans (List.take_sublist_take_left (Nat.le_succ i))
theorem oO {α:Type}{l r:List (Str×α)}{i:Nat}{x:Str×α}(nd:(r.map (·.1)).Nodup)(h:l.Sublist (r.take i))(hx:r[i]?=some x):x.1∉l.map (·.1):=fun m=>by
 have m2:=(h.map (·.1)).subset m
 have z:((r.take (i+1)).map (·.1)).Nodup:=nd.sublist ((List.take_sublist _ _).map _)
 rw[List.take_succ,hx,List.map_append] at z
 exact(List.nodup_append.mp z).2.2 x.1 m2 x.1 (by simp) rfl
theorem pI {pts:List (Str×Str)}{n:Str}(h:(D0 (J6 pts) (Sum.inr n:j6)).isSome=true):n∈pts.map (·.1):=by rw[M4] at h;exact of_decide_eq_true h
def bC (K:PySem.W.Frag):Sp:=fun vs H Q _=>∃(c:Int) (lk:Addr) (ks:List Str),vs=[.int c,.ref lk,.int 3]∧SqL K H lk (ks.map V.str)∧ks.length=3∧(∀s∈ks,o6 s=true)∧∀(r bl:Addr) (L R:Sd) (bs:List Sd) (H':Hp),Same H H'→RuleIs K H' r bl L R bs→H' bl=some (.lst (bs.map fun s=>V.ref s.a))→Bq L R bs→yd L.W R.W bs→Q (.ref r) H'
theorem jG {f:Addr}{fd:FuncData}(T:Txt K mg)(bG:E2 P w K mg base B4 2 "_law_words" ["_law_cell","_law_many_here"] [] (aG K))(T3:E2 P w K mg base B4 2 "_law_piece" ["_law_points","_law_ties","_law_words_here","_law_kinds_here","_law_cell"] [] (az K))(i4:E2 P w K mg base B4 1 "_law_mixed" ["_law_cell","_law_k"] [] (E1 K))(F:Fun K "_law_rule" "_law_rule" Q7 f fd):E3 P w K mg base B4 3 f fd ["_law_cell","_law_kinds_here","_law_most"] (bC K):=by
 refine F.ok sc__law_rule (fun vs H Q E h=>?_) (fun cdv A outer s H vs Q E hr h=>?_)
 ·obtain⟨c,lk,ks,rfl,_⟩:=h
  rfl
 ·obtain⟨c,lk,ks,rfl,hK,hkl,hkk,k⟩:=h
  have hN:=sc__law_rule.nd
  have hu:=C0 hr
  refine⟨_,QSs.r (A0 (u6 (i:=3) hN rfl (by walk_at "l") (qC bG (hr.mono (by decide)) j0 (d9 (qV 0) (d9 b5 i8))))
   (A0 (u6 (i:=4) hN rfl (by walk_at "l") (qC T3 (hr.mono (by decide)) j0 (d9 xu (d9 xu (d9 (bT (bU K) (qV 3) dA (aM b5)) (d9 (qV 1) (d9 (p0 j8 (p0 C4 (qV 0) b5) b5) i8)))))))
   (A0 (u6 (i:=5) hN rfl (by walk_at "l") xu)
   (A0 (u6 (i:=6) hN rfl (by walk_at "l") xu)
   (A0 (aP PassesOwn.never rfl (dE K T.b_enumerate (d9 (C9 (C8 K hu) (qV 4) b5 (fun _ _=>rfl)) i8)) (wF K rfl (jV (T6 (i:=7) hN rfl (by walk_at "l")) (jV (T6 (i:=8) hN rfl (by walk_at "l")) wV)))
    (B9 (S2 (r6 ai (p0 j8 (qC i4 (hr.mono (by decide)) j0 (d9 (qV 0) (d9 (p0 (t7 K) b5 (qV 7)) i8))) b5) b5 (j9 _)) (B9 (kA (C9 (C8 K hu) (C9 (C8 K hu) (qV 4) b5 (fun _ _=>rfl)) (qV 8) (fun _ _=>rfl)) (xD (qV 5) (qV 8) (Q9 P w hu)))) T8)))
   (A0 (aP PassesOwn.never rfl (dE K T.b_enumerate (d9 (C9 (C8 K hu) (qV 4) b5 (fun _ _=>rfl)) i8)) (wF K rfl (jV (T6 (i:=7) hN rfl (by walk_at "l")) (jV (T6 (i:=8) hN rfl (by walk_at "l")) wV)))
    (B9 (S2 (fV (sO (r6 (kIn K hu) (C9 (C8 K hu) (C9 (C8 K hu) (C9 (C8 K hu) (qV 4) b5 (fun _ _=>rfl)) (qV 8) (fun _ _=>rfl)) b5 (fun _ _=>rfl)) (qV 5) (by rfl)) (sO (r6 (kIn K hu) (C9 (C8 K hu) (C9 (C8 K hu) (C9 (C8 K hu) (qV 4) b5 (fun _ _=>rfl)) (qV 8) (fun _ _=>rfl)) b5 (fun _ _=>rfl)) (qV 5) (by rfl)) (tK (r6 (W6 K hr) (p0 j8 (qC i4 (hr.mono (by decide)) j0 (d9 (qV 0) (d9 (p0 (t7 K) b5 (qV 7)) i8))) b5) b5 (j9 _)))))) (B9 (kA (C9 (C8 K hu) (C9 (C8 K hu) (qV 4) b5 (fun _ _=>rfl)) (qV 8) (fun _ _=>rfl)) (xD (qV 6) (qV 8) (Q9 P w hu)))) T8)))
   (A0 (u6 (i:=9) hN rfl (by walk_at "l") (qC T3 (hr.mono (by decide)) j0 (d9 (qV 5) (d9 (qV 6) (d9 (bT (bU K) (qV 3) (aM b5) (aM b5)) (d9 (qV 1) (d9 (p0 j8 (qC i4 (hr.mono (by decide)) j0 (d9 (qV 0) (d9 b5 i8))) b5) i8)))))))
   (A0 (u6 (i:=10) hN rfl (by walk_at "l") (aI i8))
   (A0 (aP PassesOwn.never rfl (fX T.b_range (d9 (p0 j8 (qC i4 (hr.mono (by decide)) j0 (d9 (qV 0) (d9 b5 i8))) (p0 (t7 K) (qV 2) b5)) i8)) (T6 (i:=7) hN rfl (by walk_at "l"))
    (A0 (u6 (i:=11) hN rfl (by walk_at "l") (bT (bU K) (qV 3) (aM (p0 (t7 K) b5 (p0 op_mulY b5 (qV 7)))) (aM (p0 (t7 K) b5 (p0 op_mulY b5 (qV 7))))))
   (B9 (CD (qM PySem.F.plainAttrs_list PySem.F.slot_list_append PySem.F.type_list_append X0 K (qV 10) (d9 (qC T3 (hr.mono (by decide)) j0 (d9 (C9 (C8 K hu) (qV 4) b5 (fun _ _=>rfl)) (d9 (C9 (C8 K hu) (qV 4) b5 (fun _ _=>rfl)) (d9 (qV 11) (d9 (qV 1) (d9 (p0 j8 (qC i4 (hr.mono (by decide)) j0 (d9 (qV 0) (d9 (p0 (t7 K) b5 (qV 7)) i8))) b5) i8)))))) i8))))))
   (B9 (x5 (bR (d9 (qV 4) (d9 (qV 9) (d9 (qV 10) i8))))))))))))))),?_⟩
  refine A4 fun nx1 hx=>?_
  walk_at "e"
  refine⟨c,24,rfl,by omega,by omega,fun lw H1 ws _ m1 f1 hw=>?_⟩
  obtain⟨hwl,hwn,hwk⟩:=hw
  have hwl:ws.length=24:=hwl
  walk_at "e"
  refine hx [some (.int c),some (.ref lk),some (.int 3),some (.ref lw),none,none,none,none,none,none,none,none] _ ?_
  clear hx
  refine A4 fun nx2 hx=>?_
  walk_at "e"
  intro d1 n1
  obtain⟨H2,e2,f2,m2,_⟩:=b6 (o:= .dK []) n1
  rw[e2]
  walk_at "e"
  intro d2 n2
  obtain⟨H3,e3,f3,m3,_⟩:=b6 (o:= .dK []) n2
  rw[e3]
  walk_at "e"
  refine P4 (SqL.of (m3 _ _ (m2 _ _ f1))) (fun l4 n4=>?_)
  rw[BY hwl]
  obtain⟨H4,e4,f4,m4,_⟩:=b6 (o:= .lst _) n4
  rw[e4]
  have m14:=m2.trans (m3.trans m4)
  walk_at "e"
  refine⟨d1,d2,l4,lk,[],⟨[],[]⟩,ws.take 6,ks,_,rfl,m4 _ _ (m3 _ _ f2),m4 _ _ f3,.nil,zg,(fun _ h=>nomatch h),SqL.of f4,by rw[List.length_take];omega,hwn.sublist (List.take_sublist _ _),fun s hs=>hwk s (List.mem_of_mem_take hs),(m1.trans m14).seq hK,hkl,hkk,fun L H5 m5 hL hLE=>?_⟩
  have m05:=m1.trans (m14.trans m5)
  have hPL:=hLE.pc
  have hLn:=hLE.names
  have hll:=hPL.len
  rw[br] at hll
  have hLdis:∀{a m:Nat},6≤a→∀n∈A8 L.W,n∉(ws.drop a).take m:=fun ha n hn=>vS hwn ha (hLn n hn)
  have fw5:H5 lw=some (.lst (ws.map V.str)):=(m14.trans m5) _ _ f1
  walk_at "e"
  refine hx [some (.int c),some (.ref lk),some (.int 3),some (.ref lw),some (.ref L.a),none,none,none,none,none,none,none] _ ?_
  clear hx
  refine A4 fun nx3 hx=>?_
  walk_at "e"
  intro dp np
  obtain⟨H6,e6,f6,m6,_⟩:=b6 (o:= .dK []) np
  rw[e6]
  walk_at "e"
  refine hx [some (.int c),some (.ref lk),some (.int 3),some (.ref lw),some (.ref L.a),some (.ref dp),none,none,none,none,none,none] _ ?_
  clear hx
  refine A4 fun nx4 hx=>?_
  walk_at "e"
  intro dq nq
  obtain⟨H7,e7,f7,m7,_⟩:=b6 (o:= .dK []) nq
  rw[e7]
  walk_at "e"
  refine hx [some (.int c),some (.ref lk),some (.int 3),some (.ref lw),some (.ref L.a),some (.ref dp),some (.ref dq),none,none,none,none,none] _ ?_
  clear hx
  have m67:=m6.trans m7
  have nq5:H5 dq=none:=m6.free nq
  have hpq:dp≠dq:=i6 f6 nq
  have L7:=hL.same m67
  have plp:dp≠L.p:=fun z=>by rw[z,hL.hp] at np;cases np
  have qlp:dq≠L.p:=fun z=>by rw[z,hL.hp] at nq5;cases nq5
  have plq:dp≠L.q:=fun z=>by rw[z,hL.hq] at np;cases np
  have qlq:dq≠L.q:=fun z=>by rw[z,hL.hq] at nq5;cases nq5
  have ndp:=oD hPL.nd
  have ndt:=uz hPL.nd
  refine A4 fun nx5 hx=>?_
  walk_at "e"
  refine d4 L7.at_.tup (b9 (j:=0) rfl) ?_
  walk_at "e"
  refine⟨_,rfl,.inr ⟨L.p,_,rfl,.inl ⟨L7.hp,fun nd1 ob1=>?_⟩⟩⟩
  have nB1:K1 L.p ob1 (J6 L.W.pts) H5 dp=none:=by rw[cI plp];exact np
  have nB2:K1 L.p ob1 (J6 L.W.pts) H5 dq=none:=by rw[cI qlp];exact nq5
  refine G7 (n:=(J6 L.W.pts).length) (fun i σ H'=>∃(pts:List (Str×Str)) (v7 v8:Option V),σ=[some (.int c),some (.ref lk),some (.int 3),some (.ref lw),some (.ref L.a),some (.ref dp),some (.ref dq),v7,v8,none,none,none]∧Same (K1 L.p ob1 (J6 L.W.pts) H5) H'∧H' dp=some (.dK (J6 pts))∧H' dq=some (.dK [])∧pts.Sublist (L.W.pts.take i)) ⟨[],none,none,rfl,lV m67,by rw[cI plp];exact m7 _ _ f6,by rw[cI qlp];exact f7,List.nil_sublist _⟩ (fun i σ H' hi hp=>?_) ?_ ?_
  ·obtain⟨_,_,_,_,s,_⟩:=hp
   exact⟨s _ _ g7,hi⟩
  ·rintro _ i v σ H8 H9 hi ⟨pts,v7,v8,rfl,s8,g8,t8,sb⟩ ⟨t,kv,hkv,nt,rfl,rfl⟩
   obtain⟨x,hx2,rfl⟩:=dR hkv
   obtain⟨HA,eA,fA,mA,_⟩:=b6 (o:= .tup _) nt
   rw[eA]
   rw[D7] at hi
   have sA:=s8.trans mA
   have gA:=mA _ _ g8
   have tA:=mA _ _ t8
   have WA:=hL.at_.mono ((aE (o:=ob1) hL.hp).trans sA.le)
   have hxm:x∈L.W.pts:=List.mem_of_getElem? hx2
   have hpl:=sb.length_le
   rw[List.length_take] at hpl
   refine bF (SqT.of fA) rfl ?_
   walk_at "e"
   refine⟨_,_,rfl,by omega,by omega,fun m hm=>?_⟩
   walk_at "e"
   refine P5 (fun h1=>?_) (fun h1=>?_)
   ·walk_at "e"
    refine d4 WA.tup (b9 (j:=0) rfl) ?_
    walk_at "e"
    refine L6 (v:= .str x.2) (by have z':=P6 (k:=Sum.inr x.1) WA.pts;rw[T2 ndp hxm] at z';exact z') ?_
    walk_at "e"
    refine ez (N4 (k:=Sum.inr x.1) gA (d7 (by rw[D7];omega)) ?_)
    rw[uY (oO ndp sb hx2)]
    walk_at "e"
    exact⟨pts++[x],_,_,rfl,T9 sA nB1,g7,by rw[d6 hpq.symm];exact tA,mv sb hx2⟩
   ·walk_at "e"
    exact⟨pts,_,_,rfl,sA,gA,tA,kR sb⟩
  rintro σ H8 ⟨pts,v7,v8,rfl,s8,g8,t8,sb⟩
  rw[List.take_of_length_le (by rw[D7];exact Nat.le_refl _)] at sb
  refine⟨⟨s8 _ _ g7,rfl⟩,?_⟩
  have sT:Same H5 (thaw L.p H8):=s8.thaw hL.hp
  have gT:(thaw L.p H8) dp=some (.dK (J6 pts)):=by rw[X4 plp];exact g8
  have tT:(thaw L.p H8) dq=some (.dK []):=by rw[X4 qlp];exact t8
  generalize thaw L.p H8=HT at sT gT tT⊢
  have LT:=hL.same sT
  walk_at "e"
  refine hx [some (.int c),some (.ref lk),some (.int 3),some (.ref lw),some (.ref L.a),some (.ref dp),some (.ref dq),v7,v8,none,none,none] _ ?_
  clear hx
  refine A4 fun nx6 hx=>?_
  walk_at "e"
  refine d4 LT.at_.tup (b9 (j:=1) rfl) ?_
  walk_at "e"
  refine⟨_,rfl,.inr ⟨L.q,_,rfl,.inl ⟨LT.hq,fun nd2 ob2=>?_⟩⟩⟩
  have nC1:K1 L.q ob2 L.kvs H5 dp=none:=by rw[cI plq];exact np
  have nC2:K1 L.q ob2 L.kvs H5 dq=none:=by rw[cI qlq];exact nq5
  have hkvl:=hL.at_.ts.length
  refine G7 (n:=L.kvs.length) (fun i σ H'=>∃(ks1:List (j6×V)) (ts1:List (Str×M7)) (v7 v8:Option V),σ=[some (.int c),some (.ref lk),some (.int 3),some (.ref lw),some (.ref L.a),some (.ref dp),some (.ref dq),v7,v8,none,none,none]∧Same (K1 L.q ob2 L.kvs H5) H'∧H' dp=some (.dK (J6 pts))∧H' dq=some (.dK ks1)∧TiesIs K H' ks1 ts1∧ts1.Sublist (L.W.ts.take i)∧∀x∈ts1,x.2.2.1∈pts.map (·.1)∧x.2.2.2∈pts.map (·.1)) ⟨[],[],_,_,rfl,lV sT,by rw[cI plq];exact gT,by rw[cI qlq];exact tT,.nil,List.nil_sublist _,fun _ h=>nomatch h⟩ (fun i σ H' hi hp=>?_) ?_ ?_
  ·obtain⟨_,_,_,_,_,s,_⟩:=hp
   exact⟨s _ _ g7,hi⟩
  ·rintro _ i v σ H9 H9' hi ⟨ks1,ts1,w7,w8,rfl,s9,g9,t9,w9,sb9,en9⟩ ⟨t,kv,hkv,nt,rfl,rfl⟩
   obtain⟨HA,eA,fA,mA,_⟩:=b6 (o:= .tup _) nt
   rw[eA]
   have sA:=s9.trans mA
   have gA:=mA _ _ g9
   have tA:=mA _ _ t9
   have wA:=w9.mono mA.le
   have WA:=hL.at_.mono ((aE (o:=ob2) hL.hq).trans sA.le)
   obtain⟨x,hx2,ex,b,eb,sb2⟩:=WA.ts.get hkv
   obtain⟨kk,kvv⟩:=kv
   have ex':kk=Sum.inr x.1:=ex
   have eb':kvv= .ref b:=eb
   subst ex' eb'
   have hv:aA HA L.q (kV (Sum.inr x.1)) (some (.ref b)):=by
    have z':=P6 (k:=Sum.inr x.1) WA.ties
    rw[ak (kv:=(Sum.inr x.1,.ref b)) nd2 (List.mem_of_getElem? hkv)] at z';exact z'
   have hpl:=sb9.length_le
   rw[List.length_take] at hpl
   have hk1:=wA.length
   have skip:∀{v7 v8:Option V},∃(ks1:List (j6×V)) (ts1:List (Str×M7)) (u7 u8:Option V),[some (.int c),some (.ref lk),some (.int 3),some (.ref lw),some (.ref L.a),some (.ref dp),some (.ref dq),v7,v8,none,none,none]=[some (.int c),some (.ref lk),some (.int 3),some (.ref lw),some (.ref L.a),some (.ref dp),some (.ref dq),u7,u8,none,none,none]∧Same (K1 L.q ob2 L.kvs H5) HA∧HA dp=some (.dK (J6 pts))∧HA dq=some (.dK ks1)∧TiesIs K HA ks1 ts1∧ts1.Sublist (L.W.ts.take (i+1))∧∀x∈ts1,x.2.2.1∈pts.map (·.1)∧x.2.2.2∈pts.map (·.1):=fun{v7 v8}=>⟨ks1,ts1,v7,v8,rfl,sA,gA,tA,wA,kR sb9,en9⟩
   refine bF (SqT.of fA) rfl ?_
   walk_at "e"
   refine d4 WA.tup (b9 (j:=1) rfl) ?_
   walk_at "e"
   refine L6 (v:= .ref b) hv ?_
   walk_at "e"
   refine d4 sb2 (b9 (j:=1) rfl) ?_
   walk_at "e"
   refine S1 (P6 (k:=Sum.inr x.2.2.1) (.inl gA)) ?_
   walk_at "e"
   refine jW (fun h1=>?_) (fun h1=>?_)
   ·walk_at "e"
    refine d4 WA.tup (b9 (j:=1) rfl) ?_
    walk_at "e"
    refine L6 (v:= .ref b) hv ?_
    walk_at "e"
    refine d4 sb2 (b9 (j:=2) rfl) ?_
    walk_at "e"
    refine S1 (P6 (k:=Sum.inr x.2.2.2) (.inl gA)) ?_
    walk_at "e"
    refine jW (fun h2=>?_) (fun h2=>?_)
    ·walk_at "e"
     refine⟨_,_,rfl,by omega,by omega,fun m hm=>?_⟩
     walk_at "e"
     refine P5 (fun h3=>?_) (fun h3=>?_)
     ·walk_at "e"
      refine d4 WA.tup (b9 (j:=1) rfl) ?_
      walk_at "e"
      refine L6 (v:= .ref b) hv ?_
      walk_at "e"
      refine ez (N4 (k:=Sum.inr x.1) tA (d7 (by omega)) ?_)
      walk_at "e"
      refine⟨_,ts1++[x],_,_,rfl,T9 sA nC2,by rw[d6 hpq];exact gA,g7,mf tA (sx (n:=x.1) (t:=x.2) wA (oO ndt sb9 hx2) sb2),mv sb9 hx2,fun y hy=>?_⟩
      rcases List.mem_append.mp hy with z|z
      ·exact en9 y z
      ·rw[List.mem_singleton.mp z]
       exact⟨pI h1,pI h2⟩
     ·walk_at "e"
      exact skip
    ·walk_at "e"
     exact skip
   ·walk_at "e"
    exact skip
  rintro σ H9 ⟨ks1,ts1,w7,w8,rfl,s9,g9,t9,w9,sb9,en9⟩
  rw[List.take_of_length_le (by rw[hkvl];exact Nat.le_refl _)] at sb9
  refine⟨⟨s9 _ _ g7,rfl⟩,?_⟩
  have sU:Same H5 (thaw L.q H9):=s9.thaw hL.hq
  have gU:(thaw L.q H9) dp=some (.dK (J6 pts)):=by rw[X4 plq];exact g9
  have tU:(thaw L.q H9) dq=some (.dK ks1):=by rw[X4 qlq];exact t9
  have wU:TiesIs K (thaw L.q H9) ks1 ts1:=w9.mono xq
  generalize thaw L.q H9=HU at sU gU tU wU⊢
  have hPk:=zb hPL sb sb9 en9
  walk_at "e"
  refine hx [some (.int c),some (.ref lk),some (.int 3),some (.ref lw),some (.ref L.a),some (.ref dp),some (.ref dq),w7,w8,none,none,none] _ ?_
  clear hx
  refine A4 fun nx7 hx=>?_
  obtain⟨m6,hm6,cut6⟩:=xO hwl 6 12 (by omega) (by omega)
  walk_at "e"
  refine P4 (SqL.of (sU _ _ fw5)) (fun lA nA=>?_)
  rw[cut6 6 12 rfl rfl]
  obtain⟨HA,eA,fA,mA,_⟩:=b6 (o:= .lst _) nA
  rw[eA]
  walk_at "e"
  refine⟨_,_,rfl,by omega,by omega,fun mm hmm=>?_⟩
  walk_at "e"
  have nsub:(A8 ⟨pts,ts1⟩).Sublist (A8 L.W):=(sb.map _).append (sb9.map _)
  refine⟨dp,dq,lA,lk,ks1,⟨pts,ts1⟩,(ws.drop 6).take m6,ks,_,rfl,mA _ _ gU,mA _ _ tU,wU.mono mA.le,hPk,fun n hn=>hLdis (Nat.le_refl 6) n (nsub.subset hn),SqL.of fA,oJ hwl hm6 (by omega),tq hwn,fun s hs=>hwk s (pq hs),(m05.trans (sU.trans mA)).seq hK,hkl,hkk,fun R HB mB hR hRE=>?_⟩
  have s5B:=sU.trans (mA.trans mB)
  walk_at "e"
  refine hx [some (.int c),some (.ref lk),some (.int 3),some (.ref lw),some (.ref L.a),some (.ref dp),some (.ref dq),w7,w8,some (.ref R.a),none,none] _ ?_
  clear hx
  have hAg:∀n∈A8 L.W,n∈A8 R.W→fu n L.W R.W:=fun n hn hr=>rZ hPL sb sb9 hRE (hLdis (Nat.le_refl 6)) hn hr
  clear gU tU wU g9 t9 w9 s9 gT tT s8 g8 t8
  refine A4 fun nx8 hx=>?_
  walk_at "e"
  refine⟨d7 (by simp),fun lb nb=>?_⟩
  obtain⟨HC,eC,fC,mC,_⟩:=b6 (o:= .lst []) nb
  rw[eC]
  walk_at "e"
  refine hx [some (.int c),some (.ref lk),some (.int 3),some (.ref lw),some (.ref L.a),some (.ref dp),some (.ref dq),w7,w8,some (.ref R.a),some (.ref lb),none] _ ?_
  clear hx
  refine A4 fun nx9 hx=>?_
  walk_at "e"
  refine⟨_,_,rfl,by omega,by omega,fun mb hmb=>?_⟩
  walk_at "e"
  refine P8 (by omega) (by omega) ?_
  refine G7 (n:=(mb % (3+1)).toNat) (fun i σ H'=>∃(bs:List Sd) (u7 u8 u11:Option V),σ=[some (.int c),some (.ref lk),some (.int 3),some (.ref lw),some (.ref L.a),some (.ref dp),some (.ref dq),u7,u8,some (.ref R.a),some (.ref lb),u11]∧Same HB H'∧H' lb=some (.lst (bs.map fun s=>V.ref s.a))∧bs.length=i∧∀b∈bs,SdIs K H' b∧∃vs,Ext vs L.W b.W) ⟨[],_,_,_,rfl,mC,fC,rfl,fun _ h=>nomatch h⟩ (fun i σ H' hi _=>by exact hi) ?_ ?_
  ·rintro _ i v σ HD HD' hi ⟨bs,u7,u8,u11,rfl,sD,gD,lD,hbs⟩ ⟨rfl,rfl⟩
   have hi3:i<3:=by omega
   obtain⟨mk,hmk,cutk⟩:=xO hwl (12+4*i) (18+4*i) (by omega) (by omega)
   have s5D:=s5B.trans sD
   have LD:=hL.same s5D
   walk_at "r"
   refine P4 (SqL.of (s5D _ _ fw5)) (fun lE nE=>?_)
   rw[cutk _ _ (by omega) (by omega)]
   obtain⟨HE,eE,fE,mE,_⟩:=b6 (o:= .lst _) nE
   rw[eE]
   have LE:=LD.same mE
   walk_at "r"
   refine⟨.inl ⟨rfl,_,SqL.of (mE _ _ gD)⟩,?_⟩
   walk_at "r"
   refine d4 LE.at_.tup (b9 (j:=0) rfl) ?_
   walk_at "r"
   refine d4 LE.at_.tup (b9 (j:=1) rfl) ?_
   walk_at "r"
   refine⟨_,_,rfl,by omega,by omega,fun m4 hm4=>?_⟩
   walk_at "r"
   refine⟨L.p,L.q,lE,lk,L.kvs,L.W,(ws.drop (12+4*i)).take mk,ks,_,rfl,LE.hp,LE.hq,LE.at_.ts,hPL,hLdis (by omega),SqL.of fE,oJ hwl hmk (by omega),tq hwn,fun s hs=>hwk s (pq hs),(m05.trans (s5D.trans mE)).seq hK,hkl,hkk,fun b HF mF hB hBE=>?_⟩
   have sDF:=mE.trans mF
   walk_at "r"
   refine⟨lb,_,_,rfl,rfl,sDF _ _ gD,qk (by rw[List.length_map];omega),?_⟩
   walk_at "r"
   refine⟨bs++[b],_,_,_,rfl,T9 (sD.trans sDF) nb,by rw[g7,List.map_append];rfl,by rw[List.length_append,List.length_singleton];omega,fun d hd=>?_⟩
   rcases List.mem_append.mp hd with z|z
   ·exact⟨pM (sDF _ _ gD) ((hbs d z).1.same sDF),(hbs d z).2⟩
   ·rw[List.mem_singleton.mp z];exact⟨pM (sDF _ _ gD) hB,_,hBE⟩
  rintro σ HD ⟨bs,u7,u8,u11,rfl,sD,gD,lD,hbs⟩
  refine⟨by exact Nat.le_refl _,?_⟩
  walk_at "e"
  refine hx [some (.int c),some (.ref lk),some (.int 3),some (.ref lw),some (.ref L.a),some (.ref dp),some (.ref dq),u7,u8,some (.ref R.a),some (.ref lb),u11] _ ?_
  clear hx
  walk_at "e"
  refine⟨d7 (by simp),fun lr nr=>?_⟩
  obtain⟨HE,eE,fE,mE,_⟩:=b6 (o:= .tup _) nr
  rw[eE]
  have sDE:=sD.trans mE
  refine k lr lb L R bs HE (m05.trans (s5B.trans sDE)) ⟨SqT.of fE,hL.same (s5B.trans sDE),hR.same sDE,SqL.of (mE _ _ gD),fun b hb=>(hbs b hb).1.same mE⟩ (mE _ _ gD) ⟨hPL,hRE.pc,fun b hb=>let ⟨_,z⟩:=(hbs b hb).2;z.pc,by omega⟩ ⟨hPL.pc,hRE.pc.pc,hAg,by omega,fun b hb=>?_⟩
  obtain⟨_,z⟩:=(hbs b hb).2
  obtain⟨a',ea,_⟩:=z.ps
  obtain⟨b',eb,_⟩:=z.ts
  refine⟨⟨z.pc.pc.good,z.pc.pc.kds,Nat.le_trans z.pc.pc.l1 (by omega),Nat.le_trans z.pc.pc.l2 (by omega)⟩,fun x hx=>?_,fun x hx=>?_⟩
  ·rw[ea];exact List.mem_append_left _ hx
  ·rw[eb];exact List.mem_append_left _ hx
theorem vj {pts:List (Str×Str)}{s1:List Str}(h:s1.Perm (pts.map (·.1))):∃ps:List (Str×Str),s1=ps.map (·.1)∧ps.Perm pts:=by
 have pr:∀l:List (Str×Str),Paired (fun(n:Str) (x:Str×Str)=>n=x.1) (l.map (·.1)) l:=fun l=>by
  induction l with
  |nil=>exact .nil
  |cons x r ih=>exact .cons rfl ih
 obtain⟨r,h1,h2⟩:=aq h (pr pts)
 refine⟨r,?_,h2⟩
 clear h2 h
 induction h1 with
 |nil=>rfl
 |cons e _ ih=>rw[List.map_cons,e,ih]
theorem vE {pts:List (Str×M7)}{s1:List Str}(h:s1.Perm (pts.map (·.1))):∃ps:List (Str×M7),s1=ps.map (·.1)∧ps.Perm pts:=by
 have pr:∀l:List (Str×M7),Paired (fun(n:Str) (x:Str×M7)=>n=x.1) (l.map (·.1)) l:=fun l=>by
  induction l with
  |nil=>exact .nil
  |cons x r ih=>exact .cons rfl ih
 obtain⟨r,h1,h2⟩:=aq h (pr pts)
 refine⟨r,?_,h2⟩
 clear h2 h
 induction h1 with
 |nil=>rfl
 |cons e _ ih=>rw[List.map_cons,e,ih]
theorem pS {W:G8}(h:iW W){x:Str×Str}(hx:x∈W.pts):tN (Dn x):=⟨h.nm _ (List.mem_append_left _ (List.mem_map.mpr ⟨x,hx,rfl⟩)),fun k e=>by cases e;exact h.kd x hx,fun t e=>by cases e⟩
theorem kW {W:G8}(h:iW W)(he:∀x∈W.ts,x.2.2.1∈W.pts.map (·.1)∧x.2.2.2∈W.pts.map (·.1)){x:Str×M7}(hx:x∈W.ts):tN (AD x):=
 ⟨h.nm _ (List.mem_append_right _ (List.mem_map.mpr ⟨x,hx,rfl⟩)),(fun k e=>by cases e),fun t e=>by cases e;exact⟨h.tk x hx,h.nm _ (List.mem_append_left _ (he x hx).1),h.nm _ (List.mem_append_left _ (he x hx).2)⟩⟩
theorem wa {ws:List Str}(h:∀y∈ws,y.length≤100):(As ws).length≤ws.length*101+1:=by
 cases ws with
 |nil=>decide+kernel
 |cons x r=>
  show(Str.join " " (x::r)).length≤(x::r).length*101+1
  rw[uV]
  have z:=pJ (B:=100) 32 (ws:=x::r) h
  omega
def ar (K:PySem.W.Frag):Sp:=fun vs H Q _=>∃(a p q:Addr) (kvs:List (j6×V)) (W:G8),vs=[.ref a]∧WebIs 16 K H a p q kvs W∧iW W∧∀(H':Hp) (t:Str),Same H H'→t.length≤(A8 W).length*101+1→Q (.str t) H'
theorem Cz {n k:Str}(h1:n.length≤24)(h2:k.length≤8):(n++(":":Str)++k).length≤1000:=by rw[bw];simp only[i7,o9];omega
theorem iK {f:Addr}{fd:FuncData}(T:Txt K mg)(F:Fun K "_law_shown" "_law_shown" O5 f fd):E3 P w K mg base B4 1 f fd ["_law_web_here"] (ar K):=by
 refine F.ok sc__law_shown (fun vs H Q E h=>?_) (fun cdv A outer s H vs Q E hr h=>?_)
 ·obtain⟨a,p,q,kvs,W,rfl,_⟩:=h
  rfl
 ·obtain⟨a,p,q,kvs,W,rfl,hW,hG,k⟩:=h
  have hWl:=hW.len
  rw[br] at hWl
  have hN:=sc__law_shown.nd
  have hu:=C0 hr
  refine⟨_,QSs.r (A0 (u6 (i:=1) hN rfl (by walk_at "l") (aI i8))
   (A0 (aP PassesOwn.never rfl (U2 K (qB (ef K rfl) T.b_sorted Boot.«sorted» (d9 (C9 (C8 K hu) (qV 0) b5 (fun _ _=>rfl)) i8))) (T6 (i:=2) hN rfl (by walk_at "l"))
    (B9 (CD (qM PySem.F.plainAttrs_list PySem.F.slot_list_append PySem.F.type_list_append X0 K (qV 1) (d9 (p0 (t7 K) (p0 (t7 K) (qV 2) z9) (C9 (C8 K hu) (C9 (C8 K hu) (qV 0) b5 (fun _ _=>rfl)) (qV 2) (fun _ _=>rfl))) i8)))))
   (A0 (aP PassesOwn.never rfl (U2 K (qB (ef K rfl) T.b_sorted Boot.«sorted» (d9 (C9 (C8 K hu) (qV 0) b5 (fun _ _=>rfl)) i8))) (T6 (i:=2) hN rfl (by walk_at "l"))
    (A0 (kA (C9 (C8 K hu) (C9 (C8 K hu) (qV 0) b5 (fun _ _=>rfl)) (qV 2) (fun _ _=>rfl)) (wF K rfl (jV (T6 (i:=3) hN rfl (by walk_at "l")) (jV (T6 (i:=4) hN rfl (by walk_at "l")) (jV (T6 (i:=5) hN rfl (by walk_at "l")) wV)))))
   (B9 (CD (qM PySem.F.plainAttrs_list PySem.F.slot_list_append PySem.F.type_list_append X0 K (qV 1) (d9 (p0 (t7 K) (p0 (t7 K) (p0 (t7 K) (p0 (t7 K) (p0 (t7 K) (p0 (t7 K) (p0 (t7 K) (qV 2) z9) (qV 3)) z9) (qV 4)) z9) (qV 5)) z9) i8))))))
   (A0 (S2 (r6 (W6 K hr) (qV 1) (aI i8) (j9 _)) (B9 (x5 z9)) T8)
   (B9 (x5 (qM PySem.F.plainAttrs_str PySem.F.slot_str_join PySem.F.type_str_join (L0 K) K z9 (d9 (qV 1) i8)))))))),?_⟩
  walk_at "r"
  refine⟨d7 (by simp),fun L nL=>?_⟩
  obtain⟨H0,e0,f0,m0,_⟩:=b6 (o:= .lst _) nL
  rw[e0]
  have W0:=hW.same m0
  walk_at "r"
  refine d4 W0.at_.tup (b9 (j:=0) rfl) ?_
  walk_at "r"
  refine S8 (ss:=W.pts.map (·.1)) W0.at_.pts (by rw[R9,G6]) (by rw[List.length_map];omega) (fun s1 a1 b1 l1 n1=>?_)
  obtain⟨ps,rfl,pp⟩:=vj a1
  obtain⟨H1,e1,f1,m1,_⟩:=b6 (o:= .lst _) n1
  rw[e1]
  have W1:=W0.same m1
  have hpl:=pp.length_eq
  have f01:=m1 _ _ f0
  have nL1:l1≠L:=fun z=>by rw[z,f0] at n1;cases n1
  refine C7 (SqL.of f1) ?_
  refine G7 (n:=ps.length) (fun i σ H'=>Same H H'∧H' l1=some (.lst ((ps.map (·.1)).map V.str))∧H' L=some (.lst (((ps.take i).map Af).map V.str))∧∃v2,σ=[some (.ref a),some (.ref L),v2,none,none,none]) ⟨m0.trans m1,f1,f01,none,rfl⟩ (fun i σ H' hi hp=>⟨_,.str (ps[i].1),SqL.of hp.2.1,by rw[List.getElem?_map,List.getElem?_map,List.getElem?_eq_getElem hi];rfl⟩) ?_ ?_
  ·rintro _ i v σ H2' H2 hi ⟨s2,g2,fL,v2,rfl⟩ y
   obtain⟨rfl,hx⟩:=Itl.get y (SqL.of g2)
   rw[List.getElem?_map,List.getElem?_map] at hx
   have hxi:=List.getElem?_eq_getElem hi
   generalize ps[i]=x at hxi
   rw[hxi] at hx
   cases hx
   have hxm:x∈W.pts:=pp.mem_iff.mp (List.mem_of_getElem? hxi)
   have gx:=pS hG hxm
   have l1:x.1.length≤24:=X5 gx.nm
   have l2:=eU (gx.pt _ rfl)
   have W2:=hW.same s2
   walk_at "r"
   refine⟨.inl ⟨rfl,_,SqL.of fL⟩,?_⟩
   walk_at "r"
   refine o3 (i:=x.1) (d7 (by rw[bw,o9];omega)) ?_
   walk_at "r"
   refine d4 W2.at_.tup (b9 (j:=0) rfl) ?_
   walk_at "r"
   refine L6 (v:= .str x.2) (by have z':=P6 (k:=Sum.inr x.1) W2.at_.pts;rw[T2 (oD hW.nd) hxm] at z';exact z') ?_
   refine o3 (d7 (by have:=Cz l1 l2;rw[i7] at this;exact this)) ?_
   walk_at "r"
   refine⟨L,_,_,rfl,rfl,fL,Nat.lt_of_le_of_lt (show _≤100 by rw[List.length_map,List.length_map,List.length_take];omega) (by decide),?_⟩
   walk_at "r"
   refine⟨T9 s2 nL,by rw[d6 nL1];exact g2,?_,_,rfl⟩
   rw[g7,C5 hxi,List.map_append,List.map_append];rfl
  ·rintro σ H2 ⟨s2,g2,fL,v2,rfl⟩
   rw[List.take_of_length_le (Nat.le_refl _)] at fL
   refine⟨⟨_,SqL.of g2,by rw[List.length_map,List.length_map];exact Nat.le_refl _⟩,?_⟩
   have W2:=hW.same s2
   walk_at "r"
   refine d4 W2.at_.tup (b9 (j:=1) rfl) ?_
   walk_at "r"
   refine S8 (ss:=W.ts.map (·.1)) W2.at_.ties (by rw[W2.at_.ts.keys,G6]) (by rw[List.length_map];omega) (fun s4 a4 b4 l4 n4=>?_)
   obtain⟨ts,rfl,pt⟩:=vE a4
   obtain⟨H4,e4,f4,m4,_⟩:=b6 (o:= .lst _) n4
   rw[e4]
   have htl:=pt.length_eq
   have fL4:=m4 _ _ fL
   have nL4:l4≠L:=Ne.symm (i6 fL n4)
   refine C7 (SqL.of f4) ?_
   refine G7 (n:=ts.length) (fun i σ H'=>Same H H'∧H' l4=some (.lst ((ts.map (·.1)).map V.str))∧H' L=some (.lst ((ps.map Af++(ts.take i).map si).map V.str))∧∃v2 v3 v4 v5,σ=[some (.ref a),some (.ref L),v2,v3,v4,v5]) ⟨s2.trans m4,f4,by rw[fL4];simp,_,_,_,_,rfl⟩ (fun i σ H' hi hp=>⟨_,.str (ts[i].1),SqL.of hp.2.1,by rw[List.getElem?_map,List.getElem?_map,List.getElem?_eq_getElem hi];rfl⟩) ?_ ?_
   ·rintro _ i v σ H5' H5 hi ⟨s5,g5,fL5,v2,v3,v4,v5,rfl⟩ y
    obtain⟨rfl,hx⟩:=Itl.get y (SqL.of g5)
    rw[List.getElem?_map,List.getElem?_map] at hx
    have hxi:=List.getElem?_eq_getElem hi
    generalize ts[i]=x at hxi
    rw[hxi] at hx
    cases hx
    have hxm:x∈W.ts:=pt.mem_iff.mp (List.mem_of_getElem? hxi)
    have gx:=kW hG hW.ends hxm
    have W5:=hW.same s5
    obtain⟨b,hb,sb⟩:=gh W5.at_.ts (uz hW.nd) hxm
    obtain⟨xn,xk,xa,xb⟩:=x
    have l1:xn.length≤24:=X5 gx.nm
    have l2:=gx.ti _ rfl
    have l3:xk.length≤8:=eU l2.1
    have l4:xa.length≤24:=X5 l2.2.1
    have l5:xb.length≤24:=X5 l2.2.2
    walk_at "r"
    refine d4 W5.at_.tup (b9 (j:=1) rfl) ?_
    walk_at "r"
    refine L6 (v:= .ref b) (by have z':=P6 (k:=Sum.inr xn) W5.at_.ties;rw[hb] at z';exact z') ?_
    refine bF sb rfl ?_
    rw[show bX (xn,xk,xa,xb).2=[V.str xk,.str xa,.str xb] from rfl]
    walk_at "r"
    refine⟨.inl ⟨rfl,_,SqL.of fL5⟩,?_⟩
    walk_at "r"
    refine o3 (i:=xn) (d7 (by rw[bw];simp only[i7,o9];omega)) ?_
    walk_at "r"
    refine o3 (d7 (by rw[bw];simp only[i7,o9];omega)) ?_
    walk_at "r"
    refine o3 (d7 (by rw[bw,di];simp only[i7,o9];omega)) ?_
    walk_at "r"
    refine o3 (d7 (by rw[bw,di];simp only[i7,o9];omega)) ?_
    walk_at "r"
    refine o3 (d7 (by rw[bw,di,fk];simp only[i7,o9];omega)) ?_
    walk_at "r"
    refine o3 (d7 (by rw[bw,di,fk];simp only[i7,o9];omega)) ?_
    walk_at "r"
    refine o3 (d7 (by rw[bw,di,fk,cX];simp only[i7,o9];omega)) ?_
    walk_at "r"
    refine⟨L,_,_,rfl,rfl,fL5,Nat.lt_of_le_of_lt (show _≤100 by simp only[List.length_map,List.length_take,List.length_append];omega) (by decide),?_⟩
    walk_at "r"
    refine⟨T9 s5 nL,by rw[d6 nL4];exact g5,?_,_,_,_,_,rfl⟩
    rw[g7,C5 hxi]
    simp only[List.map_append,List.append_assoc];rfl
   ·rintro σ H5 ⟨s5,g5,fL5,v2,v3,v4,v5,rfl⟩
    rw[List.take_of_length_le (Nat.le_refl _)] at fL5
    refine⟨⟨_,SqL.of g5,by rw[List.length_map,List.length_map];exact Nat.le_refl _⟩,?_⟩
    walk_at "r"
    refine⟨d7 (by simp),fun l6 n6=>?_⟩
    obtain⟨H6,e6,f6,m6,_⟩:=b6 (o:= .lst _) n6
    rw[e6]
    have fL6:=m6 _ _ fL5
    refine iH (lX (SqL.of fL6) (SqL.of f6) (gN _) rfl ?_)
    walk_at "r"
    have hwl:(ps.map Af++ts.map si).length≤16:=by simp only[List.length_append,List.length_map];omega
    have hyl:∀y∈ps.map Af++ts.map si,y.length≤100:=fun y hy=>by
     rcases List.mem_append.mp hy with h|h
     ·obtain⟨x,hx,rfl⟩:=List.mem_map.mp h
      have z:=me (pS hG (pp.mem_iff.mp hx))
      exact z
     ·obtain⟨x,hx,rfl⟩:=List.mem_map.mp h
      have z:=me (kW hG hW.ends (pt.mem_iff.mp hx))
      exact z
    have kk:=k H6 _ (s5.trans m6) (Nat.le_trans (wa hyl) (by rw[br];simp only[List.length_append,List.length_map];omega))
    generalize ps.map Af++ts.map si=ws at kk fL6 hwl hyl⊢
    cases ws with
    |nil=>
     refine(show Z6 (List.map V.str []) []=true from rfl)▸?_
     rw[if_pos rfl]
     walk_at "r"
     exact kk
    |cons x r=>
     rw[if_neg (by simp [Z6])]
     walk_at "r"
     refine⟨rfl,?_⟩
     walk_at "r"
     exact⟨_,L,x::r,rfl,rfl,SqL.of fL6,by decide+kernel,by omega,fun y hy=>Nat.le_trans (hyl y hy) (by omega),kk⟩
theorem cS (x:Str)(l u:Option Int):(Txt.slice x l u).length≤x.length:=Nat.le_trans (lY x l u) (sliceIndices_le l u x.length)
theorem vN {x:Str}{i:Int}(h0:0≤i)(h1:i<x.length):∃c,mx x.cps.toList i=some c:=by
 have z:=J3 x
 have lt:i.toNat<x.cps.toList.length:=by omega
 refine⟨x.cps.toList[i.toNat],?_⟩
 have e:=b9 (xs:=x.cps.toList) (List.getElem?_eq_getElem lt)
 rw[Int.toNat_of_nonneg h0] at e
 exact e
def bJ (K:PySem.W.Frag):Sp:=fun vs H Q _=>∃c:Int,vs=[.int c]∧∀t:Str,t.length=1→Q (.str t) H
def W9 (K:PySem.W.Frag):Sp:=fun vs H Q _=>∃(t:Str) (c:Int),vs=[.str t,.int c]∧t.length≤30000∧∀t':Str,t'.length≤3*t.length+1→Q (.str t') H
theorem ki {f:Addr}{fd:FuncData}(T:Txt K mg)(F:Fun K "_law_sign" "_law_sign" Q4 f fd):E3 P w K mg base B4 1 f fd ["_law_cell"] (bJ K):=by
 refine F.ok sc__law_sign (fun vs H Q E h=>?_) (fun cdv A outer s H vs Q E hr h=>?_)
 ·obtain⟨c,rfl,_⟩:=h
  rfl
 ·obtain⟨c,rfl,k⟩:=h
  have hN:=sc__law_sign.nd
  have hu:=C0 hr
  refine⟨_,QSs.r (A0 (u6 (i:=1) hN rfl (by walk_at "l") z9)
   (A0 (S2 (r6 ai (p0 j8 (qV 0) b5) b5 (j9 _)) (B9 (u6 (i:=1) hN rfl (by walk_at "l") z9)) T8)
   (B9 (x5 (C9 (C8 K hu) (qV 1) (p0 j8 (p0 C4 (qV 0) b5) (qB (E4 K P w) T.b_len Boot.«len» (d9 (qV 1) i8))) (fun _ _=>rfl)))))),?_⟩
  refine A4 fun nx1 hx=>?_
  walk_at "r"
  refine hx [some (.int c),some (.str _)] _ ?_
  clear hx
  refine A4 fun nx1 hx=>?_
  have fin:∀x:Str,1≤x.length→x.length≤1000→nx1 [some (.int c),some (.str x)] H:=fun x h1 h2=>by
   refine hx _ _ ?_
   walk_at "r"
   refine E5 (Q6 (d7 h2) ?_)
   walk_at "r"
   have z0:=Int.emod_nonneg (c/3) (show(x.length:Int)≠0 by omega)
   have z1:=Int.emod_lt_of_pos (c/3) (show(0:Int)<(x.length:Int) by omega)
   obtain⟨d,hd⟩:=vN (x:=x) z0 z1
   exact M3 (d7 h2) hd (k ⟨#[d]⟩ rfl)
  clear hx
  walk_at "r"
  refine P5 (fun h=>?_) (fun h=>?_)
  ·walk_at "r"
   exact fin _ (by decide+kernel) (by decide+kernel)
  ·walk_at "r"
   exact fin _ (by decide+kernel) (by decide+kernel)
theorem fT {f:Addr}{fd:FuncData}(T:Txt K mg)(cy:E2 P w K mg base B4 1 "_law_sign" ["_law_cell"] [] (bJ K))(F:Fun K "_law_spoiled" "_law_spoiled" K2 f fd):E3 P w K mg base B4 2 f fd ["_law_text","_law_cell"] (W9 K):=by
 refine F.ok sc__law_spoiled (fun vs H Q E h=>?_) (fun cdv A outer s H vs Q E hr h=>?_)
 ·obtain⟨t,c,rfl,_⟩:=h
  rfl
 ·obtain⟨t,c,rfl,hl,k⟩:=h
  have hN:=sc__law_spoiled.nd
  have hu:=C0 hr
  refine⟨_,QSs.r (A0 (u6 (i:=2) hN rfl (by walk_at "l") (p0 j8 (qV 1) b5))
   (A0 (u6 (i:=3) hN rfl (by walk_at "l") (p0 j8 (p0 C4 (qV 1) b5) (p0 (t7 K) (qB (E4 K P w) T.b_len Boot.«len» (d9 (qV 0) i8)) b5)))
   (A0 (u6 (i:=4) hN rfl (by walk_at "l") (qC cy (hr.mono (by decide)) j0 (d9 (p0 C4 (p0 C4 (qV 1) b5) (p0 (t7 K) (qB (E4 K P w) T.b_len Boot.«len» (d9 (qV 0) i8)) b5)) i8)))
   (A0 (S2 (r6 (W6 K hr) (qV 2) b5 (j9 _)) (B9 (x5 (p0 (t7 K) (p0 (t7 K) (bT (bU K) (qV 0) dA (aM (qV 3))) (qV 4)) (bT (bU K) (qV 0) (aM (qV 3)) dA)))) T8)
   (A0 (S2 (r6 (W6 K hr) (qV 2) b5 (j9 _)) (B9 (x5 (p0 (t7 K) (bT (bU K) (qV 0) dA (aM (qV 3))) (bT (bU K) (qV 0) (aM (p0 (t7 K) (qV 3) b5)) dA)))) T8)
   (A0 (S2 (r6 (W6 K hr) (qV 2) b5 (j9 _)) (B9 (x5 (p0 (t7 K) (p0 (t7 K) (bT (bU K) (qV 0) dA (aM (qV 3))) (qV 4)) (bT (bU K) (qV 0) (aM (p0 (t7 K) (qV 3) b5)) dA)))) T8)
   (A0 (S2 (r6 (W6 K hr) (qV 2) b5 (j9 _)) (B9 (x5 (p0 (t7 K) (p0 (t7 K) (bT (bU K) (qV 0) dA (aM (qV 3))) (bT (bU K) (qV 0) (aM (qV 3)) (aM (p0 (t7 K) (qV 3) b5)))) (bT (bU K) (qV 0) (aM (qV 3)) dA)))) T8)
   (B9 (x5 (qV 0)))))))))),?_⟩
  have sa:=cS t
  walk_at "r"
  refine E5 (Q6 (K0 (by omega)) ?_)
  walk_at "r"
  refine E5 (Q6 (K0 (by omega)) ?_)
  walk_at "r"
  refine⟨_,rfl,fun sg hsg=>?_⟩
  walk_at "r"
  generalize c/5 % ((t.length:Int)+1)=i
  have add2:∀(a b:Str) {Q':VK},a.length≤2*t.length+1→b.length≤t.length+1→Q' (.str (a++b)) H→dF K (.str a) (.str b) H Q':=fun a b Q' ha hb q=>o3 (K0 (by omega)) q
  refine P5 (fun h=>?_) (fun h=>?_)
  ·walk_at "r"
   refine z8 (K0 (by omega)) ?_
   walk_at "r"
   refine add2 _ _ (by have:=sa none (some i);omega) (by omega) ?_
   walk_at "r"
   refine z8 (K0 (by omega)) ?_
   refine add2 _ _ (by have:=sa none (some i);rw[i7];omega) (by have:=sa (some i) none;omega) ?_
   refine k _ ?_
   have:=sa none (some i)
   have:=sa (some i) none
   rw[i7,i7];omega
  walk_at "r"
  refine P5 (fun h=>?_) (fun h=>?_)
  ·walk_at "r"
   refine z8 (K0 (by omega)) ?_
   walk_at "r"
   refine z8 (K0 (by omega)) ?_
   refine add2 _ _ (by have:=sa none (some i);omega) (by have:=sa (some (i+1)) none;omega) ?_
   refine k _ ?_
   have:=sa none (some i)
   have:=sa (some (i+1)) none
   rw[i7];omega
  walk_at "r"
  refine P5 (fun h=>?_) (fun h=>?_)
  ·walk_at "r"
   refine z8 (K0 (by omega)) ?_
   walk_at "r"
   refine add2 _ _ (by have:=sa none (some i);omega) (by omega) ?_
   walk_at "r"
   refine z8 (K0 (by omega)) ?_
   refine add2 _ _ (by have:=sa none (some i);rw[i7];omega) (by have:=sa (some (i+1)) none;omega) ?_
   refine k _ ?_
   have:=sa none (some i)
   have:=sa (some (i+1)) none
   rw[i7,i7];omega
  walk_at "r"
  refine P5 (fun h=>?_) (fun h=>?_)
  ·walk_at "r"
   refine z8 (K0 (by omega)) ?_
   walk_at "r"
   refine z8 (K0 (by omega)) ?_
   refine add2 _ _ (by have:=sa none (some i);omega) (by have:=sa (some i) (some (i+1));omega) ?_
   walk_at "r"
   refine z8 (K0 (by omega)) ?_
   refine add2 _ _ (by have:=sa none (some i);have:=sa (some i) (some (i+1));rw[i7];omega) (by have:=sa (some i) none;omega) ?_
   refine k _ ?_
   have:=sa none (some i)
   have:=sa (some i) none
   have:=sa (some i) (some (i+1))
   rw[i7,i7];omega
  walk_at "r"
  exact k t (by omega)
def bD (K:PySem.W.Frag):Sp:=fun vs H Q _=>∃c:Int,vs=[.int c]∧0≤c∧∀(t:Str) (H':Hp),t.length≤50000→Same H H'→Q (.str t) H'
theorem vW:∀i:Fin 64,(Str.ofString (toString ((i.val:Nat):Int))).length≤2:=by decide+kernel
theorem xG {i:Nat}(h:i<64):(Str.ofString (toString ((i:Nat):Int))).length≤2:=vW ⟨i,h⟩
theorem xQ {i:Nat}(h:i<64):((i:Nat):Int).natAbs.log2<1920:=by
 have:=Nat.log2_le_self i
 rw[Int.natAbs_natCast];omega
theorem kC {sep:Str}{B:Nat}(hs:sep.length≤3):∀ws:List Str,(∀y∈ws,y.length≤B)→(Str.join sep ws).length≤ws.length*(B+3)
 |[],_=>Nat.zero_le _
 |[x],h=>by
  show x.length≤1*(B+3)
  have:=h x List.mem_cons_self
  omega
 |x::y::r,h=>by
  show((x++sep)++Str.join sep (y::r)).length≤(r.length+1+1)*(B+3)
  have ih:(Str.join sep (y::r)).length≤(r.length+1)*(B+3):=kC hs (y::r) fun z hz=>h z (List.mem_cons_of_mem _ hz)
  have:=h x List.mem_cons_self
  rw[i7,i7]
  rw[Nat.succ_mul (r.length+1)]
  omega
def Sm20 (out:List V)(i:Nat):Prop:=∃ss:List Str,out=ss.map V.str∧(∀s∈ss,s.length≤20)∧ss.length=i
theorem Sm20.snoc {out:List V}{i:Nat}{s:Str}(h:Sm20 out i)(hs:s.length≤20):Sm20 (out++[.str s]) (i+1):=by
 obtain⟨ss,rfl,h1,h2⟩:=h
 refine⟨ss++[s],by rw[List.map_append];rfl,fun x hx=>?_,by rw[List.length_append,h2];rfl⟩
 rcases List.mem_append.mp hx with z|z
 ·exact h1 x z
 ·rw[List.mem_singleton.mp z];exact hs
theorem Sm20.len {out:List V}{i:Nat}(h:Sm20 out i):out.length=i:=by
 obtain⟨ss,rfl,_,h2⟩:=h
 rw[List.length_map,h2]
theorem ko {f:Addr}{fd:FuncData}(T:Txt K mg)(F:Fun K "_law_many" "_law_many" R0 f fd):E3 P w K mg base B4 1 f fd ["_law_cell"] (bD K):=by
 refine F.ok sc__law_many (fun vs H Q E h=>?_) (fun cdv A outer s H vs Q E hr h=>?_)
 ·obtain⟨c,rfl,_⟩:=h
  rfl
 ·obtain⟨c,rfl,h0,k⟩:=h
  have c4:0≤c % 4∧c % 4<4:=⟨Int.emod_nonneg _ (by decide),Int.emod_lt_of_pos _ (by decide)⟩
  have hN:=sc__law_many.nd
  have hu:=C0 hr
  refine⟨_,QSs.r (A0 (gJ (i:=1) hN rfl (by walk_at "l") (own:=["_law_k"]) (js:=[]) (by kernel_rfl) rfl (fX T.b_range (d9 (p0 (t7 K) b5 (p0 j8 (qV 0) b5)) i8)) (fun _ _ _ _=>(T6 (i:=0) (show List.Nodup (["_law_k"]:List Str) by decide+kernel) rfl (by walk_at "l"))) (fun _ _ _ _=>X3) (fun _ _ _ _=>(p0 (t7 K) (p0 (t7 K) z9 (qj dU T.b_str Boot.«str» (d9 (qV 0) i8))) z9)))
   (A0 (u6 (i:=2) hN rfl (by walk_at "l") (p0 (t7 K) (aI (d9 z9 i8)) (O7 (own:=["_law_k"]) (js:=[]) (by kernel_rfl) rfl (fX T.b_range (d9 (p0 (t7 K) b5 (p0 j8 (qV 0) b5)) i8)) (fun _ _ _ _=>(T6 (i:=0) (show List.Nodup (["_law_k"]:List Str) by decide+kernel) rfl (by walk_at "l"))) (fun _ _ _ _=>X3) (fun _ _ _ _=>(p0 (t7 K) (p0 (t7 K) z9 (qj dU T.b_str Boot.«str» (d9 (qV 0) i8))) z9)))))
   (B9 (x5 (qM PySem.F.plainAttrs_str PySem.F.slot_str_join PySem.F.type_str_join (L0 K) K z9 (d9 (C9 (C8 K hu) (aI (d9 (qV 1) (d9 (qV 2) i8))) (p0 j8 (p0 C4 (qV 0) b5) b5) (fun _ _=>rfl)) i8)))))),?_⟩
  walk_at "r"
  refine P8 (by omega) (by omega) ?_
  refine B7 (n:=(39+c % 4).toNat) (fun i out H'=>H'=H∧Sm20 out i) ⟨rfl,[],rfl,(fun _ h=>(nomatch h)),rfl⟩ (fun i out H' hi _=>by exact hi) ?_ ?_
  ·rintro N i v out H1' H1 hi ⟨rfl,ho⟩ ⟨rfl,rfl⟩ hN'
   have hi':i<64:=by omega
   have h2:=xG hi'
   have hol:=ho.len
   walk_at "r"
   refine⟨rfl,?_⟩
   walk_at "r"
   refine⟨((i:Nat):Int),by rw[Int.zero_add],xQ hi',?_⟩
   refine o3 (d7 (by have h9:(Str.ofString "p").length=1:=(by decide+kernel);omega)) ?_
   walk_at "r"
   refine o3 (d7 (by have h9:(Str.ofString "p").length=1:=(by decide+kernel);have h0:(Str.ofString ":b").length=2:=(by decide+kernel);rw[i7];omega)) ?_
   refine⟨d7 (by omega),hN' _ _ ⟨rfl,ho.snoc ?_⟩⟩
   have:(Str.ofString "p").length=1:=by decide+kernel
   have:(Str.ofString ":b").length=2:=by decide+kernel
   rw[i7,i7];omega
  ·rintro out H1 ⟨rfl,ss1,rfl,hs1,hl1⟩
   refine⟨Nat.le_refl _,fun D hD=>⟨d7 (by rw[List.length_map];omega),?_⟩⟩
   obtain⟨H2,e2,f2,m2,_⟩:=b6 (H:=H1) (o:= .lst (ss1.map V.str)) hD
   show Y9 _ _ _ (A5 H1 D _) _
   rw[e2]
   walk_at "r"
   refine⟨d7 (by simp),fun p3 n3=>?_⟩
   obtain⟨H3,e3,f3,m3,_⟩:=b6 (o:= .lst _) n3
   rw[e3]
   walk_at "r"
   refine P8 (by omega) (by omega) ?_
   refine B7 (n:=(59+c % 4).toNat) (fun i out H'=>H'=H3∧Sm20 out i) ⟨rfl,[],rfl,(fun _ h=>(nomatch h)),rfl⟩ (fun i out H' hi _=>by exact hi) ?_ ?_
   ·rintro N i v out H4' H4 hi ⟨rfl,ho⟩ ⟨rfl,rfl⟩ hN'
    have hi':i<64:=by omega
    have h2:=xG hi'
    have hol:=ho.len
    walk_at "r"
    refine⟨rfl,?_⟩
    walk_at "r"
    refine⟨((i:Nat):Int),by rw[Int.zero_add],xQ hi',?_⟩
    refine o3 (d7 (by have h9:(Str.ofString "t").length=1:=(by decide+kernel);omega)) ?_
    walk_at "r"
    refine o3 (d7 (by have h9:(Str.ofString "t").length=1:=(by decide+kernel);have h0:(Str.ofString ":b(p,p)").length=7:=(by decide+kernel);rw[i7];omega)) ?_
    refine⟨d7 (by omega),hN' _ _ ⟨rfl,ho.snoc ?_⟩⟩
    have:(Str.ofString "t").length=1:=by decide+kernel
    have:(Str.ofString ":b(p,p)").length=7:=by decide+kernel
    rw[i7,i7];omega
   ·rintro out H4 ⟨rfl,ss2,rfl,hs2,hl2⟩
    refine⟨Nat.le_refl _,fun D5 hD5=>⟨d7 (by rw[List.length_map];omega),?_⟩⟩
    obtain⟨H5,e5,f5,m5,_⟩:=b6 (H:=H4) (o:= .lst (ss2.map V.str)) hD5
    show dF K _ _ (A5 H4 D5 _) _
    rw[e5]
    refine ip (m5 _ _ f3) f5 (d7 (by simp only[List.length_map,List.length_singleton,List.length_cons,List.length_nil];omega)) (fun p6 n6=>?_)
    obtain⟨H6,e6,f6,m6,_⟩:=b6 (o:= .lst _) n6
    rw[e6]
    have f6':H6 p6=some (.lst (((Str.ofString "p:b")::ss2).map V.str)):=f6
    have m26:=m3.trans (m5.trans m6)
    have f26:=m26 _ _ f2
    walk_at "r"
    refine⟨rfl,?_⟩
    walk_at "r"
    refine⟨d7 (by simp),fun p7 n7=>?_⟩
    obtain⟨H7,e7,f7,m7,_⟩:=b6 (o:= .lst _) n7
    rw[e7]
    walk_at "r"
    have jn:∀(l:Addr) (ss:List Str),H7 l=some (.lst (ss.map V.str))→(∀s∈ss,s.length≤20)→ss.length≤64→ve K (.str (Str.ofString " ")) [.ref l] H7 Q:=fun l ss hl hs hn=>by
     refine⟨_,l,ss,rfl,rfl,SqL.of hl,by decide+kernel,by omega,fun y hy=>Nat.le_trans (hs y hy) (by omega),?_⟩
     refine k _ _ ?_ (m2.trans (m26.trans m7))
     have z:=kC (sep:=Str.ofString " ") (B:=20) (by decide+kernel) ss hs
     have z2:ss.length*(20+3)≤64*23:=Nat.mul_le_mul_right _ hn
     omega
    have d2:c/4 % 2=0∨c/4 % 2=1:=by omega
    rcases d2 with d2|d2
    ·rw[d2]
     refine x6 (SqL.of f7) (b9 (j:=0) rfl) ?_
     walk_at "r"
     exact jn D ss1 (m7 _ _ f26) hs1 (by omega)
    ·rw[d2]
     refine x6 (SqL.of f7) (b9 (j:=1) rfl) ?_
     walk_at "r"
     refine jn p6 _ (m7 _ _ f6') (fun s hs=>?_) (by rw[List.length_cons];omega)
     rcases List.mem_cons.mp hs with z|z
     ·rw[z];decide+kernel
     ·exact hs2 s z
def S3 (K:PySem.W.Frag):Sp:=fun vs H Q _=>∃c:Int,vs=[.int c]∧0≤c∧∀(t:Str) (H':Hp),t.length≤50000→Same H H'→Q (.str t) H'
theorem gb {sep:Str}{ss:List Str}{n:Nat}(h:sep.length≤3)(hs:∀s∈ss,s.length≤20)(hn:ss.length≤n):(Str.join sep ss).length≤n*23:=by
 have z:=kC (sep:=sep) (B:=20) h ss hs
 have z2:ss.length*(20+3)≤n*23:=Nat.mul_le_mul_right _ hn
 omega
theorem kl {n x y:Str}{σ:L2.St}{H:Hp}{Q:VK}(hx:x.length≤10)(hy:y.length≤20)(q:∀(ss:List Str),(∀s∈ss,s.length≤20)→ss.length≤20→∀D,H D=none→Q (.ref D) (A5 H D (.lst (ss.map V.str)))):pv [n] [] (Its y) id (Y9 0) xo (rG (dF K) (lU 0) (tC (.str x))) Q σ H:=by
 have hz:y.cps.size=y.length:=rfl
 refine B7 (n:=y.cps.size) (fun i out H'=>H'=H∧Sm20 out i) ⟨rfl,[],rfl,(fun _ h=>(nomatch h)),rfl⟩ (fun i out H' hi _=>by exact hi) ?_ ?_
 ·rintro N i v out H1' H1 hi ⟨rfl,ho⟩ y' hN'
  obtain⟨rfl,d,hd,rfl⟩:=Its.lt y'
  have hol:=ho.len
  walk_at "r"
  refine⟨rfl,?_⟩
  walk_at "r"
  refine o3 (i:=⟨#[d]⟩) (d7 (by show 1+x.length≤1000;omega)) ?_
  refine⟨d7 (by omega),hN' _ _ ⟨rfl,ho.snoc ?_⟩⟩
  rw[i7];show 1+x.length≤20;omega
 ·rintro out H1 ⟨rfl,ss1,rfl,hs1,hl1⟩
  exact⟨Nat.le_refl _,fun D hD=>⟨d7 (by rw[List.length_map];omega),q ss1 hs1 (by omega) D hD⟩⟩
theorem dW {f:Addr}{fd:FuncData}(T:Txt K mg)(F:Fun K "_law_rule_many" "_law_rule_many" G1 f fd):E3 P w K mg base B4 1 f fd ["_law_cell"] (S3 K):=by
 refine F.ok sc__law_rule_many (fun vs H Q E h=>?_) (fun cdv A outer s H vs Q E hr h=>?_)
 ·obtain⟨c,rfl,_⟩:=h
  rfl
 ·obtain⟨c,rfl,h0,k⟩:=h
  have c2:0≤c % 2∧c % 2<2:=⟨Int.emod_nonneg _ (by decide),Int.emod_lt_of_pos _ (by decide)⟩
  have hN:=sc__law_rule_many.nd
  have hu:=C0 hr
  refine⟨_,QSs.r (A0 (u6 (i:=1) hN rfl (by walk_at "l") (qM PySem.F.plainAttrs_str PySem.F.slot_str_join PySem.F.type_str_join (L0 K) K z9 (d9 (O7 (own:=["_law_sign_here"]) (js:=[]) (by kernel_rfl) rfl (U2 K (bT (bU K) z9 dA (aM (p0 (t7 K) b5 (p0 j8 (qV 0) b5))))) (fun _ _ _ _=>(T6 (i:=0) (show List.Nodup (["_law_sign_here"]:List Str) by decide+kernel) rfl (by walk_at "l"))) (fun _ _ _ _=>X3) (fun _ _ _ _=>(p0 (t7 K) (qV 0) z9))) i8)))
   (A0 (u6 (i:=2) hN rfl (by walk_at "l") (qM PySem.F.plainAttrs_str PySem.F.slot_str_join PySem.F.type_str_join (L0 K) K z9 (d9 (p0 (t7 K) (aI (d9 z9 i8)) (O7 (own:=["_law_sign_here"]) (js:=[]) (by kernel_rfl) rfl (U2 K (bT (bU K) z9 dA (aM (p0 (t7 K) b5 (p0 j8 (qV 0) b5))))) (fun _ _ _ _=>(T6 (i:=0) (show List.Nodup (["_law_sign_here"]:List Str) by decide+kernel) rfl (by walk_at "l"))) (fun _ _ _ _=>X3) (fun _ _ _ _=>(p0 (t7 K) (qV 0) z9)))) i8)))
   (A0 (u6 (i:=3) hN rfl (by walk_at "l") (qM PySem.F.plainAttrs_str PySem.F.slot_str_join PySem.F.type_str_join (L0 K) K z9 (d9 (p0 (t7 K) (aI (d9 z9 i8)) (p0 wc (aI (d9 z9 i8)) (p0 (t7 K) b5 (p0 j8 (qV 0) b5)))) i8)))
   (A0 (u6 (i:=4) hN rfl (by walk_at "l") (qM PySem.F.plainAttrs_str PySem.F.slot_str_join PySem.F.type_str_join (L0 K) K z9 (d9 (O7 (own:=["_law_sign_here"]) (js:=[]) (by kernel_rfl) rfl (U2 K (bT (bU K) z9 dA (aM (p0 (t7 K) b5 (p0 j8 (qV 0) b5))))) (fun _ _ _ _=>(T6 (i:=0) (show List.Nodup (["_law_sign_here"]:List Str) by decide+kernel) rfl (by walk_at "l"))) (fun _ _ _ _=>X3) (fun _ _ _ _=>(p0 (t7 K) (qV 0) z9))) i8)))
   (B9 (x5 (C9 (C8 K hu) (aI (d9 (p0 (t7 K) (qV 1) z9) (d9 (p0 (t7 K) (qV 2) z9) (d9 (qV 3) (d9 (p0 (t7 K) z9 (qV 4)) (d9 (p0 (t7 K) z9 (qV 1)) i8)))))) (p0 j8 (p0 C4 (qV 0) b5) b5) (fun _ _=>rfl)))))))),?_⟩
  refine A4 fun nx1 hx=>?_
  walk_at "r"
  refine⟨rfl,?_⟩
  walk_at "r"
  refine z8 (d7 (by decide+kernel)) ?_
  walk_at "r"
  refine kl (by decide+kernel) (Nat.le_trans (cS _ _ _) (by decide+kernel)) fun s1 hs1 hl1 D1 n1=>?_
  obtain⟨H1,e1,f1,m1,_⟩:=b6 (o:= .lst _) n1
  rw[e1]
  walk_at "r"
  refine⟨_,D1,s1,rfl,rfl,SqL.of f1,by decide+kernel,by omega,fun y hy=>Nat.le_trans (hs1 y hy) (by omega),?_⟩
  have j1:=gb (sep:=Str.ofString " ") (by decide+kernel) hs1 hl1
  generalize Str.join (Str.ofString " ") s1=t1 at j1⊢
  walk_at "r"
  refine hx [some (.int c),some (.str t1),none,none,none] _ ?_
  clear hx
  refine A4 fun nx1 hx=>?_
  walk_at "r"
  refine⟨rfl,?_⟩
  walk_at "r"
  refine⟨d7 (by simp),fun p2 n2=>?_⟩
  obtain⟨H2,e2,f2,m2,_⟩:=b6 (o:= .lst _) n2
  rw[e2]
  walk_at "r"
  refine z8 (d7 (by decide+kernel)) ?_
  walk_at "r"
  refine kl (by decide+kernel) (Nat.le_trans (cS _ _ _) (by decide+kernel)) fun s3 hs3 hl3 D3 n3=>?_
  obtain⟨H3,e3,f3,m3,_⟩:=b6 (o:= .lst _) n3
  rw[e3]
  refine ip (m3 _ _ f2) f3 (d7 (by simp only[List.length_map,List.length_cons,List.length_nil];omega)) (fun p4 n4=>?_)
  obtain⟨H4,e4,f4,m4,_⟩:=b6 (o:= .lst _) n4
  rw[e4]
  have f4':H4 p4=some (.lst (((Str.ofString "a:k")::s3).map V.str)):=f4
  have hs4:∀s∈(Str.ofString "a:k")::s3,s.length≤20:=fun s hs=>by
   rcases List.mem_cons.mp hs with z|z
   ·rw[z];decide+kernel
   ·exact hs3 s z
  walk_at "r"
  refine⟨_,p4,_,rfl,rfl,SqL.of f4',by decide+kernel,by rw[List.length_cons];omega,fun y hy=>Nat.le_trans (hs4 y hy) (by omega),?_⟩
  have j2:=gb (sep:=Str.ofString " ") (n:=21) (by decide+kernel) hs4 (by rw[List.length_cons];omega)
  generalize Str.join (Str.ofString " ") (Str.ofString "a:k"::s3)=t2 at j2⊢
  have m04:=m1.trans (m2.trans (m3.trans m4))
  walk_at "r"
  refine hx [some (.int c),some (.str t1),some (.str t2),none,none] _ ?_
  clear hx
  refine A4 fun nx1 hx=>?_
  walk_at "r"
  refine⟨rfl,?_⟩
  walk_at "r"
  refine⟨d7 (by simp),fun p5 n5=>?_⟩
  obtain⟨H5,e5,f5,m5,_⟩:=b6 (o:= .lst _) n5
  rw[e5]
  walk_at "r"
  refine⟨d7 (by simp),fun p6 n6=>?_⟩
  obtain⟨H6,e6,f6,m6,_⟩:=b6 (o:= .lst _) n6
  rw[e6]
  walk_at "r"
  refine .inr ⟨p6,_,_,rfl,rfl,f6,by omega,by omega,d7 (by simp only[List.length_cons,List.length_nil];omega),fun p7 n7=>?_⟩
  obtain⟨H7,e7,f7,m7,_⟩:=b6 (o:= .lst _) n7
  rw[e7]
  have f7':H7 p7=some (.lst ((List.replicate (3+c % 2).toNat (Str.ofString "a:k b:k")).map V.str)):=by
   rw[f7,List.flatten_replicate_singleton,List.map_replicate]
  refine ip (m7 _ _ (m6 _ _ f5)) f7' (d7 (by simp only[List.length_map,List.length_replicate,List.length_cons,List.length_nil];omega)) (fun p8 n8=>?_)
  obtain⟨H8,e8,f8,m8,_⟩:=b6 (o:= .lst _) n8
  rw[e8]
  have f8':H8 p8=some (.lst (((Str.ofString "a:k > -")::List.replicate (3+c % 2).toNat (Str.ofString "a:k b:k")).map V.str)):=f8
  have hs8:∀s∈(Str.ofString "a:k > -")::List.replicate (3+c % 2).toNat (Str.ofString "a:k b:k"),s.length≤20:=fun s hs=>by
   rcases List.mem_cons.mp hs with z|z
   ·rw[z];decide+kernel
   ·rw[(List.mem_replicate.mp z).2];decide+kernel
  have hl8:((Str.ofString "a:k > -")::List.replicate (3+c % 2).toNat (Str.ofString "a:k b:k")).length≤5:=by rw[List.length_cons,List.length_replicate];omega
  walk_at "r"
  refine⟨_,p8,_,rfl,rfl,SqL.of f8',by decide+kernel,by omega,fun y hy=>Nat.le_trans (hs8 y hy) (by omega),?_⟩
  have j3:=gb (sep:=Str.ofString " ! ") (by decide+kernel) hs8 hl8
  generalize Str.join (Str.ofString " ! ") _=t3 at j3⊢
  have m08:=m04.trans (m5.trans (m6.trans (m7.trans m8)))
  walk_at "r"
  refine hx [some (.int c),some (.str t1),some (.str t2),some (.str t3),none] _ ?_
  clear hx
  refine A4 fun nx1 hx=>?_
  walk_at "r"
  refine⟨rfl,?_⟩
  walk_at "r"
  refine z8 (d7 (by decide+kernel)) ?_
  walk_at "r"
  refine kl (by decide+kernel) (Nat.le_trans (cS _ _ _) (by decide+kernel)) fun s9 hs9 hl9 D9 n9=>?_
  obtain⟨H9,e9,f9,m9,_⟩:=b6 (o:= .lst _) n9
  rw[e9]
  walk_at "r"
  refine⟨_,D9,s9,rfl,rfl,SqL.of f9,by decide+kernel,by omega,fun y hy=>Nat.le_trans (hs9 y hy) (by omega),?_⟩
  have j4:=gb (sep:=Str.ofString " ") (by decide+kernel) hs9 hl9
  generalize Str.join (Str.ofString " ") s9=t4 at j4⊢
  have m09:=m08.trans m9
  walk_at "r"
  refine hx [some (.int c),some (.str t1),some (.str t2),some (.str t3),some (.str t4)] _ ?_
  clear hx
  have ad:∀(a b:Str) {Q':VK} {H':Hp},a.length≤500→b.length≤500→(∀t:Str,t.length≤1000→Q' (.str t) H')→dF K (.str a) (.str b) H' Q':=fun a b Q' H' ha hb q=>o3 (d7 (by omega)) (q _ (by rw[i7];omega))
  walk_at "r"
  refine ad _ _ (by omega) (by decide+kernel) fun u1 hu1=>?_
  walk_at "r"
  refine ad _ _ (by omega) (by decide+kernel) fun u2 hu2=>?_
  walk_at "r"
  refine ad _ _ (by decide+kernel) (by omega) fun u3 hu3=>?_
  walk_at "r"
  refine ad _ _ (by decide+kernel) (by omega) fun u4 hu4=>?_
  walk_at "r"
  refine⟨d7 (by simp),fun pA nA=>?_⟩
  obtain⟨HA,eA,fA,mA,_⟩:=b6 (o:= .lst _) nA
  rw[eA]
  walk_at "r"
  have d5:0≤c/2 % 5∧c/2 % 5<5:=⟨Int.emod_nonneg _ (by decide),Int.emod_lt_of_pos _ (by decide)⟩
  obtain⟨t,ht,hm⟩:=W3 (ss:=[u1,u2,t3,u3,u4]) (i:=c/2 % 5) d5.1 (by show c/2 % 5<5;omega)
  refine x6 (xs:=[u1,u2,t3,u3,u4].map V.str) (SqL.of fA) ht ?_
  refine k t HA ?_ (m09.trans mA)
  simp only[List.mem_cons,List.not_mem_nil,or_false] at hm
  rcases hm with rfl|rfl|rfl|rfl|rfl<;>omega
theorem kK (ns:List Int)(a b:Option Int):∃cs:List Int,V9 (ns.map V.int) a b=cs.map V.int∧cs.length≤ns.length:=by
 unfold V9
 rw[←List.map_drop,←List.map_take]
 exact⟨_,rfl,by rw[List.length_take,List.length_drop];omega⟩
def TxN (K:PySem.W.Frag)(H:Hp)(v:V):Prop:=(∃t:Str,v= .str t∧t.length≤50000)∨NoTxt K H v
theorem TxN.same {H H':Hp}{v:V}(h:TxN K H v)(s:Same H H'):TxN K H' v:=by
 rcases h with h|h
 ·exact .inl h
 ·exact .inr (h.mono s)
theorem yB {f:Addr}{fd:FuncData}(T:Txt K mg)(bK:E2 P w K mg base B4 3 "_law_drawn" ["_law_script","_law_start","_law_most"] [] (aK K))(J1:E2 P w K mg base B4 9 "_law_right" ["_law_which","_law_text","_law_way"] [] (aD K))(U8:E2 P w K mg base B4 1 "_law_rule_many" ["_law_cell"] [] (S3 K))(cu:E2 P w K mg base B4 1 "_law_many" ["_law_cell"] [] (bD K))(bV:E2 P w K mg base B4 3 "_law_rule" ["_law_cell","_law_kinds_here","_law_most"] [] (bC K))(N5:E2 P w K mg base B4 1 "_law_kinds" ["_law_cell"] [] (V6 K))(S4:E2 P w K mg base B4 1 "_law_shown" ["_law_web_here"] [] (ar K))(S6:E2 P w K mg base B4 2 "_law_spoiled" ["_law_text","_law_cell"] [] (W9 K))(i4:E2 P w K mg base B4 1 "_law_mixed" ["_law_cell","_law_k"] [] (E1 K))(F:Fun K "law" "law" dI f fd):E3 P w K mg base B4 10 f fd ["_law_script"] (jJ K):=by
 refine F.ok sc_law (fun vs H Q E h=>?_) (fun cdv A outer s H vs Q E hr h=>?_)
 ·obtain⟨a,ns,rfl,_⟩:=h
  rfl
 ·obtain⟨a,ns,rfl,hA,hl,k⟩:=h
  have hN:=sc_law.nd
  have hu:=C0 hr
  refine⟨_,QSs.r (A0 (u6 (i:=1) hN rfl (by walk_at "l") (qC bK (hr.mono (by decide)) j0 (d9 (qV 0) (d9 b5 (d9 b5 i8)))))
   (A0 (u6 (i:=2) hN rfl (by walk_at "l") (p0 j8 (qB (BP K rfl) T.b_sum Boot.«sum» (d9 (bT (bU K) (qV 0) dA (aM b5)) i8)) (p0 oo b5 b5)))
   (A0 (S2 (fV (Q0 (E6 (D2 K (qC J1 (hr.mono (by decide)) j0 (d9 b5 (d9 (qC cu (hr.mono (by decide)) j0 (d9 (qV 2) i8)) (d9 b5 i8)))))) (M5 (E6 (D2 K (qC J1 (hr.mono (by decide)) j0 (d9 b5 (d9 (qC U8 (hr.mono (by decide)) j0 (d9 (qV 2) i8)) (d9 b5 i8))))))))) (B9 (x5 eG)) T8)
   (A0 (aP PassesOwn.never rfl (U2 K (p0 (t7 K) (aI (d9 b5 (d9 b5 i8))) (bT (bU K) (qV 0) dA (aM b5)))) (T6 (i:=3) hN rfl (by walk_at "l"))
    (A0 (u6 (i:=3) hN rfl (by walk_at "l") (p0 j8 (qV 3) (p0 oo b5 b5)))
   (A0 (u6 (i:=4) hN rfl (by walk_at "l") (qC bV (hr.mono (by decide)) j0 (d9 (p0 C4 (qV 3) b5) (d9 (qC N5 (hr.mono (by decide)) j0 (d9 (p0 C4 (qV 3) b5) i8)) (d9 b5 i8)))))
   (A0 (u6 (i:=5) hN rfl (by walk_at "l") (p0 (t7 K) (p0 (t7 K) (qC S4 (hr.mono (by decide)) j0 (d9 (C9 (C8 K hu) (qV 4) b5 (fun _ _=>rfl)) i8)) z9) (qM PySem.F.plainAttrs_str PySem.F.slot_str_join PySem.F.type_str_join (L0 K) K z9 (d9 (O7 (own:=["_law_part"]) (js:=[]) (by kernel_rfl) rfl (U2 K (p0 (t7 K) (aI (d9 (C9 (C8 K hu) (qV 4) b5 (fun _ _=>rfl)) i8)) (C9 (C8 K hu) (qV 4) b5 (fun _ _=>rfl)))) (fun _ _ _ _=>(T6 (i:=0) (show List.Nodup (["_law_part"]:List Str) by decide+kernel) rfl (by walk_at "l"))) (fun _ _ _ _=>X3) (fun _ _ _ _=>(qC S4 (hr.mono (by decide)) j0 (d9 (qV 0) i8)))) i8))))
   (A0 (aP PassesOwn.never rfl (dE K T.b_enumerate (d9 (aI (d9 (qC S4 (hr.mono (by decide)) j0 (d9 (qV 1) i8)) (d9 (qV 5) i8))) i8)) (wF K rfl (jV (T6 (i:=6) hN rfl (by walk_at "l")) (jV (T6 (i:=7) hN rfl (by walk_at "l")) wV)))
    (A0 (u6 (i:=7) hN rfl (by walk_at "l") (qC S6 (hr.mono (by decide)) j0 (d9 (qV 7) (d9 (p0 (t7 K) (p0 op_mulY (qC i4 (hr.mono (by decide)) j0 (d9 (qV 3) (d9 (p0 (t7 K) b5 (qV 6)) i8))) b5) (p0 C4 (qV 3) b5)) i8))))
   (A0 (S2 (r6 (W6 K hr) (p0 j8 (qV 3) b5) b5 (j9 _)) (B9 (u6 (i:=7) hN rfl (by walk_at "l") (qC S6 (hr.mono (by decide)) j0 (d9 (qV 7) (d9 (qC i4 (hr.mono (by decide)) j0 (d9 (qV 3) (d9 (p0 (t7 K) b5 (qV 6)) i8))) i8))))) T8)
   (B9 (S2 (fV (Q0 (E6 (D2 K (qC J1 (hr.mono (by decide)) j0 (d9 (qV 6) (d9 (qV 7) (d9 (p0 j8 (qV 3) b5) i8)))))) (M5 (E6 (D2 K (qC J1 (hr.mono (by decide)) j0 (d9 (p0 uP b5 (qV 6)) (d9 (qV 7) (d9 (p0 j8 (p0 C4 (qV 3) b5) b5) i8))))))))) (B9 (x5 eG)) T8)))))
   (A0 (u6 (i:=8) hN rfl (by walk_at "l") (C9 (C8 K hu) (aI (d9 fj (d9 (qV 3) (d9 eG (d9 (aI (d9 (qV 5) i8)) (d9 (bR (d9 (qV 5) i8)) (d9 (qV 1) (d9 (qV 4) (d9 z9 i8))))))))) (p0 j8 (p0 C4 (qV 3) b5) b5) (fun _ _=>rfl)))
   (B9 (S2 (fV (Q0 (E6 (D2 K (qC J1 (hr.mono (by decide)) j0 (d9 b5 (d9 (qV 8) (d9 (p0 j8 (qV 3) b5) i8)))))) (M5 (E6 (D2 K (qC J1 (hr.mono (by decide)) j0 (d9 b5 (d9 (qV 8) (d9 (p0 j8 (p0 C4 (qV 3) b5) b5) i8))))))))) (B9 (x5 eG)) T8))))))))
   (B9 (x5 eG)))))),?_⟩
  refine A4 fun nx1 hx=>?_
  walk_at "e"
  refine⟨a,ns,10,rfl,by omega,hA,hl,fun aw pw qw kw Ww H1 m1 hW1 gW=>?_⟩
  walk_at "e"
  refine hx [some (.ref a),some (.ref aw),none,none,none,none,none,none,none] _ ?_
  clear hx
  refine A4 fun nx1 hx=>?_
  walk_at "e"
  refine P4 (m1.seq hA) (fun l2 n2=>?_)
  obtain⟨cs0,hcs0,_⟩:=kK ns none (some 1)
  rw[hcs0]
  obtain⟨H2,e2,f2,m2,_⟩:=b6 (o:= .lst _) n2
  rw[e2]
  walk_at "e"
  refine xw (ns:=cs0) (SqL.of f2) ?_
  walk_at "e"
  have hd0:=Int.emod_nonneg cs0.sum (show(10 ^ Int.toNat 60:Int)≠0 by decide)
  generalize cs0.sum % 10 ^ Int.toNat 60=hd at hd0
  refine hx [some (.ref a),some (.ref aw),some (.int hd),none,none,none,none,none,none] _ ?_
  clear hx
  have m02:=m1.trans m2
  have hW2:=hW1.same m2
  refine A4 fun nx1 hx=>?_
  walk_at "e"
  refine⟨hd,rfl,hd0,fun tm H3 htm m3=>?_⟩
  walk_at "e"
  refine⟨0,0,_,rfl,.inl rfl,.inl ⟨tm,rfl,htm⟩,fun H4 m4=>?_⟩
  walk_at "e"
  refine⟨hd,rfl,hd0,fun tn H5 htn m5=>?_⟩
  walk_at "e"
  refine⟨1,0,_,rfl,.inr rfl,.inl ⟨tn,rfl,htn⟩,fun H6 m6=>?_⟩
  walk_at "e"
  have m26:=m3.trans (m4.trans (m5.trans m6))
  refine hx [some (.ref a),some (.ref aw),some (.int hd),none,none,none,none,none,none] _ ?_
  clear hx
  have m06:=m02.trans m26
  have hW6:=hW2.same m26
  refine A4 fun nx1 hx=>?_
  walk_at "e"
  refine⟨d7 (by simp),fun l7 n7=>?_⟩
  obtain⟨H7,e7,f7,m7,_⟩:=b6 (o:= .lst _) n7
  rw[e7]
  walk_at "e"
  refine P4 ((m06.trans m7).seq hA) (fun l8 n8=>?_)
  obtain⟨cs,hcs,hcl⟩:=kK ns none (some 12)
  rw[hcs]
  obtain⟨H8,e8,f8,m8,_⟩:=b6 (o:= .lst _) n8
  rw[e8]
  refine ip (m8 _ _ f7) f8 (d7 (by simp only[List.length_map,List.length_cons,List.length_nil];omega)) (fun l9 n9=>?_)
  obtain⟨H9,e9,f9,m9,_⟩:=b6 (o:= .lst _) n9
  rw[e9]
  have f9':H9 l9=some (.lst (((0:Int)::8::cs).map V.int)):=f9
  generalize (0:Int)::8::cs=xs at f9'
  have hW9:=hW6.same (m7.trans (m8.trans m9))
  refine C7 (SqL.of f9') ?_
  refine G7 (n:=xs.length) (fun i σ H'=>Same H9 H'∧∃v3 v4 v5 v6 v7 v8,σ=[some (.ref a),some (.ref aw),some (.int hd),v3,v4,v5,v6,v7,v8]) ⟨Same.refl _,_,_,_,_,_,_,rfl⟩ (fun i σ H' hi hp=>⟨_,.int (xs[i]),SqL.of (hp.1 _ _ f9'),by rw[List.getElem?_map,List.getElem?_eq_getElem hi];rfl⟩) ?_ ?_
  case refine_2=>
   rintro σ HA ⟨sA,v3,v4,v5,v6,v7,v8,rfl⟩
   refine⟨⟨_,SqL.of (sA _ _ f9'),by rw[List.length_map];exact Nat.le_refl _⟩,?_⟩
   refine hx _ _ ?_
   walk_at "e"
   exact k _
  rintro bk i v σ HA' HA hi ⟨sA,v3,v4,v5,v6,v7,v8,rfl⟩ y
  obtain⟨rfl,hx2⟩:=Itl.get y (SqL.of (sA _ _ f9'))
  rw[List.getElem?_map,List.getElem?_eq_getElem hi] at hx2
  cases hx2
  generalize xs[i]=c0
  clear hx
  have hWA:=hW9.same sA
  walk_at "e"
  refine A4 fun nx1 hx=>?_
  walk_at "e"
  have hc0:=Int.emod_nonneg c0 (show(10 ^ Int.toNat 60:Int)≠0 by decide)
  generalize c0 % 10 ^ Int.toNat 60=c at hc0
  refine hx [some (.ref a),some (.ref aw),some (.int hd),some (.int c),v4,v5,v6,v7,v8] _ ?_
  clear hx
  refine A4 fun nx1 hx=>?_
  walk_at "e"
  refine⟨_,rfl,fun lk HB ks _ mB fB hk=>?_⟩
  walk_at "e"
  refine⟨_,lk,ks,rfl,SqL.of fB,hk.1,hk.2,fun r bl L R bs HC mC hR hbl hP hO=>?_⟩
  walk_at "e"
  refine hx [some (.ref a),some (.ref aw),some (.int hd),some (.int c),some (.ref r),v5,v6,v7,v8] _ ?_
  clear hx
  have hWC:=hWA.same (mB.trans mC)
  have sC:=sA.trans (mB.trans mC)
  refine A4 fun nx1 hx=>?_
  walk_at "e"
  refine d4 hR.tup (b9 (j:=0) rfl) ?_
  walk_at "e"
  have lL:=hP.l.len
  refine⟨L.a,L.p,L.q,L.kvs,L.W,rfl,WebIs.to hR.l (Nat.le_trans lL (by omega)),hP.l.pc.good,fun HD tL mD hL=>?_⟩
  have hL':tL.length≤900:=by omega
  walk_at "e"
  refine o3 (d7 (by have h9:(Str.ofString " > ").length=3:=(by decide+kernel);omega)) ?_
  walk_at "e"
  refine⟨rfl,?_⟩
  walk_at "e"
  have RD:=hR.same mD
  refine d4 RD.tup (b9 (j:=1) rfl) ?_
  walk_at "e"
  refine⟨d7 (by simp),fun lE nE=>?_⟩
  obtain⟨HE,eE,fE,mE,_⟩:=b6 (o:= .lst _) nE
  rw[eE]
  walk_at "e"
  have RE:=RD.same mE
  refine d4 RE.tup (b9 (j:=2) rfl) ?_
  refine ip fE ((mD.trans mE) _ _ hbl) (d7 (by have:=hP.len;simp only[List.length_map,List.length_cons,List.length_nil];omega)) (fun lF nF=>?_)
  obtain⟨HF,eF,fF,mF,_⟩:=b6 (o:= .lst _) nF
  rw[eF]
  have fF':HF lF=some (.lst ((R::bs).map fun s=>V.ref s.a)):=fF
  have RF:=RE.same mF
  have hRb:∀b∈R::bs,SdIs K HF b∧PcW b.W:=fun b hb=>by
   rcases List.mem_cons.mp hb with z|z
   ·rw[z];exact⟨RF.r,hP.r⟩
   ·exact⟨RF.bars b z,hP.b b z⟩
  have hRl:(R::bs).length≤4:=by have:=hP.len;rw[List.length_cons];omega
  generalize R::bs=Rs at fF' hRb hRl
  refine C7 (SqL.of fF') ?_
  refine B7 (n:=Rs.length) (fun i out H'=>Same HF H'∧∃ss:List Str,out=ss.map V.str∧(∀s∈ss,s.length≤900)∧ss.length=i) ⟨Same.refl _,[],rfl,(fun _ h=>(nomatch h)),rfl⟩ (fun i out H' hi hp=>⟨_,.ref (Rs[i].a),SqL.of (hp.1 _ _ fF'),by rw[List.getElem?_map,List.getElem?_eq_getElem hi];rfl⟩) ?_ ?_
  ·rintro N j v out HG' HG hj ⟨sG,ss,rfl,hs,hsl⟩ y hN'
   obtain⟨rfl,hx3⟩:=Itl.get y (SqL.of (sG _ _ fF'))
   rw[List.getElem?_map,List.getElem?_eq_getElem hj] at hx3
   cases hx3
   have hb:=hRb _ (List.getElem_mem hj)
   generalize Rs[j]=B at hb
   have lB:=hb.2.len
   walk_at "e"
   refine⟨rfl,?_⟩
   walk_at "e"
   refine⟨B.a,B.p,B.q,B.kvs,B.W,rfl,WebIs.to (hb.1.same sG) (Nat.le_trans lB (by omega)),hb.2.pc.good,fun HH tB mH hB=>⟨d7 (by rw[List.length_map];omega),hN' _ _ ⟨sG.trans mH,ss++[tB],by rw[List.map_append];rfl,fun s h=>?_,by rw[List.length_append,hsl];rfl⟩⟩⟩
   rcases List.mem_append.mp h with z|z
   ·exact hs s z
   ·rw[List.mem_singleton.mp z];omega
  rintro out HG ⟨sG,ss,rfl,hs,hsl⟩
  refine⟨⟨_,SqL.of (sG _ _ fF'),by rw[List.length_map];exact Nat.le_refl _⟩,fun D hD=>⟨d7 (by rw[List.length_map];omega),?_⟩⟩
  obtain⟨HH,eH,fH,mH,_⟩:=b6 (H:=HG) (o:= .lst (ss.map V.str)) hD
  show fS _ (A5 HG D _) _
  rw[eH]
  walk_at "e"
  refine⟨_,D,ss,rfl,rfl,SqL.of fH,by decide+kernel,by omega,fun y hy=>Nat.le_trans (hs y hy) (by omega),?_⟩
  have jl:(Str.join (Str.ofString " ! ") ss).length≤3612:=by
   have z:=kC (sep:=Str.ofString " ! ") (B:=900) (by decide+kernel) ss hs
   have z2:ss.length*(900+3)≤4*903:=Nat.mul_le_mul_right _ (by omega)
   omega
  generalize Str.join (Str.ofString " ! ") ss=tJ at jl
  have l3:(Str.ofString " > ").length=3:=by decide+kernel
  refine o3 (K0 (by rw[i7];omega)) ?_
  have tl:(tL++Str.ofString " > "++tJ).length≤5000:=by rw[i7,i7];omega
  generalize tL++Str.ofString " > "++tJ=tx at tl
  walk_at "e"
  refine hx [some (.ref a),some (.ref aw),some (.int hd),some (.int c),some (.ref r),some (.str tx),v6,v7,v8] _ ?_
  clear hx
  have sCH:=mD.trans (mE.trans (mF.trans (sG.trans mH)))
  have hWH:=hWC.same sCH
  have RH:=hR.same sCH
  have sH:=sC.trans sCH
  refine A4 fun nx1 hx=>?_
  walk_at "e"
  have lW:=hWH.len
  refine⟨aw,pw,qw,kw,Ww,rfl,hWH,gW,fun HI tw mI htw=>?_⟩
  have htw':tw.length≤5000:=by omega
  walk_at "e"
  refine⟨d7 (by simp),fun lI nI=>?_⟩
  obtain⟨HJ,eJ,fJ,mJ,_⟩:=b6 (o:= .lst _) nI
  rw[eJ]
  have sHJ:=mI.trans mJ
  walk_at "e"
  refine⟨_,rfl,.inl ⟨lI,_,rfl,SqL.of fJ,?_⟩⟩
  refine G7 (n:=2) (fun i σ H'=>Same HJ H'∧∃v6 v7,σ=[some (.ref a),some (.ref aw),some (.int hd),some (.int c),some (.ref r),some (.str tx),v6,v7,v8]) ⟨Same.refl _,_,_,rfl⟩ (fun i σ H' hi hp=>?_) ?_ ?_
  ·refine⟨[V.str tw,.str tx],[V.str tw,.str tx][i]'(by show i<2;omega),SqL.of (hp.1 _ _ fJ),List.getElem?_eq_getElem _⟩
  ·rintro bk2 j v σ HK' HK hj ⟨sK,v6,v7,rfl⟩ ⟨tt,x,hx3,nt,rfl,rfl⟩
   have hx':=hx3 _ (SqL.of (sK _ _ fJ))
   obtain⟨ts,rfl,hts⟩:∃ts:Str,x= .str ts∧ts.length≤5000:=by
    match j,hj,hx' with
    |0,_,hx'=>cases hx';exact⟨tw,rfl,htw'⟩
    |1,_,hx'=>cases hx';exact⟨tx,rfl,tl⟩
   clear hx3 hx'
   obtain⟨HL,eL,fL,mL,_⟩:=b6 (o:= .tup _) nt
   rw[eL]
   refine bF (SqT.of fL) rfl ?_
   walk_at "e"
   have hw01:((j:Nat):Int)=0∨((j:Nat):Int)=1:=by omega
   generalize ((j:Nat):Int)=wh at hw01
   refine A4 fun nx2 hx3=>?_
   walk_at "e"
   refine⟨_,_,rfl,by omega,by omega,fun m hm=>?_⟩
   walk_at "e"
   refine⟨ts,_,rfl,by omega,fun t1 ht1=>?_⟩
   walk_at "e"
   refine hx3 [some (.ref a),some (.ref aw),some (.int hd),some (.int c),some (.ref r),some (.str tx),some (.int wh),some (.str t1),v8] _ ?_
   clear hx3
   refine A4 fun nx2 hx3=>?_
   have go:∀t2:Str,t2.length≤50000→nx2 [some (.ref a),some (.ref aw),some (.int hd),some (.int c),some (.ref r),some (.str tx),some (.int wh),some (.str t2),v8] HL:=fun t2 ht2=>by
    refine hx3 _ _ ?_
    walk_at "e"
    refine⟨wh,_,_,rfl,hw01,.inl ⟨t2,rfl,ht2⟩,fun HM mM=>?_⟩
    walk_at "e"
    refine⟨1 -wh,_,_,rfl,by omega,.inl ⟨t2,rfl,ht2⟩,fun HN mN=>?_⟩
    walk_at "e"
    exact⟨sK.trans (mL.trans (mM.trans mN)),_,_,rfl⟩
   clear hx3
   walk_at "e"
   refine P5 (fun h3=>?_) (fun h3=>?_)
   ·walk_at "e"
    refine⟨_,_,rfl,by omega,by omega,fun m2 hm2=>?_⟩
    walk_at "e"
    refine⟨t1,_,rfl,by omega,fun t2 ht2=>?_⟩
    walk_at "e"
    exact go t2 (by omega)
   ·walk_at "e"
    exact go t1 (by omega)
  ·rintro σ HK ⟨sK,v6,v7,rfl⟩
   refine⟨⟨_,SqL.of (sK _ _ fJ),Nat.le_refl _⟩,?_⟩
   refine hx _ _ ?_
   clear hx
   have sHK:=sHJ.trans sK
   have hWK:=hWH.same sHK
   have RK:=RH.same sHK
   have sAK:=sH.trans sHK
   refine A4 fun nx2 hx=>?_
   walk_at "e"
   refine⟨d7 (by simp),fun lL nL=>?_⟩
   obtain⟨HL,eL,fL,mL,_⟩:=b6 (o:= .lst _) nL
   rw[eL]
   walk_at "e"
   refine⟨d7 (by simp),fun lM nM=>?_⟩
   obtain⟨HM,eM,fM,mM,_⟩:=b6 (o:= .tup _) nM
   rw[eM]
   walk_at "e"
   refine⟨d7 (by simp),fun lN nN=>?_⟩
   obtain⟨HN,eN,fN,mN,_⟩:=b6 (o:= .lst _) nN
   rw[eN]
   have sKN:=mL.trans (mM.trans mN)
   walk_at "e"
   have d8:0≤c/4 % 8∧c/4 % 8<8:=⟨Int.emod_nonneg _ (by decide),Int.emod_lt_of_pos _ (by decide)⟩
   obtain⟨vt,hvt,hvt2⟩:=kx (xs:=[V.non,.int c,.bl true,.ref lL,.ref lM,.ref aw,.ref r,.str (Str.ofString "")]) d8.1 (by show c/4 % 8<8;omega)
   have hvm:=List.mem_of_getElem? hvt2
   refine x6 (SqL.of fN) hvt ?_
   walk_at "e"
   have tn:TxN K HN vt:=by
    simp only[List.mem_cons,List.not_mem_nil,or_false] at hvm
    rcases hvm with rfl|rfl|rfl|rfl|rfl|rfl|rfl|rfl
    ·exact .inr ⟨"NoneType",rfl,by decide⟩
    ·exact .inr ⟨"int",rfl,by decide⟩
    ·exact .inr ⟨"bool",rfl,by decide⟩
    ·exact .inr ⟨"list",.inl ⟨rfl,_,SqL.of ((mM.trans mN) _ _ fL)⟩,by decide⟩
    ·exact .inr ⟨"tuple",.inr (.inl ⟨rfl,_,SqT.of (mN _ _ fM)⟩),by decide⟩
    ·exact .inr ⟨"tuple",.inr (.inl ⟨rfl,_,(hWK.same sKN).at_.tup⟩),by decide⟩
    ·exact .inr ⟨"tuple",.inr (.inl ⟨rfl,_,(RK.same sKN).tup⟩),by decide⟩
    ·exact .inl ⟨_,rfl,by decide+kernel⟩
   refine hx [some (.ref a),some (.ref aw),some (.int hd),some (.int c),some (.ref r),some (.str tx),v6,v7,some vt] _ ?_
   clear hx
   walk_at "e"
   refine⟨0,_,_,rfl,.inl rfl,tn,fun HO mO=>?_⟩
   walk_at "e"
   refine⟨1,_,_,rfl,.inr rfl,tn.same mO,fun HP mP=>?_⟩
   walk_at "e"
   exact⟨sAK.trans (sKN.trans (mO.trans mP)),_,_,_,_,_,_,rfl⟩
end
theorem all_mk {l:PySem.W.OpenLaw}{w:World}{K:PySem.W.Frag}{h:Heap}{mg:Str→Option Value}{fa f0 f1 f2 f3 f4 f5 f6 f7 f8 f9 f10 f11 f12 f13 f14 f15 f16 f17 f18 f19 f20 f21 f22 f23 f24 f25 f26 f27 f28 f29 f30 f31 f32 f33 f34 f35 f36 f37 f38 f39 f40:Addr}{od0 an0 od1 an1 od2 an2 od3 an3 od4 an4 od5 an5 od6 an6 od7 an7 od8 an8 od9 an9 od10 an10 od11 an11 od12 an12 od13 an13 od14 an14 od15 an15 od16 an16 od17 an17 od18 an18 od19 an19 od20 an20 od21 an21 od22 an22 od23 an23 od24 an24 od25 an25 od26 an26 od27 an27 od28 an28 od29 an29 od30 an30 od31 an31 od32 an32 od33 an33 od34 an34 od35 an35 od36 an36 od37 an37 od38 an38 od39 an39 od40 an40:Option Addr}{sl0 sl1 sl2 sl3 sl4 sl5 sl6 sl7 sl8 sl9 sl10 sl11 sl12 sl13 sl14 sl15 sl16 sl17 sl18 sl19 sl20 sl21 sl22 sl23 sl24 sl25 sl26 sl27 sl28 sl29 sl30 sl31 sl32 sl33 sl34 sl35 sl36 sl37 sl38 sl39 sl40:Array (Option Value)}{oc0 kV0 dc0 pm0 cd0 ct0 oc1 kV1 dc1 pm1 cd1 ct1 oc2 kV2 dc2 pm2 cd2 ct2 oc3 kV3 dc3 pm3 cd3 ct3 oc4 kV4 dc4 pm4 cd4 ct4 oc5 kV5 dc5 pm5 cd5 ct5 oc6 kV6 dc6 pm6 cd6 ct6 oc7 kV7 dc7 pm7 cd7 ct7 oc8 kV8 dc8 pm8 cd8 ct8 oc9 kV9 dc9 pm9 cd9 ct9 oc10 kV10 dc10 pm10 cd10 ct10 oc11 kV11 dc11 pm11 cd11 ct11 oc12 kV12 dc12 pm12 cd12 ct12 oc13 kV13 dc13 pm13 cd13 ct13 oc14 kV14 dc14 pm14 cd14 ct14 oc15 kV15 dc15 pm15 cd15 ct15 oc16 kV16 dc16 pm16 cd16 ct16 oc17 kV17 dc17 pm17 cd17 ct17 oc18 kV18 dc18 pm18 cd18 ct18 oc19 kV19 dc19 pm19 cd19 ct19 oc20 kV20 dc20 pm20 cd20 ct20 oc21 kV21 dc21 pm21 cd21 ct21 oc22 kV22 dc22 pm22 cd22 ct22 oc23 kV23 dc23 pm23 cd23 ct23 oc24 kV24 dc24 pm24 cd24 ct24 oc25 kV25 dc25 pm25 cd25 ct25 oc26 kV26 dc26 pm26 cd26 ct26 oc27 kV27 dc27 pm27 cd27 ct27 oc28 kV28 dc28 pm28 cd28 ct28 oc29 kV29 dc29 pm29 cd29 ct29 oc30 kV30 dc30 pm30 cd30 ct30 oc31 kV31 dc31 pm31 cd31 ct31 oc32 kV32 dc32 pm32 cd32 ct32 oc33 kV33 dc33 pm33 cd33 ct33 oc34 kV34 dc34 pm34 cd34 ct34 oc35 kV35 dc35 pm35 cd35 ct35 oc36 kV36 dc36 pm36 cd36 ct36 oc37 kV37 dc37 pm37 cd37 ct37 oc38 kV38 dc38 pm38 cd38 ct38 oc39 kV39 dc39 pm39 cd39 ct39 oc40 kV40 dc40 pm40 cd40 ct40:Value}{t_MOST_BARS t_MOST_IN_BAR t_MOST_IN_SIDE t_MOST_KIND_SIGNS t_MOST_NAME_SIGNS t_MOST_POINTS t_MOST_TIES t_NAME_SIGNS t_NOTHING t_SMALL_LETTERS:Tok}{C_GlueError C_NoText:Addr}{cd_GlueError cd_NoText:ClassData}(X:K.In h)(G:h.Ns mainGlobals mg)(hfa:mg "law"=some (.ref fa))
  (a0:PySem.W.nsIn K mainGlobals "is_text_of"=some (some (.ref f0))) (l0:K.lookup f0=some ⟨oc0,od0,.func (PySem.W.fnOf "is_text_of" "is_text_of" (j5 N2) (i9 N2) (b0 N2) .none kV0 dc0 pm0 an0 cd0 ct0),sl0⟩) (c0:PySem.W.codeIn K cd0 "is_text_of"=true) (k0:PySem.W.keepIn K (.ref f0)=true)
  (a1:PySem.W.nsIn K mainGlobals "is_name"=some (some (.ref f1))) (l1:K.lookup f1=some ⟨oc1,od1,.func (PySem.W.fnOf "is_name" "is_name" (j5 Y1) (i9 Y1) (b0 Y1) .none kV1 dc1 pm1 an1 cd1 ct1),sl1⟩) (c1:PySem.W.codeIn K cd1 "is_name"=true) (k1:PySem.W.keepIn K (.ref f1)=true)
  (a2:PySem.W.nsIn K mainGlobals "is_kind"=some (some (.ref f2))) (l2:K.lookup f2=some ⟨oc2,od2,.func (PySem.W.fnOf "is_kind" "is_kind" (j5 X7) (i9 X7) (b0 X7) .none kV2 dc2 pm2 an2 cd2 ct2),sl2⟩) (c2:PySem.W.codeIn K cd2 "is_kind"=true) (k2:PySem.W.keepIn K (.ref f2)=true)
  (a3:PySem.W.nsIn K mainGlobals "is_tie"=some (some (.ref f3))) (l3:K.lookup f3=some ⟨oc3,od3,.func (PySem.W.fnOf "is_tie" "is_tie" (j5 aT) (i9 aT) (b0 aT) .none kV3 dc3 pm3 an3 cd3 ct3),sl3⟩) (c3:PySem.W.codeIn K cd3 "is_tie"=true) (k3:PySem.W.keepIn K (.ref f3)=true)
  (a4:PySem.W.nsIn K mainGlobals "is_web"=some (some (.ref f4))) (l4:K.lookup f4=some ⟨oc4,od4,.func (PySem.W.fnOf "is_web" "is_web" (j5 bc) (i9 bc) (b0 bc) .none kV4 dc4 pm4 an4 cd4 ct4),sl4⟩) (c4:PySem.W.codeIn K cd4 "is_web"=true) (k4:PySem.W.keepIn K (.ref f4)=true)
  (a5:PySem.W.nsIn K mainGlobals "in_order"=some (some (.ref f5))) (l5:K.lookup f5=some ⟨oc5,od5,.func (PySem.W.fnOf "in_order" "in_order" (j5 V4) (i9 V4) (b0 V4) .none kV5 dc5 pm5 an5 cd5 ct5),sl5⟩) (c5:PySem.W.codeIn K cd5 "in_order"=true) (k5:PySem.W.keepIn K (.ref f5)=true)
  (a6:PySem.W.nsIn K mainGlobals "copied"=some (some (.ref f6))) (l6:K.lookup f6=some ⟨oc6,od6,.func (PySem.W.fnOf "copied" "copied" (j5 aO) (i9 aO) (b0 aO) .none kV6 dc6 pm6 an6 cd6 ct6),sl6⟩) (c6:PySem.W.codeIn K cd6 "copied"=true) (k6:PySem.W.keepIn K (.ref f6)=true)
  (a7:PySem.W.nsIn K mainGlobals "things"=some (some (.ref f7))) (l7:K.lookup f7=some ⟨oc7,od7,.func (PySem.W.fnOf "things" "things" (j5 aY) (i9 aY) (b0 aY) .none kV7 dc7 pm7 an7 cd7 ct7),sl7⟩) (c7:PySem.W.codeIn K cd7 "things"=true) (k7:PySem.W.keepIn K (.ref f7)=true)
  (a8:PySem.W.nsIn K mainGlobals "is_part"=some (some (.ref f8))) (l8:K.lookup f8=some ⟨oc8,od8,.func (PySem.W.fnOf "is_part" "is_part" (j5 X6) (i9 X6) (b0 X6) .none kV8 dc8 pm8 an8 cd8 ct8),sl8⟩) (c8:PySem.W.codeIn K cd8 "is_part"=true) (k8:PySem.W.keepIn K (.ref f8)=true)
  (a9:PySem.W.nsIn K mainGlobals "is_piece"=some (some (.ref f9))) (l9:K.lookup f9=some ⟨oc9,od9,.func (PySem.W.fnOf "is_piece" "is_piece" (j5 U5) (i9 U5) (b0 U5) .none kV9 dc9 pm9 an9 cd9 ct9),sl9⟩) (c9:PySem.W.codeIn K cd9 "is_piece"=true) (k9:PySem.W.keepIn K (.ref f9)=true)
  (a10:PySem.W.nsIn K mainGlobals "is_same"=some (some (.ref f10))) (l10:K.lookup f10=some ⟨oc10,od10,.func (PySem.W.fnOf "is_same" "is_same" (j5 Y0) (i9 Y0) (b0 Y0) .none kV10 dc10 pm10 an10 cd10 ct10),sl10⟩) (c10:PySem.W.codeIn K cd10 "is_same"=true) (k10:PySem.W.keepIn K (.ref f10)=true)
  (a11:PySem.W.nsIn K mainGlobals "both"=some (some (.ref f11))) (l11:K.lookup f11=some ⟨oc11,od11,.func (PySem.W.fnOf "both" "both" (j5 eP) (i9 eP) (b0 eP) .none kV11 dc11 pm11 an11 cd11 ct11),sl11⟩) (c11:PySem.W.codeIn K cd11 "both"=true) (k11:PySem.W.keepIn K (.ref f11)=true)
  (a12:PySem.W.nsIn K mainGlobals "is_rule"=some (some (.ref f12))) (l12:K.lookup f12=some ⟨oc12,od12,.func (PySem.W.fnOf "is_rule" "is_rule" (j5 Y3) (i9 Y3) (b0 Y3) .none kV12 dc12 pm12 an12 cd12 ct12),sl12⟩) (c12:PySem.W.codeIn K cd12 "is_rule"=true) (k12:PySem.W.keepIn K (.ref f12)=true)
  (a13:PySem.W.nsIn K mainGlobals "thing_read"=some (some (.ref f13))) (l13:K.lookup f13=some ⟨oc13,od13,.func (PySem.W.fnOf "thing_read" "thing_read" (j5 O2) (i9 O2) (b0 O2) .none kV13 dc13 pm13 an13 cd13 ct13),sl13⟩) (c13:PySem.W.codeIn K cd13 "thing_read"=true) (k13:PySem.W.keepIn K (.ref f13)=true)
  (a14:PySem.W.nsIn K mainGlobals "things_read"=some (some (.ref f14))) (l14:K.lookup f14=some ⟨oc14,od14,.func (PySem.W.fnOf "things_read" "things_read" (j5 L8) (i9 L8) (b0 L8) .none kV14 dc14 pm14 an14 cd14 ct14),sl14⟩) (c14:PySem.W.codeIn K cd14 "things_read"=true) (k14:PySem.W.keepIn K (.ref f14)=true)
  (a15:PySem.W.nsIn K mainGlobals "web_read"=some (some (.ref f15))) (l15:K.lookup f15=some ⟨oc15,od15,.func (PySem.W.fnOf "web_read" "web_read" (j5 U4) (i9 U4) (b0 U4) .none kV15 dc15 pm15 an15 cd15 ct15),sl15⟩) (c15:PySem.W.codeIn K cd15 "web_read"=true) (k15:PySem.W.keepIn K (.ref f15)=true)
  (a16:PySem.W.nsIn K mainGlobals "rule_read"=some (some (.ref f16))) (l16:K.lookup f16=some ⟨oc16,od16,.func (PySem.W.fnOf "rule_read" "rule_read" (j5 Q1) (i9 Q1) (b0 Q1) .none kV16 dc16 pm16 an16 cd16 ct16),sl16⟩) (c16:PySem.W.codeIn K cd16 "rule_read"=true) (k16:PySem.W.keepIn K (.ref f16)=true)
  (a17:PySem.W.nsIn K mainGlobals "_law_mixed"=some (some (.ref f17))) (l17:K.lookup f17=some ⟨oc17,od17,.func (PySem.W.fnOf "_law_mixed" "_law_mixed" (j5 N1) (i9 N1) (b0 N1) .none kV17 dc17 pm17 an17 cd17 ct17),sl17⟩) (c17:PySem.W.codeIn K cd17 "_law_mixed"=true) (k17:PySem.W.keepIn K (.ref f17)=true)
  (a18:PySem.W.nsIn K mainGlobals "_law_names"=some (some (.ref f18))) (l18:K.lookup f18=some ⟨oc18,od18,.func (PySem.W.fnOf "_law_names" "_law_names" (j5 N7) (i9 N7) (b0 N7) .none kV18 dc18 pm18 an18 cd18 ct18),sl18⟩) (c18:PySem.W.codeIn K cd18 "_law_names"=true) (k18:PySem.W.keepIn K (.ref f18)=true)
  (a19:PySem.W.nsIn K mainGlobals "_law_kinds"=some (some (.ref f19))) (l19:K.lookup f19=some ⟨oc19,od19,.func (PySem.W.fnOf "_law_kinds" "_law_kinds" (j5 N6) (i9 N6) (b0 N6) .none kV19 dc19 pm19 an19 cd19 ct19),sl19⟩) (c19:PySem.W.codeIn K cd19 "_law_kinds"=true) (k19:PySem.W.keepIn K (.ref f19)=true)
  (a20:PySem.W.nsIn K mainGlobals "_law_web"=some (some (.ref f20))) (l20:K.lookup f20=some ⟨oc20,od20,.func (PySem.W.fnOf "_law_web" "_law_web" (j5 V0) (i9 V0) (b0 V0) .none kV20 dc20 pm20 an20 cd20 ct20),sl20⟩) (c20:PySem.W.codeIn K cd20 "_law_web"=true) (k20:PySem.W.keepIn K (.ref f20)=true)
  (a21:PySem.W.nsIn K mainGlobals "_law_drawn"=some (some (.ref f21))) (l21:K.lookup f21=some ⟨oc21,od21,.func (PySem.W.fnOf "_law_drawn" "_law_drawn" (j5 M8) (i9 M8) (b0 M8) .none kV21 dc21 pm21 an21 cd21 ct21),sl21⟩) (c21:PySem.W.codeIn K cd21 "_law_drawn"=true) (k21:PySem.W.keepIn K (.ref f21)=true)
  (a22:PySem.W.nsIn K mainGlobals "_law_words"=some (some (.ref f22))) (l22:K.lookup f22=some ⟨oc22,od22,.func (PySem.W.fnOf "_law_words" "_law_words" (j5 O6) (i9 O6) (b0 O6) .none kV22 dc22 pm22 an22 cd22 ct22),sl22⟩) (c22:PySem.W.codeIn K cd22 "_law_words"=true) (k22:PySem.W.keepIn K (.ref f22)=true)
  (a23:PySem.W.nsIn K mainGlobals "_law_piece"=some (some (.ref f23))) (l23:K.lookup f23=some ⟨oc23,od23,.func (PySem.W.fnOf "_law_piece" "_law_piece" (j5 N9) (i9 N9) (b0 N9) .none kV23 dc23 pm23 an23 cd23 ct23),sl23⟩) (c23:PySem.W.codeIn K cd23 "_law_piece"=true) (k23:PySem.W.keepIn K (.ref f23)=true)
  (a24:PySem.W.nsIn K mainGlobals "_law_rule"=some (some (.ref f24))) (l24:K.lookup f24=some ⟨oc24,od24,.func (PySem.W.fnOf "_law_rule" "_law_rule" (j5 Q7) (i9 Q7) (b0 Q7) .none kV24 dc24 pm24 an24 cd24 ct24),sl24⟩) (c24:PySem.W.codeIn K cd24 "_law_rule"=true) (k24:PySem.W.keepIn K (.ref f24)=true)
  (a25:PySem.W.nsIn K mainGlobals "_law_shown"=some (some (.ref f25))) (l25:K.lookup f25=some ⟨oc25,od25,.func (PySem.W.fnOf "_law_shown" "_law_shown" (j5 O5) (i9 O5) (b0 O5) .none kV25 dc25 pm25 an25 cd25 ct25),sl25⟩) (c25:PySem.W.codeIn K cd25 "_law_shown"=true) (k25:PySem.W.keepIn K (.ref f25)=true)
  (a26:PySem.W.nsIn K mainGlobals "_law_sign"=some (some (.ref f26))) (l26:K.lookup f26=some ⟨oc26,od26,.func (PySem.W.fnOf "_law_sign" "_law_sign" (j5 Q4) (i9 Q4) (b0 Q4) .none kV26 dc26 pm26 an26 cd26 ct26),sl26⟩) (c26:PySem.W.codeIn K cd26 "_law_sign"=true) (k26:PySem.W.keepIn K (.ref f26)=true)
  (a27:PySem.W.nsIn K mainGlobals "_law_spoiled"=some (some (.ref f27))) (l27:K.lookup f27=some ⟨oc27,od27,.func (PySem.W.fnOf "_law_spoiled" "_law_spoiled" (j5 K2) (i9 K2) (b0 K2) .none kV27 dc27 pm27 an27 cd27 ct27),sl27⟩) (c27:PySem.W.codeIn K cd27 "_law_spoiled"=true) (k27:PySem.W.keepIn K (.ref f27)=true)
  (a28:PySem.W.nsIn K mainGlobals "_law_is"=some (some (.ref f28))) (l28:K.lookup f28=some ⟨oc28,od28,.func (PySem.W.fnOf "_law_is" "_law_is" (j5 X8) (i9 X8) (b0 X8) .none kV28 dc28 pm28 an28 cd28 ct28),sl28⟩) (c28:PySem.W.codeIn K cd28 "_law_is"=true) (k28:PySem.W.keepIn K (.ref f28)=true)
  (a29:PySem.W.nsIn K mainGlobals "_law_is_name"=some (some (.ref f29))) (l29:K.lookup f29=some ⟨oc29,od29,.func (PySem.W.fnOf "_law_is_name" "_law_is_name" (j5 K5) (i9 K5) (b0 K5) .none kV29 dc29 pm29 an29 cd29 ct29),sl29⟩) (c29:PySem.W.codeIn K cd29 "_law_is_name"=true) (k29:PySem.W.keepIn K (.ref f29)=true)
  (a30:PySem.W.nsIn K mainGlobals "_law_is_kind"=some (some (.ref f30))) (l30:K.lookup f30=some ⟨oc30,od30,.func (PySem.W.fnOf "_law_is_kind" "_law_is_kind" (j5 K4) (i9 K4) (b0 K4) .none kV30 dc30 pm30 an30 cd30 ct30),sl30⟩) (c30:PySem.W.codeIn K cd30 "_law_is_kind"=true) (k30:PySem.W.keepIn K (.ref f30)=true)
  (a31:PySem.W.nsIn K mainGlobals "_law_word"=some (some (.ref f31))) (l31:K.lookup f31=some ⟨oc31,od31,.func (PySem.W.fnOf "_law_word" "_law_word" (j5 R1) (i9 R1) (b0 R1) .none kV31 dc31 pm31 an31 cd31 ct31),sl31⟩) (c31:PySem.W.codeIn K cd31 "_law_word"=true) (k31:PySem.W.keepIn K (.ref f31)=true)
  (a32:PySem.W.nsIn K mainGlobals "_law_read"=some (some (.ref f32))) (l32:K.lookup f32=some ⟨oc32,od32,.func (PySem.W.fnOf "_law_read" "_law_read" (j5 Q3) (i9 Q3) (b0 Q3) .none kV32 dc32 pm32 an32 cd32 ct32),sl32⟩) (c32:PySem.W.codeIn K cd32 "_law_read"=true) (k32:PySem.W.keepIn K (.ref f32)=true)
  (a33:PySem.W.nsIn K mainGlobals "_law_small"=some (some (.ref f33))) (l33:K.lookup f33=some ⟨oc33,od33,.func (PySem.W.fnOf "_law_small" "_law_small" (j5 M9) (i9 M9) (b0 M9) .none kV33 dc33 pm33 an33 cd33 ct33),sl33⟩) (c33:PySem.W.codeIn K cd33 "_law_small"=true) (k33:PySem.W.keepIn K (.ref f33)=true)
  (a34:PySem.W.nsIn K mainGlobals "_law_agree"=some (some (.ref f34))) (l34:K.lookup f34=some ⟨oc34,od34,.func (PySem.W.fnOf "_law_agree" "_law_agree" (j5 O0) (i9 O0) (b0 O0) .none kV34 dc34 pm34 an34 cd34 ct34),sl34⟩) (c34:PySem.W.codeIn K cd34 "_law_agree"=true) (k34:PySem.W.keepIn K (.ref f34)=true)
  (a35:PySem.W.nsIn K mainGlobals "_law_rule_read"=some (some (.ref f35))) (l35:K.lookup f35=some ⟨oc35,od35,.func (PySem.W.fnOf "_law_rule_read" "_law_rule_read" (j5 G3) (i9 G3) (b0 G3) .none kV35 dc35 pm35 an35 cd35 ct35),sl35⟩) (c35:PySem.W.codeIn K cd35 "_law_rule_read"=true) (k35:PySem.W.keepIn K (.ref f35)=true)
  (a36:PySem.W.nsIn K mainGlobals "_law_told"=some (some (.ref f36))) (l36:K.lookup f36=some ⟨oc36,od36,.func (PySem.W.fnOf "_law_told" "_law_told" (j5 Q2) (i9 Q2) (b0 Q2) .none kV36 dc36 pm36 an36 cd36 ct36),sl36⟩) (c36:PySem.W.codeIn K cd36 "_law_told"=true) (k36:PySem.W.keepIn K (.ref f36)=true)
  (a37:PySem.W.nsIn K mainGlobals "_law_right"=some (some (.ref f37))) (l37:K.lookup f37=some ⟨oc37,od37,.func (PySem.W.fnOf "_law_right" "_law_right" (j5 N3) (i9 N3) (b0 N3) .none kV37 dc37 pm37 an37 cd37 ct37),sl37⟩) (c37:PySem.W.codeIn K cd37 "_law_right"=true) (k37:PySem.W.keepIn K (.ref f37)=true)
  (a38:PySem.W.nsIn K mainGlobals "_law_many"=some (some (.ref f38))) (l38:K.lookup f38=some ⟨oc38,od38,.func (PySem.W.fnOf "_law_many" "_law_many" (j5 R0) (i9 R0) (b0 R0) .none kV38 dc38 pm38 an38 cd38 ct38),sl38⟩) (c38:PySem.W.codeIn K cd38 "_law_many"=true) (k38:PySem.W.keepIn K (.ref f38)=true)
  (a39:PySem.W.nsIn K mainGlobals "_law_rule_many"=some (some (.ref f39))) (l39:K.lookup f39=some ⟨oc39,od39,.func (PySem.W.fnOf "_law_rule_many" "_law_rule_many" (j5 G1) (i9 G1) (b0 G1) .none kV39 dc39 pm39 an39 cd39 ct39),sl39⟩) (c39:PySem.W.codeIn K cd39 "_law_rule_many"=true) (k39:PySem.W.keepIn K (.ref f39)=true)
  (a40:PySem.W.nsIn K mainGlobals "law"=some (some (.ref f40))) (l40:K.lookup f40=some ⟨oc40,od40,.func (PySem.W.fnOf "law" "law" (j5 dI) (i9 dI) (b0 dI) .none kV40 dc40 pm40 an40 cd40 ct40),sl40⟩) (c40:PySem.W.codeIn K cd40 "law"=true) (Bl:PySem.W.keepIn K (.ref f40)=true)
  (z_ValueError:PySem.W.nsIn K mainGlobals "ValueError"=some none)
  (z_all:PySem.W.nsIn K mainGlobals "all"=some none)
  (z_dict:PySem.W.nsIn K mainGlobals "dict"=some none)
  (z_enumerate:PySem.W.nsIn K mainGlobals "enumerate"=some none)
  (z_int:PySem.W.nsIn K mainGlobals "int"=some none)
  (z_isinstance:PySem.W.nsIn K mainGlobals "isinstance"=some none)
  (z_len:PySem.W.nsIn K mainGlobals "len"=some none)
  (z_list:PySem.W.nsIn K mainGlobals "list"=some none)
  (z_range:PySem.W.nsIn K mainGlobals "range"=some none)
  (z_sorted:PySem.W.nsIn K mainGlobals "sorted"=some none)
  (z_str:PySem.W.nsIn K mainGlobals "str"=some none)
  (z_sum:PySem.W.nsIn K mainGlobals "sum"=some none)
  (z_tuple:PySem.W.nsIn K mainGlobals "tuple"=some none)
  (v_MOST_BARS:PySem.W.nsIn K mainGlobals "MOST_BARS"=some (some (.int 3 t_MOST_BARS)))
  (v_MOST_IN_BAR:PySem.W.nsIn K mainGlobals "MOST_IN_BAR"=some (some (.int 6 t_MOST_IN_BAR)))
  (v_MOST_IN_SIDE:PySem.W.nsIn K mainGlobals "MOST_IN_SIDE"=some (some (.int 4 t_MOST_IN_SIDE)))
  (v_MOST_KIND_SIGNS:PySem.W.nsIn K mainGlobals "MOST_KIND_SIGNS"=some (some (.int 8 t_MOST_KIND_SIGNS)))
  (v_MOST_NAME_SIGNS:PySem.W.nsIn K mainGlobals "MOST_NAME_SIGNS"=some (some (.int 24 t_MOST_NAME_SIGNS)))
  (v_MOST_POINTS:PySem.W.nsIn K mainGlobals "MOST_POINTS"=some (some (.int 40 t_MOST_POINTS)))
  (v_MOST_TIES:PySem.W.nsIn K mainGlobals "MOST_TIES"=some (some (.int 60 t_MOST_TIES)))
  (v_NAME_SIGNS:PySem.W.nsIn K mainGlobals "NAME_SIGNS"=some (some (.str dN t_NAME_SIGNS)))
  (v_NOTHING:PySem.W.nsIn K mainGlobals "NOTHING"=some (some (.str cT t_NOTHING)))
  (v_SMALL_LETTERS:PySem.W.nsIn K mainGlobals "SMALL_LETTERS"=some (some (.str bP t_SMALL_LETTERS)))
  (n_GlueError:PySem.W.nsIn K mainGlobals "GlueError"=some (some (.ref C_GlueError)))
  (n_NoText:PySem.W.nsIn K mainGlobals "NoText"=some (some (.ref C_NoText)))
  (xr_NoText:PySem.W.excIn K C_NoText CH "ValueError.__new__"=true)
  (xt_GlueError:PySem.W.typeIn K (.ref C_GlueError)=some (.type "type"))
  (xb_GlueError:PySem.W.subIn K (.ref C_GlueError) (.type "BaseException")=some true)
  (xc_GlueError:PySem.W.clsIn K C_GlueError=some cd_GlueError)
  (xt_NoText:PySem.W.typeIn K (.ref C_NoText)=some (.type "type"))
  (xb_NoText:PySem.W.subIn K (.ref C_NoText) (.type "BaseException")=some true)
  (xc_NoText:PySem.W.clsIn K C_NoText=some cd_NoText)
  (xs_NoText_GlueError:PySem.W.subIn K (.ref C_NoText) (.ref C_GlueError)=some true)
  (xs_NoText_NoText:PySem.W.subIn K (.ref C_NoText) (.ref C_NoText)=some true)
  (xe_NoText:ExN K C_NoText)
  (xi_NoText_NoText:PySem.W.kitOne K (.ref C_NoText) (.ref C_NoText)=some true)
  (xi_NoText_ValueError:PySem.W.kitOne K (.ref C_NoText) (.type "ValueError")=some true)
  :
  ∃fd:FuncData,(∀(s:Shared) (v:Value),BindsTo s fd ⟨[v],[]⟩ [("_law_script",v)])∧∀base:Heap,K.In base→base.Ns mainGlobals mg→E3 l.prog w K mg base B4 10 fa fd ["_law_script"] (jJ K):=by
 have e:=hfa.symm.trans (PySem.W.mg_of X G a40)
 cases e
 have ec_GlueError:cA K "GlueError"=C_GlueError:=by unfold cA;rw[n_GlueError]
 have ec_NoText:cA K "NoText"=C_NoText:=by unfold cA;rw[n_NoText]
 have T:Txt K mg:=⟨by rw[ec_NoText];exact⟨PySem.W.mg_of X G n_NoText,xr_NoText⟩,by rw[ec_GlueError];exact⟨PySem.W.mg_of X G n_GlueError,xt_GlueError,xb_GlueError,by rw[xc_GlueError];rfl⟩,by rw[ec_NoText];exact⟨PySem.W.mg_of X G n_NoText,xt_NoText,xb_NoText,by rw[xc_NoText];rfl⟩,by rw[ec_NoText];exact⟨_,PySem.W.mg_of X G n_NoText,rfl⟩,by rw[ec_NoText,ec_GlueError];exact xs_NoText_GlueError,by rw[ec_NoText];exact xs_NoText_NoText,by rw[ec_NoText];exact xe_NoText,by rw[ec_NoText];exact xi_NoText_NoText,by rw[ec_NoText];exact xi_NoText_ValueError,PySem.W.mg_none_of X G z_ValueError,PySem.W.mg_none_of X G z_all,PySem.W.mg_none_of X G z_dict,PySem.W.mg_none_of X G z_enumerate,PySem.W.mg_none_of X G z_int,PySem.W.mg_none_of X G z_isinstance,PySem.W.mg_none_of X G z_len,PySem.W.mg_none_of X G z_list,PySem.W.mg_none_of X G z_range,PySem.W.mg_none_of X G z_sorted,PySem.W.mg_none_of X G z_str,PySem.W.mg_none_of X G z_sum,PySem.W.mg_none_of X G z_tuple,⟨_,PySem.W.mg_of X G v_MOST_BARS,_,rfl⟩,⟨_,PySem.W.mg_of X G v_MOST_IN_BAR,_,rfl⟩,⟨_,PySem.W.mg_of X G v_MOST_IN_SIDE,_,rfl⟩,⟨_,PySem.W.mg_of X G v_MOST_KIND_SIGNS,_,rfl⟩,⟨_,PySem.W.mg_of X G v_MOST_NAME_SIGNS,_,rfl⟩,⟨_,PySem.W.mg_of X G v_MOST_POINTS,_,rfl⟩,⟨_,PySem.W.mg_of X G v_MOST_TIES,_,rfl⟩,⟨_,PySem.W.mg_of X G v_NAME_SIGNS,_,rfl⟩,⟨_,PySem.W.mg_of X G v_NOTHING,_,rfl⟩,⟨_,PySem.W.mg_of X G v_SMALL_LETTERS,_,rfl⟩⟩
 have F0:=u9 (st:=N2) l0 c0 k0
 have F1:=u9 (st:=Y1) l1 c1 k1
 have F2:=u9 (st:=X7) l2 c2 k2
 have F3:=u9 (st:=aT) l3 c3 k3
 have F4:=u9 (st:=bc) l4 c4 k4
 have F5:=u9 (st:=V4) l5 c5 k5
 have F6:=u9 (st:=aO) l6 c6 k6
 have F7:=u9 (st:=aY) l7 c7 k7
 have F8:=u9 (st:=X6) l8 c8 k8
 have F9:=u9 (st:=U5) l9 c9 k9
 have F10:=u9 (st:=Y0) l10 c10 k10
 have F11:=u9 (st:=eP) l11 c11 k11
 have F12:=u9 (st:=Y3) l12 c12 k12
 have F13:=u9 (st:=O2) l13 c13 k13
 have F14:=u9 (st:=L8) l14 c14 k14
 have F15:=u9 (st:=U4) l15 c15 k15
 have F16:=u9 (st:=Q1) l16 c16 k16
 have F17:=u9 (st:=N1) l17 c17 k17
 have F18:=u9 (st:=N7) l18 c18 k18
 have F19:=u9 (st:=N6) l19 c19 k19
 have F20:=u9 (st:=V0) l20 c20 k20
 have F21:=u9 (st:=M8) l21 c21 k21
 have F22:=u9 (st:=O6) l22 c22 k22
 have F23:=u9 (st:=N9) l23 c23 k23
 have F24:=u9 (st:=Q7) l24 c24 k24
 have F25:=u9 (st:=O5) l25 c25 k25
 have F26:=u9 (st:=Q4) l26 c26 k26
 have F27:=u9 (st:=K2) l27 c27 k27
 have F28:=u9 (st:=X8) l28 c28 k28
 have F29:=u9 (st:=K5) l29 c29 k29
 have F30:=u9 (st:=K4) l30 c30 k30
 have F31:=u9 (st:=R1) l31 c31 k31
 have F32:=u9 (st:=Q3) l32 c32 k32
 have F33:=u9 (st:=M9) l33 c33 k33
 have F34:=u9 (st:=O0) l34 c34 k34
 have F35:=u9 (st:=G3) l35 c35 k35
 have F36:=u9 (st:=Q2) l36 c36 k36
 have F37:=u9 (st:=N3) l37 c37 k37
 have F38:=u9 (st:=R0) l38 c38 k38
 have F39:=u9 (st:=G1) l39 c39 k39
 have F40:=u9 (st:=dI) l40 c40 Bl
 refine⟨PySem.W.fnOf "law" "law" (j5 dI) (i9 dI) (b0 dI) .none kV40 dc40 pm40 an40 cd40 ct40,fun s v=> .of_eq rfl,fun base _ _=>?_⟩
 have O1:E2 l.prog w K mg base B4 1 "is_text_of" ["thing","signs","most"] [] (V8 K):=⟨f0,_,[],iU T F0,PySem.W.mg_of X G a0,k0,F0.binds (ps:=["thing","signs","most"]) fun _ _ _ _ _ _ us hl=>match us,hl with|[_,_,_],_=>rfl,.nil⟩
 have bN:E2 l.prog w K mg base B4 1 "in_order" ["named"] [] (cG K):=⟨f5,_,[],lz T F5,PySem.W.mg_of X G a5,k5,F5.binds (ps:=["named"]) fun _ _ _ _ _ _ us hl=>match us,hl with|[_],_=>rfl,.nil⟩
 have aV:E2 l.prog w K mg base B4 1 "things" ["web"] [] (cQ K):=⟨f7,_,[],rh T F7,PySem.W.mg_of X G a7,k7,F7.binds (ps:=["web"]) fun _ _ _ _ _ _ us hl=>match us,hl with|[_],_=>rfl,.nil⟩
 have eV:E2 l.prog w K mg base B4 1 "is_part" ["web","other"] [] (du K):=⟨f8,_,[],mQ T F8,PySem.W.mg_of X G a8,k8,F8.binds (ps:=["web","other"]) fun _ _ _ _ _ _ us hl=>match us,hl with|[_,_],_=>rfl,.nil⟩
 have eI:E2 l.prog w K mg base B4 1 "is_same" ["name","left","right"] [] (dw K):=⟨f10,_,[],oE T F10,PySem.W.mg_of X G a10,k10,F10.binds (ps:=["name","left","right"]) fun _ _ _ _ _ _ us hl=>match us,hl with|[_,_,_],_=>rfl,.nil⟩
 have bM:E2 l.prog w K mg base (eg l.prog w) 1 "thing_read" ["text"] [] (aC K):=⟨f13,_,[],iP T F13,PySem.W.mg_of X G a13,k13,F13.binds (ps:=["text"]) fun _ _ _ _ _ _ us hl=>match us,hl with|[_],_=>rfl,.nil⟩
 have i4:E2 l.prog w K mg base B4 1 "_law_mixed" ["_law_cell","_law_k"] [] (E1 K):=⟨f17,_,[],iF T F17,PySem.W.mg_of X G a17,k17,F17.binds (ps:=["_law_cell","_law_k"]) fun _ _ _ _ _ _ us hl=>match us,hl with|[_,_],_=>rfl,.nil⟩
 have N5:E2 l.prog w K mg base B4 1 "_law_kinds" ["_law_cell"] [] (V6 K):=⟨f19,_,[],iI T F19,PySem.W.mg_of X G a19,k19,F19.binds (ps:=["_law_cell"]) fun _ _ _ _ _ _ us hl=>match us,hl with|[_],_=>rfl,.nil⟩
 have S4:E2 l.prog w K mg base B4 1 "_law_shown" ["_law_web_here"] [] (ar K):=⟨f25,_,[],iK T F25,PySem.W.mg_of X G a25,k25,F25.binds (ps:=["_law_web_here"]) fun _ _ _ _ _ _ us hl=>match us,hl with|[_],_=>rfl,.nil⟩
 have cy:E2 l.prog w K mg base B4 1 "_law_sign" ["_law_cell"] [] (bJ K):=⟨f26,_,[],ki T F26,PySem.W.mg_of X G a26,k26,F26.binds (ps:=["_law_cell"]) fun _ _ _ _ _ _ us hl=>match us,hl with|[_],_=>rfl,.nil⟩
 have X9:E2 l.prog w K mg base B4 1 "_law_is" ["_law_text","_law_most","_law_first","_law_signs"] [] (bH K):=⟨f28,_,[],mX T F28,PySem.W.mg_of X G a28,k28,F28.binds (ps:=["_law_text","_law_most","_law_first","_law_signs"]) fun _ _ _ _ _ _ us hl=>match us,hl with|[_,_,_,_],_=>rfl,.nil⟩
 have bq:E2 l.prog w K mg base B4 1 "_law_agree" ["_law_left","_law_right_here"] [] (aH K):=⟨f34,_,[],iL T F34,PySem.W.mg_of X G a34,k34,F34.binds (ps:=["_law_left","_law_right_here"]) fun _ _ _ _ _ _ us hl=>match us,hl with|[_,_],_=>rfl,.nil⟩
 have cu:E2 l.prog w K mg base B4 1 "_law_many" ["_law_cell"] [] (bD K):=⟨f38,_,[],ko T F38,PySem.W.mg_of X G a38,k38,F38.binds (ps:=["_law_cell"]) fun _ _ _ _ _ _ us hl=>match us,hl with|[_],_=>rfl,.nil⟩
 have U8:E2 l.prog w K mg base B4 1 "_law_rule_many" ["_law_cell"] [] (S3 K):=⟨f39,_,[],dW T F39,PySem.W.mg_of X G a39,k39,F39.binds (ps:=["_law_cell"]) fun _ _ _ _ _ _ us hl=>match us,hl with|[_],_=>rfl,.nil⟩
 have U3:E2 l.prog w K mg base B4 2 "is_name" ["thing"] [] (bA K):=⟨f1,_,[],nK T O1 F1,PySem.W.mg_of X G a1,k1,F1.binds (ps:=["thing"]) fun _ _ _ _ _ _ us hl=>match us,hl with|[_],_=>rfl,.nil⟩
 have N8:E2 l.prog w K mg base B4 2 "is_kind" ["thing"] [] (Y5 K):=⟨f2,_,[],oA T O1 F2,PySem.W.mg_of X G a2,k2,F2.binds (ps:=["thing"]) fun _ _ _ _ _ _ us hl=>match us,hl with|[_],_=>rfl,.nil⟩
 have ie:E2 l.prog w K mg base B4 2 "copied" ["web"] [] (eO K):=⟨f6,_,[],rl T bN F6,PySem.W.mg_of X G a6,k6,F6.binds (ps:=["web"]) fun _ _ _ _ _ _ us hl=>match us,hl with|[_],_=>rfl,.nil⟩
 have ox:E2 l.prog w K mg base B4 2 "both" ["web","other"] [] (jY K):=⟨f11,_,[],wX T aV F11,PySem.W.mg_of X G a11,k11,F11.binds (ps:=["web","other"]) fun _ _ _ _ _ _ us hl=>match us,hl with|[_,_],_=>rfl,.nil⟩
 have aJ:E2 l.prog w K mg base (eg l.prog w) 2 "things_read" ["text"] [] (Z3 K):=⟨f14,_,[],gF T bM F14,PySem.W.mg_of X G a14,k14,F14.binds (ps:=["text"]) fun _ _ _ _ _ _ us hl=>match us,hl with|[_],_=>rfl,.nil⟩
 have bo:E2 l.prog w K mg base B4 2 "_law_names" ["_law_cell","_law_many_here"] [] (aF K):=⟨f18,_,[],iC T i4 F18,PySem.W.mg_of X G a18,k18,F18.binds (ps:=["_law_cell","_law_many_here"]) fun _ _ _ _ _ _ us hl=>match us,hl with|[_,_],_=>rfl,.nil⟩
 have dm:E2 l.prog w K mg base B4 2 "_law_web" ["_law_cells","_law_names_here","_law_kinds_here"] [] (cJ K):=⟨f20,_,[],ll T i4 F20,PySem.W.mg_of X G a20,k20,F20.binds (ps:=["_law_cells","_law_names_here","_law_kinds_here"]) fun _ _ _ _ _ _ us hl=>match us,hl with|[_,_,_],_=>rfl,.nil⟩
 have bG:E2 l.prog w K mg base B4 2 "_law_words" ["_law_cell","_law_many_here"] [] (aG K):=⟨f22,_,[],iJ T i4 F22,PySem.W.mg_of X G a22,k22,F22.binds (ps:=["_law_cell","_law_many_here"]) fun _ _ _ _ _ _ us hl=>match us,hl with|[_,_],_=>rfl,.nil⟩
 have T3:E2 l.prog w K mg base B4 2 "_law_piece" ["_law_points","_law_ties","_law_words_here","_law_kinds_here","_law_cell"] [] (az K):=⟨f23,_,[],iO T i4 F23,PySem.W.mg_of X G a23,k23,F23.binds (ps:=["_law_points","_law_ties","_law_words_here","_law_kinds_here","_law_cell"]) fun _ _ _ _ _ _ us hl=>match us,hl with|[_,_,_,_,_],_=>rfl,.nil⟩
 have S6:E2 l.prog w K mg base B4 2 "_law_spoiled" ["_law_text","_law_cell"] [] (W9 K):=⟨f27,_,[],fT T cy F27,PySem.W.mg_of X G a27,k27,F27.binds (ps:=["_law_text","_law_cell"]) fun _ _ _ _ _ _ us hl=>match us,hl with|[_,_],_=>rfl,.nil⟩
 have Y6:E2 l.prog w K mg base B4 2 "_law_is_name" ["_law_text"] [] (X1 K):=⟨f29,_,[],fQ T X9 F29,PySem.W.mg_of X G a29,k29,F29.binds (ps:=["_law_text"]) fun _ _ _ _ _ _ us hl=>match us,hl with|[_],_=>rfl,.nil⟩
 have G4:E2 l.prog w K mg base B4 2 "_law_is_kind" ["_law_text"] [] (P7 K):=⟨f30,_,[],fY T X9 F30,PySem.W.mg_of X G a30,k30,F30.binds (ps:=["_law_text"]) fun _ _ _ _ _ _ us hl=>match us,hl with|[_],_=>rfl,.nil⟩
 have ix:E2 l.prog w K mg base B4 3 "is_tie" ["thing","points"] [] (eQ K):=⟨f3,_,[],rq T N8 U3 F3,PySem.W.mg_of X G a3,k3,F3.binds (ps:=["thing","points"]) fun _ _ _ _ _ _ us hl=>match us,hl with|[_,_],_=>rfl,.nil⟩
 have bK:E2 l.prog w K mg base B4 3 "_law_drawn" ["_law_script","_law_start","_law_most"] [] (aK K):=⟨f21,_,[],iS T dm N5 i4 bo F21,PySem.W.mg_of X G a21,k21,F21.binds (ps:=["_law_script","_law_start","_law_most"]) fun _ _ _ _ _ _ us hl=>match us,hl with|[_,_,_],_=>rfl,.nil⟩
 have bV:E2 l.prog w K mg base B4 3 "_law_rule" ["_law_cell","_law_kinds_here","_law_most"] [] (bC K):=⟨f24,_,[],jG T bG T3 i4 F24,PySem.W.mg_of X G a24,k24,F24.binds (ps:=["_law_cell","_law_kinds_here","_law_most"]) fun _ _ _ _ _ _ us hl=>match us,hl with|[_,_,_],_=>rfl,.nil⟩
 have cK:E2 l.prog w K mg base B4 3 "_law_word" ["_law_word_here","_law_points","_law_ties"] [] (bI K):=⟨f31,_,[],km T Y6 G4 F31,PySem.W.mg_of X G a31,k31,F31.binds (ps:=["_law_word_here","_law_points","_law_ties"]) fun _ _ _ _ _ _ us hl=>match us,hl with|[_,_,_],_=>rfl,.nil⟩
 have S9:E2 l.prog w K mg base B4 3 "_law_small" ["_law_web_here","_law_most"] [] (au K):=⟨f33,_,[],iM T G4 F33,PySem.W.mg_of X G a33,k33,F33.binds (ps:=["_law_web_here","_law_most"]) fun _ _ _ _ _ _ us hl=>match us,hl with|[_,_],_=>rfl,.nil⟩
 have aW:E2 l.prog w K mg base B4 4 "is_web" ["thing"] [] (cM K):=⟨f4,_,[],qW T N8 U3 ix F4,PySem.W.mg_of X G a4,k4,F4.binds (ps:=["thing"]) fun _ _ _ _ _ _ us hl=>match us,hl with|[_],_=>rfl,.nil⟩
 have K7:E2 l.prog w K mg base B4 4 "_law_read" ["_law_text"] [] (X2 K):=⟨f32,_,[],kc T cK F32,PySem.W.mg_of X G a32,k32,F32.binds (ps:=["_law_text"]) fun _ _ _ _ _ _ us hl=>match us,hl with|[_],_=>rfl,.nil⟩
 have Z4:E2 l.prog w K mg base B4 5 "is_piece" ["thing","most"] [] (cf K):=⟨f9,_,[],lR T aW N8 aV F9,PySem.W.mg_of X G a9,k9,F9.binds (ps:=["thing","most"]) fun _ _ _ _ _ _ us hl=>match us,hl with|[_,_],_=>rfl,.nil⟩
 have J2:E2 l.prog w K mg base (eg l.prog w) 5 "web_read" ["text"] [] (aa K):=⟨f15,_,[],lS T aJ aW ie F15,PySem.W.mg_of X G a15,k15,F15.binds (ps:=["text"]) fun _ _ _ _ _ _ us hl=>match us,hl with|[_],_=>rfl,.nil⟩
 have O4:E2 l.prog w K mg base B4 5 "_law_rule_read" ["_law_text"] [] (S5 K):=⟨f35,_,[],dQ T K7 S9 bq F35,PySem.W.mg_of X G a35,k35,F35.binds (ps:=["_law_text"]) fun _ _ _ _ _ _ us hl=>match us,hl with|[_],_=>rfl,.nil⟩
 have fi:E2 l.prog w K mg base B4 6 "is_rule" ["thing"] [] (dg K):=⟨f12,_,[],mS T Z4 eI ox eV F12,PySem.W.mg_of X G a12,k12,F12.binds (ps:=["thing"]) fun _ _ _ _ _ _ us hl=>match us,hl with|[_],_=>rfl,.nil⟩
 have Q5:E2 l.prog w K mg base (eg l.prog w) 7 "rule_read" ["text"] [] (bB K):=⟨f16,_,[],jX T J2 fi F16,PySem.W.mg_of X G a16,k16,F16.binds (ps:=["text"]) fun _ _ _ _ _ _ us hl=>match us,hl with|[_],_=>rfl,.nil⟩
 have cD:E2 l.prog w K mg base B4 8 "_law_told" ["_law_which","_law_text","_law_way"] [] (bz K):=⟨f36,_,[],jF T Q5 J2 F36,PySem.W.mg_of X G a36,k36,F36.binds (ps:=["_law_which","_law_text","_law_way"]) fun _ _ _ _ _ _ us hl=>match us,hl with|[_,_,_],_=>rfl,.nil⟩
 have J1:E2 l.prog w K mg base B4 9 "_law_right" ["_law_which","_law_text","_law_way"] [] (aD K):=⟨f37,_,[],iR T O4 K7 cD F37,PySem.W.mg_of X G a37,k37,F37.binds (ps:=["_law_which","_law_text","_law_way"]) fun _ _ _ _ _ _ us hl=>match us,hl with|[_,_,_],_=>rfl,.nil⟩
 exact yB T bK J1 U8 cu bV N5 S4 S6 i4 F40
theorem walk {l:PySem.W.OpenLaw}{q:Program}{loose:List Str}{XP:(Str→Option Value)→Heap→Prop}{YP:World→Heap→Prop}{d:DefRec}{K:Params→PySem.W.Frag}(hn:l.most=some 63)(hdf:d.params.defaults=[])
  (hY:∀(w:World) (h:Heap),YP w h→(K w.params).In h)
  (F:∀(w:World) (mg:Str→Option Value) (fa:Addr) (h:Heap),(K w.params).In h→h.Ns mainGlobals mg→mg d.name=some (.ref fa)→
   ∃fd:FuncData,(∀(s:Shared) (u:Value),BindsTo s fd ⟨[u],[]⟩ [("_law_script",u)])∧∀base:Heap,(K w.params).In base→base.Ns mainGlobals mg→E3 l.prog w (K w.params) mg base B4 10 fa fd ["_law_script"] (jJ (K w.params))):
  PySem.W.WalkO q loose XP YP l.row.toRowW d [] (fun f vs=>PySem.call f vs):=
 L2.walk_of (n:=63) (k:=10) (x:="_law_script") (CX:=fun _=>B4) (sp:=fun w=>jJ (K w.params)) hn (by decide) hdf ⟨rfl,by decide,by decide⟩ hY F (fun _ _ a ns hl _ hS=>⟨a,ns,rfl,hS,hl,fun _=>rfl⟩) fun _ _ _ _ _ z=>z
end K73
namespace PySem.W.Fast
def tw6943240097853919642:=Nat
def tw17707564684906167829:=Nat
def tw10460326947195200063:=Nat
def tw8724258053481765428:=Nat
def tw6409443564839332133:=Nat
def tw14667596281674655103:=Nat
def tw17794995107470260983:=Nat
def tw6432144285580705297:=Nat
def tw1990547431815249239:=Nat
def tw11767985426322260133:=Nat
def tw2096467616376334886:=Nat
def tw9748143565811346865:=Nat
def tw11608099264553517418:=Nat
def tw11706926632336552718:=Nat
def tw14627656164160350659:=Nat
def tw7530773054429513743:=Nat
def tw2739520749036852106:=Nat
def tw1135491133890113653:=Nat
def tw16838636021165832004:=Nat
def tw11010721585954721046:=Nat
def tw1961730032327463532:=Nat
def tw18346252583036715084:=Nat
def tw978648227269003751:=Nat
def tw12486007141067070871:=Nat
def tw10987340943636919592:=Nat
def tw16612750805355769591:=Nat
def tw9465132010749185957:=Nat
def tw17125703971174259050:=Nat
def tw15790499042319731774:=Nat
def tw14959496294865267101:=Nat
def tw9920754338103232829:=Nat
def tw18336436644376181508:=Nat
def tw4142874479280711718:=Nat
def tw17920689361451951497:=Nat
def tw3726951802197798201:=Nat
def tw9248023489186978404:=Nat
def tw2759307512779382755:=Nat
def tw569113014870752554:=Nat
def tw209686538928746229:=Nat
def tw5146317636347882405:=Nat
def tw9452593509269702340:=Nat
def tw13450040942636842568:=Nat
def tw1495993054735896111:=Nat
def tw11842018679470610188:=Nat
def tw14102935152537877773:=Nat
def tw13215710371210170750:=Nat
def tw10672649127332628087:=Nat
def tw18302414860286725321:=Nat
def tw6511479776165671548:=Nat
def tw1758983546573591918:=Nat
def tw14580392862500241953:=Nat
def tw5443961570531912323:=Nat
def tw18324940235922818745:=Nat
def tw3214863512156367919:=Nat
def tw17107424123647913068:=Nat
def tw8465975410310000418:=Nat
def tw18061499531345011113:=Nat
def tw4096161683391016525:=Nat
def tw11409303056014870390:=Nat
def tw16609806170602497841:=Nat
def tw2138340552699276451:=Nat
def tw3034497084416606017:=Nat
def tw5115920579720168084:=Nat
def tw16288504658270960552:=Nat
def tw11219011405579329828:=Nat
def tw2242643804333873280:=Nat
def tw4887040580889532756:=Nat
def tw4825964364830796670:=Nat
def tw11552078661353493711:=Nat
def tw18176709266692929819:=Nat
def tw1904786439077883553:=Nat
def tw6121578408651677105:=Nat
def tw1802867989102197736:=Nat
def tw6330413966045776952:=Nat
def tw17220132827107335981:=Nat
def tw6304241396550459833:=Nat
def tw4698583848230673359:=Nat
def tw16808817851071749603:=Nat
def tw9833347428268090918:=Nat
end PySem.W.Fast
open PySem PySem.W PyProof.Rows
local macro_rules| `(tactic|walk_at "N")=> `(tactic|(refine' L2.ExN.mk ?a ?b ?d ?e ?f ?g ?h;(case a=>k_is);(case b=>k_is);(case d=>k_is);(case e=>k_is);(case f=>k_is);(case g=>k_is);(case h=>k_is)))
set_option maxRecDepth 100000 in
set_option maxHeartbeats 0 in
theorem PySem.Challenge.cw_gluework_k73_texts_refused_holds : PySem.Challenge.rw_gluework_k73_texts_refused.Holds := by
 w_on;o_law;k_head;(case hw=>w_witness2)
 k_fill
 refine K73.walk (l:=PySem.Challenge.rw_gluework_k73_texts_refused) rfl rfl (fun w h Y=>PySem.W.kIn_of Y) ?F
 case F=>
  intro w mg fa h KX G hmg
  refine' K73.all_mk KX G hmg ?a0 ?l0 ?c0 ?k0 ?a1 ?l1 ?c1 ?k1 ?a2 ?l2 ?c2 ?k2 ?a3 ?l3 ?c3 ?k3 ?a4 ?l4 ?c4 ?k4 ?a5 ?l5 ?c5 ?k5 ?a6 ?l6 ?c6 ?k6 ?a7 ?l7 ?c7 ?k7 ?a8 ?l8 ?c8 ?k8 ?a9 ?l9 ?c9 ?k9 ?a10 ?l10 ?c10 ?k10 ?a11 ?l11 ?c11 ?k11 ?a12 ?l12 ?c12 ?k12 ?a13 ?l13 ?c13 ?k13 ?a14 ?l14 ?c14 ?k14 ?a15 ?l15 ?c15 ?k15 ?a16 ?l16 ?c16 ?k16 ?a17 ?l17 ?c17 ?k17 ?a18 ?l18 ?c18 ?k18 ?a19 ?l19 ?c19 ?k19 ?a20 ?l20 ?c20 ?k20 ?a21 ?l21 ?c21 ?k21 ?a22 ?l22 ?c22 ?k22 ?a23 ?l23 ?c23 ?k23 ?a24 ?l24 ?c24 ?k24 ?a25 ?l25 ?c25 ?k25 ?a26 ?l26 ?c26 ?k26 ?a27 ?l27 ?c27 ?k27 ?a28 ?l28 ?c28 ?k28 ?a29 ?l29 ?c29 ?k29 ?a30 ?l30 ?c30 ?k30 ?a31 ?l31 ?c31 ?k31 ?a32 ?l32 ?c32 ?k32 ?a33 ?l33 ?c33 ?k33 ?a34 ?l34 ?c34 ?k34 ?a35 ?l35 ?c35 ?k35 ?a36 ?l36 ?c36 ?k36 ?a37 ?l37 ?c37 ?k37 ?a38 ?l38 ?c38 ?k38 ?a39 ?l39 ?c39 ?k39 ?a40 ?l40 ?c40 ?Bl ?z_ValueError ?z_all ?z_dict ?z_enumerate ?z_int ?z_isinstance ?z_len ?z_list ?z_range ?z_sorted ?z_str ?z_sum ?z_tuple ?v_MOST_BARS ?v_MOST_IN_BAR ?v_MOST_IN_SIDE ?v_MOST_KIND_SIGNS ?v_MOST_NAME_SIGNS ?v_MOST_POINTS ?v_MOST_TIES ?v_NAME_SIGNS ?v_NOTHING ?v_SMALL_LETTERS ?n_GlueError ?n_NoText ?xr_NoText ?xt_GlueError ?xb_GlueError ?xc_GlueError ?xt_NoText ?xb_NoText ?xc_NoText ?xs_NoText_GlueError ?xs_NoText_NoText ?xe_NoText ?xi_NoText_NoText ?xi_NoText_ValueError
  (case a0|l0|c0|k0|a1|l1|c1|k1|a2|l2|c2|k2|a3|l3|c3|k3|a4|l4|c4|k4|a5|l5|c5|k5|a6|l6|c6|k6|a7|l7|c7|k7|a8|l8|c8|k8|a9|l9|c9|k9|a10|l10|c10|k10|a11|l11|c11|k11|a12|l12|c12|k12|a13|l13|c13|k13|a14|l14|c14|k14|a15|l15|c15|k15|a16|l16|c16|k16|a17|l17|c17|k17|a18|l18|c18|k18|a19|l19|c19|k19|a20|l20|c20|k20|a21|l21|c21|k21|a22|l22|c22|k22|a23|l23|c23|k23|a24|l24|c24|k24|a25|l25|c25|k25|a26|l26|c26|k26|a27|l27|c27|k27|a28|l28|c28|k28|a29|l29|c29|k29|a30|l30|c30|k30|a31|l31|c31|k31|a32|l32|c32|k32|a33|l33|c33|k33|a34|l34|c34|k34|a35|l35|c35|k35|a36|l36|c36|k36|a37|l37|c37|k37|a38|l38|c38|k38|a39|l39|c39|k39|a40|l40|c40|Bl|z_ValueError|z_all|z_dict|z_enumerate|z_int|z_isinstance|z_len|z_list|z_range|z_sorted|z_str|z_sum|z_tuple|v_MOST_BARS|v_MOST_IN_BAR|v_MOST_IN_SIDE|v_MOST_KIND_SIGNS|v_MOST_NAME_SIGNS|v_MOST_POINTS|v_MOST_TIES|v_NAME_SIGNS|v_NOTHING|v_SMALL_LETTERS|n_GlueError|n_NoText=>k_is)
  (case xr_NoText=>k_exc)
  (case xt_GlueError|xb_GlueError|xc_GlueError|xt_NoText|xb_NoText|xc_NoText|xs_NoText_GlueError|xs_NoText_NoText=>k_is)
  (case xe_NoText=>walk_at "N")
  (case xi_NoText_NoText=>kit_is)
  (case xi_NoText_ValueError=>kit_is)
