import PyProof.Rows.All
import Wide.All
import OpenK.AllK
import Wide.FinOn
import PyProof.EqAt
import PyProof.EqKinds
import PyProof.TupleCall
import PyProof.NeKinds
import PyProof.AttrMissHeap
import PyProof.ExcClass3
import PyProof.RulesAs
import PyProof.Rows.FStr
import OpenK.KOwn
import PyProof.NsDelKeeps
import PyProof.Rows.Catch
import PyProof.Rows.SetFrom
import PyProof.SetRoads
import PyProof.FactsAll.NoneType
import KE.KRevIter
import PyProof.ZipIter
import KE.KItemsList
import PyProof.MinMaxWalk
import PyProof.WalksMore
import PyProof.FString5
import PyProof.Rows.SortShellK
import KE.KIsAll
import PyProof.ExcArgsOwn
import PySem.Challenge.RW_gluework_k46_split_steps
set_option Elab.async false
set_option linter.all false
set_option maxRecDepth 100000
namespace L2
open PySem PySem.Spec PyProof.Rows
abbrev j8:=Sum Int Str
def bq:j8→Value→Bool
 | .inl k,v=>Value.isInt k v
 | .inr x,v=>Value.isStrOf x v
def CZ (w:World):j8→Int
 | .inl k=>hashInt k
 | .inr x=>hashStr w x
theorem z4:∀{k:j8} {v:Value},bq k v=true→(∃i t,k=Sum.inl i∧v=Value.int i t)∨(∃x t,k=Sum.inr x∧v=Value.str x t)
 | .inl i,v,h=>by
  obtain⟨t,e⟩:=Value.isInt_shape (k:=i) (v:=v) h
  exact .inl ⟨i,t,rfl,e⟩
 | .inr x,v,h=>by
  obtain⟨t,e⟩:=Value.isStrOf_shape (x:=x) (v:=v) h
  exact .inr ⟨x,t,rfl,e⟩
theorem rD (i:Int)(t:Tok):bq (.inl i) (.int i t)=true:=by simp [bq,Value.isInt]
theorem si (x:Str)(t:Tok):bq (.inr x) (.str x t)=true:=by simp [bq,Value.isStrOf]
theorem uT (a b:Int):decide ((Sum.inl a:j8)=Sum.inl b)=(a==b):=by
 by_cases e:a=b
 ·subst e;simp
 ·have h:¬(Sum.inl a:j8)=Sum.inl b:=fun q=>e (Sum.inl.inj q)
  rw[decide_eq_false h]
  exact(beq_eq_false_iff_ne.mpr e).symm
theorem vO (a b:Str):decide ((Sum.inr a:j8)=Sum.inr b)=decide (a=b):=by
 by_cases e:a=b
 ·subst e;simp
 ·have h:¬(Sum.inr a:j8)=Sum.inr b:=fun q=>e (Sum.inr.inj q)
  rw[decide_eq_false h,decide_eq_false e]
theorem vw (a:Int)(b:Str):decide ((Sum.inl a:j8)=Sum.inr b)=false:=decide_eq_false (fun q=>nomatch q)
theorem tV (a:Str)(b:Int):decide ((Sum.inr a:j8)=Sum.inl b)=false:=decide_eq_false (fun q=>nomatch q)
def k8 (prog:Program)(w:World):PySem.KeyKind prog w j8 where
 is:=bq
 hash:=CZ w
 inj:=fun v a b ha hb=>by
  rcases z4 ha with⟨i,t,rfl,rfl⟩|⟨x,t,rfl,rfl⟩
  ·rcases z4 hb with⟨j,u,rfl,e⟩|⟨y,u,rfl,e⟩
   ·injection e with e1 _;rw[e1]
   ·exact nomatch e
  ·rcases z4 hb with⟨j,u,rfl,e⟩|⟨y,u,rfl,e⟩
   ·exact nomatch e
   ·injection e with e1 _;rw[e1]
 byValue:=fun k v h=>by
  rcases z4 h with⟨i,t,rfl,rfl⟩|⟨x,t,rfl,rfl⟩<;>rfl
 pyHash:=fun hv h=>by
  rcases z4 hv with⟨i,t,rfl,rfl⟩|⟨x,t,rfl,rfl⟩
  ·exact wpAny_pyHash_int h
  ·exact wpAny_pyHash_str h
 eqBool:=fun hu hv h=>by
  rcases z4 hu with⟨i,t,rfl,rfl⟩|⟨x,t,rfl,rfl⟩
  ·rcases z4 hv with⟨j,u,rfl,rfl⟩|⟨y,u,rfl,rfl⟩
   ·rw[uT] at h;exact wpAny_eqBool_int h
   ·rw[vw] at h;exact SeqAt.EqAt.int_str i t y u _ _ _ _ h
  ·rcases z4 hv with⟨j,u,rfl,rfl⟩|⟨y,u,rfl,rfl⟩
   ·rw[tV] at h;exact SeqAt.EqAt.str_int x t j u _ _ _ _ h
   ·rw[vO] at h;exact wpAny_eqBool_str h
 «strs»:=fun k x t v h=>by
  rcases z4 h with⟨i,u,rfl,e⟩|⟨y,u,rfl,e⟩
  ·exact nomatch e
  ·injection e with e1 _
   subst e1
   cases v<;>rfl
theorem lM (prog:Program)(w:World)(i:Int)(t:Tok):(k8 prog w).is (.inl i) (.int i t)=true:=rD i t
theorem mw (prog:Program)(w:World)(x:Str)(t:Tok):(k8 prog w).is (.inr x) (.str x t)=true:=si x t
end L2
namespace L2
open PySem PySem.Spec PyProof.Rows
inductive V where
 |non|bl (b:Bool)|int (i:Int)|str (x:Str)|byt (b:Array UInt8)|flt (b:UInt64)|ref (a:Addr)|ty (n:String)
 deriving DecidableEq
def RelV:V→Value→Prop
 | .non,u=>u=Value.none
 | .bl b,u=>u=Value.bool b
 | .int i,u=>∃t,u=Value.int i t
 | .str x,u=>∃t,u=Value.str x t
 | .byt b,u=>∃t,u=Value.bytes b t
 | .flt b,u=>∃t,u=Value.float b t
 | .ref a,u=>u=Value.ref a
 | .ty n,u=>u=Value.type n
abbrev Vals:List V→List Value→Prop:=Paired RelV
theorem Vals.length {xs:List V}{us:List Value}(r:Vals xs us):xs.length=us.length:=Paired.length r
theorem Vals.get:∀{xs:List V} {us:List Value} {i:Nat} {x:V},Vals xs us→xs[i]?=some x→∃u,us[i]?=some u∧RelV x u
 |_,_,_,_,.nil,e=>by simp at e
 |_,_,0,_,.cons r _,e=>by simp at e;subst e;exact⟨_,rfl,r⟩
 |_,_,i+1,x,.cons _ t,e=>by
  obtain⟨u,h1,h2⟩:=Vals.get (i:=i) (x:=x) t (by simpa using e)
  exact⟨u,by simpa using h1,h2⟩
theorem Vals.set {x:V}{u:Value}(r:RelV x u):∀{xs:List V} {us:List Value} (i:Nat),Vals xs us→Vals (xs.set i x) (us.set i u)
 |_,_,_,.nil=> .nil
 |_,_,0,.cons _ t=> .cons r t
 |_,_,i+1,.cons q t=> .cons q (Vals.set r i t)
theorem Vals.append:∀{xs ys:List V} {us ws:List Value},Vals xs us→Vals ys ws→Vals (xs++ys) (us++ws)
 |_,_,_,_,.nil,s=>s
 |_,_,_,_,.cons r t,s=> .cons r (Vals.append t s)
theorem Vals.take:∀{xs:List V} {us:List Value} (n:Nat),Vals xs us→Vals (xs.take n) (us.take n)
 |_,_,0,_=> .nil
 |_,_,_+1,.nil=> .nil
 |_,_,n+1,.cons r t=> .cons r (Vals.take n t)
theorem Vals.drop:∀{xs:List V} {us:List Value} (n:Nat),Vals xs us→Vals (xs.drop n) (us.drop n)
 |_,_,0,r=>r
 |_,_,_+1,.nil=> .nil
 |_,_,n+1,.cons _ t=>Vals.drop n t
def RelO:Option V→Option Value→Prop
 |some v,some u=>RelV v u
 |none,none=>True
 |_,_=>False
def KV {κ:Type}:List (κ×V)→List (κ×Value)→Prop:=Paired fun(p:κ×V) (q:κ×Value)=>p.1=q.1∧RelV p.2 q.2
def kV:j8→V
 | .inl i=> .int i
 | .inr x=> .str x
inductive HO where
 |lst (xs:List V)
 |tup (xs:List V)
 |dK (kvs:List (j8×V))|dT (kvs:List (List j8×V))
 |set (S:Int→Bool) (n:Nat)
 |ins (C dx:Addr) (fs:List (Str×V))
 |own (x:Addr)
 |xd (fs:List (Str×V))
 |met (f x:Addr)
 |rng (lo hi:Int)
 |frz (o:Obj) (u:HO)
 |tbl (ps:Array Value)
 |ext (φ:Heap→Prop)
abbrev Hp:=Addr→Option HO
def p7 (H:Hp)(a:Addr)(o:HO):Hp:=fun b=>if b=a then some o else H b
theorem j7 {H:Hp}{a:Addr}{o:HO}:p7 H a o a=some o:=by unfold p7;rw[if_pos rfl]
theorem d7 {H:Hp}{a b:Addr}{o:HO}(h:b≠a):p7 H a o b=H b:=by unfold p7;rw[if_neg h]
theorem Dk {H:Hp}{a b:Addr}{o u:HO}(h:H a=some o)(h':H b=some u)(d:o≠u):a≠b:=by
 intro e;subst e;rw[h] at h';exact d (Option.some.inj h')
theorem d8 {H:Hp}{a b:Addr}{o:HO}(h:H a=some o)(h':H b=none):a≠b:=by
 intro e;subst e;rw[h] at h';cases h'
section
variable (P:Program) (w:World)
def ObjOk (H:Hp)(h:Heap)(a:Addr):HO→Prop
 | .lst xs=>xs.length≤sizeLine∧∃(its:List Value) (n:Nat),Vals xs its∧h.get? a=some {cls:= .type "list",data:= .seq its.toArray n}
 | .tup xs=>xs.length≤sizeLine∧∃its:List Value,Vals xs its∧IsTup h a its.toArray
 | .dK kvs=>kvs.length≤sizeLine∧(a==sysModules)=false∧∃vs,KV kvs vs∧h.DictOf (k8 P w) a vs
 | .dT kvs=>kvs.length≤sizeLine∧(a==sysModules)=false∧∃xs:List (List j8×Addr×Value),
   Paired (fun(p:List j8×V) (q:List j8×Addr×Value)=>p.1=q.1∧H q.2.1=some (.tup (p.1.map kV))∧RelV p.2 q.2.2) kvs xs∧
   ∃o es ep,h.get? a=some o∧o.ExactDict∧o.data= .dict es ep∧es.toList=xs.map (entryOfKey (tupleKind (k8 P w)))∧(xs.map (·.1)).Nodup
 | .set S n=>h.SetOf (intKind P w) a S n
 | .ins C dx fs=>H dx=some (.own a)∧fs.length≤1000∧dx≠a∧h.get? a=some (PySem.W.instObj C dx)∧
   ∃mA,h.Ns1 dx mA∧(∀f,RelO (fs.lookup f) (mA f))∧PySem.Within mA (fs.map (·.1))
 | .own _=>∃o,h.get? a=some o
 | .xd fs=>∃mA,h.Ns1 a mA∧∀f,RelO (fs.lookup f) (mA f)
 | .rng lo hi=>∃t u v,h.get? a=some {cls:= .type "range",data:= .fields #[.int lo t,.int hi u,.int 1 v]}
 | .frz o u=>h.get? a=some o∧ObjOk H h a u
 | .tbl ps=>h.get? a=some {cls:= .none,data:= .fields ps}
 | .met f x=>h.get? a=some (PySem.W.methodObj (.ref f) (.ref x))
 | .ext φ=>φ h∧(∃o,h.get? a=some o)∧∀h1 h2:Heap,φ h1→(∀o,h1.get? a=some o→h2.get? a=some o)→φ h2
def HOk (H:Hp)(h:Heap):Prop:=∀a o,H a=some o→ObjOk P w H h a o
end
section
variable {P:Program} {w:World} {H H':Hp} {h h':Heap} {a:Addr} {o:HO}
theorem ObjOk.lt (x:ObjOk P w H h a o):a<h.objs.size:=by
 cases o with
 |lst xs=>obtain⟨_,_,_,_,e⟩:=x;exact Heap.lt_size e
 |tup xs=>obtain⟨_,_,_,p⟩:=x;exact p.lt
 |dK kvs=>obtain⟨_,_,_,_,o,_,_,e,_⟩:=x;exact Heap.lt_size e
 |dT kvs=>obtain⟨_,_,_,_,o,_,_,e,_⟩:=x;exact Heap.lt_size e
 |set S n=>obtain⟨o,_,_,_,e,_⟩:=x;exact Heap.lt_size e
 |ins C dx fs=>obtain⟨_,_,_,e,_⟩:=x;exact Heap.lt_size e
 |own y=>obtain⟨_,e⟩:=x;exact Heap.lt_size e
 |xd fs=>obtain⟨_,⟨_,_,_,e,_⟩,_⟩:=x;exact Heap.lt_size e
 |rng lo hi=>obtain⟨_,_,_,e⟩:=x;exact Heap.lt_size e
 |frz ob u=>obtain⟨e,_⟩:=x;exact Heap.lt_size e
 |tbl ps=>exact Heap.lt_size (show h.get? a=some _ from x)
 |met f y=>exact Heap.lt_size (show h.get? a=some _ from x)
 |ext φ=>obtain⟨_,⟨_,e⟩,_⟩:=x;exact Heap.lt_size e
theorem Paired.mapP {α β:Type}{F G:α→β→Prop}:∀{l₁:List α} {l₂:List β},Paired F l₁ l₂→(∀a b,F a b→G a b)→Paired G l₁ l₂
 |_,_,.nil,_=> .nil
 |_,_,.cons r t,f=> .cons (f _ _ r) (Paired.mapP t f)
theorem Paired.imp' {α β:Type}{F G:α→β→Prop}(f:∀a b,F a b→G a b){l₁:List α}{l₂:List β}(r:Paired F l₁ l₂):Paired G l₁ l₂:=Paired.mapP r f
theorem ObjOk.stay (x:ObjOk P w H h a o)(k:∀b u,(b=a∨H b=some (.own a))→h.get? b=some u→h'.get? b=some u)
  (ho:∀b,H b=some (.own a)→H' b=some (.own a)) (ht:∀b xs,H b=some (.tup xs)→H' b=some (.tup xs)):ObjOk P w H' h' a o:=by
 induction o with
 |lst xs=>obtain⟨z,its,n,r,e⟩:=x;exact⟨z,its,n,r,k _ _ (.inl rfl) e⟩
 |tup xs=>obtain⟨z,its,r,ob,e,c⟩:=x;exact⟨z,its,r,ob,k _ _ (.inl rfl) e,c⟩
 |dK kvs=>obtain⟨z,y,vs,r,ob,es,ep,e,c⟩:=x;exact⟨z,y,vs,r,ob,es,ep,k _ _ (.inl rfl) e,c⟩
 |dT kvs=>
  obtain⟨z,y,xs,r,ob,es,ep,e,c⟩:=x
  exact⟨z,y,xs,Paired.mapP r fun p q z=>⟨z.1,ht _ _ z.2.1,z.2.2⟩,ob,es,ep,k _ _ (.inl rfl) e,c⟩
 |set S n=>obtain⟨ob,es,ep,t,e,c⟩:=x;exact⟨ob,es,ep,t,k _ _ (.inl rfl) e,c⟩
 |ins C dx fs=>
  obtain⟨d,z,ne,e,mA,⟨od,es,ep,e2,c⟩,r⟩:=x
  exact⟨ho _ d,z,ne,k _ _ (.inl rfl) e,mA,⟨od,es,ep,k _ _ (.inr d) e2,c⟩,r⟩
 |own y=>obtain⟨ob,e⟩:=x;exact⟨ob,k _ _ (.inl rfl) e⟩
 |xd fs=>obtain⟨mA,⟨od,es,ep,e,c⟩,r⟩:=x;exact⟨mA,⟨od,es,ep,k _ _ (.inl rfl) e,c⟩,r⟩
 |rng lo hi=>obtain⟨t,u,v,e⟩:=x;exact⟨t,u,v,k _ _ (.inl rfl) e⟩
 |frz ob u ih=>obtain⟨e,q⟩:=x;exact⟨k _ _ (.inl rfl) e,ih q⟩
 |tbl ps=>
  have e:h.get? a=some {cls:= .none,data:= .fields ps}:=x
  show h'.get? a=some {cls:= .none,data:= .fields ps}
  exact k a _ (.inl rfl) e
 |met f y=>
  have e:h.get? a=some (PySem.W.methodObj (.ref f) (.ref y)):=x
  show h'.get? a=some (PySem.W.methodObj (.ref f) (.ref y))
  exact k a _ (.inl rfl) e
 |ext φ=>obtain⟨p,⟨o,e⟩,st⟩:=x;exact⟨st _ _ p fun o q=>k _ _ (.inl rfl) q,⟨o,k _ _ (.inl rfl) e⟩,st⟩
theorem HOk.lt (x:HOk P w H h)(e:H a=some o):a<h.objs.size:=(x a o e).lt
theorem HOk.fresh (x:HOk P w H h)(e:h.objs.size≤a):H a=none:=by
 cases q:H a with
 |none=>rfl
 |some u=>exact absurd (Nat.lt_of_lt_of_le (x.lt q) e) (Nat.lt_irrefl _)
theorem HOk.kept (x:HOk P w H h)(k:∀b u,h.get? b=some u→h'.get? b=some u):HOk P w H h':=fun a o e=>
 (x a o e).stay (fun b u _ q=>k b u q) (fun _ q=>q) fun _ _ q=>q
theorem HOk.laid (x:HOk P w H h)(k:∀b u,h.get? b=some u→h'.get? b=some u)(hp:h.objs.size≤a)(new:ObjOk P w (p7 H a o) h' a o):HOk P w (p7 H a o) h':=fun b u e=>by
 have hn:=x.fresh hp
 by_cases hb:b=a
 ·subst hb;rw[j7] at e;cases e;exact new
 ·rw[d7 hb] at e
  exact(x b u e).stay (fun c v _ q=>k c v q) (fun c q=>by rw[d7 (d8 q hn)];exact q) fun c xs q=>by rw[d7 (d8 q hn)];exact q
end
def Rd (H:Hp)(a:Addr)(u:HO):Prop:=H a=some u∨∃o,H a=some (.frz o u)
theorem Rd.ok {P:Program}{w:World}{H:Hp}{h:Heap}{a:Addr}{u:HO}(r:Rd H a u)(x:HOk P w H h):ObjOk P w H h a u:=by
 rcases r with r|⟨o,r⟩
 ·exact x a u r
 ·obtain⟨_,q⟩:=x a _ r
  exact q
def BO:Option HO→Prop
 |some (.lst _)=>True
 |some (.dK _)=>True
 |some (.dT _)=>True
 |some (.set _ _)=>True
 |some (.ins _ _ _)=>True
 |some (.ext _)=>True
 |_=>False
section
variable {P:Program} {w:World} {H:Hp} {h h':Heap} {x e:Addr} {o':HO}
theorem HOk.write (ok:HOk P w H h)(mu:BO (H x))(he:e=x∨H e=some (.own x))(k:∀b u,b≠e→h.get? b=some u→h'.get? b=some u)(heo:∃u,h'.get? e=some u)
  (new:ObjOk P w (p7 H x o') h' x o'):HOk P w (p7 H x o') h':=fun b u q=>by
 have nown:∀c y,H c=some (.own y)→c≠x:=fun c y r z=>by subst z;rw[r] at mu;exact mu
 have ntup:∀c xs,H c=some (.tup xs)→c≠x:=fun c xs r z=>by subst z;rw[r] at mu;exact mu
 by_cases hb:b=x
 ·subst hb;rw[j7] at q;cases q;exact new
 ·rw[d7 hb] at q
  by_cases hbe:b=e
  ·have q':H b=some (.own x):=by
    rcases he with z|z
    ·exact absurd (hbe.trans z) hb
    ·rw[hbe];exact z
   rw[q] at q';cases q'
   obtain⟨v,hv⟩:=heo
   exact⟨v,by rw[hbe];exact hv⟩
  ·refine(ok b u q).stay (fun c v hc r=>k c v ?_ r) (fun c r=>by rw[d7 (nown c b r)];exact r) fun c xs r=>by rw[d7 (ntup c xs r)];exact r
   rcases hc with rfl|hc
   ·exact hbe
   ·rintro rfl
    rcases he with z|z
    ·exact nown c b hc z
    ·rw[hc] at z;cases z;exact hb rfl
end
structure Un (fs ex:List Addr) (H H':Hp) (h h':Heap):Prop where
 keep:∀b o,h.get? b=some o→H b=none→b∉fs→b∉ex→h'.get? b=some o
 slot:∀b o,h.get? b=some o→H b=none→b∈fs→b∉ex→∃sl,h'.get? b=some {o with slots:=sl}
 free:∀b o,h.get? b=some o→H b=none→b∉ex→H' b=none
 there:∀b o,h.get? b=some o→b∉ex→∃o',h'.get? b=some o'
 tups:∀b xs,H b=some (.tup xs)→H' b=some (.tup xs)
 frzs:∀b o u,H b=some (.frz o u)→H' b=some (.frz o u)
 tbls:∀b ps,H b=some (.tbl ps)→∃more,H' b=some (.tbl (ps++more))
section
variable {fs fs' ex ex':List Addr} {H H1 H2:Hp} {h h1 h2 h':Heap} {a x e:Addr} {o:HO}
theorem Un.any (u:Un fs ex H H1 h h1){b:Addr}{ob:Obj}(q:h.get? b=some ob)(n:H b=none)(hx:b∉ex):∃sl,h1.get? b=some {ob with slots:=sl}:=by
 by_cases hb:b∈fs
 ·exact u.slot b ob q n hb hx
 ·exact⟨ob.slots,u.keep b ob q n hb hx⟩
theorem Un.kept (k:∀b u,h.get? b=some u→h'.get? b=some u):Un fs ex H H h h':=
 ⟨fun b ob q _ _ _=>k b ob q,fun b ob q _ _ _=>⟨ob.slots,k b ob q⟩,fun _ _ _ n _=>n,fun b ob q _=>⟨ob,k b ob q⟩,fun _ _ q=>q,fun _ _ _ q=>q,fun _ ps q=>⟨#[],by rw[q];simp⟩⟩
theorem Un.refl:Un fs ex H H h h:=Un.kept fun _ _ q=>q
theorem Un.laid (k:∀b u,h.get? b=some u→h'.get? b=some u)(hp:h.objs.size≤a)(hn:H a=none):Un fs ex H (p7 H a o) h h' where
 keep:=fun b u q _ _ _=>k b u q
 slot:=fun b u q _ _ _=>⟨u.slots,k b u q⟩
 free:=fun b u q n _=>by rw[d7 (Nat.ne_of_lt (Nat.lt_of_lt_of_le (Heap.lt_size q) hp))];exact n
 there:=fun b u q _=>⟨u,k b u q⟩
 tups:=fun b xs q=>by rw[d7 (d8 q hn)];exact q
 frzs:=fun b u xs q=>by rw[d7 (d8 q hn)];exact q
 tbls:=fun b ps q=>⟨#[],by rw[d7 (d8 q hn),q];simp⟩
theorem Un.write (mu:BO (H x))(he:e=x∨H e=some (.own x))(k:∀b u,b≠e→h.get? b=some u→h'.get? b=some u)(heo:∃u,h'.get? e=some u):Un fs ex H (p7 H x o) h h':=by
 have hx:∀b,H b=none→b≠x:=fun b n z=>by subst z;rw[n] at mu;exact mu
 have hb:∀b,H b=none→b≠e:=fun b n z=>by
  subst z
  rcases he with r|r
  ·exact hx b n r
  ·rw[n] at r;cases r
 have hm:∀b u,H b=some u→¬BO (some u)→b≠x:=fun b u q nm z=>by subst z;rw[q] at mu;exact nm mu
 refine⟨fun b u q n _ _=>k b u (hb b n) q,fun b u q n _ _=>⟨u.slots,k b u (hb b n) q⟩,fun b u q n _=>by rw[d7 (hx b n)];exact n,fun b u q _=>?_,
  fun b xs q=>by rw[d7 (hm b _ q fun z=>z)];exact q,fun b u xs q=>by rw[d7 (hm b _ q fun z=>z)];exact q,fun b ps q=>⟨#[],by rw[d7 (hm b _ q fun z=>z),q];simp⟩⟩
 by_cases hbe:b=e
 ·subst hbe;exact heo
 ·exact⟨u,k b u hbe q⟩
end
def DK (h:Heap)(H:Hp):List Addr:=(List.range h.objs.size).filter fun a=>(H a).isSome
def kr (h:Heap)(H:Hp):Heap:=PySem.W.hideAll h (DK h H)
theorem su (h:Heap)(H:Hp):(kr h H).objs.size=h.objs.size:=PySem.W.hideAll_size _ _
theorem vC {h:Heap}{H:Hp}{b:Addr}{o:Obj}(e:h.get? b=some o)(n:H b=none):(kr h H).get? b=some o:=
 PySem.W.hideAll_get _ e fun hm=>by
  have q:(H b).isSome=true:=(List.mem_filter.mp hm).2
  rw[n] at q;simp at q
theorem xT {h:Heap}{H:Hp}{b:Addr}{o:Obj}(e:(kr h H).get? b=some o):h.get? b=some o∧H b=none:=by
 have e':h.get? b=some o:=PySem.W.of_hideAll (DK h H) e
 refine⟨e',?_⟩
 cases q:H b with
 |none=>rfl
 |some x=>
  have hm:b∈DK h H:=List.mem_filter.mpr ⟨List.mem_range.mpr (Heap.lt_size e'),by simp [q]⟩
  have z:(kr h H).get? b=none:=PySem.W.hideAll_none (DK h H) hm
  rw[z] at e;cases e
def wH (g h:Heap)(L:Addr):List (Addr×Obj):=(List.range h.objs.size).filterMap fun a=>if a=L∨(g.get? a).isSome=true then none else(h.get? a).map fun o=>(a,o)
def ae (g h:Heap)(L d:Addr):List (Addr×Obj):=(wH g h L).filter fun p=>decide (p.1≠d)
end L2
namespace L2
open PySem PySem.Spec PyProof.Rows
structure Mod (K:PySem.W.Frag) (mg:Str→Option Value) (base:Heap):Prop where
 kin:K.In base
 glob:base.Ns mainGlobals mg
 blt:∃mb,base.Ns builtinsNs mb∧∀x:Str,x≠"__name__"→mb x=bootBuiltins x
 nolimit:base.NoLimit
structure Cx where
 prog:Program
 w:World
 K:PySem.W.Frag
 mg:Str→Option Value
 base:Heap
 A:Around
 N:List Str
 s₀:Shared
 H₀:Hp
 env:Env
 outer:List Env
 stack:List Env
 ex:List Addr
 fn:Str→Bool
 calm:Bool
 pn:List (Addr×Obj)
 xe:Value→Shared→Prop
def V5 (l:List Env):List Addr:=l.filterMap (·.frame)
abbrev Cx.fs (X:Cx):List Addr:=V5 X.outer
def EC (sc:Scope)(x:Str):Prop:=sc.names.lookup x=some .local∨sc.names.lookup x=some .cell∨sc.names.lookup x=some .free
def yL (sc:Scope)(x:Str):Prop:=sc.names.lookup x=some .local∨sc.names.lookup x=some .cell
def Ex (env:Env)(h:Heap)(m:Str→Option Value)(x:Str)(u:Value):Prop:=
 (env.kindOf x=some .local∧m x=some u)∨((env.kindOf x=some .cell∨env.kindOf x=some .free)∧∃c,env.cells.lookup x=some c∧h.IsCell c (some u))
structure Cx.Ok (X:Cx):Prop where
 mod:Mod X.K X.mg X.base
 kind:X.env.scope.kind= .function
 glob:X.env.globals=mainGlobals
 blt:X.env.builtins=builtinsNs
 above:X.s₀.heap.objs.size≤X.env.locals
 inj:∀x y c,X.env.cells.lookup x=some c→X.env.cells.lookup y=some c→x=y
 has:∀x,(X.env.kindOf x=some .cell∨X.env.kindOf x=some .free)→∃c,X.env.cells.lookup x=some c
 cab:∀x c,X.fn x=true→X.env.cells.lookup x=some c→X.s₀.heap.objs.size≤c
 hd:X.calm=true→X.A.handled=none
 frames:X.A.frames=some X.stack
 stk:X.stack=X.outer∨(X.stack=X.env::X.outer∧X.env.frame=some X.env.locals)
 exf:∀b∈X.ex,b≠X.env.locals∧∀x c,X.env.cells.lookup x=some c→c≠b
 bs:∀b o,X.base.get? b=some o→X.s₀.heap.get? b=some o∧X.H₀ b=none
 bsz:X.base.objs.size≤X.s₀.heap.objs.size
 noex:∀b o,X.base.get? b=some o→b∉X.ex
 exfs:∀b∈X.ex,b∉X.fs
 funs:X.s₀.heap.FunFrames X.base X.outer
 frf:∀b∈X.fs,X.H₀ b=none
structure Inv (X:Cx) (pins:List (Addr×Obj)) (σ:List (Option V)) (H:Hp) (s:Shared):Prop where
 ok:X.Ok
 os:s.os=X.s₀.os
 bare:AllBare s.gens
 base:Un X.fs X.ex X.H₀ H X.s₀.heap s.heap
 loc:∃m,s.heap.Ns X.env.locals m∧∀(i:Nat) (x:Str) (v:V),X.N[i]?=some x→σ[i]?=some (some v)→EC X.env.scope x→∃u,RelV v u∧Ex X.env s.heap m x u
 cell:∀x c,X.env.cells.lookup x=some c→∃v,s.heap.IsCell c v
 free:H X.env.locals=none
 freeC:∀x c,X.env.cells.lookup x=some c→H c=none
 pin:∀p∈X.pn++pins,s.heap.get? p.1=some p.2∧H p.1=none∧p.1≠X.env.locals∧p.1∉X.fs∧∀v,p.2.data≠ .cell v
 hok:HOk X.prog X.w H s.heap
 len:σ.length=X.N.length
section
variable {X:Cx} {pins:List (Addr×Obj)} {σ:List (Option V)} {H H':Hp} {s:Shared} {h':Heap}
theorem Cx.Ok.nofr (ok:X.Ok){b:Addr}{o:Obj}(e:X.base.get? b=some o):b∉X.fs:=fun hb=>by
 have:=(ok.funs.mem hb).1
 rw[e] at this;cases this
theorem Inv.bs (I:Inv X pins σ H s):∀b o,X.base.get? b=some o→s.heap.get? b=some o∧H b=none:=fun b o e=>
 ⟨I.base.keep b o (I.ok.bs b o e).1 (I.ok.bs b o e).2 (I.ok.nofr e) (I.ok.noex b o e),I.base.free b o (I.ok.bs b o e).1 (I.ok.bs b o e).2 (I.ok.noex b o e)⟩
theorem Inv.bk (I:Inv X pins σ H s):∀b o,X.base.get? b=some o→s.heap.get? b=some o:=fun b o e=>(I.bs b o e).1
theorem Inv.mod (I:Inv X pins σ H s):Mod X.K X.mg X.base:=I.ok.mod
theorem Inv.kIn (I:Inv X pins σ H s):X.K.In s.heap:=I.ok.mod.kin.keeps I.bk
theorem Inv.lt (I:Inv X pins σ H s):X.env.locals<s.heap.objs.size:=let ⟨_,hn,_⟩:=I.loc;hn.lt
theorem Inv.sz (I:Inv X pins σ H s):X.s₀.heap.objs.size≤s.heap.objs.size:=Nat.le_trans I.ok.above (Nat.le_of_lt I.lt)
theorem Inv.nofs (I:Inv X pins σ H s){a:Addr}(h:s.heap.objs.size≤a):a∉X.fs:=fun hb=>by
 obtain⟨_,o,ho,_⟩:=I.ok.funs.mem hb
 exact absurd (Nat.lt_of_lt_of_le (Heap.lt_size ho) (Nat.le_trans I.sz h)) (Nat.lt_irrefl _)
theorem Inv.cne (I:Inv X pins σ H s):∀x c,X.env.cells.lookup x=some c→c≠X.env.locals:=fun x c e z=>by
 obtain⟨v,o,ho,hd⟩:=I.cell x c e
 obtain⟨m,⟨o',es,ep,ho',hd',_⟩,_⟩:=I.loc
 rw[z,ho'] at ho;cases ho;rw[hd'] at hd;cases hd
theorem Inv.funs (I:Inv X pins σ H s):s.heap.FunFrames X.base X.outer:=by
 have all:∀(l:List Env),(∀b∈V5 l,b∈X.fs)→X.s₀.heap.FunFrames X.base l→s.heap.FunFrames X.base l:=by
  intro l
  induction l with
  |nil=>intro _ _;trivial
  |cons env r ih=>
   intro hs hl
   obtain⟨hk,⟨L,o,hf,hn,ho,hd⟩,hr⟩:=hl
   have hL:L∈X.fs:=hs L (by unfold V5;rw[List.filterMap_cons,hf];exact List.mem_cons_self)
   obtain⟨sl,e⟩:=I.base.slot L o ho (I.ok.frf L hL) hL fun z=>I.ok.exfs L z hL
   exact⟨hk,⟨L,_,hf,hn,e,hd⟩,ih (fun b hb=>hs b (by unfold V5;rw[List.filterMap_cons,hf];exact List.mem_cons_of_mem _ hb)) hr⟩
 exact all X.outer (fun _ hb=>hb) I.ok.funs
theorem Inv.stack (I:Inv X pins σ H s):s.heap.FunFrames X.base X.stack:=by
 rcases I.ok.stk with e|⟨e,hf⟩
 ·rw[e];exact I.funs
 ·rw[e]
  obtain⟨m,hn,_⟩:=I.loc
  refine .cons (by rw[I.ok.kind];decide) hf hn ?_ I.funs
  exact Heap.get?_none_of_le (Nat.le_trans I.ok.bsz I.ok.above)
theorem Inv.stkSub (I:Inv X pins σ H s):∀b∈V5 X.stack,b∈X.env.locals::X.fs:=fun b hb=>by
 rcases I.ok.stk with e|⟨e,hf⟩
 ·rw[e] at hb;exact List.mem_cons_of_mem _ hb
 ·rw[e] at hb
  unfold V5 at hb
  rw[List.filterMap_cons,hf] at hb
  exact hb
theorem Inv.stkFree (I:Inv X pins σ H s):∀b∈V5 X.stack,H b=none:=fun b hb=>by
 rcases List.mem_cons.mp (I.stkSub b hb) with e|hb
 ·rw[e];exact I.free
 ·obtain⟨_,o,ho,_⟩:=I.ok.funs.mem hb
  exact I.base.free b o ho (I.ok.frf b hb) fun z=>I.ok.exfs b z hb
theorem Inv.step {g':Array GenState}{t':Nat}{d':Drawn}{ch:List Addr}(I:Inv X pins σ H s)
  (hch:∀b∈ch,(b∈X.ex∨X.s₀.heap.objs.size≤b)∧b≠X.env.locals∧(∀x c,X.env.cells.lookup x=some c→c≠b)∧∀p∈X.pn++pins,p.1≠b)
  (keep:∀b o,b≠X.env.locals→b∉X.fs→b∉ch→s.heap.get? b=some o→H b=none→h'.get? b=some o)
  (slot:∀b o,b≠X.env.locals→b∈X.fs→b∉ch→s.heap.get? b=some o→H b=none→∃sl,h'.get? b=some {o with slots:=sl}) (free:∀b o,b∉ch→s.heap.get? b=some o→H b=none→H' b=none)
  (there:∀b o,b∉ch→s.heap.get? b=some o→∃o',h'.get? b=some o')
  (tups:∀b xs,H b=some (.tup xs)→H' b=some (.tup xs)) (frzs:∀b o u,H b=some (.frz o u)→H' b=some (.frz o u)) (tbls:∀b ps,H b=some (.tbl ps)→∃more,H' b=some (.tbl (ps++more)))
  (ns:∀m,s.heap.Ns X.env.locals m→h'.Ns X.env.locals m) (hok:HOk X.prog X.w H' h') (hg:AllBare g'):
  Inv X pins σ H' {s with heap:=h',gens:=g',drawn:=d',toks:=t'}:=by
 have neL:∀b o,X.s₀.heap.get? b=some o→b≠X.env.locals:=fun b o e=>Nat.ne_of_lt (Nat.lt_of_lt_of_le (Heap.lt_size e) I.ok.above)
 have neC:∀b o,X.s₀.heap.get? b=some o→b∉X.ex→b∉ch:=fun b o e hx hb=>by
  rcases(hch b hb).1 with z|z
  ·exact hx z
  ·exact absurd (Nat.lt_of_lt_of_le (Heap.lt_size e) z) (Nat.lt_irrefl _)
 have cellK:∀x c,X.env.cells.lookup x=some c→∀v,s.heap.IsCell c v→h'.IsCell c v:=fun x c e v ⟨o,ho,hd⟩=>by
  have nch:c∉ch:=fun z=>(hch c z).2.2.1 x c e rfl
  by_cases hc:c∈X.fs
  ·obtain⟨sl,q⟩:=slot c o (I.cne x c e) hc nch ho (I.freeC x c e)
   exact⟨_,q,hd⟩
  ·exact⟨o,keep c o (I.cne x c e) hc nch ho (I.freeC x c e),hd⟩
 refine⟨I.ok,I.os,hg,⟨fun b o e n hb hx=>?_,fun b o e n hb hx=>?_,fun b o e n hx=>?_,fun b o e hx=>?_,fun b xs e=>tups b xs (I.base.tups b xs e),fun b o xs e=>frzs b o xs (I.base.frzs b o xs e),fun b ps e=>?_⟩,?_,fun x c e=>?_,?_,fun x c e=>?_,fun p hp=>?_,hok,I.len⟩
 ·exact keep b o (neL b o e) hb (neC b o e hx) (I.base.keep b o e n hb hx) (I.base.free b o e n hx)
 ·obtain⟨sl,e1⟩:=I.base.slot b o e n hb hx
  obtain⟨sl',e2⟩:=slot b _ (neL b o e) hb (neC b o e hx) e1 (I.base.free b o e n hx)
  exact⟨sl',e2⟩
 ·obtain⟨o',e1⟩:=I.base.there b o e hx
  exact free b o' (neC b o e hx) e1 (I.base.free b o e n hx)
 ·obtain⟨o',e1⟩:=I.base.there b o e hx
  exact there b o' (neC b o e hx) e1
 ·obtain⟨m1,e1⟩:=I.base.tbls b ps e
  obtain⟨m2,e2⟩:=tbls b _ e1
  exact⟨m1++m2,by rw[e2,Array.append_assoc]⟩
 ·obtain⟨m,hn,hl⟩:=I.loc
  refine⟨m,ns m hn,fun i x v e1 e2 e3=>?_⟩
  obtain⟨u,r,l⟩:=hl i x v e1 e2 e3
  refine⟨u,r,?_⟩
  rcases l with l|⟨k,c,e,z⟩
  ·exact .inl l
  ·exact .inr ⟨k,c,e,cellK x c e _ z⟩
 ·obtain⟨v,z⟩:=I.cell x c e
  exact⟨v,cellK x c e v z⟩
 ·obtain⟨m,⟨o,_,_,ho,_⟩,_⟩:=I.loc
  exact free _ o (fun z=>(hch _ z).2.1 rfl) ho I.free
 ·obtain⟨v,o,ho,hd⟩:=I.cell x c e
  exact free c o (fun z=>(hch c z).2.2.1 x c e rfl) ho (I.freeC x c e)
 ·obtain⟨e,n,ne,nf,d⟩:=I.pin p hp
  have nch:p.1∉ch:=fun z=>(hch p.1 z).2.2.2 p hp rfl
  exact⟨keep p.1 p.2 ne nf nch e n,free p.1 p.2 nch e n,ne,nf,d⟩
theorem Inv.un {t':Nat}(I:Inv X pins σ H s)(u:Un X.fs [] H H' s.heap h')(hok:HOk X.prog X.w H' h'):Inv X pins σ H' {s with heap:=h',toks:=t'}:=by
 obtain⟨m,⟨o,es,ep,ho,r⟩,_⟩:=id I.loc
 obtain⟨sl,hL⟩:=u.any ho I.free (by simp)
 exact I.step (g':=s.gens) (d':=s.drawn) (ch:=[]) (fun _ z=>nomatch z) (fun b o _ hb _ e n=>u.keep b o e n hb (by simp)) (fun b o _ hb _ e n=>u.slot b o e n hb (by simp)) (fun b o _ e n=>u.free b o e n (by simp)) (fun b o _ e=>u.there b o e (by simp)) u.tups u.frzs u.tbls (fun m' hm=>by
  obtain⟨o',es',ep',ho',r'⟩:=hm
  rw[ho] at ho';cases ho'
  exact⟨_,es',ep',hL,r'⟩) hok I.bare
theorem Inv.call {g':Array GenState}{t':Nat}{d':Drawn}{ch:List Addr}(I:Inv X pins σ H s)(u:Un (V5 X.stack) ch H H' s.heap h')(hok:HOk X.prog X.w H' h')(hg:AllBare g')
  (hch:∀b∈ch,(b∈X.ex∨X.s₀.heap.objs.size≤b)∧b≠X.env.locals∧(∀x c,X.env.cells.lookup x=some c→c≠b)∧∀p∈X.pn++pins,p.1≠b):
  Inv X pins σ H' {s with heap:=h',gens:=g',drawn:=d',toks:=t'}:=by
 obtain⟨m,⟨o,es,ep,ho,r⟩,_⟩:=id I.loc
 obtain⟨sl,hL⟩:=u.any ho I.free fun z=>(hch _ z).2.1 rfl
 exact I.step (ch:=ch) hch (fun b o hL hb hc e n=>u.keep b o e n (fun z=>(List.mem_cons.mp (I.stkSub b z)).elim hL hb) hc) (fun b o _ _ hc e n=>u.any e n hc) (fun b o hc e n=>u.free b o e n hc) (fun b o hc e=>u.there b o e hc) u.tups u.frzs u.tbls (fun m' hm=>by
  obtain⟨o',es',ep',ho',r'⟩:=hm
  rw[ho] at ho';cases ho'
  exact⟨_,es',ep',hL,r'⟩) hok hg
theorem Inv.turned {t':Nat}{it:Addr}(I:Inv X pins σ H s)(k:∀b o,b≠it→s.heap.get? b=some o→h'.get? b=some o)(hn:H it=none)(hL:it≠X.env.locals)
  (h1:it∈X.ex∨X.s₀.heap.objs.size≤it) (h2:∀x c,X.env.cells.lookup x=some c→c≠it) (h3:∀p∈X.pn++pins,p.1≠it):Inv X pins σ H {s with heap:=h',toks:=t'}:=by
 have nit:∀b u,H b=some u→b≠it:=fun b u e z=>by rw[z,hn] at e;cases e
 refine I.step (g':=s.gens) (d':=s.drawn) (ch:=[it]) (fun b hb=>?_) (fun b o _ _ hc e _=>k b o (fun z=>hc (by simp [z])) e) (fun b o _ _ hc e _=>⟨o.slots,k b o (fun z=>hc (by simp [z])) e⟩) (fun _ _ _ _ n=>n)
  (fun b o hc e=>⟨o,k b o (fun z=>hc (by simp [z])) e⟩) (fun _ _ e=>e) (fun _ _ _ e=>e) (fun b ps e=>⟨#[],by rw[e];simp⟩) (fun m hm=>?_) (fun b u e=>?_) I.bare
 ·have e:b=it:=by simpa using hb
  subst e
  exact⟨h1,hL,h2,h3⟩
 ·obtain⟨o,es,ep,ho,r⟩:=hm
  exact⟨o,es,ep,k _ o (Ne.symm hL) ho,r⟩
 ·refine(I.hok b u e).stay (fun c v hc q=>k c v ?_ q) (fun _ q=>q) fun _ _ q=>q
  rcases hc with z|z
  ·rw[z];exact nit b u e
  ·exact nit c _ z
theorem Inv.tok (I:Inv X pins σ H s)(t:Nat):Inv X pins σ H {s with toks:=t}:=I.un (h':=s.heap) (t':=t) Un.refl I.hok
theorem Inv.kept {t':Nat}(I:Inv X pins σ H s)(k:∀b u,s.heap.get? b=some u→h'.get? b=some u):Inv X pins σ H {s with heap:=h',toks:=t'}:=I.un (Un.kept k) (I.hok.kept k)
theorem Inv.laid {a:Addr}{o:HO}{t':Nat}(I:Inv X pins σ H s)(k:∀b u,s.heap.get? b=some u→h'.get? b=some u)(hp:s.heap.objs.size≤a)(new:ObjOk X.prog X.w (p7 H a o) h' a o):
  Inv X pins σ (p7 H a o) {s with heap:=h',toks:=t'}:=I.un (Un.laid k hp (I.hok.fresh hp)) (I.hok.laid k hp new)
theorem Inv.write {x e:Addr}{o:HO}{t':Nat}(I:Inv X pins σ H s)(mu:BO (H x))(he:e=x∨H e=some (.own x))(k:∀b u,b≠e→s.heap.get? b=some u→h'.get? b=some u)(heo:∃u,h'.get? e=some u)
  (new:ObjOk X.prog X.w (p7 H x o) h' x o):Inv X pins σ (p7 H x o) {s with heap:=h',toks:=t'}:=I.un (Un.write mu he k heo) (I.hok.write mu he k heo new)
theorem Inv.weak {σ':List (Option V)}(I:Inv X pins σ H s)(hl:σ'.length=σ.length)(w:∀(i:Nat) v,σ'[i]?=some (some v)→σ[i]?=some (some v)):Inv X pins σ' H s:=
 ⟨I.ok,I.os,I.bare,I.base,let ⟨m,hn,hl'⟩:=I.loc;⟨m,hn,fun i x v e1 e2 e3=>hl' i x v e1 (w i v e2) e3⟩,I.cell,I.free,I.freeC,I.pin,I.hok,hl.trans I.len⟩
theorem Inv.pins_of {pins':List (Addr×Obj)}(I:Inv X pins σ H s)(h:∀p∈pins',s.heap.get? p.1=some p.2∧H p.1=none∧p.1≠X.env.locals∧p.1∉X.fs∧∀v,p.2.data≠ .cell v):Inv X pins' σ H s:=
 ⟨I.ok,I.os,I.bare,I.base,I.loc,I.cell,I.free,I.freeC,fun p hp=>(List.mem_append.mp hp).elim (fun z=>I.pin p (List.mem_append_left _ z)) (h p),I.hok,I.len⟩
theorem fv {N:List Str}(hN:N.Nodup){i j:Nat}{x:Str}(a:N[i]?=some x)(b:N[j]?=some x):i=j:=by
 obtain⟨h1,e1⟩:=List.getElem?_eq_some_iff.mp a
 obtain⟨h2,e2⟩:=List.getElem?_eq_some_iff.mp b
 exact(List.getElem_inj hN).mp (e1.trans e2.symm)
theorem jo {M:Model}{A:Around}{E:Value→Shared→Prop}{i:Nat}{x:Str}{v:V}{u:Value}{Q:Unit→Shared→Prop}(I:Inv X pins σ H s)(hN:X.N.Nodup)(hi:X.N[i]?=some x)(hx:yL X.env.scope x)(r:RelV v u)
  (h:∀s',Inv X pins (σ.set i (some v)) H s'→(∃a,Heap.SameBut a s.heap s'.heap∧(a=X.env.locals∨X.env.cells.lookup x=some a))→Q () s') (hf:X.fn x=true∨X.env.scope.names.lookup x=some .local:=by first|exact .inl rfl|exact .inr rfl|assumption):wpAny M A (storeName X.env x u) Q E s:=by
 obtain⟨m,hn,hl⟩:=id I.loc
 have hcls:(X.env.scope.kind== .class||(X.env.scope.kind== .module&&X.env.locals !=X.env.globals))=false:=by rw[I.ok.kind];rfl
 have hiσ:i<σ.length:=by rw[I.len];exact(List.getElem?_eq_some_iff.mp hi).1
 have cne:=I.cne
 have tracked:∀{a:Addr} {h':Heap},(∃o,s.heap.get? a=some o∧H a=none)→Heap.SameBut a s.heap h'→HOk X.prog X.w H h':=fun{a h'} ha hs b ob e=>by
  obtain⟨_,_,hfree⟩:=ha
  refine(I.hok b ob e).stay (fun c w' hc q=>(hs.2 c ?_).trans q) (fun _ q=>q) fun _ _ q=>q
  rintro rfl
  rcases hc with rfl|hc
  ·rw[hfree] at e;cases e
  ·rw[hfree] at hc;cases hc
 rcases hx with hk|hk
 ·refine wpAny_storeName_local hk hn (fun h' hn' hs=>?_) hcls
  obtain⟨oL,_,_,hoL,_⟩:=id hn
  refine h _ ⟨I.ok,I.os,I.bare,⟨fun b o e n hb hx=>?_,fun b o e n hb hx=>?_,I.base.free,fun b o e hx=>?_,I.base.tups,I.base.frzs,I.base.tbls⟩,⟨_,hn',fun j y v' e1 e2 e3=>?_⟩,fun y c e=>?_,I.free,I.freeC,fun p hp=>?_,tracked ⟨oL,hoL,I.free⟩ hs,by simpa using I.len⟩ ⟨_,hs,.inl rfl⟩
  ·exact(hs.2 b (Nat.ne_of_lt (Nat.lt_of_lt_of_le (Heap.lt_size e) I.ok.above))).trans (I.base.keep b o e n hb hx)
  ·obtain⟨sl,e1⟩:=I.base.slot b o e n hb hx
   exact⟨sl,(hs.2 b (Nat.ne_of_lt (Nat.lt_of_lt_of_le (Heap.lt_size e) I.ok.above))).trans e1⟩
  ·obtain⟨o',e1⟩:=I.base.there b o e hx
   exact⟨o',(hs.2 b (Nat.ne_of_lt (Nat.lt_of_lt_of_le (Heap.lt_size e) I.ok.above))).trans e1⟩
  ·by_cases hj:j=i
   ·subst hj
    rw[hi] at e1;cases e1
    rw[List.getElem?_set_self hiσ] at e2
    cases e2
    exact⟨u,r,.inl ⟨hk,by simp⟩⟩
   ·rw[List.getElem?_set_ne (Ne.symm hj)] at e2
    obtain⟨u',r',q⟩:=hl j y v' e1 e2 e3
    refine⟨u',r',?_⟩
    rcases q with⟨k,e⟩|⟨k,c,e,z⟩
    ·refine .inl ⟨k,?_⟩
     have:y≠x:=fun e=>hj (fv hN e1 (e▸hi))
     simp [this,e]
    ·exact .inr ⟨k,c,e,z.sameBut hs (cne y c e)⟩
  ·obtain⟨w',z⟩:=I.cell y c e
   exact⟨w',z.sameBut hs (cne y c e)⟩
  ·obtain⟨e,n,ne,nf,d⟩:=I.pin p hp
   exact⟨(hs.2 p.1 ne).trans e,n,ne,nf,d⟩
 ·have hfn:X.fn x=true:=by
   rcases hf with z|z
   ·exact z
   ·rw[z] at hk;cases hk
  obtain⟨c,hc⟩:=I.ok.has x (.inl hk)
  obtain⟨w',z⟩:=I.cell x c hc
  refine wpAny_storeName_cell I.ok.kind hk hc z (fun h' hc' hs=>?_)
  obtain⟨oc,hoc,hocd⟩:=id z
  refine h {s with heap:=h'} ⟨I.ok,I.os,I.bare,⟨fun b o e n hb hx=>?_,fun b o e n hb hx=>?_,I.base.free,fun b o e hx=>?_,I.base.tups,I.base.frzs,I.base.tbls⟩,⟨m,hn.sameBut hs (Ne.symm (cne x c hc)),fun j y v' e1 e2 e3=>?_⟩,fun y c' e=>?_,I.free,I.freeC,fun p hp=>?_,tracked ⟨oc,hoc,I.freeC x c hc⟩ hs,by simpa using I.len⟩ ⟨c,hs,.inr hc⟩
  ·exact(hs.2 b (Nat.ne_of_lt (Nat.lt_of_lt_of_le (Heap.lt_size e) (I.ok.cab x c hfn hc)))).trans (I.base.keep b o e n hb hx)
  ·obtain⟨sl,e1⟩:=I.base.slot b o e n hb hx
   exact⟨sl,(hs.2 b (Nat.ne_of_lt (Nat.lt_of_lt_of_le (Heap.lt_size e) (I.ok.cab x c hfn hc)))).trans e1⟩
  ·obtain⟨o',e1⟩:=I.base.there b o e hx
   exact⟨o',(hs.2 b (Nat.ne_of_lt (Nat.lt_of_lt_of_le (Heap.lt_size e) (I.ok.cab x c hfn hc)))).trans e1⟩
  ·by_cases hj:j=i
   ·subst hj
    rw[hi] at e1;cases e1
    rw[List.getElem?_set_self hiσ] at e2
    cases e2
    exact⟨u,r,.inr ⟨.inl hk,c,hc,hc'⟩⟩
   ·rw[List.getElem?_set_ne (Ne.symm hj)] at e2
    obtain⟨u',r',q⟩:=hl j y v' e1 e2 e3
    refine⟨u',r',?_⟩
    rcases q with q|⟨k,c',e,z'⟩
    ·exact .inl q
    ·refine .inr ⟨k,c',e,z'.sameBut hs ?_⟩
     rintro rfl
     exact hj (fv hN e1 (I.ok.inj _ _ _ e hc▸hi))
  ·by_cases hcc:c'=c
   ·subst hcc;exact⟨_,hc'⟩
   ·obtain⟨w2,z2⟩:=I.cell y c' e
    exact⟨w2,z2.sameBut hs hcc⟩
  ·obtain⟨e,n,ne,nf,d⟩:=I.pin p hp
   refine⟨(hs.2 p.1 ?_).trans e,n,ne,nf,d⟩
   intro q
   rw[q,hoc] at e
   have q':oc=p.2:=Option.some.inj e
   exact d w' (by rw[←q'];exact hocd)
theorem gF {M:Model}{A:Around}{E:Value→Shared→Prop}{i:Nat}{x:Str}{v:V}{u:Value}{Q:Unit→Shared→Prop}(I:Inv X pins σ H s)(hN:X.N.Nodup)(hi:X.N[i]?=some x)(hx:yL X.env.scope x)(r:RelV v u)
  (h:∀s',Inv X pins (σ.set i (some v)) H s'→Q () s') (hf:X.fn x=true∨X.env.scope.names.lookup x=some .local:=by first|exact .inl rfl|exact .inr rfl|assumption):wpAny M A (storeName X.env x u) Q E s:=
 jo I hN hi hx r (fun s' I' _=>h s' I') hf
theorem Inv.call' {s':Shared}{ch:List Addr}(I:Inv X pins σ H s)(ho:s'.os=s.os)(u:Un (V5 X.stack) ch H H' s.heap s'.heap)(hok:HOk X.prog X.w H' s'.heap)(hg:AllBare s'.gens)
  (hch:∀b∈ch,(b∈X.ex∨X.s₀.heap.objs.size≤b)∧b≠X.env.locals∧(∀x c,X.env.cells.lookup x=some c→c≠b)∧∀p∈X.pn++pins,p.1≠b):Inv X pins σ H' s':=by
 obtain⟨h',g',d',t',o'⟩:=s'
 have e:o'=s.os:=ho
 subst e
 exact I.call (g':=g') (t':=t') (d':=d') u hok hg hch
end
abbrev XK:=Value→Option Addr→Hp→Prop
abbrev St:=List (Option V)
abbrev VK:=V→Hp→Prop
abbrev TE:=St→Hp→VK→Prop
abbrev TT:=St→Hp→(Bool→Hp→Prop)→Prop
abbrev TA:=St→Hp→(List V→Hp→Prop)→Prop
structure oE where
 nx:St→Hp→Prop
 rt:VK
 bk:St→Hp→Prop:=fun _ _=>False
 ct:St→Hp→Prop:=fun _ _=>False
abbrev TS:=oE→St→Hp→Prop
def EP (X:Cx)(pins:List (Addr×Obj))(σ:St)(Q:VK)(u:Value)(s':Shared):Prop:=∃v H',Inv X pins σ H' s'∧RelV v u∧Q v H'
def TP (X:Cx)(pins:List (Addr×Obj))(σ:St)(Q:Bool→Hp→Prop)(b:Bool)(s':Shared):Prop:=∃H',Inv X pins σ H' s'∧Q b H'
def AP (X:Cx)(pins:List (Addr×Obj))(σ:St)(Q:List V→Hp→Prop)(us:List Value)(s':Shared):Prop:=∃vs H',Inv X pins σ H' s'∧Vals vs us∧Q vs H'
def SP (X:Cx)(pins:List (Addr×Obj))(D:oE)(f:Flow)(s':Shared):Prop:=
 match f with
 | .next=>∃σ' H',Inv X pins σ' H' s'∧D.nx σ' H'
 | .brk=>∃σ' H',Inv X pins σ' H' s'∧D.bk σ' H'
 | .cont=>∃σ' H',Inv X pins σ' H' s'∧D.ct σ' H'
 | .ret u=>∃v σ' H',Inv X pins σ' H' s'∧RelV v u∧D.rt v H'
def PE (X:Cx)(e:Expr)(t:TE):Prop:=
 ∀(pins:List (Addr×Obj)) (s:Shared) (σ:St) (H:Hp) (Q:VK),Inv X pins σ H s→t σ H Q→wpAny (model X.prog X.w) X.A (eval e X.env) (EP X pins σ Q) X.xe s
def PT (X:Cx)(e:Expr)(t:TT):Prop:=
 ∀(pins:List (Addr×Obj)) (s:Shared) (σ:St) (H:Hp) (Q:Bool→Hp→Prop),Inv X pins σ H s→t σ H Q→wpAny (model X.prog X.w) X.A (isTrue e X.env (eval e X.env)) (TP X pins σ Q) X.xe s
def PW (X:Cx)(e:Expr)(t:TT):Prop:=
 ∀(whole:Sem Value) (pins:List (Addr×Obj)) (s:Shared) (σ:St) (H:Hp) (Q:Bool→Hp→Prop),Inv X pins σ H s→t σ H Q→wpAny (model X.prog X.w) X.A (isTrue e X.env whole) (TP X pins σ Q) X.xe s
theorem PW.pt {X:Cx}{e:Expr}{t:TT}(h:PW X e t):PT X e t:=h _
def PA (X:Cx)(es:List Expr)(t:TA):Prop:=
 ∀(pos:Pos) (pins:List (Addr×Obj)) (s:Shared) (σ:St) (H:Hp) (Q:List V→Hp→Prop),Inv X pins σ H s→t σ H Q→wpAny (model X.prog X.w) X.A (spliced (backTo pos (starEach es X.env))) (AP X pins σ Q) X.xe s
def PS (X:Cx)(st:Stmt)(t:TS):Prop:=
 ∀(pins:List (Addr×Obj)) (s:Shared) (σ:St) (H:Hp) (D:oE),Inv X pins σ H s→t D σ H→wpAny (model X.prog X.w) X.A (exec st X.env) (SP X pins D) X.xe s
def PSs (X:Cx)(st:List Stmt)(t:TS):Prop:=
 ∀(pins:List (Addr×Obj)) (s:Shared) (σ:St) (H:Hp) (D:oE),Inv X pins σ H s→t D σ H→wpAny (model X.prog X.w) X.A (execs st X.env) (SP X pins D) X.xe s
theorem K2 {α:Type}{t:Sem α}{Q Q':α→Shared→Prop}{M:Model}{A:Around}{E:Value→Shared→Prop}{s:Shared}(h:wpAny M A t Q E s)(hQ:∀a s,Q a s→Q' a s):wpAny M A t Q' E s:=wpAny_mono h hQ fun _ _ x=>x
end L2
namespace L2
open PySem PySem.Spec PyProof.Rows
section
variable {X:Cx}
def ud (i:Nat):TE:=fun σ H Q=>∃v,σ[i]?=some (some v)∧Q v H
def tC (v:V):TE:=fun _ H Q=>Q v H
theorem AH {i:Nat}{x:Str}{pos:Pos}(hN:X.N[i]?=some x)(hv:EC X.env.scope x)(hd:(x==("__debug__":Str))=false:=by decide)(hcd:(x==("__classdict__":Str))=false:=by decide):PE X (.Name x pos) (ud i):=by
 intro pins s σ H Q I h
 obtain⟨v,e,h⟩:=h
 obtain⟨m,hn,hl⟩:=I.loc
 obtain⟨u,r,l⟩:=hl i x v hN e hv
 have fin:EP X pins σ Q u s:=⟨v,H,I,r,h⟩
 rcases l with⟨hk,hm⟩|⟨hk,c,hc,hcell⟩
 ·exact wpAny_Name (wpAny_loadName_local I.ok.kind hk hn hm fin) hd
 ·rcases hk with hk|hk
  ·exact wpAny_Name (wpAny_loadName_cell I.ok.kind hk hc hcell fin) hd
  ·exact wpAny_Name (wpAny_loadName_free I.ok.kind hk hc hcell fin hcd) hd
theorem zP {i j pos}:PE X (.Constant (.int i) j pos) (tC (.int i)):=fun _ _ _ H _ I h=>wpAny_Constant_int ⟨.int i,H,I.tok _,⟨_,rfl⟩,h⟩
theorem Cr {b j pos}:PE X (.Constant (.bool b) j pos) (tC (.bl b)):=fun _ _ _ H _ I h=>Constant_bool ⟨.bl b,H,I,rfl,h⟩
theorem Ah {j pos}:PE X (.Constant .none j pos) (tC .non):=fun _ _ _ H _ I h=>Constant_none ⟨.non,H,I,rfl,h⟩
theorem Bg {x j pos}:PE X (.Constant (.str x) j pos) (tC (.str x)):=fun _ _ _ H _ I h=>Calls.Constant_str ⟨.str x,H,I.tok _,⟨_,rfl⟩,h⟩
def Gl (X:Cx)(x:Str):Prop:=X.env.kindOf x=some .globalImplicit
theorem cO {E:Value→Shared→Prop}{pins:List (Addr×Obj)}{s:Shared}{σ:St}{H:Hp}{x:Str}{u:Value}{pos:Pos}{Q:Value→Shared→Prop}(I:Inv X pins σ H s)(hg:Gl X x)(hm:X.mg x=some u)(h:Q u s)
  (hd:(x==("__debug__":Str))=false:=by decide):wpAny (model X.prog X.w) X.A (eval (.Name x pos) X.env) Q E s:=
 Calls.Name_function_global I.ok.kind hg (Calls.loadGlobal_global (by rw[I.ok.glob];exact I.mod.glob.keeps I.bk) hm h) hd
theorem fg {E:Value→Shared→Prop}{pins:List (Addr×Obj)}{s:Shared}{σ:St}{H:Hp}{x:Str}{u:Value}{pos:Pos}{Q:Value→Shared→Prop}(I:Inv X pins σ H s)(hg:Gl X x)(hm:X.mg x=none)(hv:bootBuiltins x=some u)(h:Q u s)
  (hn:x≠"__name__":=by decide) (hd:(x==("__debug__":Str))=false:=by decide):wpAny (model X.prog X.w) X.A (eval (.Name x pos) X.env) Q E s:=by
 obtain⟨mb,h1,h2⟩:=I.mod.blt
 exact Calls.Name_function_global I.ok.kind hg (Calls.loadGlobal_builtin (by rw[I.ok.glob];exact I.mod.glob.keeps I.bk) hm (by rw[I.ok.blt];exact h1.keeps I.bk) ((h2 x hn).trans hv) h) hd
theorem yn {x:Str}{v:V}{u:Value}{pos:Pos}(hg:Gl X x)(hm:X.mg x=some u)(r:RelV v u)(hd:(x==("__debug__":Str))=false:=by decide):PE X (.Name x pos) (tC v):=
 fun _ _ _ H _ I h=>cO I hg hm ⟨v,H,I,r,h⟩ hd
theorem xw {x:Str}{v:V}{u:Value}{pos:Pos}(hg:Gl X x)(hm:X.mg x=none)(hv:bootBuiltins x=some u)(r:RelV v u)(hn:x≠"__name__":=by decide)(hd:(x==("__debug__":Str))=false:=by decide):PE X (.Name x pos) (tC v):=
 fun _ _ _ H _ I h=>fg I hg hm hv ⟨v,H,I,r,h⟩ hn hd
variable {a b:Expr} {ta tb:TE} {pos:Pos}
variable {tA tB':TT} {ae:List Expr}
def Ab (t u:TT):TT:=fun σ H Q=>t σ H fun c H1=>if c=true then u σ H1 Q else Q false H1
def DW (t u:TT):TT:=fun σ H Q=>t σ H fun c H1=>if c=true then Q true H1 else u σ H1 Q
def AL (t:TT):TT:=fun σ H Q=>t σ H fun c H1=>Q (!c) H1
theorem wB (ha:PT X a tA):PW X (.BoolOp .And [a] pos) tA:=by
 intro wh pins s σ H Q I h
 refine isTrue_and (K2 (ha pins s σ H Q I h) fun c s1 e=>?_)
 cases c with
 |true=>exact isTrue_and_nil e
 |false=>exact e
theorem AX (ha:PT X a tA):PW X (.BoolOp .Or [a] pos) tA:=by
 intro wh pins s σ H Q I h
 refine isTrue_or (K2 (ha pins s σ H Q I h) fun c s1 e=>?_)
 cases c with
 |false=>exact isTrue_or_nil e
 |true=>exact e
theorem zR (ha:PT X a tA)(hb:PW X (.BoolOp .And (b::ae) pos) tB'):PW X (.BoolOp .And (a::b::ae) pos) (Ab tA tB'):=by
 intro wh pins s σ H Q I h
 refine isTrue_and (K2 (ha pins s σ H _ I h) fun c s1 ⟨H1,I1,q1⟩=>?_)
 cases c with
 |true=>exact hb wh pins s1 σ H1 Q I1 q1
 |false=>exact⟨H1,I1,q1⟩
theorem Ck (ha:PT X a tA)(hb:PW X (.BoolOp .Or (b::ae) pos) tB'):PW X (.BoolOp .Or (a::b::ae) pos) (DW tA tB'):=by
 intro wh pins s σ H Q I h
 refine isTrue_or (K2 (ha pins s σ H _ I h) fun c s1 ⟨H1,I1,q1⟩=>?_)
 cases c with
 |true=>exact⟨H1,I1,q1⟩
 |false=>exact hb wh pins s1 σ H1 Q I1 q1
theorem Bk (ha:PT X a tA):PT X (.UnaryOp .Not a pos) (AL tA):=by
 intro pins s σ H Q I h
 exact isTrue_not (ha pins s σ H (fun c H1=>Q (!c) H1) I h)
def uu (ta tb:TE):TE:=fun σ H Q=>ta σ H fun x H1=>∃c,x= .bl c∧if c=true then tb σ H1 Q else Q (.bl false) H1
theorem Ay {op}{t:TE}(h:PE X a t):PE X (.BoolOp op [a] pos) t:=fun pins s σ H Q I hw=>BoolOp_one (h pins s σ H Q I hw)
theorem Ai (ha:PE X a ta)(hb:PE X (.BoolOp .And (b::ae) pos) tb):PE X (.BoolOp .And (a::b::ae) pos) (uu ta tb):=by
 intro pins s σ H Q I h
 refine BoolOp_and (K2 (ha pins s σ H _ I h) fun v s1 ⟨x,H1,I1,r1,q1⟩=>?_)
 obtain⟨c,rfl,q1⟩:=q1
 cases r1
 refine wpAny_truthy_bool ?_
 cases c with
 |true=>exact hb pins s1 σ H1 Q I1 q1
 |false=>exact⟨.bl false,H1,I1,rfl,q1⟩
end
end L2
namespace L2
open PySem PySem.Spec PyProof.Rows
def SqL (K:PySem.W.Frag)(H:Hp)(a:Addr)(xs:List V):Prop:=
 Rd H a (.lst xs)∨
  ∃(o:Obj) (its:Array Value) (n:Nat),K.lookup a=some o∧o.cls= .type "list"∧o.dict=none∧o.data= .seq its n∧its.size≤sizeLine∧Vals xs its.toList
def SqT (K:PySem.W.Frag)(H:Hp)(a:Addr)(xs:List V):Prop:=
 Rd H a (.tup xs)∨
  ∃(o:Obj) (its:Array Value) (n:Nat),K.lookup a=some o∧o.cls= .type "tuple"∧o.data= .seq its n∧its.size≤sizeLine∧Vals xs its.toList
def EF:Value→Option V
 | .none=>some .non
 | .bool b=>some (.bl b)
 | .int i _=>some (.int i)
 | .str x _=>some (.str x)
 | .bytes b _=>some (.byt b)
 | .float b _=>some (.flt b)
 | .ref a=>some (.ref a)
 | .type n=>some (.ty n)
 |_=>none
theorem RelV.abs {x:V}{u:Value}(r:RelV x u):EF u=some x:=by
 cases x with
 |non=>cases r;rfl
 |bl _=>cases r;rfl
 |int _=>obtain⟨t,rfl⟩:=r;rfl
 |str _=>obtain⟨t,rfl⟩:=r;rfl
 |byt _=>obtain⟨t,rfl⟩:=r;rfl
 |flt _=>obtain⟨t,rfl⟩:=r;rfl
 |ref _=>cases r;rfl
 |ty _=>cases r;rfl
theorem RelV.inj {x y:V}{u:Value}(r:RelV x u)(q:RelV y u):x=y:=Option.some.inj (r.abs.symm.trans q.abs)
theorem Vals.inj:∀{xs ys:List V} {us:List Value},Vals xs us→Vals ys us→xs=ys
 |_,_,_,.nil,.nil=>rfl
 |_,_,_,.cons r t,.cons r' t'=>by rw[r.inj r',Vals.inj t t']
section
variable {X:Cx} {pins:List (Addr×Obj)} {σ:St} {H:Hp} {s:Shared} {a:Addr} {xs ys:List V}
theorem SqL.of {K:PySem.W.Frag}(h:H a=some (.lst xs)):SqL K H a xs:= .inl (.inl h)
theorem SqT.of {K:PySem.W.Frag}(h:H a=some (.tup xs)):SqT K H a xs:= .inl (.inl h)
theorem Inv.list (I:Inv X pins σ H s)(h:SqL X.K H a xs):∃its:List Value,Vals xs its∧PlainL s.heap a its.toArray∧xs.length≤sizeLine:=by
 rcases h with h|⟨o,its,n,hk,hc,hd,hs,hz,r⟩
 ·obtain⟨z,its,n,r,e⟩:=h.ok I.hok
  exact⟨its,r,⟨_,n,e,rfl,rfl,rfl⟩,z⟩
 ·refine⟨its.toList,r,⟨o,n,I.kIn a o hk,hc,hd,by simpa using hs⟩,?_⟩
  have e:=r.length
  simp only[Array.length_toList] at e
  omega
theorem Inv.tuple (I:Inv X pins σ H s)(h:SqT X.K H a xs):∃its:List Value,Vals xs its∧IsTup s.heap a its.toArray∧xs.length≤sizeLine:=by
 rcases h with h|⟨o,its,n,hk,hc,hs,hz,r⟩
 ·obtain⟨z,its,r,p⟩:=h.ok I.hok
  exact⟨its,r,p,z⟩
 ·refine⟨its.toList,r,⟨o,I.kIn a o hk,hc,n,by simpa using hs⟩,?_⟩
  have e:=r.length
  simp only[Array.length_toList] at e
  omega
theorem Inv.list_inj (I:Inv X pins σ H s)(h:SqL X.K H a xs)(h':SqL X.K H a ys):xs=ys:=by
 obtain⟨its,r,⟨o,n,e,_,_,d⟩,_⟩:=I.list h
 obtain⟨its',r',⟨o',n',e',_,_,d'⟩,_⟩:=I.list h'
 rw[e] at e';cases e'
 rw[d] at d'
 injection d' with d1 _
 have:its=its':=by simpa using congrArg Array.toList d1
 subst this
 exact r.inj r'
theorem Inv.tuple_inj (I:Inv X pins σ H s)(h:SqT X.K H a xs)(h':SqT X.K H a ys):xs=ys:=by
 obtain⟨its,r,⟨o,e,_,n,d⟩,_⟩:=I.tuple h
 obtain⟨its',r',⟨o',e',_,n',d'⟩,_⟩:=I.tuple h'
 rw[e] at e';cases e'
 rw[d] at d'
 injection d' with d1 _
 have:its=its':=by simpa using congrArg Array.toList d1
 subst this
 exact r.inj r'
end
abbrev Cx.wish (X:Cx)(E:Value→Shared→Prop):Cx:={X with xe:=E}
abbrev Cx.nox (X:Cx):Cx:=X.wish fun _ _=>False
theorem Cx.Ok.wish {X:Cx}(ok:X.Ok)(E:Value→Shared→Prop):(X.wish E).Ok:=
 ⟨ok.mod,ok.kind,ok.glob,ok.blt,ok.above,ok.inj,ok.has,ok.cab,ok.hd,ok.frames,ok.stk,ok.exf,ok.bs,ok.bsz,ok.noex,ok.exfs,ok.funs,ok.frf⟩
theorem Cx.Ok.unwish {X:Cx}{E:Value→Shared→Prop}(ok:(X.wish E).Ok):X.Ok:=
 ⟨ok.mod,ok.kind,ok.glob,ok.blt,ok.above,ok.inj,ok.has,ok.cab,ok.hd,ok.frames,ok.stk,ok.exf,ok.bs,ok.bsz,ok.noex,ok.exfs,ok.funs,ok.frf⟩
section
variable {X:Cx} {pins:List (Addr×Obj)} {σ:St} {H:Hp} {s:Shared} {E:Value→Shared→Prop}
theorem Inv.wish (I:Inv X pins σ H s)(E:Value→Shared→Prop):Inv (X.wish E) pins σ H s:=⟨I.ok.wish E,I.os,I.bare,I.base,I.loc,I.cell,I.free,I.freeC,I.pin,I.hok,I.len⟩
theorem Inv.unwish (I:Inv (X.wish E) pins σ H s):Inv X pins σ H s:=⟨I.ok.unwish,I.os,I.bare,I.base,I.loc,I.cell,I.free,I.freeC,I.pin,I.hok,I.len⟩
theorem SP.unwish {D:oE}{f:Flow}{s':Shared}(h:SP (X.wish E) pins D f s'):SP X pins D f s':=by
 cases f with
 |next=>obtain⟨σ',H',I,q⟩:=h;exact⟨σ',H',I.unwish,q⟩
 |brk=>obtain⟨σ',H',I,q⟩:=h;exact⟨σ',H',I.unwish,q⟩
 |cont=>obtain⟨σ',H',I,q⟩:=h;exact⟨σ',H',I.unwish,q⟩
 |ret u=>obtain⟨v,σ',H',I,r,q⟩:=h;exact⟨v,σ',H',I.unwish,r,q⟩
theorem PSs.nox {st:List Stmt}{t:TS}(h:PSs X.nox st t):PSs X st t:=fun pins s σ H D I hw=>
 wpAny_mono (h pins s σ H D (I.wish _) hw) (fun _ _ q=>q.unwish) fun _ _ z=>False.elim z
end
section
variable {X:Cx} {st:Stmt} {ae:List Stmt} {t u:TS} {e:Expr} {te:TE} {pos:Pos}
def uW:TS:=fun D σ H=>D.nx σ H
def xJ (t u:TS):TS:=fun D σ H=>t {D with nx:=u D} σ H
theorem yh:PSs X [] uW:=fun _ _ σ H _ I h=>wpAny_execs_nil ⟨σ,H,I,h⟩
theorem tm (h1:PS X st t)(h2:PSs X ae u):PSs X (st::ae) (xJ t u):=by
 intro pins s σ H D I h
 refine wpAny_execs_cons (K2 (h1 pins s σ H {D with nx:=u D} I h) fun f s1 q=>?_)
 cases f with
 |next=>
  obtain⟨σ',H',I',q⟩:=q
  exact h2 pins s1 σ' H' D I' q
 |ret v=>exact q
 |brk=>exact q
 |cont=>exact q
theorem xc (h1:PS X st t):PSs X [st] t:=by
 intro pins s σ H D I h
 refine wpAny_execs_cons (K2 (h1 pins s σ H D I h) fun f s1 q=>?_)
 cases f with
 |next=>exact wpAny_execs_nil q
 |ret v=>exact q
 |brk=>exact q
 |cont=>exact q
theorem Inv.quiet {pins:List (Addr×Obj)}{σ:St}{H:Hp}{s:Shared}(I:Inv X pins σ H s):interactive X.env=false:=by simp [interactive,I.ok.kind]
def tf (te:TE):TS:=fun D σ H=>te σ H fun _ H1=>D.nx σ H1
theorem wm (he:PE X e te)(hs:swapsWith e none pos.line X.env=pure false:=by rfl):PS X (.Expr e pos) (tf te):=by
 intro pins s σ H D I h
 exact wpAny_Expr_any (K2 (he pins s σ H _ I h) fun v s1 ⟨x,H1,I1,r1,q1⟩=>⟨σ,H1,I1,q1⟩) I.quiet hs
def Be (te:TE):TS:=fun D σ H=>te σ H D.rt
theorem Ar (he:PE X e te):PS X (.Return (some e) pos) (Be te):=by
 intro pins s σ H D I h
 exact wpAny_Return_some (K2 (he pins s σ H _ I h) fun v s1 ⟨x,H1,I1,r1,q1⟩=>⟨x,σ,H1,I1,r1,q1⟩)
def Bd (c:TT)(t u:TS):TS:=fun D σ H=>c σ H fun b H1=>if b=true then t D σ H1 else u D σ H1
theorem CB {c:Expr}{a b:List Stmt}{tc:TT}(hc:PT X c tc)(ha:PSs X a t)(hb:PSs X b u):PS X (.If c a b pos) (Bd tc t u):=by
 intro pins s σ H D I h
 refine wpAny_If (K2 (hc pins s σ H _ I h) fun d s1 ⟨H1,I1,q1⟩=>?_)
 cases d with
 |true=>exact ha pins s1 σ H1 D I1 q1
 |false=>exact hb pins s1 σ H1 D I1 q1
end
abbrev TG:=V→St→Hp→(St→Hp→Prop)→Prop
abbrev oR:=List V→St→Hp→(St→Hp→Prop)→Prop
def PG (X:Cx)(target:Expr)(t:TG):Prop:=
 ∀(pins:List (Addr×Obj)) (s:Shared) (σ:St) (H:Hp) (v:V) (u:Value) (Q:St→Hp→Prop),Inv X pins σ H s→RelV v u→t v σ H Q→
  wpAny (model X.prog X.w) X.A (assign target X.env u) (fun _ s'=>∃σ' H',Inv X pins σ' H' s'∧Q σ' H') X.xe s
def wW (X:Cx)(ts:List Expr)(t:oR):Prop:=
 ∀(pins:List (Addr×Obj)) (s:Shared) (σ:St) (H:Hp) (vs:List V) (us:List Value) (Q:St→Hp→Prop),Inv X pins σ H s→Vals vs us→t vs σ H Q→
  wpAny (model X.prog X.w) X.A (assignInOrder ((assignEach ts X.env).map (·.2)) us) (fun _ s'=>∃σ' H',Inv X pins σ' H' s'∧Q σ' H') X.xe s
abbrev pf:=V→V→V→Hp→(Hp→Prop)→Prop
def qQ (X:Cx)(t:pf):Prop:=
 ∀(pins:List (Addr×Obj)) (s:Shared) (σ:St) (H:Hp) (o i v:V) (ov iv u:Value) (Q:Hp→Prop),Inv X pins σ H s→RelV o ov→RelV i iv→RelV v u→t o i v H Q→
  wpAny (model X.prog X.w) X.A (setItem ov iv u) (fun _ s'=>∃H',Inv X pins σ H' s'∧Q H') X.xe s
section
variable {X:Cx} {pos:Pos}
def ai (i:Nat):TG:=fun v σ H Q=>Q (σ.set i (some v)) H
theorem xy {i:Nat}{x:Str}(hN:X.N.Nodup)(hi:X.N[i]?=some x)(hx:yL X.env.scope x)(hf:X.fn x=true∨X.env.scope.names.lookup x=some .local:=by first|exact .inl rfl|exact .inr rfl|assumption):PG X (.Name x pos) (ai i):=by
 intro pins s σ H v u Q I r h
 exact wpAny_assign_Name (gF I hN hi hx r (fun s' I'=>⟨_,H,I',h⟩) hf)
def zK:oR:=fun vs σ H Q=>vs=[]∧Q σ H
def pZ (t:TG)(u:oR):oR:=fun vs σ H Q=>∃v r,vs=v::r∧t v σ H fun σ' H'=>u r σ' H' Q
theorem yr:wW X [] zK:=by
 intro pins s σ H vs us Q I r h
 obtain⟨e,h⟩:=h
 subst e
 cases r
 exact assignInOrder_nil ⟨σ,H,I,h⟩
theorem sS {e:Expr}{es:List Expr}{t:TG}{u:oR}(h1:PG X e t)(h2:wW X es u)
  (hs:(assignEach (e::es) X.env).map (·.2)=assign e X.env::(assignEach es X.env).map (·.2):=by rfl):wW X (e::es) (pZ t u):=by
 intro pins s σ H vs us Q I r h
 obtain⟨v,vr,e1,h⟩:=h
 subst e1
 cases r with
 |cons r rr=>
  rw[hs]
  refine assignInOrder_cons (K2 (h1 pins s σ H _ _ _ I r h) fun _ s1 ⟨σ1,H1,I1,q1⟩=>?_)
  exact h2 pins s1 σ1 H1 _ _ Q I1 rr q1
def tY (K:PySem.W.Frag)(n:Nat)(t:oR):TG:=fun v σ H Q=>∃a xs,v= .ref a∧SqT K H a xs∧xs.length=n∧t xs σ H Q
theorem zZ {es:List Expr}{k:Nat}{t:oR}{n:Nat}(hc:X.calm=true)(h:wW X es t)
  (hn:(assignEach es X.env).length=n:=by rfl) (hst:(assignEach es X.env).findIdx? (·.1)=none:=by rfl):PG X (.Tuple es k pos) (tY X.K n t):=by
 intro pins s σ H v u Q I r hw
 obtain⟨a,xs,e1,hq,hl,hw⟩:=hw
 subst e1
 cases r
 obtain⟨its,rv,ht,hz⟩:=I.tuple hq
 refine assign_Tuple_tuple (I.ok.hd hc) ht (by simp [hn,←hl,rv.length]) hst fun h' hx=>?_
 have I1:Inv X pins σ H {s with heap:=h'}:=I.kept (t':=s.toks) fun b o e=>hx b o (Nat.ne_of_lt (Heap.lt_size e)) e
 exact h pins _ σ H xs _ Q I1 (by simpa using rv) hw
def xo (to ti:TE)(t:pf):TG:=fun v σ H Q=>to σ H fun o H1=>ti σ H1 fun i H2=>t o i v H2 fun H3=>Q σ H3
theorem zJ {o i:Expr}{to ti:TE}{t:pf}(ho:PE X o to)(hi:PE X i ti)(hs:qQ X t)
  (ha:∀v,assign (.Subscript o i pos) X.env v=(do
   let ov←holding [v] (eval o X.env)
   let iv←holding [v,ov] (eval i X.env)
   standAt pos
   holding [v,ov,iv] (setItem ov iv v)
   release [v,ov,iv] []):=by intro _;rfl):PG X (.Subscript o i pos) (xo to ti t):=by
 intro pins s σ H v u Q I r h
 rw[ha]
 refine wpAny_bind (wpAny_holding (K2 (ho pins s σ H _ I h) fun ov s1 ⟨x,H1,I1,r1,q1⟩=>?_))
 refine wpAny_bind (wpAny_holding (K2 (hi pins s1 σ H1 _ I1 q1) fun iv s2 ⟨y,H2,I2,r2,q2⟩=>?_))
 refine wpAny_bind (wpAny_standAt (wpAny_bind (wpAny_holding (K2 (hs pins s2 σ H2 x y v ov iv u _ I2 r1 r2 r q2) fun _ s3 ⟨H3,I3,q3⟩=>?_))))
 exact wpAny_release ⟨σ,H3,I3,q3⟩
def oz (te:TE)(g:TG):TS:=fun D σ H=>te σ H fun x H1=>g x σ H1 D.nx
theorem Ae {tg e:Expr}{te:TE}{g:TG}(he:PE X e te)(hg:PG X tg g)(hs:swapsWithSole [tg] e pos.line X.env=pure false:=by rfl)(hw:swappedStores [tg] e X.env=pure none:=by rfl)
  (h1:(assignEach [tg] X.env).map (·.2)=[assign tg X.env]:=by rfl):PS X (.Assign [tg] e pos) (oz te g):=by
 intro pins s σ H D I h
 refine wpAny_Assign_stores (K2 (he pins s σ H _ I h) fun v s1 ⟨x,H1,I1,r1,q1⟩=>?_) hs hw
 rw[h1]
 exact K2 (hg pins s1 σ H1 x v _ I1 r1 q1) fun _ s2 q=>q
theorem zT {i:Nat}{x:Str}{e:Expr}{te:TE}{pos':Pos}(hN:X.N.Nodup)(hi:X.N[i]?=some x)(hx:yL X.env.scope x)(he:PE X e te)(hs:swapsWith e (some (.Name x pos')) pos.line X.env=pure false:=by rfl)(hf:X.fn x=true∨X.env.scope.names.lookup x=some .local:=by first|exact .inl rfl|exact .inr rfl|assumption):
  PS X (.Assign [.Name x pos'] e pos) (oz te (ai i)):=by
 intro pins s σ H D I h
 refine wpAny_Assign_Name (K2 (he pins s σ H _ I h) fun v s1 ⟨y,H1,I1,r1,q1⟩=>?_) hs
 exact gF I1 hN hi hx r1 (fun s2 I2=>⟨_,H1,I2,q1⟩) hf
end
section
variable {X:Cx} {pos:Pos}
end
structure It where
 go:Nat→Hp→Prop
 yld:Nat→Hp→V→Hp→Prop
 stop:Nat→Hp→Prop
def cL (X:Cx)(pins:List (Addr×Obj))(H:Hp)(b:Addr):Prop:=
 H b=none∧b≠X.env.locals∧b∉X.fs∧(b∈X.ex∨X.s₀.heap.objs.size≤b)∧(∀x c,X.env.cells.lookup x=some c→c≠b)∧∀p∈X.pn++pins,p.1≠b
theorem Inv.fpOk {X:Cx}{pins:List (Addr×Obj)}{σ:St}{H H':Hp}{s:Shared}{b:Addr}(I:Inv X pins σ H s)(hb:s.heap.objs.size≤b)(hn:H' b=none):cL X pins H' b:=by
 refine⟨hn,Nat.ne_of_gt (Nat.lt_of_lt_of_le I.lt hb),I.nofs hb,.inr (Nat.le_trans I.sz hb),fun x c e z=>?_,fun p hp z=>?_⟩
 ·obtain⟨v,q⟩:=I.cell x c e
  exact absurd (Nat.lt_of_lt_of_le q.lt (by rw[z];exact hb)) (Nat.lt_irrefl _)
 ·exact absurd (Nat.lt_of_lt_of_le (Heap.lt_size (I.pin p hp).1) (by rw[z];exact hb)) (Nat.lt_irrefl _)
structure eE (P:Program) (w:World) (K:PySem.W.Frag) (tg:Expr) (J:It) (fp:List Addr) (it:Addr) (tn:Nat→Heap→Prop):Prop where
 mem:it∈fp
 obj:∀i h,tn i h→∀b∈fp,∃o,h.get? b=some o∧∀v,o.data≠ .cell v
 keep:∀i h h',tn i h→(∀b∈fp,∀o,h.get? b=some o→h'.get? b=some o)→tn i h'
 item:∀(X:Cx),X.prog=P→X.w=w→X.K=K→X.calm=true→∀(i:Nat) (pins:List (Addr×Obj)) (s:Shared) (σ:St) (H:Hp) (E:Value→Shared→Prop),Inv X pins σ H s→(∀b∈fp,cL X pins H b)→tn i s.heap→J.go i H→
  wpAny (model P w) X.A (pyNext (.ref it)) (fun r s1=>∃u,r=some u∧
   wpAny (model P w) X.A (letOwnedTupleGo tg (.ref it) u) (fun _ s2=>∃x H',Inv X pins σ H' s2∧RelV x u∧J.yld i H x H'∧tn (i+1) s2.heap∧∀b∈fp,H' b=none) E s1) E s
 done:∀(X:Cx),X.prog=P→X.w=w→X.K=K→X.calm=true→∀(i:Nat) (pins:List (Addr×Obj)) (s:Shared) (σ:St) (H:Hp) (E:Value→Shared→Prop),Inv X pins σ H s→(∀b∈fp,cL X pins H b)→tn i s.heap→J.stop i H→
  wpAny (model P w) X.A (pyNext (.ref it)) (fun r s1=>r=none∧Inv X pins σ H s1) E s
 self:∀(A:Around) (i:Nat) (s:Shared) (Q:Value→Shared→Prop) (E:Value→Shared→Prop),tn i s.heap→Q (.ref it) s→wpAny (model P w) A (pyIter (.ref it)) Q E s
abbrev TI:=St→Hp→(It→Hp→Prop)→Prop
def DC (X:Cx)(pins:List (Addr×Obj))(σ:St)(tg:Expr)(R:It→Hp→Prop)(itv:Value)(s2:Shared):Prop:=
 ∃(it:Addr) (fp:List Addr) (tn:Nat→Heap→Prop) (J:It) (H':Hp),itv= .ref it∧Inv X pins σ H' s2∧eE X.prog X.w X.K tg J fp it tn∧tn 0 s2.heap∧(∀b∈fp,cL X pins H' b)∧R J H'
def PI (X:Cx)(tg iter:Expr)(wi:TI):Prop:=
 ∀(pins:List (Addr×Obj)) (s:Shared) (σ:St) (H:Hp) (R:It→Hp→Prop),Inv X pins σ H s→wi σ H R→
  wpAny (model X.prog X.w) X.A (eval iter X.env) (fun v s1=>wpAny (model X.prog X.w) X.A (pyIter v) (DC X pins σ tg R) X.xe s1) X.xe s
theorem uz {M : Model} {A : Around} {E : Value → Shared → Prop} {s : Shared} {tg : Expr} {it : Addr} {u : Value} {o : Obj} {n : String} {vs : Array Value} {Q : Unit → Shared → Prop} (ho : s.heap.get? it = some o) (hc : o.cls = .type n) (hd : o.data = .fields vs)
    (hn : ["enumerate", "zip", "dict_itemiterator", "dict_reverseitemiterator", "odict_iterator", "itertools.zip_longest", "itertools.pairwise"].contains n = false) (hQ : Q () s) : wpAny M A (letOwnedTupleGo tg (.ref it) u) Q E s := by
  unfold letOwnedTupleGo
  cases tg <;> first
    | exact wpAny_pure hQ
    | (cases u <;> first
        | exact wpAny_pure hQ
        | (refine wpAny_bind (wpAny_load ho ?_)
           rw [hc, hd]
           show wpAny M A (if (["enumerate", "zip", "dict_itemiterator", "dict_reverseitemiterator", "odict_iterator", "itertools.zip_longest", "itertools.pairwise"].contains n && vs[0]? == some (rawInt _)) = true then _ else _) Q E s
           rw [if_neg (by intro h; rw [hn, Bool.false_and] at h; cases h)]
           exact wpAny_pure hQ))
def Itl (K:PySem.W.Frag)(a:Addr):It:=
 ⟨fun i H=>∃xs x,SqL K H a xs∧xs[i]?=some x,fun i H x H'=>H'=H∧∀xs,SqL K H a xs→xs[i]?=some x,fun i H=>∃xs,SqL K H a xs∧xs.length≤i⟩
def Dt (K:PySem.W.Frag)(a:Addr):It:=
 ⟨fun i H=>∃xs x,SqT K H a xs∧xs[i]?=some x,fun i H x H'=>H'=H∧∀xs,SqT K H a xs→xs[i]?=some x,fun i H=>∃xs,SqT K H a xs∧xs.length≤i⟩
def DE (lo:Int)(n:Nat):It:=⟨fun i _=>i<n,fun i H x H'=>H'=H∧x= .int (lo+i),fun i _=>n≤i⟩
theorem qH {P:Program}{w:World}{K:PySem.W.Frag}{tg:Expr}(a it:Addr):eE P w K tg (Itl K a) [it] it (fun i h=>h.IsListIter it a i) where
 mem:=by simp
 obj:=fun i h st b hb=>by
  have e:b=it:=by simpa using hb
  subst e
  obtain⟨o,e,c,d⟩:=st
  exact⟨o,e,fun v z=>by rw[d] at z;cases z⟩
 keep:=fun i h h' st k=>st.at fun o e=>k it (by simp) o e
 item:=by
  intro X hP hw hK hc i pins s σ H E I hf st hg
  subst hP hw hK
  obtain⟨xs,x,hq,hx⟩:=hg
  obtain⟨its,rv,p,hz⟩:=I.list hq
  obtain⟨u,hu,ru⟩:=rv.get hx
  obtain⟨f0,f1,f2,f3,f4,f5⟩:=hf it (by simp)
  refine wpAny_pyNext_list_item st p.isList (x:=u) (by simpa using hu) fun h' st' sb=>?_
  have I1:Inv X pins σ H {s with heap:=h'}:=I.turned (t':=s.toks) (fun b o hb e=>(sb.2 b hb).trans e) f0 f1 f3 f4 f5
  obtain⟨o,e,c,d⟩:=id st'
  exact⟨u,rfl,uz (s:={s with heap:=h'}) e c d (by decide) ⟨x,H,I1,ru,⟨rfl,fun ys hy=>by rw[I.list_inj hy hq];exact hx⟩,st',fun b hb=>(hf b hb).1⟩⟩
 done:=by
  intro X hP hw hK hc i pins s σ H E I hf st hg
  subst hP hw hK
  obtain⟨xs,hq,hx⟩:=hg
  obtain⟨its,rv,p,hz⟩:=I.list hq
  obtain⟨f0,f1,f2,f3,f4,f5⟩:=hf it (by simp)
  have hl:=rv.length
  exact wpAny_pyNext_list_end (I.ok.hd hc) st p.isList (by simp;omega) fun h' eb=>⟨rfl,I.turned (t':=s.toks) (fun b o hb e=>eb b o hb e) f0 f1 f3 f4 f5⟩
 self:=fun _ _ _ _ _ st h=>wpAny_pyIter_listiter st h
theorem mY {P:Program}{w:World}{K:PySem.W.Frag}{tg:Expr}(a it:Addr):eE P w K tg (Dt K a) [it] it (fun i h=>h.IsTupleIter it a i) where
 mem:=by simp
 obj:=fun i h st b hb=>by
  have e:b=it:=by simpa using hb
  subst e
  obtain⟨o,e,c,d⟩:=st
  exact⟨o,e,fun v z=>by rw[d] at z;cases z⟩
 keep:=fun i h h' st k=>st.at fun o e=>k it (by simp) o e
 item:=by
  intro X hP hw hK hc i pins s σ H E I hf st hg
  subst hP hw hK
  obtain⟨xs,x,hq,hx⟩:=hg
  obtain⟨its,rv,p,hz⟩:=I.tuple hq
  obtain⟨u,hu,ru⟩:=rv.get hx
  obtain⟨f0,f1,f2,f3,f4,f5⟩:=hf it (by simp)
  refine wpAny_pyNext_tuple_item st (show s.heap.IsTuple a its.toArray from p) (x:=u) (by simpa using hu) fun h' st' sb=>?_
  have I1:Inv X pins σ H {s with heap:=h'}:=I.turned (t':=s.toks) (fun b o hb e=>(sb.2 b hb).trans e) f0 f1 f3 f4 f5
  obtain⟨o,e,c,d⟩:=id st'
  exact⟨u,rfl,uz (s:={s with heap:=h'}) e c d (by decide) ⟨x,H,I1,ru,⟨rfl,fun ys hy=>by rw[I.tuple_inj hy hq];exact hx⟩,st',fun b hb=>(hf b hb).1⟩⟩
 done:=by
  intro X hP hw hK hc i pins s σ H E I hf st hg
  subst hP hw hK
  obtain⟨xs,hq,hx⟩:=hg
  obtain⟨its,rv,p,hz⟩:=I.tuple hq
  obtain⟨f0,f1,f2,f3,f4,f5⟩:=hf it (by simp)
  have hl:=rv.length
  exact wpAny_pyNext_tuple_end (I.ok.hd hc) st (show s.heap.IsTuple a its.toArray from p) (by simp;omega) fun h' eb=>⟨rfl,I.turned (t':=s.toks) (fun b o hb e=>eb b o hb e) f0 f1 f3 f4 f5⟩
 self:=fun _ _ _ _ _ st h=>wpAny_pyIter_tupleiter st h
theorem oW {P:Program}{w:World}{K:PySem.W.Frag}{tg:Expr}(it:Addr)(lo:Int)(n:Nat):eE P w K tg (DE lo n) [it] it (fun i h=>IsRangeIter h it (lo+(i:Nat)*1) ((n:Int) -(i:Nat)) 1) where
 mem:=by simp
 obj:=fun i h st b hb=>by
  have e:b=it:=by simpa using hb
  subst e
  exact⟨_,st,fun v z=>by
   have z':Data.fields _=Data.cell v:=z
   cases z'⟩
 keep:=fun i h h' st k=>k it (by simp) _ st
 item:=by
  intro X hP hw hK hc i pins s σ H E I hf st hg
  subst hP hw hK
  obtain⟨f0,f1,f2,f3,f4,f5⟩:=hf it (by simp)
  have W:=Walks.range (prog:=X.prog) (w:=X.w) (I.ok.hd hc) it lo 1 n
  refine W.item i s _ _ hg st fun v h' tk hv st' kk=>?_
  obtain⟨t,rfl⟩:=hv
  have I1:Inv X pins σ H {s with heap:=h',toks:=tk}:=I.turned (fun b o hb e=>kk b o (by simpa using hb) e) f0 f1 f3 f4 f5
  refine⟨_,rfl,uz (s:={s with heap:=h',toks:=tk}) (n:="range_iterator") st' rfl rfl (by decide) ⟨.int (lo+i),H,I1,⟨t,?_⟩,⟨rfl,rfl⟩,st',fun b hb=>(hf b hb).1⟩⟩
  rw[Int.mul_one]
 done:=by
  intro X hP hw hK hc i pins s σ H E I hf st hg
  subst hP hw hK
  obtain⟨f0,f1,f2,f3,f4,f5⟩:=hf it (by simp)
  exact wpAny_pyNext_range_end (I.ok.hd hc) st (by have:n≤i:=hg;omega) fun h' eb=>⟨rfl,I.turned (t':=s.toks) (fun b o hb e=>eb b o hb e) f0 f1 f3 f4 f5⟩
 self:=fun _ _ _ _ _ st h=>wpAny_pyIter_rangeiter st h
end L2
namespace L2
open PySem PySem.Spec PyProof.Rows
section
variable {X:Cx} {tg:Expr}
theorem uv {pins:List (Addr×Obj)}{σ:St}{H:Hp}{s:Shared}{R:It→Hp→Prop}{E:Value→Shared→Prop}{lo hi:Int}{t u v:Tok}{tk:Nat}(I:Inv X pins σ H s)(h1: -(2 ^ 62)≤lo)(h2:lo<2 ^ 62)(h3: -(2 ^ 62)≤hi)(h4:hi<2 ^ 62)
  (q:R (DE lo (hi -lo).toNat) H):wpAny (model X.prog X.w) X.A (pyIter (.ref s.heap.objs.size)) (DC X pins σ tg R) E {s with heap:=s.heap.push {cls:= .type "range",data:= .fields #[.int lo t,.int hi u,.int 1 v]},toks:=tk}:=by
 refine wpAny_pyIter_range (IsRange.new ..) (small_one h1 h2 h3 h4) ?_
 have I1:Inv X pins σ H {s with heap:=s.heap.push {cls:= .type "range",data:= .fields #[.int lo t,.int hi u,.int 1 v]},toks:=tk}:=I.kept fun b o e=>Heap.get?_push_of_some _ e
 refine⟨(s.heap.push {cls:= .type "range",data:= .fields #[.int lo t,.int hi u,.int 1 v]}).objs.size,[(s.heap.push {cls:= .type "range",data:= .fields #[.int lo t,.int hi u,.int 1 v]}).objs.size],_,_,H,rfl,
  I1.kept (t':=tk) fun b o e=>Heap.get?_push_of_some _ e,oW _ lo (hi -lo).toNat,?_,fun b hb=>?_,q⟩
 ·have e1:lo+((0:Nat):Int)*1=lo:=by simp
  have e2:(((hi -lo).toNat:Nat):Int) -((0:Nat):Int)=Builtin.Range.rangeSize lo hi 1:=by rw[rangeSize_one];split<;>omega
  show IsRangeIter _ _ (lo+((0:Nat):Int)*1) ((((hi -lo).toNat:Nat):Int) -((0:Nat):Int)) 1
  rw[e1,e2]
  exact Heap.get?_push_size _ rfl
 ·have e:b=(s.heap.push {cls:= .type "range",data:= .fields #[.int lo t,.int hi u,.int 1 v]}).objs.size:=by simpa using hb
  subst e
  exact I1.fpOk (Nat.le_refl _) (I1.hok.fresh (Nat.le_refl _))
def vi (ta:TA):TI:=fun σ H R=>ta σ H fun vs H1=>∃j:Int,vs=[.int j]∧-(2 ^ 62)≤j∧j<2 ^ 62∧R (DE 0 j.toNat) H1
theorem qx {a:Expr}{ta:TA}{p pos:Pos}(hg:Gl X "range")(hm:X.mg "range"=none)(ha:PA X [a] ta)(hs:starEach [a] X.env=[(false,eval a X.env)]:=by rfl):PI X tg (.Call (.Name "range" p) [a] [] pos) (vi ta):=by
 intro pins s σ H R I h
 refine Call_ (fg I hg hm boot_range (PyProof.Rows.callWith_type1 (K2 (ha pos pins s σ H _ I h) fun us s1 ⟨vs,H1,I1,r1,q1⟩=>?_) hs rfl))
 obtain⟨j,e,q1,q2,q⟩:=q1
 subst e
 cases r1 with
 |cons r rr=>
  cases rr
  obtain⟨t,rfl⟩:=r
  exact call_range_1 (uv I1 (by omega) (by omega) q1 q2 (by simpa using q))
def hV (fp:List Addr)(h:Heap):List (Addr×Obj):=fp.filterMap fun b=>(h.get? b).map fun o=>(b,o)
theorem X9 {fp:List Addr}{h:Heap}{b:Addr}{o:Obj}(hb:b∈fp)(e:h.get? b=some o):(b,o)∈hV fp h:=List.mem_filterMap.mpr ⟨b,hb,by rw[e];rfl⟩
theorem rR {fp:List Addr}{h:Heap}{p:Addr×Obj}(hp:p∈hV fp h):p.1∈fp∧h.get? p.1=some p.2:=by
 obtain⟨b,hb,e⟩:=List.mem_filterMap.mp hp
 cases q:h.get? b with
 |none=>rw[q] at e;cases e
 |some o=>
  rw[q] at e
  have e':(b,o)=p:=Option.some.inj e
  subst e'
  exact⟨hb,q⟩
theorem Inv.pinned {pins:List (Addr×Obj)}{σ:St}{H:Hp}{s:Shared}{fp:List Addr}(I:Inv X pins σ H s)(hf:∀b∈fp,cL X pins H b)(ho:∀b∈fp,∃o,s.heap.get? b=some o∧∀v,o.data≠ .cell v):Inv X (pins++hV fp s.heap) σ H s:=
 I.pins_of fun p hp=>(List.mem_append.mp hp).elim (fun z=>I.pin p (List.mem_append_right _ z)) fun z=>by
  obtain⟨hb,e⟩:=rR z
  obtain⟨f0,f1,f2,_⟩:=hf p.1 hb
  obtain⟨o,e',d⟩:=ho p.1 hb
  rw[e] at e';cases e'
  exact⟨e,f0,f1,f2,d⟩
theorem Inv.unpinned {pins pl:List (Addr×Obj)}{σ:St}{H:Hp}{s:Shared}(I:Inv X (pins++pl) σ H s):Inv X pins σ H s:=I.pins_of fun p hp=>I.pin p (List.mem_append_right _ (List.mem_append_left _ hp))
end
end L2
namespace L2
open PySem PySem.Spec PyProof.Rows
abbrev R2:=V→V→Hp→VK→Prop
def OpR (X:Cx)(f:Value→Value→Sem Value)(r:R2):Prop:=
 ∀(pins:List (Addr×Obj)) (s:Shared) (σ:St) (H:Hp) (x y:V) (v u:Value) (Q:VK),Inv X pins σ H s→RelV x v→RelV y u→r x y H Q→
  wpAny (model X.prog X.w) X.A (f v u) (EP X pins σ Q) X.xe s
def DM (X:Cx)(f:Value→Sem Value)(r:V→Hp→VK→Prop):Prop:=
 ∀(pins:List (Addr×Obj)) (s:Shared) (σ:St) (H:Hp) (x:V) (v:Value) (Q:VK),Inv X pins σ H s→RelV x v→r x H Q→
  wpAny (model X.prog X.w) X.A (f v) (EP X pins σ Q) X.xe s
def CallR (X:Cx)(f:Value)(r:List V→Hp→VK→Prop):Prop:=
 ∀(pins:List (Addr×Obj)) (s:Shared) (σ:St) (H:Hp) (xs:List V) (us:List Value) (Q:VK),Inv X pins σ H s→Vals xs us→r xs H Q→
  wpAny (model X.prog X.w) X.A (call f us) (EP X pins σ Q) X.xe s
def DY (X:Cx)(r:V→Hp→(Bool→Hp→Prop)→Prop):Prop:=
 ∀(pins:List (Addr×Obj)) (s:Shared) (σ:St) (H:Hp) (x:V) (v:Value) (Q:Bool→Hp→Prop),Inv X pins σ H s→RelV x v→r x H Q→
  wpAny (model X.prog X.w) X.A (truthy v) (TP X pins σ Q) X.xe s
def wt (r:R2)(ta tb:TE):TE:=fun σ H Q=>ta σ H fun x H1=>tb σ H1 fun y H2=>r x y H2 Q
def Ej (r:V→Hp→VK→Prop)(ta:TE):TE:=fun σ H Q=>ta σ H fun x H1=>r x H1 Q
def rI (C:Int→Int→Prop)(g:Int→Int→V):R2:=fun x y H Q=>∃i j,x= .int i∧y= .int j∧C i j∧Q (g i j) H
def wj (g:Int→Int→V):R2:=fun x y H Q=>∃i j,x= .int i∧y= .int j∧Q (g i j) H
def rU (g:Int→V):V→Hp→VK→Prop:=fun x H Q=>∃i,x= .int i∧Q (g i) H
section
variable {X:Cx} {a b c:Expr} {ta tb tc:TE} {pos:Pos}
theorem ze (ha:PE X a ta)(hb:PE X b tb){pins:List (Addr×Obj)}{s:Shared}{σ:St}{H:Hp}{R:V→V→Hp→Prop}(I:Inv X pins σ H s)
  (h:ta σ H fun x H1=>tb σ H1 fun y H2=>R x y H2) {Q:Value→Shared→Prop} {f:Value→Value→Sem Value}
  (hf:∀v u s2 x y H2,Inv X pins σ H2 s2→RelV x v→RelV y u→R x y H2→wpAny (model X.prog X.w) X.A (f v u) Q X.xe s2):
  wpAny (model X.prog X.w) X.A (eval a X.env) (fun v s₁=>wpAny (model X.prog X.w) X.A (eval b X.env) (fun u s₂=>wpAny (model X.prog X.w) X.A (f v u) Q X.xe s₂) X.xe s₁) X.xe s:=by
 refine K2 (ha pins s σ H _ I h) fun v s1 ⟨x,H1,I1,r1,q1⟩=>?_
 refine K2 (hb pins s1 σ H1 _ I1 q1) fun u s2 ⟨y,H2,I2,r2,q2⟩=>?_
 exact hf v u s2 x y H2 I2 r1 r2 q2
theorem BY {op:Operator}{r:R2}(ho:OpR X (binaryOp op) r)(ha:PE X a ta)(hb:PE X b tb):PE X (.BinOp a op b pos) (wt r ta tb):=by
 intro pins s σ H Q I h
 exact wpAny_BinOp (ze ha hb I h fun v u s2 x y H2 I2 rx ry q=>ho pins s2 σ H2 x y v u Q I2 rx ry q)
theorem Cb {op:UnaryOp}{r:V→Hp→VK→Prop}(ho:DM X (unaryOp op) r)(ha:PE X a ta):PE X (.UnaryOp op a pos) (Ej r ta):=by
 intro pins s σ H Q I h
 exact UnaryOp_ (K2 (ha pins s σ H _ I h) fun v s1 ⟨x,H1,I1,r1,q1⟩=>ho pins s1 σ H1 x v Q I1 r1 q1)
theorem DD {f:Value→Value→Sem Value}{C:Int→Int→Prop}{g:Int→Int→Int}
  (rule:∀(i j:Int) (t u:Tok) (s:Shared) (Q:Value→Shared→Prop) (E:Value→Shared→Prop),C i j→Q (.int (g i j) s.toks) {s with toks:=s.toks+1}→wpAny (model X.prog X.w) X.A (f (.int i t) (.int j u)) Q E s):
  OpR X f (rI C fun i j=> .int (g i j)):=by
 intro pins s σ H x y v u Q I rx ry h
 obtain⟨i,j,rfl,rfl,hc,q⟩:=h
 obtain⟨t,rfl⟩:=rx
 obtain⟨t',rfl⟩:=ry
 exact rule i j t t' s _ _ hc ⟨.int (g i j),H,I.tok _,⟨_,rfl⟩,q⟩
theorem BH {f:Value→Value→Sem Value}{g:Int→Int→Int}
  (rule:∀(i j:Int) (t u:Tok) (s:Shared) (Q:Value→Shared→Prop) (E:Value→Shared→Prop),Q (.int (g i j) s.toks) {s with toks:=s.toks+1}→wpAny (model X.prog X.w) X.A (f (.int i t) (.int j u)) Q E s):
  OpR X f (wj fun i j=> .int (g i j)):=by
 intro pins s σ H x y v u Q I rx ry h
 obtain⟨i,j,rfl,rfl,q⟩:=h
 obtain⟨t,rfl⟩:=rx
 obtain⟨t',rfl⟩:=ry
 exact rule i j t t' s _ _ ⟨.int (g i j),H,I.tok _,⟨_,rfl⟩,q⟩
theorem CL {f:Value→Value→Sem Value}{g:Int→Int→Bool}
  (rule:∀(i j:Int) (t u:Tok) (s:Shared) (Q:Value→Shared→Prop) (E:Value→Shared→Prop),Q (.bool (g i j)) s→wpAny (model X.prog X.w) X.A (f (.int i t) (.int j u)) Q E s):
  OpR X f (wj fun i j=> .bl (g i j)):=by
 intro pins s σ H x y v u Q I rx ry h
 obtain⟨i,j,rfl,rfl,q⟩:=h
 obtain⟨t,rfl⟩:=rx
 obtain⟨t',rfl⟩:=ry
 exact rule i j t t' s _ _ ⟨.bl (g i j),H,I,rfl,q⟩
def Cs (i j:Int):Prop:=0<j∧j<1073741824
def EG (i j:Int):Prop:=0≤j∧j≤1000000∧i.natAbs<2 ^ 64
def CMul (i j:Int):Prop:=(-(2 ^ 64)<i∧i<2 ^ 64)∨(-(2 ^ 64)<j∧j<2 ^ 64)
theorem CMul.ok {i j:Int}(h:CMul i j):IntMulOk i j:=by
 rcases h with⟨h1,h2⟩|⟨h1,h2⟩
 ·exact .of_left (intBits_le_64 h1 h2)
 ·exact .of_right (intBits_le_64 h1 h2)
theorem oT (k:Nat):(0:Int)≤2 ^ k:=by
 rw[two_pow_cast]
 exact Int.natCast_nonneg _
theorem op_add:OpR X (binaryOp .Add) (wj fun i j=> .int (i+j)):=BH fun _ _ _ _ _ _ _ q=>add_int q
theorem op_mul:OpR X (binaryOp .Mult) (rI CMul fun i j=> .int (i*j)):=DD fun _ _ _ _ _ _ _ hc q=>mul_int q hc.ok
theorem D5:OpR X (binaryOp .FloorDiv) (rI Cs fun i j=> .int (i/j)):=DD fun i j _ _ _ _ _ hc q=>by
 have h1:(0:Int)<j:=hc.1
 have h2:j<1073741824:=hc.2
 exact floordiv_int (by omega) (by rw[Int.fdiv_eq_ediv_of_nonneg i (by omega)];exact q) (.inl (PyProof.noPylong_small (by omega)))
theorem D6:OpR X (binaryOp .Mod) (rI (fun _ j=>0<j) fun i j=> .int (i % j)):=DD fun i j _ _ _ _ _ hc q=>by
 have h1:(0:Int)<j:=hc
 exact mod_int' (by omega) (by rw[Int.fmod_eq_emod_of_nonneg i (by omega)];exact q)
theorem kg:OpR X (binaryOp .RShift) (rI (fun _ j=>0≤j) fun i j=> .int (i/2 ^ j.toNat)):=DD fun i j _ _ _ _ _ hc q=>
 rshift_int hc (by rw[Int.fdiv_eq_ediv_of_nonneg i (oT _)];exact q)
theorem jM:OpR X (binaryOp .BitAnd) (wj fun i j=> .int (Builtin.bitAnd i j)):=BH fun _ _ _ _ _ _ _ q=>and_int q
theorem Fe {f:Value→Sem Value}{g:Int→Int}
  (rule:∀(i:Int) (t:Tok) (s:Shared) (Q:Value→Shared→Prop) (E:Value→Shared→Prop),Q (.int (g i) s.toks) {s with toks:=s.toks+1}→wpAny (model X.prog X.w) X.A (f (.int i t)) Q E s):
  DM X f (rU fun i=> .int (g i)):=by
 intro pins s σ H x v Q I rx h
 obtain⟨i,rfl,q⟩:=h
 obtain⟨t,rfl⟩:=rx
 exact rule i t s _ _ ⟨.int (g i),H,I.tok _,⟨_,rfl⟩,q⟩
theorem Bn:DM X (unaryOp .USub) (rU fun i=> .int (-i)):=Fe fun _ _ _ _ _ q=>neg_int q
end
def CA:V→V→Bool
 | .non,.non=>true| .non,.int _=>true| .int _,.non=>true| .non,.bl _=>true| .bl _,.non=>true| .non,.str _=>true| .str _,.non=>true
 | .int _,.int _=>true| .bl _,.bl _=>true| .str _,.str _=>true| .byt _,.byt _=>true
 | .int _,.str _=>true| .str _,.int _=>true| .bl _,.str _=>true| .str _,.bl _=>true
 |_,_=>false
def Dy:R2:=fun x y H Q=>CA x y=true∧Q (.bl (decide (x=y))) H
def EK:R2:=fun x y H Q=>CA x y=true∧Q (.bl (!decide (x=y))) H
theorem eX {i j:Int}:decide (V.int i=V.int j)=(i==j):=by
 rw[Bool.eq_iff_iff]
 simp
theorem vH {i j:Bool}:decide (V.bl i=V.bl j)=(i==j):=by
 rw[Bool.eq_iff_iff]
 simp
theorem jU {i j:Str}:decide (V.str i=V.str j)=(i==j):=by
 rw[Bool.eq_iff_iff]
 simp
theorem pk {i j:Array UInt8}:decide (V.byt i=V.byt j)=(i.toList==j.toList):=by
 rw[Bool.eq_iff_iff]
 cases i
 cases j
 simp
section
variable {X:Cx} {a b c:Expr} {ta tb tc:TE} {pos:Pos}
theorem u7 {pins:List (Addr×Obj)}{σ:St}{H:Hp}{s:Shared}{Q:VK}{k k':Bool}(I:Inv X pins σ H s)(q:Q (.bl k) H)(e:k=k'):EP X pins σ Q (.bool k') s:=by
 subst e
 exact⟨.bl k,H,I,rfl,q⟩
theorem op_eq:OpR X (compareOp .Eq) Dy:=by
 intro pins s σ H x y v u Q I rx ry h
 obtain⟨hs,q⟩:=h
 cases x with
 |non=>
  cases rx
  cases y with
  |non=>cases ry;exact PySem.EqNone.eq_none_none (u7 I q (by simp))
  |bl j=>cases ry;exact PySem.EqNone.eq_none_bool (u7 I q (by simp))
  |int j=>obtain⟨t',rfl⟩:=ry;exact PySem.EqNone.eq_none_int (u7 I q (by simp))
  |str j=>obtain⟨t',rfl⟩:=ry;exact PySem.EqNone.eq_none_str (u7 I q (by simp))
  |_=>exact absurd (show false=true from hs) Bool.false_ne_true
 |bl i=>
  cases rx
  cases y with
  |non=>cases ry;exact PySem.EqNone.eq_bool_none (u7 I q (by simp))
  |bl j=>cases ry;exact eq_bool (u7 I q vH)
  |str j=>obtain⟨t',rfl⟩:=ry;exact PySem.EqMixed.eq_bool_str (u7 I q (by simp))
  |_=>exact absurd (show false=true from hs) Bool.false_ne_true
 |int i=>
  obtain⟨t,rfl⟩:=rx
  cases y with
  |non=>cases ry;exact PySem.EqNone.eq_int_none (u7 I q (by simp))
  |int j=>obtain⟨t',rfl⟩:=ry;exact eq_int (u7 I q eX)
  |str j=>obtain⟨t',rfl⟩:=ry;exact PySem.EqMixed.eq_int_str (u7 I q (by simp))
  |_=>exact absurd (show false=true from hs) Bool.false_ne_true
 |str i=>
  obtain⟨t,rfl⟩:=rx
  cases y with
  |non=>cases ry;exact PySem.EqNone.eq_str_none (u7 I q (by simp))
  |bl j=>cases ry;exact PySem.EqMixed.eq_str_bool (u7 I q (by simp))
  |int j=>obtain⟨t',rfl⟩:=ry;exact PySem.EqMixed.eq_str_int (u7 I q (by simp))
  |str j=>obtain⟨t',rfl⟩:=ry;exact eq_str (u7 I q jU)
  |_=>exact absurd (show false=true from hs) Bool.false_ne_true
 |byt i=>
  obtain⟨t,rfl⟩:=rx
  cases y with
  |byt j=>obtain⟨t',rfl⟩:=ry;exact PySem.W.eq_bytes (u7 I q pk)
  |_=>exact absurd (show false=true from hs) Bool.false_ne_true
 |_=>cases y<;>exact absurd (show false=true from hs) Bool.false_ne_true
theorem op_ne:OpR X (compareOp .NotEq) EK:=by
 intro pins s σ H x y v u Q I rx ry h
 obtain⟨hs,q⟩:=h
 cases x with
 |non=>
  cases rx
  cases y with
  |non=>cases ry;exact PySem.EqNone.ne_none_none (u7 I q (by simp))
  |bl j=>cases ry;exact PySem.EqNone.ne_none_bool (u7 I q (by simp))
  |int j=>obtain⟨t',rfl⟩:=ry;exact PySem.EqNone.ne_none_int (u7 I q (by simp))
  |str j=>obtain⟨t',rfl⟩:=ry;exact PySem.EqNone.ne_none_str (u7 I q (by simp))
  |_=>exact absurd (show false=true from hs) Bool.false_ne_true
 |bl i=>
  cases rx
  cases y with
  |non=>cases ry;exact PySem.EqNone.ne_bool_none (u7 I q (by simp))
  |bl j=>cases ry;exact ne_bool (u7 I q (congrArg not vH))
  |str j=>obtain⟨t',rfl⟩:=ry;exact PySem.EqMixed.ne_bool_str (u7 I q (by simp))
  |_=>exact absurd (show false=true from hs) Bool.false_ne_true
 |int i=>
  obtain⟨t,rfl⟩:=rx
  cases y with
  |non=>cases ry;exact PySem.EqNone.ne_int_none (u7 I q (by simp))
  |int j=>obtain⟨t',rfl⟩:=ry;exact ne_int (u7 I q (congrArg not eX))
  |str j=>obtain⟨t',rfl⟩:=ry;exact PySem.EqMixed.ne_int_str (u7 I q (by simp))
  |_=>exact absurd (show false=true from hs) Bool.false_ne_true
 |str i=>
  obtain⟨t,rfl⟩:=rx
  cases y with
  |non=>cases ry;exact PySem.EqNone.ne_str_none (u7 I q (by simp))
  |bl j=>cases ry;exact PySem.EqMixed.ne_str_bool (u7 I q (by simp))
  |int j=>obtain⟨t',rfl⟩:=ry;exact PySem.EqMixed.ne_str_int (u7 I q (by simp))
  |str j=>obtain⟨t',rfl⟩:=ry;exact ne_str (u7 I q (congrArg not jU))
  |_=>exact absurd (show false=true from hs) Bool.false_ne_true
 |byt i=>
  obtain⟨t,rfl⟩:=rx
  cases y with
  |byt j=>obtain⟨t',rfl⟩:=ry;exact PySem.W.ne_bytes (u7 I q (congrArg not pk))
  |_=>exact absurd (show false=true from hs) Bool.false_ne_true
 |_=>cases y<;>exact absurd (show false=true from hs) Bool.false_ne_true
theorem op_lt:OpR X (compareOp .Lt) (wj fun i j=> .bl (decide (i<j))):=CL fun _ _ _ _ _ _ _ q=>lt_int q
theorem tJ:OpR X (compareOp .Gt) (wj fun i j=> .bl (decide (j<i))):=CL fun _ _ _ _ _ _ _ q=>gt_int q
theorem rT:OpR X (compareOp .Lt) (fun x y H Q=>∃i j,x= .str i∧y= .str j∧Q (.bl (decide (i.cps.toList<j.cps.toList))) H):=by
 intro pins s σ H x y v u Q I rx ry h
 obtain⟨i,j,rfl,rfl,q⟩:=h
 obtain⟨t,rfl⟩:=rx
 obtain⟨t',rfl⟩:=ry
 exact lt_str (u7 I q rfl)
theorem rg:OpR X (compareOp .In) (fun x y H Q=>∃i j,x= .str i∧y= .str j∧Q (.bl (!(Builtin.Str.occurrences j i 0 j.length 1).isEmpty)) H):=by
 intro pins s σ H x y v u Q I rx ry h
 obtain⟨i,j,rfl,rfl,q⟩:=h
 obtain⟨t,rfl⟩:=rx
 obtain⟨t',rfl⟩:=ry
 exact in_str (u7 I q rfl)
theorem OpR.or {f:Value→Value→Sem Value}{r r':R2}(h:OpR X f r)(h':OpR X f r'):OpR X f (fun x y H Q=>r x y H Q∨r' x y H Q):=by
 intro pins s σ H x y v u Q I rx ry q
 rcases q with q|q
 ·exact h pins s σ H x y v u Q I rx ry q
 ·exact h' pins s σ H x y v u Q I rx ry q
theorem z0 (b:Expr){op:CmpOp}(h:op≠ .In:=by decide)(h2:op≠ .NotIn:=by decide):behindInMarks op b=false:=by
 have e1:(op==CmpOp.In)=false:=by cases op<;>first|rfl|exact absurd rfl h
 have e2:(op==CmpOp.NotIn)=false:=by cases op<;>first|rfl|exact absurd rfl h2
 cases b<;>simp [behindInMarks,e1,e2]
theorem wK {op:CmpOp}{r:R2}(ho:OpR X (compareOp op) r)(ha:PE X a ta)(hb:PE X b tb)(hm:behindInMarks op b=false):PE X (.Compare a [op] [b] pos) (wt r ta tb):=by
 intro pins s σ H Q I h
 exact wpAny_Compare1 (ze ha hb I h fun v u s2 x y H2 I2 rx ry q=>ho pins s2 σ H2 x y v u Q I2 rx ry q) hm
def vJ (t:TE):TT:=fun σ H Q=>t σ H fun x H'=>∃k,x= .bl k∧Q k H'
theorem xK {op:CmpOp}{r:R2}(ho:OpR X (compareOp op) r)(ha:PE X a ta)(hb:PE X b tb)(hm:behindInMarks op b=false):PT X (.Compare a [op] [b] pos) (vJ (wt r ta tb)):=by
 intro pins s σ H Q I h
 refine wpAny_isTrue_Compare1 (K2 (ha pins s σ H _ I h) fun v s1 ⟨x,H1,I1,r1,q1⟩=>K2 (hb pins s1 σ H1 _ I1 q1) fun u s2 ⟨y,H2,I2,r2,q2⟩=>
  K2 (ho pins s2 σ H2 x y v u _ I2 r1 r2 q2) fun c s3 ⟨z,H3,I3,r3,k,e,q3⟩=>?_) hm
 subst e
 cases r3
 exact wpAny_truthy_bool ⟨H3,I3,q3⟩
def tD (K:PySem.W.Frag)(x:V)(H:Hp)(k:Bool):Prop:=
 match x with
 | .non=>k=false
 | .bl b=>k=b
 | .int i=>k=(i !=0)
 | .str y=>y.length≤sizeLine∧k=((y.length:Int) !=0)
 | .byt y=>y.size≤sizeLine∧k=((y.size:Int) !=0)
 | .ref p=>(∃xs,SqL K H p xs∧k=!xs.isEmpty)∨(∃xs,SqT K H p xs∧k=!xs.isEmpty)∨∃kvs,H p=some (.dK kvs)∧k=!kvs.isEmpty
 |_=>False
theorem oA {κ:Type}{kvs:List (κ×V)}{vs:List (κ×Value)}(r:KV kvs vs):(!vs.isEmpty)=!kvs.isEmpty:=by
 cases r<;>rfl
theorem gS {xs:List V}{its:List Value}(r:Vals xs its):(!its.toArray.isEmpty)=!xs.isEmpty:=by
 cases r<;>simp
theorem cW:(sizeLine:Nat)<2 ^ 63:=by rw[sizeLine_eq];decide
theorem zW:DY X (fun x H Q=>∃k,tD X.K x H k∧Q k H):=by
 intro pins s σ H x v Q I rx h
 obtain⟨k,e,q⟩:=h
 have hl:=cW
 have hs:sizeLine=16777216:=sizeLine_eq
 cases x with
 |non=>
  cases rx
  have e':k=false:=e
  subst e'
  exact truthy_none ⟨H,I,q⟩
 |bl b=>
  cases rx
  have e':k=b:=e
  subst e'
  exact wpAny_truthy_bool ⟨H,I,q⟩
 |int i=>
  obtain⟨t,rfl⟩:=rx
  have e':k=(i !=0):=e
  subst e'
  exact PySem.P.truthy_int ⟨H,I,q⟩
 |str y=>
  obtain⟨t,rfl⟩:=rx
  obtain⟨hy,e'⟩:y.length≤sizeLine∧k=((y.length:Int) !=0):=e
  subst e'
  exact PySem.P.truthy_str (by omega) ⟨H,I.tok _,q⟩
 |byt y=>
  obtain⟨t,rfl⟩:=rx
  obtain⟨hy,e'⟩:y.size≤sizeLine∧k=((y.size:Int) !=0):=e
  subst e'
  exact PySem.W.truthy_bytes (by omega) ⟨H,I.tok _,q⟩
 |ref p=>
  cases rx
  have e':(∃xs,SqL X.K H p xs∧k=!xs.isEmpty)∨(∃xs,SqT X.K H p xs∧k=!xs.isEmpty)∨∃kvs,H p=some (.dK kvs)∧k=!kvs.isEmpty:=e
  rcases e' with⟨xs,hx,e'⟩|⟨xs,hx,e'⟩|⟨kvs,hx,e'⟩
  ·subst e'
   obtain⟨its,r,pl,hz⟩:=I.list hx
   have hlen:=r.length
   exact wpAny_truthy_list pl.isList (by simp only[List.size_toArray];omega) ⟨H,I.tok _,by rw[gS r];exact q⟩
  ·subst e'
   obtain⟨its,r,pl,hz⟩:=I.tuple hx
   have hlen:=r.length
   exact truthy_tuple pl (by simp only[List.size_toArray];omega) ⟨H,I.tok _,by rw[gS r];exact q⟩
  ·subst e'
   obtain⟨hz,hS,vs,r,m⟩:kvs.length≤sizeLine∧(p==sysModules)=false∧∃vs,KV kvs vs∧s.heap.DictOf (k8 X.prog X.w) p vs:=I.hok p _ hx
   have hlen:kvs.length=vs.length:=Paired.length r
   exact wpAny_truthy_dict hS m (by omega) ⟨H,I.tok _,by rw[oA r];exact q⟩
 |_=>exact(show False from e).elim
theorem sC (ha:PE X a ta)(he:∀whole,isTrue a X.env whole=(do let v←whole;standAt a.pos;holding [v] (truthy v))):
  PT X a (fun σ H Q=>ta σ H fun x H'=>∃k,tD X.K x H' k∧Q k H'):=by
 intro pins s σ H Q I h
 exact isTrue_plain (K2 (ha pins s σ H _ I h) fun v s1 ⟨x,H1,I1,r1,q1⟩=>zW pins s1 σ H1 x v Q I1 r1 q1) (he _)
theorem op_add_str:OpR X (binaryOp .Add) (fun x y H Q=>∃i j,x= .str i∧y= .str j∧i.length+j.length≤sizeLine∧Q (.str (i++j)) H):=by
 intro pins s σ H x y v u Q I rx ry h
 obtain⟨i,j,rfl,rfl,hz,q⟩:=h
 obtain⟨t,rfl⟩:=rx
 obtain⟨t',rfl⟩:=ry
 exact add_str (fun t' tk=>⟨.str (i++j),H,I.tok _,⟨_,rfl⟩,q⟩) hz
theorem K6 {x:V}{us:List Value}(r:Vals [x] us):∃u,us=[u]∧RelV x u:=by
 cases r with
 |cons r1 r2=>cases r2;exact⟨_,rfl,r1⟩
theorem dG {x y:V}{us:List Value}(r:Vals [x,y] us):∃u w',us=[u,w']∧RelV x u∧RelV y w':=by
 cases r with
 |cons r1 r2=>
  cases r2 with
  |cons r3 r4=>cases r4;exact⟨_,_,rfl,r1,r3⟩
def BQ (K:PySem.W.Frag)(x:V)(H:Hp)(n:Nat):Prop:=
 match x with
 | .str y=>y.length≤sizeLine∧n=y.length
 | .byt y=>y.size≤sizeLine∧n=y.size
 | .ref p=>(∃xs,SqL K H p xs∧n=xs.length)∨∃xs,SqT K H p xs∧n=xs.length
 |_=>False
theorem call_len:CallR X (.builtin "len") (fun xs H Q=>∃x n,xs=[x]∧BQ X.K x H n∧Q (.int n) H):=by
 intro pins s σ H xs us Q I r h
 obtain⟨x,n,rfl,e,q⟩:=h
 obtain⟨u,rfl,rx⟩:=K6 r
 have hl:=cW
 have hs:sizeLine=16777216:=sizeLine_eq
 cases x with
 |str y=>
  obtain⟨t,rfl⟩:=rx
  obtain⟨hy,e'⟩:y.length≤sizeLine∧n=y.length:=e
  subst e'
  exact len_str (by omega) ⟨.int _,H,I.tok _,⟨_,rfl⟩,q⟩
 |byt y=>
  obtain⟨t,rfl⟩:=rx
  obtain⟨hy,e'⟩:y.size≤sizeLine∧n=y.size:=e
  subst e'
  exact PySem.W.len_bytes (by omega) ⟨.int _,H,I.tok _,⟨_,rfl⟩,q⟩
 |ref p=>
  cases rx
  have e':(∃xs,SqL X.K H p xs∧n=xs.length)∨∃xs,SqT X.K H p xs∧n=xs.length:=e
  rcases e' with⟨xs,hx,e'⟩|⟨xs,hx,e'⟩
  ·subst e'
   obtain⟨its,r',pl,hz⟩:=I.list hx
   have hlen:=r'.length
   exact Calls.call_len_list pl.isList (by simp only[List.size_toArray];omega) ⟨.int xs.length,H,I.tok _,⟨_,by simp only[List.size_toArray];rw[hlen]⟩,q⟩
  ·subst e'
   obtain⟨its,r',pl,hz⟩:=I.tuple hx
   have hlen:=r'.length
   exact len_tuple pl (by simp only[List.size_toArray];omega) ⟨.int xs.length,H,I.tok _,⟨_,by simp only[List.size_toArray];rw[hlen]⟩,q⟩
 |_=>exact(show False from e).elim
end
end L2
namespace L2
open PySem PySem.Spec PyProof.Rows
structure Ff (h:Heap) (x dx C:Addr) (mA:Str→Option Value):Prop where
 obj:h.get? x=some (PySem.W.instObj C dx)
 ns:h.Ns1 dx mA
 ne:dx≠x
section
variable {prog:Program} {w:World} {A:Around} {E:Value→Shared→Prop} {s:Shared} {K:PySem.W.Frag} {x dx C f:Addr} {mA:Str→Option Value} {name:Str} {v:Value}
end
theorem RelO.some_of {v:V}{o:Option Value}(r:RelO (some v) o):∃u,o=some u∧RelV v u:=by
 cases o with
 |none=>exact(show False from r).elim
 |some u=>exact⟨u,rfl,r⟩
section
variable {P:Program} {w:World} {H H':Hp} {h h':Heap} {a C dx:Addr} {fs fs':List (Str×V)}
end
structure Fv (K:PySem.W.Frag) (C:Addr):Prop where
 pg:PySem.W.plainGet K C Str.empty=true
 hd:PySem.W.hasDictIn K C=true
 po:PySem.W.plainOver K C=true
 sa:PySem.W.findIn K (.ref C) "__setattr__"=some (some (.builtin "object.__setattr__"))
structure FH (K:PySem.W.Frag) (C:Addr) (f:Str) (v:V) (u:Value):Prop where
 at_:PySem.W.findIn K (.ref C) f=some (some u)
 rel:RelV v u
 get:PySem.W.specialIn K u "__get__"=some none
 cp:PySem.W.copiedNames.contains f=false
structure Fs (K:PySem.W.Frag) (C:Addr) (m:Str) (f:Addr):Prop where
 at_:PySem.W.findIn K (.ref C) m=some (some (.ref f))
 fn:PySem.W.isFn K (.ref f)=true
 kp:PySem.W.keepIn K (.ref f)=true
section
variable {X:Cx} {pins:List (Addr×Obj)} {σ:St} {H:Hp} {s:Shared} {a C dx:Addr} {fs:List (Str×V)} {f:Str} {v:V} {A:Around} {E:Value→Shared→Prop}
end
section
variable {X:Cx} {o e value:Expr} {f:Str} {pos pos' tpos:Pos} {ta tv:TE}
end
section
variable {X:Cx} {pins:List (Addr×Obj)} {σ:St} {H:Hp} {s:Shared} {A:Around} {E:Value→Shared→Prop} {Q:Value→Shared→Prop} {c:Value} {b:Bool}
inductive gI (K:PySem.W.Frag) (H:Hp):V→Value→Prop where
 |non:gI K H .non (.type "NoneType")
 |bl (x:Bool):gI K H (.bl x) (.type "bool")
 |int (i:Int):gI K H (.int i) (.type "int")
 |str (x:Str):gI K H (.str x) (.type "str")
 |flt (x:UInt64):gI K H (.flt x) (.type "float")
 |lst {a:Addr} {xs:List V} (e:H a=some (.lst xs)):gI K H (.ref a) (.type "list")
 |frz {a:Addr} {o:Obj} {xs:List V} (e:H a=some (.frz o (.lst xs))):gI K H (.ref a) (.type "list")
 |tup {a:Addr} {xs:List V} (e:H a=some (.tup xs)):gI K H (.ref a) (.type "tuple")
 |dK {a:Addr} {kvs:List (j8×V)} (e:H a=some (.dK kvs)):gI K H (.ref a) (.type "dict")
 |dT {a:Addr} {kvs:List (List j8×V)} (e:H a=some (.dT kvs)):gI K H (.ref a) (.type "dict")
 |ins {a C dx:Addr} {fs:List (Str×V)} (e:H a=some (.ins C dx fs)) (cl:Fv K C) (ha:PySem.W.findIn K (.ref C) "__class__"=some (some (.builtin "object.__class__")))
   (hn:PySem.W.specialIn K (.builtin "object.__class__") "__get__"=some (some (.builtin "getset_descriptor.__get__"))) (htk:PySem.W.takesIn K (.builtin "object.__class__")=some true)
   (hm:PySem.W.mroIn K C (.type "object")=some true):gI K H (.ref a) (.ref C)
end
end L2
namespace L2
open PySem PySem.Spec PyProof.Rows
structure Room (k:Nat) (A:Around):Prop where
 hd:A.handled=none
 dp:A.depth+3*k+5<recursionLimit
 un:A.units+16*k+200<cLine
theorem Room.mono {j k:Nat}{A:Around}(r:Room k A)(h:j≤k):Room j A:=⟨r.hd,by have:=r.dp;omega,by have:=r.un;omega⟩
theorem Room.deeper {k:Nat}{A:Around}(r:Room (k+1) A)(env:Env):Room k (A.deeper env):=
 ⟨r.hd,by have:=r.dp;show A.depth+1+3*k+5<_;omega,by have:=r.un;show A.units+3+16*k+200<_;omega⟩
theorem Room.depth {k:Nat}{A:Around}(r:Room k A):A.depth<recursionLimit:=by have:=r.dp;omega
theorem Room.units {k:Nat}{A:Around}(r:Room k A):A.units+64<cLine:=by have:=r.un;omega
def tN:TA:=fun _ H Q=>Q [] H
def qe (ta:TE)(tr:TA):TA:=fun σ H Q=>ta σ H fun x H1=>tr σ H1 fun xs H2=>Q (x::xs) H2
section
variable {X:Cx} {e:Expr} {es:List Expr} {te:TE} {t:TA} {pos:Pos}
theorem AM:PA X [] tN:=fun _ _ _ _ H Q I h=>Calls.spliced_nil ⟨[],H,I,.nil,h⟩
theorem xl (ha:PE X e te)(hr:PA X es t)(hs:starEach (e::es) X.env=(false,eval e X.env)::starEach es X.env:=by rfl):PA X (e::es) (qe te t):=by
 intro pos pins s σ H Q I h
 rw[hs]
 show wpAny _ _ (spliced ((false,eval e X.env)::backTo pos (starEach es X.env))) _ _ s
 refine Calls.spliced_cons (K2 (ha pins s σ H _ I h) fun u s1 ⟨x,H1,I1,r1,q1⟩=>?_)
 exact K2 (hr pos pins s1 σ H1 _ I1 q1) fun us s2 ⟨xs,H2,I2,r2,q2⟩=>⟨x::xs,H2,I2,.cons r1 r2,q2⟩
def zo (t:TA):TE:=fun σ H Q=>t σ H fun xs H1=>xs.length≤sizeLine∧∀p,H1 p=none→Q (.ref p) (p7 H1 p (.tup xs))
def Bj (t:TA):TE:=fun σ H Q=>t σ H fun xs H1=>xs.length≤sizeLine∧∀p,H1 p=none→Q (.ref p) (p7 H1 p (.lst xs))
theorem zL {x1}(h:PA X es t):PE X (.Tuple es x1 pos) (zo t):=by
 intro pins s σ H Q I hq
 refine wpAny_Tuple_spliced (K2 (h pos pins s σ H _ I hq) fun us s1 ⟨xs,H1,I1,r,z,q⟩=>⟨by rw[←r.length];exact z,?_⟩)
 have hf:H1 s1.heap.objs.size=none:=I1.hok.fresh (Nat.le_refl _)
 refine⟨.ref s1.heap.objs.size,p7 H1 s1.heap.objs.size (.tup xs),I1.laid (t':=s1.toks) (fun b u e=>Heap.get?_push_of_some _ e) (Nat.le_refl _) ?_,rfl,q _ hf⟩
 exact⟨z,us,r,⟨_,Heap.get?_push_size _ rfl,rfl,_,rfl⟩⟩
theorem Ax (h:PA X es t):PE X (.List es pos) (Bj t):=by
 intro pins s σ H Q I hq
 refine wpAny_List_spliced (K2 (h pos pins s σ H _ I hq) fun us s1 ⟨xs,H1,I1,r,z,q⟩=>⟨by rw[←r.length];exact z,?_⟩)
 have hf:H1 s1.heap.objs.size=none:=I1.hok.fresh (Nat.le_refl _)
 refine⟨.ref s1.heap.objs.size,p7 H1 s1.heap.objs.size (.lst xs),I1.laid (t':=s1.toks) (fun b u e=>Heap.get?_push_of_some _ e) (Nat.le_refl _) ?_,rfl,q _ hf⟩
 exact⟨z,us,0,r,Heap.get?_push_size _ rfl⟩
end
abbrev Sp:=List V→Hp→VK→XK→Prop
abbrev kD:=List Env→Hp→Shared→XK→Value→Shared→Prop
structure xu (P:Program) (w:World) (K:PySem.W.Frag) (mg:Str→Option Value) (base:Heap) (A:Around) (outer:List Env) (s:Shared) (H:Hp):Prop where
 frames:A.frames=some outer
 mod:Mod K mg base
 bs:∀b o,base.get? b=some o→s.heap.get? b=some o∧H b=none
 bsz:base.objs.size≤s.heap.objs.size
 funs:s.heap.FunFrames base outer
 frf:∀b∈V5 outer,H b=none
 hok:HOk P w H s.heap
 bare:AllBare s.gens
def CE (outer:List Env)(P:Program)(w:World)(H:Hp)(s:Shared)(Q:VK)(u:Value)(s':Shared):Prop:=
 ∃v H',s'.os=s.os∧AllBare s'.gens∧Un (V5 outer) [] H H' s.heap s'.heap∧HOk P w H' s'.heap∧RelV v u∧Q v H'
def CR (CX:kD)(outer:List Env)(P:Program)(w:World)(H:Hp)(s:Shared)(Q:VK)(E:XK)(r:Result)(s':Shared):Prop:=
 match r with
 | .ok (.ret u)=>CE outer P w H s Q u s'
 | .ok _=>False
 | .error e=>CX outer H s E e s'
structure p0 (P:Program) (w:World) (K:PySem.W.Frag) (mg:Str→Option Value) (base:Heap) (CX:kD) (k:Nat) (f:Addr) (fd:FuncData) (ps:List Str) (sp:Sp):Prop where
 len:∀vs H Q E,sp vs H Q E→vs.length=ps.length
 run:∀(A:Around) (outer:List Env) (s:Shared) (H:Hp) (args:Args) (us:List Value) (vs:List V) (Q:VK) (E:XK),Room k A→xu P w K mg base A outer s H→BindsTo s fd args (ps.zip us)→Vals vs us→sp vs H Q E→
  codeAny (model P w) A (.call (.ref f) args) (CR CX outer P w H s Q E) s
section
variable {X:Cx} {pins:List (Addr×Obj)} {σ:St} {H:Hp} {s s':Shared}
theorem Inv.env0 (I:Inv X pins σ H s):xu X.prog X.w X.K X.mg X.base X.A X.stack s H:=
 ⟨I.ok.frames,I.ok.mod,I.bs,Nat.le_trans I.ok.bsz I.sz,I.stack,I.stkFree,I.hok,I.bare⟩
theorem Inv.after {Q:VK}{u:Value}(I:Inv X pins σ H s)(h:CE X.stack X.prog X.w H s Q u s'):EP X pins σ Q u s':=by
 obtain⟨v,H',os,bare,un,hok,r,q⟩:=h
 obtain⟨hh,g,d,t,os'⟩:=s'
 obtain rfl:os'=s.os:=os
 exact⟨v,H',I.call (h':=hh) (g':=g) (d':=d) (t':=t) (ch:=[]) un hok bare (fun b z=>absurd z (by simp)),r,q⟩
end
def mR (sp:Sp)(dvs:List V)(E:XK)(t:TA):TE:=fun σ H Q=>t σ H fun vs H1=>sp (vs++dvs) H1 Q E
def Binds (K:PySem.W.Frag)(fd:FuncData)(ps:List Str)(ds:List Value):Prop:=
 ∀(s:Shared) (us:List Value),K.In s.heap→(us++ds).length=ps.length→BindsTo s fd ⟨us,[]⟩ (ps.zip (us++ds))
theorem Binds.all {K:PySem.W.Frag}{fd:FuncData}{ps:List Str}(h:∀us:List Value,us.length=ps.length→bindArgs fd ⟨us,[]⟩=pure (ps.zip us)):Binds K fd ps []:=fun s us _ hl=>by
 rw[List.append_nil] at hl⊢
 exact .of_eq (h us hl)
def aF (CX:kD)(X:Cx)(E:XK):Prop:=∀(pins:List (Addr×Obj)) (σ:St) (H:Hp) (s:Shared) (e:Value) (s':Shared),Inv X pins σ H s→CX X.stack H s E e s'→X.xe e s'
section
variable {X:Cx} {CX:kD} {k:Nat} {f C:Addr} {fd:FuncData} {ps:List Str} {sp:Sp} {dvs:List V} {ds:List Value} {E:XK} {x m:Str} {p pos apos:Pos} {e o:Expr} {es:List Expr} {ta:TE} {t:TA}
theorem zH {pins:List (Addr×Obj)}{σ:St}{H:Hp}{s:Shared}{Q:VK}{us:List Value}{vs:List V}(F:p0 X.prog X.w X.K X.mg X.base CX k f fd ps sp)(hr:Room k X.A)(hb:Binds X.K fd ps ds)(hd:Vals dvs ds)(hx:aF CX X E)
  (I:Inv X pins σ H s) (r:Vals vs us) (h:sp (vs++dvs) H Q E):wpAny (model X.prog X.w) X.A (call (.ref f) us) (EP X pins σ Q) X.xe s:=by
 have r2:Vals (vs++dvs) (us++ds):=r.append hd
 have hl:(us++ds).length=ps.length:=by rw[←r2.length];exact F.len _ _ _ _ h
 refine wpAny_call (codeAny_mono (F.run X.A X.stack s H ⟨us,[]⟩ (us++ds) (vs++dvs) Q E hr I.env0 (hb s us I.kIn hl) r2 h) fun r s' hq=>?_)
 cases r with
 |error e=>exact hx pins σ H s e s' I hq
 |ok fl=>
  cases fl with
  |ret u=>exact I.after hq
  |next=>exact False.elim hq
  |brk=>exact False.elim hq
  |cont=>exact False.elim hq
theorem wR (F:p0 X.prog X.w X.K X.mg X.base CX k f fd ps sp)(hr:Room k X.A)(hg:Gl X x)(hm:X.mg x=some (.ref f))(hk:PySem.W.keepIn X.K (.ref f)=true)(hb:Binds X.K fd ps ds)(hd:Vals dvs ds)(hx:aF CX X E)
  (ha:PA X (e::es) t) (hdb:(x==("__debug__":Str))=false:=by decide) (he:starEach (e::es) X.env=(false,eval e X.env)::starEach es X.env:=by rfl) (hpl:(backTo pos (starEach es X.env)).any (·.1)=false:=by rfl):
  PE X (.Call (.Name x p) (e::es) [] pos) (mR sp dvs E t):=by
 intro pins s σ H Q I h
 refine wpAny_Call_Name_kw (cO I hg hm ?_ hdb)
 refine PySem.W.callWith_K (h₀:=X.base) I.ok.mod.kin hk (K2 (ha pos pins s σ H _ I h) fun us s1 ⟨vs,H1,I1,r,q⟩=>⟨I1.kIn,?_⟩) he hpl
 exact zH F hr hb hd hx I1 r q
structure Mk (K:PySem.W.Frag) (C f:Addr):Prop where
 makes:PySem.W.makesIn K C=true
 init:PySem.W.findIn K (.ref C) "__init__"=some (some (.ref f))
 fn:PySem.W.isFn K (.ref f)=true
 kp:PySem.W.keepIn K (.ref C)=true
end
section
variable {X:Cx} {CX:kD} {k:Nat} {f C:Addr} {fd:FuncData} {ps ks:List Str} {sp:Sp} {E:XK} {x m:Str} {p pos apos kpos:Pos} {e o:Expr} {es:List Expr} {kws:List Keyword} {te ta:TE} {t tk:TA} {nm:Option Str}
structure DS (K:PySem.W.Frag) (fd:FuncData) (ps ks:List Str) (g:List Value→List Value→List Value) (gV:List V→List V→List V):Prop where
 to:∀(s:Shared) (us ws:List Value),K.In s.heap→(g us ws).length=ps.length→BindsTo s fd ⟨us,ks.zip ws⟩ (ps.zip (g us ws))
 rel:∀{vs:List V} {us:List Value} {zs:List V} {ws:List Value},Vals vs us→Vals zs ws→Vals (gV vs zs) (g us ws)
variable {g:List Value→List Value→List Value} {gV:List V→List V→List V}
end
structure d9 (N P:List Str) (sc:Scope):Prop where
 kind:sc.kind= .function
 co:sc.isCoroutine=false
 gen:sc.isGenerator=false
 nd:N.Nodup
 pre:N.take P.length=P
 par:∀x∈P,sc.names.lookup x=some .local∨sc.names.lookup x=some .cell
 nofree:∀y∈sc.names,y.2≠ .free
theorem jt {kindOf:Str→Option NameKind}{x:Str}:∀{binds:List (Str×Value)} {m:Str→Option Value},(∀v,(x,v)∉binds)→bindL kindOf binds m x=m x
 |[],_,_=>rfl
 |(n,v)::r,m,h=>by
  unfold bindL
  rw[jt fun w hw=>h w (List.mem_cons_of_mem _ hw)]
  split
  ·have:x≠n:=by rintro rfl;exact h v List.mem_cons_self
   simp [this]
  ·rfl
theorem iS {kindOf:Str→Option NameKind}{x:Str}:∀{binds:List (Str×Value)} {m:Str→Option Value},(∀v,(x,v)∉binds)→bindC kindOf binds m x=m x
 |[],_,_=>rfl
 |(n,v)::r,m,h=>by
  unfold bindC
  rw[iS fun w hw=>h w (List.mem_cons_of_mem _ hw)]
  split
  ·rfl
  ·have:x≠n:=by rintro rfl;exact h v List.mem_cons_self
   simp [this]
theorem jc {kindOf:Str→Option NameKind}{x:Str}{v:Value}:∀{P:List Str} {vs:List Value} {i:Nat} {m:Str→Option Value},P.Nodup→P[i]?=some x→vs[i]?=some v→kindOf x=some .local→
  bindL kindOf (P.zip vs) m x=some v
 |[],_,_,_,_,h,_,_=>by simp at h
 |_::_,[],_,_,_,_,h,_=>by simp at h
 |p::P,w::vs,0,m,nd,h1,h2,hk=>by
  simp at h1 h2;subst h1;subst h2
  show bindL kindOf ((p,w)::P.zip vs) m p=_
  unfold bindL
  rw[jt fun v hv=>(List.nodup_cons.mp nd).1 (List.of_mem_zip hv).1,if_pos hk]
  simp
 |p::P,w::vs,i+1,m,nd,h1,h2,hk=>by
  show bindL kindOf ((p,w)::P.zip vs) m x=_
  unfold bindL
  exact jc (i:=i) (List.nodup_cons.mp nd).2 (by simpa using h1) (by simpa using h2) hk
theorem iQ {kindOf:Str→Option NameKind}{x:Str}{v:Value}:∀{P:List Str} {vs:List Value} {i:Nat} {m:Str→Option Value},P.Nodup→P[i]?=some x→vs[i]?=some v→kindOf x≠some .local→
  bindC kindOf (P.zip vs) m x=some v
 |[],_,_,_,_,h,_,_=>by simp at h
 |_::_,[],_,_,_,_,h,_=>by simp at h
 |p::P,w::vs,0,m,nd,h1,h2,hk=>by
  simp at h1 h2;subst h1;subst h2
  show bindC kindOf ((p,w)::P.zip vs) m p=_
  unfold bindC
  rw[iS fun v hv=>(List.nodup_cons.mp nd).1 (List.of_mem_zip hv).1,if_neg hk]
  simp
 |p::P,w::vs,i+1,m,nd,h1,h2,hk=>by
  show bindC kindOf ((p,w)::P.zip vs) m x=_
  unfold bindC
  exact iQ (i:=i) (List.nodup_cons.mp nd).2 (by simpa using h1) (by simpa using h2) hk
def cq (N:List Str)(vs:List V):St:=vs.map some++List.replicate (N.length -vs.length) none
def fS (CX:kD)(P:Program)(w:World)(K:PySem.W.Frag)(mg:Str→Option Value)(base:Heap)(N:List Str)(qual:Str)(scope:Scope)(f:Addr)(cd:Value)(A:Around)(outer:List Env)(s:Shared)(H:Hp)(E:XK):Cx where
 prog:=P
 w:=w
 K:=K
 mg:=mg
 base:=base
 A:=A.deeper (envOfC qual scope s.heap.objs.size f cd)
 N:=N
 s₀:=s
 H₀:=H
 env:=envOfC qual scope s.heap.objs.size f cd
 outer:=outer
 stack:=envOfC qual scope s.heap.objs.size f cd::outer
 ex:=[]
 calm:=true
 fn:=fun _=>true
 pn:=[]
 xe:=fun e s'=>wpAny (model P w) (A.deeper (envOfC qual scope s.heap.objs.size f cd)) («leaving» (envOfC qual scope s.heap.objs.size f cd) e) (fun _ s''=>CX outer H s E e s'') (fun e' s''=>CX outer H s E e' s'') s'
theorem kQ {sc:Scope}{n:Nat}{x:Str}(h:sc.names.lookup x=some .cell):∃c,(cellsFrom n sc.names []).lookup x=some c:=by
 have q:=PySem.W.cellsFrom_some sc.names n [] (.inl h)
 exact Option.isSome_iff_exists.mp q
theorem rE {CX:kD}{P:Program}{w:World}{K:PySem.W.Frag}{mg:Str→Option Value}{base:Heap}{N ps:List Str}{qual:Str}{scope:Scope}{f:Addr}{cd:Value}{A:Around}{outer:List Env}{s s1:Shared}{H:Hp}{E:XK}{us:List Value}{vs:List V}
  (S:d9 N ps scope) (hd:A.handled=none) (e0:xu P w K mg base A outer s H) (hl:vs.length=ps.length) (r:Vals vs us)
  (x:InCallC s s.heap.objs.size (bindL (envOfC qual scope s.heap.objs.size f cd).kindOf (ps.zip us) fun _=>none) (cellsFrom (s.heap.objs.size+1) scope.names []) (bindC (envOfC qual scope s.heap.objs.size f cd).kindOf (ps.zip us) fun _=>none) s1):
  Inv (fS CX P w K mg base N qual scope f cd A outer s H E) [] (cq N vs) H s1:=by
 have hpl:ps.length≤N.length:=by have:=congrArg List.length S.pre;rw[List.length_take] at this;omega
 obtain⟨h1,tk,rfl,hk⟩:=x.done
 have noA:∀b:Addr,b∉(fS CX P w K mg base N qual scope f cd A outer s H E).ex:=fun b z=>absurd (show b∈([]:List Addr) from z) (by simp)
 refine⟨⟨e0.mod,S.kind,rfl,rfl,Nat.le_refl _,fun y z c h1 h2=>?_,fun y hy=>?_,fun y c _ h=>?_,fun _=>hd,Around.frames_deeper e0.frames,.inr ⟨rfl,rfl⟩,fun b z=>absurd z (noA b),e0.bs,e0.bsz,fun b _ _=>noA b,fun b z=>absurd z (noA b),e0.funs,e0.frf⟩,
  rfl,e0.bare,Un.kept hk,⟨_,x.toInCall.ns,fun i y v h1 h2 h3=>?_⟩,fun y c h=>⟨_,x.cell y c h⟩,e0.hok.fresh (Nat.le_refl _),fun y c h=>?_,fun p hp=>absurd (show p∈([]:List (Addr×Obj)) from hp) (by simp),e0.hok.kept hk,?_⟩
 ·exact name_of_addr x.apart (PySem.mem_of_lookup h1) (PySem.mem_of_lookup h2)
 ·have hy:scope.names.lookup y=some .cell∨scope.names.lookup y=some .free:=hy
  rcases hy with hy|hy
  ·exact kQ hy
  ·exact absurd rfl (S.nofree _ (PySem.mem_of_lookup hy))
 ·exact Nat.le_of_lt (x.above y c (PySem.mem_of_lookup h))
 ·have hi:i<vs.length:=by
   unfold cq at h2
   by_cases hi:i<vs.length
   ·exact hi
   ·rw[List.getElem?_append_right (by simpa using hi)] at h2
    rw[List.getElem?_replicate] at h2
    split at h2<;>cases h2
  have ha:vs[i]?=some v:=by
   unfold cq at h2
   rw[List.getElem?_append_left (by simpa using hi),List.getElem?_map] at h2
   cases e:vs[i]? with
   |none=>rw[e] at h2;cases h2
   |some a=>rw[e] at h2;cases h2;rfl
  obtain⟨u,hu,rv⟩:=r.get ha
  have hp:ps[i]?=some y:=by
   rw[←S.pre,List.getElem?_take_of_lt (by omega)];exact h1
  have ndP:ps.Nodup:=by rw[←S.pre];exact S.nd.sublist (List.take_sublist _ _)
  refine⟨u,rv,?_⟩
  rcases S.par y (List.mem_of_getElem? hp) with k|k
  ·exact .inl ⟨k,jc ndP hp hu k⟩
  ·obtain⟨c,e⟩:=kQ (n:=s.heap.objs.size+1) k
   refine .inr ⟨.inl k,c,e,?_⟩
   have q:=x.cell y c e
   rw[iQ ndP hp hu (by show scope.names.lookup y≠_;rw[k];decide)] at q
   exact q
 ·exact e0.hok.fresh (Nat.le_of_lt (x.above y c (PySem.mem_of_lookup h)))
 ·unfold cq
  show _=N.length
  rw[List.length_append,List.length_map,List.length_replicate]
  omega
theorem yA {CX:kD}{P:Program}{w:World}{K:PySem.W.Frag}{mg:Str→Option Value}{base:Heap}{k:Nat}{f:Addr}{name qual:Str}{params:Arguments}{body:List Stmt}{scope:Scope}{dV kV doc pm cdv ct oc:Value}{an od:Option Addr}
  {osl:Array (Option Value)} {N ps:List Str} {sp:Sp} (lk:K.lookup f=some ⟨oc,od,.func (PySem.W.fnOf name qual params body scope dV kV doc pm an cdv ct),osl⟩) (hcd:PySem.W.codeIn K cdv qual=true) (S:d9 N ps scope)
  (len:∀vs H Q E,sp vs H Q E→vs.length=ps.length)
  (hbody:∀(A:Around) (outer:List Env) (s:Shared) (H:Hp) (vs:List V) (Q:VK) (E:XK),Room k (A.deeper (envOfC qual scope s.heap.objs.size f cdv))→sp vs H Q E→
   ∃t,PSs (fS CX P w K mg base N qual scope f cdv A outer s H E) body t∧t {nx:=fun _ H'=>Q .non H',rt:=Q} (cq N vs) H):
  p0 P w K mg base CX (k+1) f (PySem.W.fnOf name qual params body scope dV kV doc pm an cdv ct) ps sp:=by
 refine⟨len,fun A outer s H args us vs Q E hr e0 hb r hsp=>?_⟩
 have hl:=len _ _ _ _ hsp
 have KX:K.In s.heap:=e0.mod.kin.keeps fun b o e=>(e0.bs b o e).1
 have lim:s.heap.NoLimit:=e0.mod.nolimit.keeps fun b o e=>(e0.bs b o e).1
 have hkind:∀y∈ps.zip us,scope.names.lookup y.1=some .local∨(scope.names.lookup y.1=some .cell∧((cellsFrom (s.heap.objs.size+1) scope.names []).lookup y.1).isSome=true):=fun⟨n,v⟩ hy=>by
  rcases S.par n (List.of_mem_zip hy).1 with q|q
  ·exact .inl q
  ·exact .inr ⟨q,PySem.W.cellsFrom_some _ _ _ (.inl q)⟩
 refine codeAny_call_function hr.depth (KX _ _ lk) rfl S.co S.gen rfl (PySem.W.codeRec_of KX hcd) (hb _ _ _ _ ?_)
 refine wpAny_newFunctionEnv_cells S.kind hkind fun env he s1 x=>?_
 subst he
 refine⟨lim.keeps x.toInCall.keep,codeAny_func ?_⟩
 obtain⟨t,ht,hq⟩:=hbody A outer s H vs Q E (hr.deeper _) hsp
 have I:Inv (fS CX P w K mg base N qual scope f cdv A outer s H E) [] (cq N vs) H s1:=rE S hr.hd e0 hl r x
 refine wpAny_mono (ht [] s1 (cq N vs) H _ I hq) (fun fl s' hs=>?_) fun e s' hs=>hs
 have fin:∀{σ':St} {H':Hp} {v:V} {u:Value},Inv (fS CX P w K mg base N qual scope f cdv A outer s H E) [] σ' H' s'→RelV v u→Q v H'→CE outer P w H s Q u s':=
  fun{σ' H' v u} J rv q=>⟨v,H',J.os,J.bare,J.base,J.hok,rv,q⟩
 cases fl with
 |ret u=>
  obtain⟨v,σ',H',J,rv,q⟩:=hs
  exact fin J rv q
 |next=>
  obtain⟨σ',H',J,q⟩:=hs
  exact fin (v:=V.non) (u:=Value.none) J rfl q
 |brk=>
  obtain⟨_,_,_,q⟩:=hs
  exact False.elim q
 |cont=>
  obtain⟨_,_,_,q⟩:=hs
  exact False.elim q
end L2
namespace L2
open PySem PySem.Spec PyProof.Rows
section
variable {X:Cx} {x:Str} {p pos:Pos} {e:Expr} {es:List Expr} {t:TA} {id T:String} {r:List V→Hp→VK→Prop}
def AJ (r:List V→Hp→VK→Prop)(t:TA):TE:=fun σ H Q=>t σ H fun vs H1=>r vs H1 Q
theorem sD (hc:CallR X (.builtin id) r)(hg:Gl X x)(hm:X.mg x=none)(hv:bootBuiltins x=some (.builtin id))(ha:PA X (e::es) t)(hn:x≠"__name__":=by decide)(hdb:(x==("__debug__":Str))=false:=by decide)
  (he:starEach (e::es) X.env=(false,eval e X.env)::starEach es X.env:=by rfl) (hpl:(backTo pos (starEach es X.env)).any (·.1)=false:=by rfl):PE X (.Call (.Name x p) (e::es) [] pos) (AJ r t):=by
 intro pins s σ H Q I h
 refine wpAny_Call_Name_kw (fg I hg hm hv ?_ hn hdb)
 exact PyProof.Rows.callWith_builtin1 (K2 (ha pos pins s σ H _ I h) fun us s1 ⟨vs,H1,I1,r1,q1⟩=>hc pins s1 σ H1 vs us Q I1 r1 q1) he hpl
theorem rn (hc:CallR X (.type T) r)(hg:Gl X x)(hm:X.mg x=none)(hv:bootBuiltins x=some (.type T))(ha:PA X (e::es) t)(hn:x≠"__name__":=by decide)(hdb:(x==("__debug__":Str))=false:=by decide)
  (he:starEach (e::es) X.env=(false,eval e X.env)::starEach es X.env:=by rfl) (hpl:(backTo pos (starEach es X.env)).any (·.1)=false:=by rfl):PE X (.Call (.Name x p) (e::es) [] pos) (AJ r t):=by
 intro pins s σ H Q I h
 refine wpAny_Call_Name_kw (fg I hg hm hv ?_ hn hdb)
 exact PyProof.Rows.callWith_type1 (K2 (ha pos pins s σ H _ I h) fun us s1 ⟨vs,H1,I1,r1,q1⟩=>hc pins s1 σ H1 vs us Q I1 r1 q1) he hpl
end
end L2
namespace HT
open PySem PyProof.Rows
section
open PySem.SeqAt
open PySem.AutoSeq1 (wpAny_loadPart')
open PySem.MeetsSeq PySem.MeetsSeq2 PySem.MeetsSeq3
end
section
variable {prog:Program} {w:World} {A:Around} {E:Value→Shared→Prop} {s:Shared}
theorem cat_tup {t b:Addr}{vs ws:List Value}{Q:Value→Shared→Prop}(ht:IsTup s.heap t vs.toArray)(hb:IsTup s.heap b ws.toArray)(hv:vs≠[])
  (h1:ws=[]→Q (.ref t) s) (h2:ws≠[]→Q (.ref s.heap.objs.size) {s with heap:=s.heap.push {cls:= .type "tuple",data:= .seq (vs++ws).toArray}})
  (hsz:vs.length+ws.length≤sizeLine):wpAny (model prog w) A (binaryOp .Add (.ref t) (.ref b)) Q E s:=by
 obtain⟨⟨cls,dd,data,sl⟩,ho,hc,n,hd⟩:=id ht
 obtain⟨⟨cls2,dd2,data2,sl2⟩,ho2,hc2,n2,hd2⟩:=id hb
 simp only at hc hd hc2 hd2
 subst hc hd hc2 hd2
 have e:vs.toArray++ws.toArray=(vs++ws).toArray:=by simp
 by_cases hw:ws=[]
 ·exact concat_meets ⟨_,ho,rfl⟩ ⟨_,ho2,rfl⟩ noFill_tuple_add seq_tuple_add PySem.F.slot_tuple_add PySem.F.entry_tuple_add (PySem.F.args_tuple_add_2 _ _)
   (tuple_addW1 t b vs.toArray ws.toArray n n2 dd dd2 sl sl2 (by simpa using hv) (by simp [hw])) ⟨ho,ho2,h1 hw⟩
 ·refine concat_meets ⟨_,ho,rfl⟩ ⟨_,ho2,rfl⟩ noFill_tuple_add seq_tuple_add PySem.F.slot_tuple_add PySem.F.entry_tuple_add (PySem.F.args_tuple_add_2 _ _)
   (tuple_addW2 t b vs.toArray ws.toArray n n2 dd dd2 sl sl2 (by simpa using hv) (by simpa using hw) (by rw[List.size_toArray,List.size_toArray];exact hsz)) ⟨ho,ho2,?_⟩
  rw[e]
  exact h2 hw
def sIx (n d:Nat):Option Int→Nat
 |none=>d
 |some v=>if v<0 then(v+(n:Int)).toNat else min v.toNat n
theorem sIx_nat (n d k:Nat):sIx n d (some (k:Int))=min k n:=by
 show(if(k:Int)<0 then((k:Int)+(n:Int)).toNat else min (k:Int).toNat n)=min k n
 rw[if_neg (by omega),Int.toNat_natCast]
theorem AK (n d:Nat)(hd:d≤n)(o:Option Int):sIx n d o≤n:=by
 cases o with
 |none=>exact hd
 |some v=>
  show(if v<0 then(v+(n:Int)).toNat else min v.toNat n)≤n
  by_cases hv:v<0
  ·rw[if_pos hv];omega
  ·rw[if_neg hv];exact Nat.min_le_right _ _
theorem qg (v:Int)(n d:Nat):(if v<0 then max (v+(n:Int)) 0 else min v (n:Int))=((sIx n d (some v):Nat):Int):=by
 show(if v<0 then max (v+(n:Int)) 0 else min v (n:Int))=(((if v<0 then(v+(n:Int)).toNat else min v.toNat n):Nat):Int)
 by_cases hv:v<0
 ·simp only[if_pos hv];omega
 ·simp only[if_neg hv];omega
theorem nU (lo hi:Option Int)(n:Nat):Builtin.Slice.sliceAdjust lo hi 1 (n:Int)=(((sIx n 0 lo:Nat):Int),((sIx n n hi:Nat):Int)):=by
 have h1:¬((1:Int)<0):=by omega
 unfold Builtin.Slice.sliceAdjust
 simp only[h1,if_false]
 refine Prod.ext ?_ ?_
 ·cases lo with
  |none=>rfl
  |some v=>exact qg v n 0
 ·cases hi with
  |none=>rfl
  |some v=>exact qg v n n
theorem oy (i j:Nat):Builtin.Slice.slicePlaces (i:Int) (j:Int) 1=j -i:=by
 unfold Builtin.Slice.slicePlaces
 have h1:(1:Int)>0:=by omega
 simp only[h1,if_true,Int.ediv_one]
 split<;>omega
theorem fR {v:Value}{o:Option Int}{Q:Option Int→Shared→Prop}(p:IsPart v o)(h:Q o s):wpAny (model prog w) A (Builtin.Slice.slicePartIndex v) Q E s:=by
 cases p with
 |none=>exact slicePart_none h
 |int i t=>exact slicePart_int h
theorem cZ {sl:Addr}{vl vu:Value}{lo hi:Option Int}{n:Nat}{Q:Int×Int×Nat→Shared→Prop}(hs:s.heap.IsSliceOf sl vl vu .none)(pl:IsPart vl lo)(pu:IsPart vu hi)
  (h:Q (((sIx n 0 lo:Nat):Int),1,sIx n n hi -sIx n 0 lo) s):wpAny (model prog w) A (Builtin.Slice.sliceApplied (.ref sl) (pure (n:Int))) Q E s:=by
 obtain⟨os,hos,hcs,hds⟩:=id hs
 unfold Builtin.Slice.sliceApplied Builtin.Slice.sliceFields
 refine wpAny_bind (wpAny_bind (wpAny_field hos hds (x:=vl) rfl (wpAny_bind (wpAny_field hos hds (x:=vu) rfl (wpAny_bind (wpAny_field hos hds (x:= .none) rfl (wpAny_pure ?_)))))))
 refine wpAny_bind (slicePart_none ?_)
 show wpAny _ _ (if((1:Int)==0)=true then _ else _) _ _ s
 rw[if_neg (by decide)]
 refine wpAny_bind (fR pl (wpAny_bind (fR pu (wpAny_bind (wpAny_pure ?_)))))
 show wpAny _ _ (match Builtin.Slice.sliceAdjust lo hi 1 (n:Int) with|(lo,hi)=>pure (lo,(1:Int),Builtin.Slice.slicePlaces lo hi 1)) _ _ s
 rw[nU lo hi n]
 show wpAny _ _ (pure (((sIx n 0 lo:Nat):Int),(1:Int),Builtin.Slice.slicePlaces ((sIx n 0 lo:Nat):Int) ((sIx n n hi:Nat):Int) 1)) _ _ s
 rw[oy]
 exact wpAny_pure h
theorem ve (xs:Array Value)(i k:Nat):((List.range k).filterMap fun(m:Nat)=>xs[((i:Int)+(m:Int)*1).toNat]?).toArray=((xs.toList.drop i).take k).toArray:=by
 have e:(fun(m:Nat)=>xs[((i:Int)+(m:Int)*1).toNat]?)=fun m=>xs[i+m]?:=by
  funext m
  have:((i:Int)+(m:Int)*1).toNat=i+m:=by omega
  rw[this]
 rw[e]
 have:=pick_run xs i k
 rw[List.filterMap_map] at this
 have e2:((fun x=>xs[x]?)∘fun x=>i+x)=fun m=>xs[i+m]?:=rfl
 rw[e2] at this
 rw[this]
theorem getItem_tuple_cut {t sl:Addr}{items:Array Value}{vl vu:Value}{lo hi:Option Int}{Q:Value→Shared→Prop}(ht:IsTup s.heap t items)(hs:s.heap.IsSliceOf sl vl vu .none)(pl:IsPart vl lo)(pu:IsPart vu hi)
  (hw:¬(sIx items.size 0 lo=0∧sIx items.size items.size hi=items.size))
  (h:Q (.ref s.heap.objs.size) {s with heap:=s.heap.push {cls:= .type "tuple",data:= .seq ((items.toList.drop (sIx items.size 0 lo)).take (sIx items.size items.size hi -sIx items.size 0 lo)).toArray}})
  (hsz:items.size≤sizeLine):wpAny (model prog w) A (getItem (.ref t) (.ref sl)) Q E s:=by
 have htake:sizeOk (.seq ((items.toList.drop (sIx items.size 0 lo)).take (sIx items.size items.size hi -sIx items.size 0 lo)).toArray):=by
  show((items.toList.drop (sIx items.size 0 lo)).take (sIx items.size items.size hi -sIx items.size 0 lo)).toArray.size≤sizeLine
  rw[List.size_toArray,List.length_take,List.length_drop,Array.length_toList]
  omega
 have hj:sIx items.size items.size hi≤items.size:=AK _ _ (Nat.le_refl _) hi
 obtain⟨os,hos,hcs,hds⟩:=id hs
 have hTs:s.TypeIs (.ref sl) "slice":=⟨os,hos,hcs⟩
 unfold getItem
 try with_reducible refine wpAny_holding ?_
 first|refine wpAny_bind (wpAny_pure ?_)|skip
 refine wpAny_bind (wpAny_sequenceKey ht.typeIs (by decide) ?_)
 refine wpAny_bind (wpAny_callSpecial?_slot (name:=Str.ofString "__getitem__") ht.typeIs PyProof.Rows.slot_tuple_getitem
  (wpAny_call_entry PyProof.Rows.slot_tuple_getitem ht.typeIs entry_tuple_getitem ?_ (args_tuple_getitem _ _)))
 show wpAny _ _ (Builtin.Tuple.tupleItemsOf (.ref t)>>=_) _ _ s
 refine wpAny_bind (tupleItemsOf_ ht ?_)
 refine wpAny_bind (wpAny_typeOf hTs ?_)
 rw[if_pos (by decide)]
 refine wpAny_bind (cZ hs pl pu ?_)
 have hno:¬((((sIx items.size 0 lo:Nat):Int)==0&&(1:Int)==1&&(sIx items.size items.size hi -sIx items.size 0 lo)==items.size)=true):=by
  intro q
  rw[Bool.and_eq_true,Bool.and_eq_true] at q
  have q1:((sIx items.size 0 lo:Nat):Int)=0:=eq_of_beq q.1.1
  have q2:sIx items.size items.size hi -sIx items.size 0 lo=items.size:=eq_of_beq q.2
  exact hw ⟨by omega,by omega⟩
 show wpAny _ _ (if(((sIx items.size 0 lo:Nat):Int)==0&&(1:Int)==1&&(sIx items.size items.size hi -sIx items.size 0 lo)==items.size)=true then _ else _) _ _ s
 rw[if_neg hno,ve]
 first
  |exact wpAny_bind (m:=Builtin.Tuple.tupleExact _) (wpAny_newObj_type (wpAny_pure ⟨_,rfl,wpAny_pure h⟩) htake)
  |exact wpAny_bind (m:=Builtin.Tuple.tupleExact _) (wpAny_newObj_type (wpAny_bind (wpAny_pure (wpAny_pure ⟨_,rfl,wpAny_pure h⟩))) htake)
  |exact wpAny_bind (wpAny_bind (m:=Builtin.Tuple.tupleExact _) (wpAny_newObj_type (wpAny_pure (wpAny_pure ⟨_,rfl,wpAny_pure h⟩)) htake))
  |exact wpAny_bind (wpAny_bind (m:=Builtin.Tuple.tupleExact _) (wpAny_newObj_type (wpAny_pure ⟨_,rfl,wpAny_pure h⟩) htake))
end
end HT
namespace L2
open PySem PySem.Spec PyProof.Rows
abbrev TO:=St→Hp→(Option Int→Hp→Prop)→Prop
def PO (X:Cx)(e:Option Expr)(t:TO):Prop:=
 ∀(pins:List (Addr×Obj)) (s:Shared) (σ:St) (H:Hp) (Q:Option Int→Hp→Prop),Inv X pins σ H s→t σ H Q→
  wpAny (model X.prog X.w) X.A (evalPart e X.env) (fun u s'=>∃o H',Inv X pins σ H' s'∧IsPart u o∧Q o H') X.xe s
def kl:TO:=fun _ H Q=>Q none H
def tL (t:TE):TO:=fun σ H Q=>t σ H fun x H1=>∃i,x= .int i∧Q (some i) H1
theorem oS {ns:List Int}:∀{us:List Value},Vals (ns.map V.int) us→IntsAre us ns:=by
 induction ns with
 |nil=>intro us r;rw[List.map_nil] at r;cases r;exact .nil
 |cons n ns ih=>
  intro us r
  rw[List.map_cons] at r
  cases r with
  |cons r1 r2=>
   obtain⟨t,e⟩:=r1
   subst e
   exact .cons n t (ih r2)
section
variable {X:Cx} {e:Expr} {te:TE} {lo hi:Option Expr} {tl th:TO} {pos p2:Pos}
theorem xN:PO X none kl:=by
 intro pins s σ H Q I h
 rw[evalPart_none]
 exact wpAny_pure ⟨none,H,I,.none,h⟩
theorem xO (h:PE X e te):PO X (some e) (tL te):=by
 intro pins s σ H Q I hw
 rw[evalPart_some]
 refine K2 (h pins s σ H _ I hw) fun u s1 ⟨x,H1,I1,r1,q1⟩=>?_
 obtain⟨i,rfl,q⟩:=q1
 obtain⟨t,rfl⟩:=r1
 exact⟨some i,H1,I1,.int i t,q⟩
def SlR (X:Cx)(r:V→Option Int→Option Int→Hp→VK→Prop):Prop:=
 ∀(pins:List (Addr×Obj)) (s:Shared) (σ:St) (H:Hp) (x:V) (v vl vu:Value) (lo hi:Option Int) (sl:Addr) (Q:VK),Inv X pins σ H s→RelV x v→s.heap.IsSliceOf sl vl vu .none→IsPart vl lo→IsPart vu hi→r x lo hi H Q→
  ∃T id,typeLookup (.type T) "__getitem__"=pure (some (.builtin id))∧s.TypeIs v T∧wpAny (model X.prog X.w) X.A (getItem v (.ref sl)) (EP X pins σ Q) X.xe s
theorem SlR.or {r r':V→Option Int→Option Int→Hp→VK→Prop}(h:SlR X r)(h':SlR X r'):SlR X (fun x lo hi H Q=>r x lo hi H Q∨r' x lo hi H Q):=by
 intro pins s σ H x v vl vu lo hi sl Q I rx hs pl pu q
 rcases q with q|q
 ·exact h pins s σ H x v vl vu lo hi sl Q I rx hs pl pu q
 ·exact h' pins s σ H x v vl vu lo hi sl Q I rx hs pl pu q
def ER (r:V→Option Int→Option Int→Hp→VK→Prop)(te:TE)(tl th:TO):TE:=fun σ H Q=>te σ H fun x H1=>tl σ H1 fun l H2=>th σ H2 fun u H3=>r x l u H3 Q
theorem vx {r:V→Option Int→Option Int→Hp→VK→Prop}(hr:SlR X r)(he:PE X e te)(hl:PO X lo tl)(hu:PO X hi th):PE X (.Subscript e (.Slice lo hi none p2) pos) (ER r te tl th):=by
 intro pins s σ H Q I h
 refine Subscript_ (K2 (he pins s σ H _ I h) fun v s1 ⟨x,H1,I1,r1,q1⟩=>?_)
 refine wpAny_Slice (K2 (hl pins s1 σ H1 _ I1 q1) fun vl s2 ⟨l,H2,I2,pl,q2⟩=>K2 (hu pins s2 σ H2 _ I2 q2) fun vu s3 ⟨u,H3,I3,pu,q3⟩=>?_)
 rw[evalPart_none]
 refine wpAny_pure ?_
 have I4:Inv X pins σ H3 {s3 with heap:=s3.heap.push {cls:= .type "slice",data:= .fields #[vl,vu,.none]}}:=I3.kept (t':=s3.toks) fun b ob q=>Heap.get?_push_of_some _ q
 obtain⟨T,id,hT,ht,hg⟩:=hr pins {s3 with heap:=s3.heap.push {cls:= .type "slice",data:= .fields #[vl,vu,.none]}} σ H3 x v vl vu l u s3.heap.objs.size Q I4 r1 (Heap.IsSliceOf.new ..) pl pu q3
 show wpAny (model X.prog X.w) X.A (subscriptTail e (.Slice lo hi none p2) v (.ref s3.heap.objs.size)) (EP X pins σ Q) X.xe {s3 with heap:=s3.heap.push {cls:= .type "slice",data:= .fields #[vl,vu,.none]}}
 exact tail_any (ops:=[.ref s3.heap.objs.size,v]) ht hT hg (by with_unfolding_all rfl)
def cX (xs:List V)(lo hi:Option Int):List V:=(xs.drop (HT.sIx xs.length 0 lo)).take (HT.sIx xs.length xs.length hi -HT.sIx xs.length 0 lo)
theorem dP (xs:List V)(lo hi:Option Int):(cX xs lo hi).length≤xs.length:=by
 unfold cX
 rw[List.length_take,List.length_drop]
 omega
def BI (K:PySem.W.Frag):V→Option Int→Option Int→Hp→VK→Prop:=fun x lo hi H Q=>∃a xs,x= .ref a∧SqT K H a xs∧
 ¬(HT.sIx xs.length 0 lo=0∧HT.sIx xs.length xs.length hi=xs.length)∧∀p,H p=none→Q (.ref p) (p7 H p (.tup (cX xs lo hi)))
theorem sl_tup:SlR X (BI X.K):=by
 intro pins s σ H x v vl vu lo hi sl Q I rx hs pl pu h
 obtain⟨a,xs,rfl,hx,hw,q⟩:=h
 cases rx
 obtain⟨its,r,ht,hz⟩:=I.tuple hx
 have hlen:its.toArray.size=xs.length:=by rw[List.size_toArray];exact r.length.symm
 refine⟨"tuple",_,PyProof.Rows.slot_tuple_getitem.lookup,ht.typeIs,?_⟩
 refine HT.getItem_tuple_cut ht hs pl pu (by rw[hlen];exact hw) ?_ (by rw[hlen];exact hz)
 rw[hlen]
 refine⟨.ref s.heap.objs.size,_,I.laid (t':=s.toks) (o:= .tup (cX xs lo hi)) (fun b ob q=>Heap.get?_push_of_some _ q) (Nat.le_refl _) ?_,rfl,q _ (I.hok.fresh (Nat.le_refl _))⟩
 exact⟨Nat.le_trans (dP xs lo hi) hz,_,(r.drop (HT.sIx xs.length 0 lo)).take (HT.sIx xs.length xs.length hi -HT.sIx xs.length 0 lo),IsTup.new _ _⟩
def yT (K:PySem.W.Frag):R2:=fun x y H Q=>∃a b xs ys,x= .ref a∧y= .ref b∧SqT K H a xs∧SqT K H b ys∧xs≠[]∧xs.length+ys.length≤sizeLine∧
 (ys=[]→Q (.ref a) H)∧(ys≠[]→∀p,H p=none→Q (.ref p) (p7 H p (.tup (xs++ys))))
theorem Vals.nil_iff {xs:List V}{us:List Value}(r:Vals xs us):us=[]↔xs=[]:=by
 cases r with
 |nil=>simp
 |cons _ _=>simp
theorem wQ:OpR X (binaryOp .Add) (yT X.K):=by
 intro pins s σ H x y v u Q I rx ry h
 obtain⟨a,b,xs,ys,rfl,rfl,ha,hb,hx,hz,q1,q2⟩:=h
 cases rx
 cases ry
 obtain⟨its,r1,p1,_⟩:=I.tuple ha
 obtain⟨its2,r2,p2,_⟩:=I.tuple hb
 refine HT.cat_tup p1 p2 (fun z=>hx (r1.nil_iff.mp z)) (fun z=>⟨.ref a,H,I,rfl,q1 (r2.nil_iff.mp z)⟩) (fun z=>?_) (by rw[←r1.length,←r2.length];exact hz)
 refine⟨.ref s.heap.objs.size,_,I.laid (t':=s.toks) (o:= .tup (xs++ys)) (fun b ob q=>Heap.get?_push_of_some _ q) (Nat.le_refl _) ?_,rfl,q2 (fun w=>z (r2.nil_iff.mpr w)) _ (I.hok.fresh (Nat.le_refl _))⟩
 exact⟨by rw[List.length_append];exact hz,_,r1.append r2,IsTup.new _ _⟩
end
end L2
namespace L2
open PySem PySem.Spec PyProof.Rows
def xh (n:Nat)(i:Int):Option Nat:=if 0≤i then(if i<n then some i.toNat else none) else if -(n:Int)≤i then some (i+n).toNat else none
def mS {α:Type}(xs:List α)(i:Int):Option α:=(xh xs.length i).bind fun j=>xs[j]?
theorem qa {n:Nat}{i:Int}{j:Nat}(h:xh n i=some j):seqIndex? i n=some j∧j<n∧-(n:Int)≤i∧i<n:=by
 unfold xh at h
 by_cases h0:0≤i
 ·rw[if_pos h0] at h
  by_cases h1:i<n
  ·rw[if_pos h1] at h
   have e:i.toNat=j:=Option.some.inj h
   exact⟨by rw[seqIndex_of h0 h1,e],by omega,by omega,h1⟩
  ·rw[if_neg h1] at h;cases h
 ·rw[if_neg h0] at h
  by_cases h1: -(n:Int)≤i
  ·rw[if_pos h1] at h
   have e:(i+n).toNat=j:=Option.some.inj h
   exact⟨by rw[seqIndex_neg (by omega) h1,e],by omega,h1,by omega⟩
  ·rw[if_neg h1] at h;cases h
theorem ko {α:Type}{xs:List α}{i:Int}{v:α}(h:mS xs i=some v):∃j,seqIndex? i xs.length=some j∧xs[j]?=some v∧j<xs.length∧-(xs.length:Int)≤i∧i<xs.length:=by
 unfold mS at h
 cases e:xh xs.length i with
 |none=>rw[e] at h;cases h
 |some j=>
  rw[e] at h
  obtain⟨h1,h2,h3,h4⟩:=qa e
  exact⟨j,h1,h,h2,h3,h4⟩
theorem b5 {α:Type}{xs:List α}{j:Nat}{v:α}(h:xs[j]?=some v):mS xs (j:Int)=some v:=by
 have hj:j<xs.length:=(List.getElem?_eq_some_iff.mp h).1
 have e:xh xs.length (j:Int)=some j:=by
  unfold xh
  rw[if_pos (by omega),if_pos (by omega)];simp
 unfold mS;rw[e];exact h
def pN (b:Expr):Prop:=∀o i,subscripted b false o i=operate [o,i] (getItem o i)
def IxR (X:Cx)(r:R2):Prop:=
 ∀(value slice:Expr) (pins:List (Addr×Obj)) (s:Shared) (σ:St) (H:Hp) (x y:V) (v u:Value) (Q:VK),Inv X pins σ H s→RelV x v→RelV y u→r x y H Q→
  subscripted slice false v u=operate [v,u] (getItem v u)→wpAny (model X.prog X.w) X.A (subscriptTail value slice v u) (EP X pins σ Q) X.xe s
def xR (X:Cx)(id:String)(r:V→List V→Hp→VK→Prop):Prop:=
 ∀(pins:List (Addr×Obj)) (s:Shared) (σ:St) (H:Hp) (x:V) (xs:List V) (v:Value) (us:List Value) (Q:VK),Inv X pins σ H s→RelV x v→Vals xs us→r x xs H Q→
  wpAny (model X.prog X.w) X.A (call (.builtin id) (v::us)) (EP X pins σ Q) X.xe s
section
variable {X:Cx} {a b:Expr} {ta tb:TE} {pos:Pos}
theorem IxR.or {r r':R2}(h:IxR X r)(h':IxR X r'):IxR X (fun x y H Q=>r x y H Q∨r' x y H Q):=by
 intro value slice pins s σ H x y v u Q I rx ry q hs
 rcases q with q|q
 ·exact h value slice pins s σ H x y v u Q I rx ry q hs
 ·exact h' value slice pins s σ H x y v u Q I rx ry q hs
theorem Cc {r:R2}(hr:IxR X r)(ha:PE X a ta)(hb:PE X b tb)(hs:pN b):PE X (.Subscript a b pos) (wt r ta tb):=by
 intro pins s σ H Q I h
 exact Subscript_ (ze ha hb I h fun v u s2 x y H2 I2 rx ry q=>hr a b pins s2 σ H2 x y v u Q I2 rx ry q (hs _ _))
def CW (K:PySem.W.Frag):R2:=fun x y H Q=>∃p xs i v,x= .ref p∧y= .int i∧SqL K H p xs∧mS xs i=some v∧Q v H
def BS (K:PySem.W.Frag):R2:=fun x y H Q=>∃p xs i v,x= .ref p∧y= .int i∧SqT K H p xs∧mS xs i=some v∧Q v H
def BD:R2:=fun x y H Q=>∃z i c,x= .str z∧y= .int i∧z.length≤sizeLine∧mS z.cps.toList i=some c∧Q (.str ⟨#[c]⟩) H
theorem ix_list:IxR X (CW X.K):=by
 intro value slice pins s σ H x y v u Q I rx ry h hs
 obtain⟨p,xs,i,z,rfl,rfl,hq,he,q⟩:=h
 cases rx
 obtain⟨t,rfl⟩:=ry
 obtain⟨its,r,pl,hz⟩:=I.list hq
 obtain⟨j,h1,h2,h3,h4,h5⟩:=ko he
 obtain⟨w,ew,rw'⟩:=r.get h2
 have hl:=r.length
 have hn:=cW
 have fin:EP X pins σ Q w s:=⟨z,H,I,rw',q⟩
 by_cases h0:0≤i
 ·have hj:i.toNat=j:=by
   rw[seqIndex_of h0 h5] at h1
   exact Option.some.inj h1
  exact item_listR pl.isList h0 (by omega) (by rw[hj];simpa using ew) fin hs
 ·have hj:(i+(its.toArray.size:Int)).toNat=j:=by
   rw[seqIndex_neg (by omega) h4] at h1
   rw[List.size_toArray,←hl]
   exact Option.some.inj h1
  exact subscriptTail_builtinR (x:=w) pl.isList.typeIs slot_list_getitem.lookup
   (wpAny_getItem_list_neg (Q:=fun r s'=>r=w∧EP X pins σ Q r s') pl.isList (by omega) (by rw[List.size_toArray]<;>omega) (by omega) (by rw[hj];simpa using ew) ⟨rfl,fin⟩) hs
theorem ix_tup:IxR X (BS X.K):=by
 intro value slice pins s σ H x y v u Q I rx ry h hs
 obtain⟨p,xs,i,z,rfl,rfl,hq,he,q⟩:=h
 cases rx
 obtain⟨t,rfl⟩:=ry
 obtain⟨its,r,pl,hz⟩:=I.tuple hq
 obtain⟨j,h1,h2,h3,h4,h5⟩:=ko he
 obtain⟨w,ew,rw'⟩:=r.get h2
 have hl:=r.length
 have hn:=cW
 have fin:EP X pins σ Q w s:=⟨z,H,I,rw',q⟩
 exact subscriptTail_builtinR (x:=w) pl.typeIs slot_tuple_getitem.lookup
  (getItem_tuple (j:=j) (Q:=fun r s'=>r=w∧EP X pins σ Q r s') pl (by omega) (by omega) (by rw[List.size_toArray,←hl];exact h1) (by simpa using ew) ⟨rfl,fin⟩) hs
theorem zV:IxR X BD:=by
 intro value slice pins s σ H x y v u Q I rx ry h hs
 obtain⟨z,i,c,rfl,rfl,hz,he,q⟩:=h
 obtain⟨t,rfl⟩:=rx
 obtain⟨t',rfl⟩:=ry
 obtain⟨j,h1,h2,h3,h4,h5⟩:=ko he
 have hl:z.cps.toList.length=z.length:=by simp [Str.length]
 rw[hl] at h1 h4 h5
 have hn:=cW
 exact tail_any (typeIs_str s z t) slot_str_getitem.lookup (getItem_str (c:=c) (by
  have e1:decide (i< -(2 ^ 63:Int))=false:=decide_eq_false (by omega)
  have e2:decide (i≥2 ^ 63)=false:=decide_eq_false (by omega)
  rw[e1,e2,Bool.or_false]) (by rw[h1];simpa using h2) ⟨.str ⟨#[c]⟩,H,I.tok _,⟨_,rfl⟩,q⟩) hs
def EW (K:PySem.W.Frag):R2:=fun x y H Q=>CW K x y H Q∨BS K x y H Q∨BD x y H Q
theorem ix_seq:IxR X (EW X.K):=ix_list.or (ix_tup.or zV)
theorem nG (its:List Value)(n j:Nat)(u:Value):Obj.mapSeq (·.setIfInBounds j u) {cls:= .type "list",data:= .seq its.toArray n}={cls:= .type "list",data:= .seq (its.set j u).toArray n}:=by
 simp [Obj.mapSeq]
theorem Inv.lst {pins:List (Addr×Obj)}{σ:St}{H:Hp}{s:Shared}{p:Addr}{xs:List V}(I:Inv X pins σ H s)(h:H p=some (.lst xs)):
  ∃(its:List Value) (n:Nat),Vals xs its∧s.heap.get? p=some {cls:= .type "list",data:= .seq its.toArray n}∧xs.length≤sizeLine:=by
 obtain⟨z,its,n,r,e⟩:=I.hok p _ h
 exact⟨its,n,r,e,z⟩
theorem Inv.lstUpd {pins:List (Addr×Obj)}{σ:St}{H:Hp}{s:Shared}{p:Addr}{xs ys:List V}{its its':List Value}{n n':Nat}{f:Obj→Obj}(I:Inv X pins σ H s)(h:H p=some (.lst xs))
  (ho:s.heap.get? p=some {cls:= .type "list",data:= .seq its.toArray n}) (hf:f {cls:= .type "list",data:= .seq its.toArray n}={cls:= .type "list",data:= .seq its'.toArray n'}) (r:Vals ys its') (hz:ys.length≤sizeLine) (t:Nat):
  Inv X pins σ (p7 H p (.lst ys)) {s with heap:=s.heap.update p f,toks:=t}:=by
 have e:(s.heap.update p f).get? p=some {cls:= .type "list",data:= .seq its'.toArray n'}:=by
  rw[Heap.get?_update_self f ho (by rw[hf]<;>rfl),hf]
 refine I.write (x:=p) (e:=p) (by rw[h];trivial) (.inl rfl) (fun b u hb q=>(Heap.get?_update_other _ _ (Ne.symm hb)).trans q) ⟨_,e⟩ ?_
 exact⟨hz,its',n',r,e⟩
def yR:V→V→V→Hp→(Hp→Prop)→Prop:=fun o i v H Q=>∃p xs k j,o= .ref p∧i= .int k∧H p=some (.lst xs)∧xh xs.length k=some j∧Q (p7 H p (.lst (xs.set j v)))
theorem uf:qQ X yR:=by
 intro pins s σ H o i v ov iv u Q I ro ri rv h
 obtain⟨p,xs,k,j,rfl,rfl,hp,hj,q⟩:=h
 cases ro
 obtain⟨t,rfl⟩:=ri
 obtain⟨its,n,r,ho,hz⟩:=I.lst hp
 obtain⟨h1,h2,h3,h4⟩:=qa hj
 have hl:=r.length
 have hn:=cW
 have I':Inv X pins σ (p7 H p (.lst (xs.set j v))) {s with heap:=s.heap.update p (Obj.mapSeq (·.setIfInBounds j u))}:=
  I.lstUpd hp ho (nG its n j u) (r.set rv j) (by rw[List.length_set];exact hz) s.toks
 by_cases h0:0≤k
 ·have hk:k.toNat=j:=by
   rw[seqIndex_of h0 h4] at h1
   exact Option.some.inj h1
  exact PySem.W.ki_setAt ho h0 (by omega) (by rw[List.size_toArray,←hl];exact h4) (by rw[hk];exact⟨_,I',q⟩)
 ·have hk:(k+(its.toArray.size:Int)).toNat=j:=by
   rw[seqIndex_neg (by omega) h3] at h1
   rw[List.size_toArray,←hl]
   exact Option.some.inj h1
  exact PySem.W.ki_setBack ho (by omega) (by rw[List.size_toArray,←hl];exact h3) (by omega) (by rw[hk];exact⟨_,I',q⟩)
theorem jx (lo hi:Option Int)(n:Nat):(sliceBounds lo hi none n).1=((HT.sIx n 0 lo:Nat):Int)∧(sliceBounds lo hi none n).2.1=((HT.sIx n n hi:Nat):Int)∧(sliceBounds lo hi none n).2.2=1:=by
 refine⟨?_,?_,rfl⟩
 ·cases lo with
  |none=>simp [sliceBounds,HT.sIx]
  |some i=>
   simp only[sliceBounds,HT.sIx,Option.getD_none,show(1:Int)>0 by decide,if_true]
   by_cases h:i<0
   ·simp only[h,if_true]<;>omega
   ·simp only[h,if_false]<;>omega
 ·cases hi with
  |none=>simp [sliceBounds,HT.sIx]
  |some i=>
   simp only[sliceBounds,HT.sIx,Option.getD_none,show(1:Int)>0 by decide,if_true]
   by_cases h:i<0
   ·simp only[h,if_true]<;>omega
   ·simp only[h,if_false]<;>omega
theorem iE (its:List Value)(lo hi:Option Int):slicePick its.toArray lo hi none=((its.drop (HT.sIx its.length 0 lo)).take (HT.sIx its.length its.length hi -HT.sIx its.length 0 lo)).toArray:=by
 obtain⟨h1,h2,h3⟩:=jx lo hi its.toArray.size
 unfold slicePick
 rw[h1,h2,h3]
 simp only[sliceRange_one,pick_run,List.size_toArray]<;>rfl
def CU (K:PySem.W.Frag):V→Option Int→Option Int→Hp→VK→Prop:=fun x lo hi H Q=>∃a xs,x= .ref a∧SqL K H a xs∧∀p,H p=none→Q (.ref p) (p7 H p (.lst (cX xs lo hi)))
theorem sl_list:SlR X (CU X.K):=by
 intro pins s σ H x v vl vu lo hi sl Q I rx hs pl pu h
 obtain⟨a,xs,rfl,hx,q⟩:=h
 cases rx
 obtain⟨its,r,ht,hz⟩:=I.list hx
 have hlen:=r.length
 refine⟨"list",_,slot_list_getitem.lookup,ht.isList.typeIs,?_⟩
 refine wpAny_getItem_list_slice ht.isList hs pl pu .none (by simp) ?_ (by rw[List.size_toArray]<;>omega)
 rw[iE,←hlen]
 refine⟨.ref s.heap.objs.size,_,I.laid (t':=s.toks) (o:= .lst (cX xs lo hi)) (fun b ob q=>Heap.get?_push_of_some _ q) (Nat.le_refl _) ?_,rfl,q _ (I.hok.fresh (Nat.le_refl _))⟩
 exact⟨Nat.le_trans (dP xs lo hi) hz,_,0,(r.drop (HT.sIx xs.length 0 lo)).take (HT.sIx xs.length xs.length hi -HT.sIx xs.length 0 lo),Heap.get?_push_size _ rfl⟩
def A0:V→Bool
 | .non=>true
 | .bl _=>true
 | .int _=>true
 | .str _=>true
 |_=>false
def bH:V→V→Bool
 | .non,.non=>true
 | .bl a,.bl b=>a==b
 | .bl a,.int b=>(if a then 1 else 0)==b
 | .int a,.bl b=>a==(if b then 1 else 0)
 | .int a,.int b=>a==b
 | .str a,.str b=>a==b
 |_,_=>false
theorem aH {A:Around}{s:Shared}{y x:V}{u v:Value}(ry:RelV y u)(rx:RelV x v)(fy:A0 y=true)(fx:A0 x=true):SeqAt.EqAt A s u v (bH y x):=by
 cases y with
 |non=>
  cases ry
  cases x with
  |non=>cases rx;exact SeqAt.EqAt.same _
  |bl b=>cases rx;exact SeqAt.EqAt.none_bool b
  |int b=>obtain⟨t,rfl⟩:=rx;exact SeqAt.EqAt.none_int b t
  |str b=>obtain⟨t,rfl⟩:=rx;exact SeqAt.EqAt.none_str b t
  |_=>exact absurd (show false=true from fx) Bool.false_ne_true
 |bl a=>
  cases ry
  cases x with
  |non=>cases rx;exact SeqAt.EqAt.bool_none a
  |bl b=>cases rx;exact SeqAt.EqAt.bool_bool a b
  |int b=>obtain⟨t,rfl⟩:=rx;exact SeqAt.EqAt.bool_int a b t
  |str b=>obtain⟨t,rfl⟩:=rx;exact SeqAt.EqAt.bool_str a b t
  |_=>exact absurd (show false=true from fx) Bool.false_ne_true
 |int a=>
  obtain⟨t',rfl⟩:=ry
  cases x with
  |non=>cases rx;exact SeqAt.EqAt.int_none a t'
  |bl b=>cases rx;exact SeqAt.EqAt.int_bool a t' b
  |int b=>obtain⟨t,rfl⟩:=rx;exact SeqAt.EqAt.int_int a t' b t
  |str b=>obtain⟨t,rfl⟩:=rx;exact SeqAt.EqAt.int_str a t' b t
  |_=>exact absurd (show false=true from fx) Bool.false_ne_true
 |str a=>
  obtain⟨t',rfl⟩:=ry
  cases x with
  |non=>cases rx;exact SeqAt.EqAt.str_none a t'
  |bl b=>cases rx;exact SeqAt.EqAt.str_bool a t' b
  |int b=>obtain⟨t,rfl⟩:=rx;exact SeqAt.EqAt.str_int a t' b t
  |str b=>obtain⟨t,rfl⟩:=rx;exact SeqAt.EqAt.str_str a t' b t
  |_=>exact absurd (show false=true from fx) Bool.false_ne_true
 |_=>exact absurd (show false=true from fy) Bool.false_ne_true
def nR (x:V)(u:Value):Bool:=match u with
 | .none=>bH .non x
 | .bool b=>bH (.bl b) x
 | .int i _=>bH (.int i) x
 | .str z _=>bH (.str z) x
 |_=>false
theorem uy {x y:V}{u:Value}(r:RelV y u)(f:A0 y=true):nR x u=bH y x:=by
 cases y with
 |non=>cases r;rfl
 |bl b=>cases r;rfl
 |int i=>obtain⟨t,rfl⟩:=r;rfl
 |str z=>obtain⟨t,rfl⟩:=r;rfl
 |_=>exact absurd (show false=true from f) Bool.false_ne_true
theorem cu {x:V}:∀{xs:List V} {us:List Value},Vals xs us→xs.all A0=true→us.any (nR x)=xs.any fun y=>bH y x
 |_,_,.nil,_=>rfl
 |y::xs,u::us,.cons r t,f=>by
  rw[List.all_cons,Bool.and_eq_true] at f
  rw[List.any_cons,List.any_cons,uy r f.1,cu t f.2]
theorem ao {A:Around}{s:Shared}{x:V}{v:Value}(rx:RelV x v)(fx:A0 x=true):∀{xs:List V} {us:List Value},Vals xs us→xs.all A0=true→∀u∈us,SeqAt.EqAt A s u v (nR x u)
 |_,_,.nil,_=>fun u hu=>by cases hu
 |y::xs,u::us,.cons r t,f=>fun u' hu=>by
  rw[List.all_cons,Bool.and_eq_true] at f
  rcases List.mem_cons.mp hu with rfl|hu
  ·rw[uy r f.1];exact aH r rx f.1 fx
  ·exact ao rx fx t f.2 u' hu
def DH (x:V)(xs:List V):Bool:=xs.any fun y=>bH y x
def DN (K:PySem.W.Frag)(neg:Bool):R2:=fun x y H Q=>∃p xs,y= .ref p∧(SqL K H p xs∨SqT K H p xs)∧A0 x=true∧xs.all A0=true∧Q (.bl (if neg then !DH x xs else DH x xs)) H
theorem op_in_seq:OpR X (compareOp .In) (DN X.K false):=by
 intro pins s σ H x y v u Q I rx ry h
 obtain⟨p,xs,rfl,hq,fx,fs,q⟩:=h
 cases ry
 rcases hq with hq|hq
 ·obtain⟨its,r,pl,hz⟩:=I.list hq
  refine SeqAt.in_listAt (nR x) pl.isList (fun w hw=>ao rx fx r fs w (by simpa using hw)) ⟨.bl _,H,I,rfl,?_⟩
  rw[show its.toArray.any (nR x)=its.any (nR x) by simp,cu r fs]
  exact q
 ·obtain⟨its,r,pl,hz⟩:=I.tuple hq
  refine SeqAt.in_tupleAt (nR x) pl (fun w hw=>ao rx fx r fs w (by simpa using hw)) ⟨.bl _,H,I,rfl,?_⟩
  rw[show its.toArray.any (nR x)=its.any (nR x) by simp,cu r fs]
  exact q
theorem op_notIn_seq:OpR X (compareOp .NotIn) (DN X.K true):=by
 intro pins s σ H x y v u Q I rx ry h
 obtain⟨p,xs,rfl,hq,fx,fs,q⟩:=h
 cases ry
 rcases hq with hq|hq
 ·obtain⟨its,r,pl,hz⟩:=I.list hq
  refine SeqAt.notIn_listAt (nR x) pl.isList (fun w hw=>ao rx fx r fs w (by simpa using hw)) ⟨.bl _,H,I,rfl,?_⟩
  rw[show its.toArray.any (nR x)=its.any (nR x) by simp,cu r fs]
  exact q
 ·obtain⟨its,r,pl,hz⟩:=I.tuple hq
  refine SeqAt.notIn_tupleAt (nR x) pl (fun w hw=>ao rx fx r fs w (by simpa using hw)) ⟨.bl _,H,I,rfl,?_⟩
  rw[show its.toArray.any (nR x)=its.any (nR x) by simp,cu r fs]
  exact q
theorem jA:OpR X (compareOp .NotIn) (fun x y H Q=>∃i j,x= .str i∧y= .str j∧Q (.bl (!(!(Builtin.Str.occurrences j i 0 j.length 1).isEmpty))) H):=by
 intro pins s σ H x y v u Q I rx ry h
 obtain⟨i,j,rfl,rfl,q⟩:=h
 obtain⟨t,rfl⟩:=rx
 obtain⟨t',rfl⟩:=ry
 exact notIn_str ⟨.bl _,H,I,rfl,q⟩
theorem CallR.or {f:Value}{r r':List V→Hp→VK→Prop}(h:CallR X f r)(h':CallR X f r'):CallR X f (fun xs H Q=>r xs H Q∨r' xs H Q):=by
 intro pins s σ H xs us Q I rs q
 rcases q with q|q
 ·exact h pins s σ H xs us Q I rs q
 ·exact h' pins s σ H xs us Q I rs q
theorem call_list_of:CallR X (.type "list") (fun xs H Q=>∃p ys,xs=[.ref p]∧(SqL X.K H p ys∨SqT X.K H p ys)∧∀l,H l=none→Q (.ref l) (p7 H l (.lst ys))):=by
 intro pins s σ H xs us Q I r h
 obtain⟨p,ys,rfl,hq,q⟩:=h
 obtain⟨u,rfl,rx⟩:=K6 r
 cases rx
 have fin:∀(its:List Value),Vals ys its→ys.length≤sizeLine→∀(h':Heap) (c':Nat),(∀b o',s.heap.get? b=some o'→h'.get? b=some o')→
   h'.get? s.heap.objs.size=some {cls:= .type "list",dict:=none,data:= .seq its.toArray c',slots:= #[]}→EP X pins σ Q (.ref s.heap.objs.size) {s with heap:=h'}:=fun its r' hz h' c' kp e=>
  ⟨.ref s.heap.objs.size,_,I.laid (t':=s.toks) kp (Nat.le_refl _) (show ObjOk X.prog X.w _ h' _ (.lst ys) from⟨hz,its,c',r',e⟩),rfl,q _ (I.hok.fresh (Nat.le_refl _))⟩
 rcases hq with hq|hq
 ·obtain⟨its,r',pl,hz⟩:=I.list hq
  have hlen:=r'.length
  obtain⟨o,ho,hc,n,hd⟩:=pl.isList
  exact call_list_seq p (.inl rfl) ho hc hd (fun h' c' kp e=>fin its r' hz h' c' kp e) (by simp only[List.size_toArray]<;>omega)
 ·obtain⟨its,r',pl,hz⟩:=I.tuple hq
  have hlen:=r'.length
  obtain⟨o,ho,hc,n,hd⟩:=pl
  exact call_list_seq p (.inr rfl) ho hc hd (fun h' c' kp e=>fin its r' hz h' c' kp e) (by simp only[List.size_toArray]<;>omega)
theorem call_tuple_of:CallR X (.type "tuple") (fun xs H Q=>∃p ys,xs=[.ref p]∧((SqL X.K H p ys∧∀l,H l=none→Q (.ref l) (p7 H l (.tup ys)))∨(SqT X.K H p ys∧Q (.ref p) H))):=by
 intro pins s σ H xs us Q I r h
 obtain⟨p,ys,rfl,h⟩:=h
 obtain⟨u,rfl,rx⟩:=K6 r
 cases rx
 rcases h with⟨hq,q⟩|⟨hq,q⟩
 ·obtain⟨its,r',pl,hz⟩:=I.list hq
  have hlen:=r'.length
  refine call_tuple_list pl.isList (fun h' kp=>?_) (by simp only[List.size_toArray]<;>omega)
  have I1:Inv X pins σ H {s with heap:=h'}:=I.kept (t':=s.toks) kp
  have I2:Inv X pins σ (p7 H h'.objs.size (.tup ys)) {s with heap:=h'.push {cls:= .type "tuple",data:= .seq its.toArray}}:=
   I1.laid (t':=s.toks) (fun b o e=>Heap.get?_push_of_some _ e) (Nat.le_refl _) (show ObjOk X.prog X.w _ _ _ (.tup ys) from⟨hz,its,r',IsTup.new _ _⟩)
  exact⟨.ref h'.objs.size,_,I2,rfl,q _ (I1.hok.fresh (Nat.le_refl _))⟩
 ·obtain⟨its,r',pl,hz⟩:=I.tuple hq
  exact call_tuple_same pl ⟨.ref p,H,I,rfl,q⟩
def CO (K:PySem.W.Frag)(T:String)(x:V)(H:Hp):Prop:=match x with
 | .str _=>T="str"
 | .int _=>T="int"
 | .ref p=>(T="list"∧∃xs,SqL K H p xs)∨(T="tuple"∧∃o,K.lookup p=some o∧o.cls= .type "tuple"∧o.dict=none)∨
   (T="dict"∧((∃kvs,H p=some (.dK kvs))∨∃kvs,H p=some (.dT kvs)))∨(T="set"∧∃S n,H p=some (.set S n))
 |_=>False
theorem uj {pins:List (Addr×Obj)}{σ:St}{H:Hp}{s:Shared}{T:String}{x:V}{v:Value}(I:Inv X pins σ H s)(r:RelV x v)(ty:CO X.K T x H):
  s.TypeIs v T∧∀a,v= .ref a→∃ob,s.heap.get? a=some ob∧ob.dict=none:=by
 cases x with
 |str z=>
  obtain⟨t,rfl⟩:=r
  cases (show T="str" from ty)
  exact⟨typeIs_str s z t,fun _ e=>nomatch e⟩
 |int i=>
  obtain⟨t,rfl⟩:=r
  cases (show T="int" from ty)
  exact⟨typeIs_int s i t,fun _ e=>nomatch e⟩
 |ref p=>
  cases r
  rcases ty with⟨rfl,xs,hq⟩|⟨rfl,o,hk,hc,hd⟩|⟨rfl,hk⟩|⟨rfl,S,n,hk⟩
  ·obtain⟨its,_,pl,_⟩:=I.list hq
   refine⟨pl.isList.typeIs,fun a e=>?_⟩
   cases e
   obtain⟨o,n,e,c,hd,_⟩:=pl
   exact⟨o,e,hd⟩
  ·refine⟨⟨o,I.kIn p o hk,hc⟩,fun a e=>?_⟩
   cases e
   exact⟨o,I.kIn _ o hk,hd⟩
  ·have z:∃o,s.heap.get? p=some o∧o.ExactDict:=by
    rcases hk with⟨kvs,hk⟩|⟨kvs,hk⟩
    ·obtain⟨_,_,_,_,o,_,_,e,ex,_⟩:=I.hok p _ hk
     exact⟨o,e,ex⟩
    ·obtain⟨_,_,_,_,o,_,_,e,ex,_⟩:=I.hok p _ hk
     exact⟨o,e,ex⟩
   obtain⟨o,e,ex⟩:=z
   refine⟨⟨o,e,ex.1⟩,fun a e2=>?_⟩
   cases e2
   exact⟨o,e,ex.2.1⟩
  ·obtain⟨o,_,_,_,e,ex,_⟩:=I.hok p _ hk
   refine⟨⟨o,e,ex.1⟩,fun a e2=>?_⟩
   cases e2
   exact⟨o,e,ex.2.1⟩
 |_=>exact False.elim ty
def yX (K:PySem.W.Frag)(T:String)(r:V→List V→Hp→VK→Prop)(to:TE):TE:=fun σ H Q=>to σ H fun x H1=>CO K T x H1∧r x [] H1 Q
def DV (K:PySem.W.Frag)(T:String)(r:V→List V→Hp→VK→Prop)(to:TE)(t:TA):TE:=fun σ H Q=>to σ H fun x H1=>CO K T x H1∧t σ H1 fun xs H2=>r x xs H2 Q
variable {o e:Expr} {es:List Expr} {to:TE} {t:TA} {name:Str} {apos cpos:Pos} {T id:String} {r:V→List V→Hp→VK→Prop}
theorem AN (pa:PlainAttrs T)(slot:Slot T name id)(hty:typeOf (.builtin id)=pure (.type "method_descriptor"))(hm:xR X id r)(ho:PE X o to)
  (hbase:attributeBase o name X.env (eval o X.env)=eval o X.env:=by rfl) (hline:(apos.endLine==cpos.line)=true:=by rfl):PE X (.Call (.Attribute o name apos) [] [] cpos) (yX X.K T r to):=by
 intro pins s σ H Q I h
 refine wpAny_Call_method0_late hbase hline (K2 (ho pins s σ H _ I h) fun v s1 ⟨x,H1,I1,r1,ty,q1⟩=>?_)
 obtain⟨h1,h2⟩:=uj I1 r1 ty
 exact⟨T,id,pa,slot,hty,h1,h2,Calls.callWith_builtin rfl (PySem.evalArgs_none (hm pins s1 σ H1 x [] v [] Q I1 r1 .nil q1))⟩
theorem BV (pa:PlainAttrs T)(slot:Slot T name id)(hty:typeOf (.builtin id)=pure (.type "method_descriptor"))(hm:xR X id r)(ho:PE X o to)(ha:PA X (e::es) t)
  (hbase:attributeBase o name X.env (eval o X.env)=eval o X.env:=by rfl)
  (hfew:((backTo cpos (starEach (e::es) X.env)).all (fun x=>!x.1)&&(backToKw cpos (keywordEach [] X.env)).all (fun x=>x.1.isSome)
   &&decide ((e::es).length+([]:List Keyword).length+(if([]:List Keyword).isEmpty then 0 else 1)<30))=true:=by rfl)
  (hline:(apos.endLine==cpos.line)=true:=by rfl) (hs:starEach (e::es) X.env=(false,eval e X.env)::starEach es X.env:=by rfl) (hplain:(backTo cpos (starEach es X.env)).any (·.1)=false:=by rfl):
  PE X (.Call (.Attribute o name apos) (e::es) [] cpos) (DV X.K T r to t):=by
 intro pins s σ H Q I h
 refine wpAny_Call_method_late hbase hfew hline rfl (K2 (ho pins s σ H _ I h) fun v s1 ⟨x,H1,I1,r1,ty,q1⟩=>?_)
 obtain⟨h1,h2⟩:=uj I1 r1 ty
 refine⟨T,id,pa,slot,hty,h1,h2,?_⟩
 have hA:=ha cpos pins s1 σ H1 _ I1 q1
 rw[hs] at hA⊢
 refine Calls.callWith_builtin (by show(false||(backTo cpos (starEach es X.env)).any (·.1))=false;rw[hplain]<;>rfl) (Calls.evalArgs_plain ?_)
 exact K2 hA fun us s2 ⟨vs,H2,I2,r2,q2⟩=>hm pins s2 σ H2 x vs v us Q I2 r1 r2 q2
end
end L2
namespace L2
open PySem PySem.Spec PyProof.Rows
def Fz (X:Cx)(id:String)(r:V→List V→Hp→VK→Prop):Prop:=
 ∀(pins:List (Addr×Obj)) (s:Shared) (σ:St) (H:Hp) (x:V) (xs:List V) (v:Value) (us:List Value) (Q:VK),Inv X pins σ H s→RelV x v→Vals xs us→r x xs H Q→
  wpAny (model X.prog X.w) X.A (call (.builtin id) (v::us)) (EP X pins σ Q) X.xe s
theorem Vals.one:∀{x:V} {us:List Value},Vals [x] us→∃u,us=[u]∧RelV x u
 |_,_,.cons r .nil=>⟨_,rfl,r⟩
theorem Vals.zero:∀{us:List Value},Vals [] us→us=[]
 |_,.nil=>rfl
section
variable {X:Cx} {pins:List (Addr×Obj)} {σ:St} {H:Hp} {s:Shared} {l b:Addr} {xs ys zs:List V}
theorem Inv.lset {its its':List Value}{n:Nat}{f:Array Value→Array Value}{t':Nat}(I:Inv X pins σ H s)(hH:H l=some (.lst xs))
  (e:s.heap.get? l=some {cls:= .type "list",data:= .seq its.toArray n}) (hf:f its.toArray=its'.toArray) (hv:Vals ys its') (hz:ys.length≤sizeLine):
  Inv X pins σ (p7 H l (.lst ys)) {s with heap:=s.heap.update l (Obj.mapSeq f),toks:=t'}:=by
 have q:=PySem.IsL.update e f
 rw[hf] at q
 refine I.write (x:=l) (e:=l) (by rw[hH];exact trivial) (.inl rfl) (fun b' u hb hu=>(Heap.get?_update_other s.heap (Obj.mapSeq f) (Ne.symm hb)).trans hu) ⟨_,q⟩ ?_
 exact⟨hz,its',_,hv,q⟩
theorem Inv.lnew {its:List Value}{t':Nat}(I:Inv X pins σ H s)(hv:Vals ys its)(hz:ys.length≤sizeLine):
  Inv X pins σ (p7 H s.heap.objs.size (.lst ys)) {s with heap:=s.heap.push {cls:= .type "list",data:= .seq its.toArray},toks:=t'}:=
 I.laid (fun _ _ q=>Heap.get?_push_of_some _ q) (Nat.le_refl _) ⟨hz,its,0,hv,Heap.get?_push_size _ rfl⟩
theorem Inv.fresh (I:Inv X pins σ H s):H s.heap.objs.size=none:=I.hok.fresh (Nat.le_refl _)
theorem Inv.lstM (I:Inv X pins σ H s)(hH:H l=some (.lst xs)):xs.length≤sizeLine∧∃(its:List Value) (n:Nat),Vals xs its∧xs.length=its.length∧s.heap.get? l=some {cls:= .type "list",data:= .seq its.toArray n}:=by
 obtain⟨z,its,n,r,e⟩:=I.hok l _ hH
 exact⟨z,its,n,r,r.length,e⟩
end
section
variable {X:Cx}
def pI:V→List V→Hp→VK→Prop:=fun x vs H Q=>∃l xs y,x= .ref l∧vs=[y]∧H l=some (.lst xs)∧xs.length<sizeLine∧Q .non (p7 H l (.lst (xs++[y])))
theorem rF:Fz X "list.append" pI:=by
 intro pins s σ H x vs v us Q I rx rv h
 obtain⟨l,xs,y,rfl,rfl,hH,hz,q⟩:=h
 cases rx
 obtain⟨u,rfl,ru⟩:=rv.one
 obtain⟨z,its,n,r,hl,e⟩:=I.lstM hH
 refine call_meets F.slot_list_append ⟨_,e,rfl⟩ F.entry_list_append (F.args_list_append_2 _ _) (PySem.list_append l its.toArray n u (by rw[List.size_toArray];omega)) ⟨e,?_⟩
 refine⟨.non,_,I.lset (its':=its++[u]) hH e (by simp) (r.append (.cons ru .nil)) ?_,rfl,q⟩
 rw[List.length_append,List.length_singleton]
 omega
def CK:R2:=fun x y H Q=>∃l b xs zs,x= .ref l∧y= .ref b∧H l=some (.lst xs)∧H b=some (.lst zs)∧xs.length+zs.length≤sizeLine∧∀p,H p=none→Q (.ref p) (p7 H p (.lst (xs++zs)))
theorem op_cat:OpR X (binaryOp .Add) CK:=by
 intro pins s σ H x y v u Q I rx ry h
 obtain⟨l,b,xs,zs,rfl,rfl,hH,hB,hz,q⟩:=h
 cases rx
 cases ry
 obtain⟨z,its,n,r,hl,e⟩:=I.lstM hH
 obtain⟨z2,its2,n2,r2,hl2,e2⟩:=I.lstM hB
 refine PySem.P.add_list e e2 ?_ (by rw[List.size_toArray,List.size_toArray];omega)
 have ea:its.toArray++its2.toArray=(its++its2).toArray:=by simp
 rw[ea]
 exact⟨.ref _,_,I.lnew (t':=s.toks) (r.append r2) (by rw[List.length_append];omega),rfl,q _ I.fresh⟩
end
section
variable {prog:Program} {w:World} {A:Around} {E:Value→Shared→Prop} {s:Shared}
end
section
variable {X:Cx}
end
end L2
namespace L2
open PySem PySem.Spec PyProof.Rows
section
variable {κ:Type} [DecidableEq κ]
def z6 (kvs:List (κ×V))(k:κ):Option V:=(kvs.find? fun kv=>decide (kv.1=k)).map (·.2)
def D0 (kvs:List (κ×V))(k:κ)(v:V):List (κ×V):=
 if(kvs.any fun kv=>decide (kv.1=k))=true then kvs.map (fun kv=>if kv.1=k then(kv.1,v) else kv) else kvs++[(k,v)]
theorem V2 {p:κ×V}{r:List (κ×V)}{k:κ}(e:p.1=k):z6 (p::r) k=some p.2:=by simp [z6,List.find?_cons,e]
theorem V3 {p:κ×V}{r:List (κ×V)}{k:κ}(e:¬p.1=k):z6 (p::r) k=z6 r k:=by simp [z6,List.find?_cons,e]
theorem az (k:κ):∀kvs:List (κ×V),(kvs.any fun kv=>decide (kv.1=k))=(z6 kvs k).isSome
 |[]=>rfl
 |p::r=>by
  rw[List.any_cons]
  by_cases e:p.1=k
  ·simp only[V2 e,decide_eq_true e,Bool.true_or,Option.isSome_some]
  ·rw[V3 e,decide_eq_false e,Bool.false_or];exact az k r
theorem R8 (kvs:List (κ×V))(k:κ)(v:V):(D0 kvs k v).length≤kvs.length+1:=by
 unfold D0
 split
 ·rw[List.length_map];omega
 ·rw[List.length_append,List.length_cons,List.length_nil];omega
theorem K9 {kvs:List (κ×V)}{k:κ}(v:V)(h:z6 kvs k=none):D0 kvs k v=kvs++[(k,v)]:=by
 unfold D0
 rw[az,h]
 exact if_neg (by decide)
theorem RelO.isSome_eq {o:Option V}{u:Option Value}(r:RelO o u):o.isSome=u.isSome:=by
 cases o with
 |none=>cases u with
  |none=>rfl
  |some _=>exact(show False from r).elim
 |some _=>cases u with
  |none=>exact(show False from r).elim
  |some _=>rfl
theorem RelO.getD {o:Option V}{u:Option Value}{d:V}{d':Value}(r:RelO o u)(rd:RelV d d'):RelV (o.getD d) (u.getD d'):=by
 cases o with
 |none=>cases u with
  |none=>exact rd
  |some _=>exact(show False from r).elim
 |some _=>cases u with
  |none=>exact(show False from r).elim
  |some _=>exact r
theorem KV.val {kvs:List (κ×V)}{vs:List (κ×Value)}(r:KV kvs vs)(k:κ):RelO (z6 kvs k) (valueAt vs k):=by
 unfold KV at r
 induction r with
 |nil=>exact True.intro
 | @cons p q ps qs h t ih=>
  obtain⟨h1,h2⟩:=h
  by_cases e:p.1=k
  ·have e':q.1=k:=h1.symm.trans e
   have b:valueAt (q::qs) k=some q.2:=by simp [valueAt,List.find?_cons,e']
   rw[V2 e,b];exact h2
  ·have e':¬q.1=k:=fun z=>e (h1.trans z)
   have b:valueAt (q::qs) k=valueAt qs k:=by simp [valueAt,List.find?_cons,e']
   rw[V3 e,b];exact ih
theorem KV.any {kvs:List (κ×V)}{vs:List (κ×Value)}(r:KV kvs vs)(k:κ):(kvs.any fun kv=>decide (kv.1=k))=vs.any fun kv=>decide (kv.1=k):=by
 unfold KV at r
 induction r with
 |nil=>rfl
 |cons h t ih=>rw[List.any_cons,List.any_cons,ih,h.1]
theorem KV.repl {kvs:List (κ×V)}{vs:List (κ×Value)}(r:KV kvs vs)(k:κ){y:V}{u:Value}(ry:RelV y u):
  KV (kvs.map fun kv=>if kv.1=k then(kv.1,y) else kv) (vs.map fun kv=>if kv.1=k then(kv.1,u) else kv):=by
 unfold KV at r⊢
 induction r with
 |nil=>exact .nil
 | @cons p q ps qs h t ih=>
  rw[List.map_cons,List.map_cons]
  refine .cons ?_ ih
  obtain⟨h1,h2⟩:=h
  by_cases e:p.1=k
  ·rw[if_pos e,if_pos (h1.symm.trans e)];exact⟨h1,ry⟩
  ·rw[if_neg e,if_neg (fun z=>e (h1.trans z))];exact⟨h1,h2⟩
theorem KV.put {kvs:List (κ×V)}{vs:List (κ×Value)}(r:KV kvs vs)(k:κ){y:V}{u:Value}(ry:RelV y u):KV (D0 kvs k y) (stored vs k u):=by
 unfold D0 stored
 rw[r.any k]
 by_cases e:(vs.any fun kv=>decide (kv.1=k))=true
 ·rw[if_pos e,if_pos e];exact r.repl k ry
 ·rw[if_neg e,if_neg e];exact Paired.snoc r ⟨rfl,ry⟩
theorem KV.keys {kvs:List (κ×V)}{vs:List (κ×Value)}(r:KV kvs vs):kvs.map (·.1)=vs.map (·.1):=by
 unfold KV at r
 induction r with
 |nil=>rfl
 |cons h t ih=>rw[List.map_cons,List.map_cons,ih,h.1]
theorem KV.length {kvs:List (κ×V)}{vs:List (κ×Value)}(r:KV kvs vs):kvs.length=vs.length:=Paired.length r
end
theorem ff {P:Program}{w:World}{k:j8}{u:Value}(r:RelV (kV k) u):(k8 P w).is k u=true:=by
 cases k with
 |inl i=>obtain⟨t,e⟩:=(show ∃t,u=Value.int i t from r);subst e;exact lM P w i t
 |inr x=>obtain⟨t,e⟩:=(show ∃t,u=Value.str x t from r);subst e;exact mw P w x t
theorem jg {P:Program}{w:World}:∀{ks:List j8} {us:List Value},Vals (ks.map kV) us→ItemsAre (k8 P w) ks us
 |[],_,r=>by rw[List.map_nil] at r;cases r;exact .nil
 |k::ks,_,r=>by
  rw[List.map_cons] at r
  cases r with
  |cons h t=>exact .cons (ff h) (jg t)
abbrev KT (H:Hp):List (List j8×V)→List (List j8×Addr×Value)→Prop:=Paired fun p q=>p.1=q.1∧H q.2.1=some (.tup (p.1.map kV))∧RelV p.2 q.2.2
theorem KT.val {H:Hp}{kvs:List (List j8×V)}{xs:List (List j8×Addr×Value)}(r:KT H kvs xs)(k:List j8):RelO (z6 kvs k) ((atKey xs k).map (·.2)):=by
 induction r with
 |nil=>exact True.intro
 | @cons p q ps qs h t ih=>
  obtain⟨h1,_,h2⟩:=h
  by_cases e:p.1=k
  ·have e':q.1=k:=h1.symm.trans e
   have b:atKey (q::qs) k=some q.2:=by simp [atKey,List.find?_cons,e']
   rw[V2 e,b];exact h2
  ·have e':¬q.1=k:=fun z=>e (h1.trans z)
   have b:atKey (q::qs) k=atKey qs k:=by simp [atKey,List.find?_cons,e']
   rw[V3 e,b];exact ih
theorem KT.repl {H:Hp}{kvs:List (List j8×V)}{xs:List (List j8×Addr×Value)}(r:KT H kvs xs)(k:List j8){y:V}{u:Value}(ry:RelV y u):
  KT H (kvs.map fun kv=>if kv.1=k then(kv.1,y) else kv) (xs.map (putAt k u)):=by
 induction r with
 |nil=>exact .nil
 | @cons p q ps qs h t ih=>
  rw[List.map_cons,List.map_cons]
  refine .cons ?_ ih
  obtain⟨h1,h2,h3⟩:=h
  unfold putAt
  by_cases e:p.1=k
  ·rw[if_pos e,if_pos (h1.symm.trans e)];exact⟨h1,h2,ry⟩
  ·rw[if_neg e,if_neg (fun z=>e (h1.trans z))];exact⟨h1,h2,h3⟩
theorem KT.put {H:Hp}{kvs:List (List j8×V)}{xs:List (List j8×Addr×Value)}(r:KT H kvs xs)(k:List j8){b:Addr}{y:V}{u:Value}(hb:H b=some (.tup (k.map kV)))(ry:RelV y u):
  KT H (D0 kvs k y) (storedH xs k b u):=by
 have e:(kvs.any fun kv=>decide (kv.1=k))=(atKey xs k).isSome:=by
  rw[az,(r.val k).isSome_eq,Option.isSome_map]
 unfold D0 storedH
 rw[e]
 by_cases q:(atKey xs k).isSome=true
 ·rw[if_pos q,if_pos q];exact r.repl k ry
 ·rw[if_neg q,if_neg q];exact Paired.snoc r ⟨rfl,hb,ry⟩
theorem KT.keeps {H H':Hp}{kvs:List (List j8×V)}{xs:List (List j8×Addr×Value)}(r:KT H kvs xs)(ht:∀b ys,H b=some (.tup ys)→H' b=some (.tup ys)):KT H' kvs xs:=
 Paired.mapP r fun _ _ z=>⟨z.1,ht _ _ z.2.1,z.2.2⟩
section
variable {P:Program} {w:World} {H:Hp} {h:Heap} {a:Addr}
theorem yS {u:HO}(ok:HOk P w H h)(e:Rd H a u):ObjOk P w H h a u:=e.ok ok
theorem E8 {kvs:List (j8×V)}(ok:HOk P w H h)(e:Rd H a (.dK kvs)):kvs.length≤sizeLine∧(a==sysModules)=false∧∃vs,KV kvs vs∧h.DictOf (k8 P w) a vs:=
 show ObjOk P w H h a (.dK kvs) from yS ok e
theorem pj {kvs:List (j8×V)}(ok:HOk P w H h)(e:H a=some (.dK kvs)):kvs.length≤sizeLine∧(a==sysModules)=false∧∃vs,KV kvs vs∧h.DictOf (k8 P w) a vs:=E8 ok (.inl e)
theorem dj {ks:List j8}(ok:HOk P w H h)(e:H a=some (.tup (ks.map kV))):(tupleKind (k8 P w)).is h ks a:=by
 obtain⟨_,its,r,o,h1,h2,n,h3⟩:=(show ObjOk P w H h a (.tup (ks.map kV)) from ok a _ e)
 exact⟨o,its.toArray,n,h1,h2,h3,by simpa using jg r⟩
theorem gE {kvs:List (List j8×V)}(ok:HOk P w H h)(e:Rd H a (.dT kvs)):kvs.length≤sizeLine∧(a==sysModules)=false∧
  ∃xs,KT H kvs xs∧h.DictOfH (tupleKind (k8 P w)) a xs:=by
 obtain⟨z,y,xs,r,o,es,ep,h1,h2,h3,h4,h5⟩:=(show ObjOk P w H h a (.dT kvs) from yS ok e)
 refine⟨z,y,xs,r,o,es,ep,h1,h2,h3,h4,fun x hx=>?_,h5⟩
 have all:∀{l:List (List j8×V)} {m:List (List j8×Addr×Value)},KT H l m→∀x∈m,(tupleKind (k8 P w)).is h x.1 x.2.1:=by
  intro l m q
  induction q with
  |nil=>intro x hx;exact nomatch hx
  | @cons p q ps qs hq t ih=>
   intro x hx
   rcases List.mem_cons.mp hx with e|hx
   ·subst e
    exact dj ok (by rw[←hq.1];exact hq.2.1)
   ·exact ih x hx
 exact all r x hx
theorem Dd {kvs:List (List j8×V)}(ok:HOk P w H h)(e:H a=some (.dT kvs)):kvs.length≤sizeLine∧(a==sysModules)=false∧
  ∃xs,KT H kvs xs∧h.DictOfH (tupleKind (k8 P w)) a xs:=gE ok (.inl e)
end
def aB (H:Hp)(a:Addr)(y:V)(r:Option V):Prop:=
 (∃kvs k,Rd H a (.dK kvs)∧y=kV k∧r=z6 kvs k)∨∃kvs k b,Rd H a (.dT kvs)∧y= .ref b∧H b=some (.tup (k.map kV))∧r=z6 kvs k
def DPut (H:Hp)(a:Addr)(y v:V)(H':Hp):Prop:=
 (∃kvs k,H a=some (.dK kvs)∧y=kV k∧kvs.length<sizeLine∧H'=p7 H a (.dK (D0 kvs k v)))∨
 ∃kvs k b,H a=some (.dT kvs)∧y= .ref b∧H b=some (.tup (k.map kV))∧kvs.length<sizeLine∧H'=p7 H a (.dT (D0 kvs k v))
theorem DPut.k {H:Hp}{a:Addr}{kvs:List (j8×V)}{k:j8}{v:V}(e:H a=some (.dK kvs))(hl:kvs.length<sizeLine):DPut H a (kV k) v (p7 H a (.dK (D0 kvs k v))):= .inl ⟨kvs,k,e,rfl,hl,rfl⟩
section
variable {X:Cx} {pins:List (Addr×Obj)} {σ:St} {H:Hp} {s:Shared} {a:Addr} {y v:V} {u r:Value} {o:Option V} {A:Around} {E:Value→Shared→Prop}
theorem Inv.big (I:Inv X pins σ H s):sysModules<s.heap.objs.size:=by
 have h:mainGlobals<s.heap.objs.size:=(I.mod.glob.keeps I.bk).lt
 exact Nat.lt_trans (by decide) h
theorem qy {Q:Value→Shared→Prop}(hu:A.units+1<cLine)(I:Inv X pins σ H s)(g:aB H a y (some v))(ry:RelV y u)(h:∀w' s',Inv X pins σ H s'→RelV v w'→Q w' s'):
  wpAny (model X.prog X.w) A (getItem (.ref a) u) Q E s:=by
 rcases g with⟨kvs,k,e,ey,l⟩|⟨kvs,k,b,e,ey,eb,l⟩
 ·subst ey
  obtain⟨z,hd,vs,rel,dd⟩:=E8 I.hok e
  obtain⟨w',hw,rw'⟩:=RelO.some_of (v:=v) (o:=valueAt vs k) (by rw[l];exact rel.val k)
  exact wpAny_getItem_of (ff ry) dd.mapOf hw (h w' _ (I.tok _) rw')
 ·subst ey
  cases (show u=Value.ref b from ry)
  obtain⟨z,hd,xs,rel,dd⟩:=gE I.hok e
  obtain⟨w',hw,rw'⟩:=RelO.some_of (v:=v) (o:=(atKey xs k).map (·.2)) (by rw[l];exact rel.val k)
  obtain⟨p,hp,hp2⟩:=Option.map_eq_some_iff.mp hw
  refine wpAny_getItem_heap (tupleKind_room_in1 hu) (dj I.hok eb) dd hp ?_
  rw[hp2]
  exact h w' _ (I.tok _) rw'
theorem EL {Q:Value→Shared→Prop}(hu:A.units+1<cLine)(I:Inv X pins σ H s)(g:aB H a y o)(ry:RelV y u)(h:∀s',Inv X pins σ H s'→Q (.bool o.isSome) s'):
  wpAny (model X.prog X.w) A (compareOp .In u (.ref a)) Q E s:=by
 rcases g with⟨kvs,k,e,ey,l⟩|⟨kvs,k,b,e,ey,eb,l⟩
 ·subst ey
  obtain⟨z,hd,vs,rel,dd⟩:=E8 I.hok e
  refine wpAny_in_of (ff ry) hd dd.mapOf ?_
  rw[←(rel.val k).isSome_eq,←l]
  exact h _ (I.tok _)
 ·subst ey
  cases (show u=Value.ref b from ry)
  obtain⟨z,hd,xs,rel,dd⟩:=gE I.hok e
  refine wpAny_in_heap (tupleKind_room_in1 hu) (dj I.hok eb) hd dd ?_
  have q:=(rel.val k).isSome_eq
  rw[Option.isSome_map] at q
  rw[←q,←l]
  exact h _ (I.tok _)
theorem wM {Q:Value→Shared→Prop}(hu:A.units+1<cLine)(I:Inv X pins σ H s)(g:aB H a y o)(ry:RelV y u)(h:∀s',Inv X pins σ H s'→Q (.bool (!o.isSome)) s'):
  wpAny (model X.prog X.w) A (compareOp .NotIn u (.ref a)) Q E s:=by
 rcases g with⟨kvs,k,e,ey,l⟩|⟨kvs,k,b,e,ey,eb,l⟩
 ·subst ey
  obtain⟨z,hd,vs,rel,dd⟩:=E8 I.hok e
  refine wpAny_notIn_of (ff ry) hd dd.mapOf ?_
  rw[←(rel.val k).isSome_eq,←l]
  exact h _ (I.tok _)
 ·subst ey
  cases (show u=Value.ref b from ry)
  obtain⟨z,hd,xs,rel,dd⟩:=gE I.hok e
  refine wpAny_notIn_heap (tupleKind_room_in1 hu) (dj I.hok eb) hd dd ?_
  have q:=(rel.val k).isSome_eq
  rw[Option.isSome_map] at q
  rw[←q,←l]
  exact h _ (I.tok _)
theorem cH {h':Heap}{t':Nat}{ob:HO}(I:Inv X pins σ H s)(mu:BO (H a))(hs:Heap.SameBut a s.heap h')(he:∃q,h'.get? a=some q)(new:ObjOk X.prog X.w (p7 H a ob) h' a ob):
  Inv X pins σ (p7 H a ob) {s with heap:=h',toks:=t'}:=
 I.write (x:=a) (e:=a) mu (.inl rfl) (fun b q hb z=>(hs.2 b hb).trans z) he new
theorem gL {P:Program}{w:World}{H':Hp}{h':Heap}{kvs:List (j8×V)}{vs:List (j8×Value)}(z:kvs.length≤sizeLine)(hd:(a==sysModules)=false)(rel:KV kvs vs)(dd:h'.DictOf (k8 P w) a vs):
  ObjOk P w H' h' a (.dK kvs):=⟨z,hd,vs,rel,dd⟩
theorem rq {H':Hp}{Q:Unit→Shared→Prop}(hu:A.units+1<cLine)(I:Inv X pins σ H s)(g:DPut H a y v H')(ry:RelV y u)(rv:RelV v r)(h:∀s',Inv X pins σ H' s'→Q () s'):
  wpAny (model X.prog X.w) A (setItem (.ref a) u r) Q E s:=by
 rcases g with⟨kvs,k,e,ey,l,eH⟩|⟨kvs,k,b,e,ey,eb,l,eH⟩
 ·subst ey eH
  obtain⟨z,hd,vs,rel,dd⟩:=pj I.hok e
  have hz:vs.length≤sizeLine:=by rw[←rel.length];exact z
  have hl:(D0 kvs k v).length≤sizeLine:=by have:=R8 kvs k v;omega
  refine wpAny_setItem_pairs (hsz:=hz) (ff ry) dd fun h' dd' hs=>h _ ?_
  have he:∃q,h'.get? a=some q:=let ⟨q,_,_,hq,_⟩:=dd';⟨q,hq⟩
  exact cH I (by rw[e];exact True.intro) hs he (gL hl hd (rel.put k rv) dd')
 ·subst ey eH
  cases (show u=Value.ref b from ry)
  obtain⟨z,hd,xs,rel,dd⟩:=Dd I.hok e
  have hz:xs.length≤sizeLine:=by rw[←Paired.length rel];exact z
  have hl:(D0 kvs k v).length≤sizeLine:=by have:=R8 kvs k v;omega
  refine wpAny_setItem_heap (hsz:=hz) (tupleKind_room_in1 hu) (dj I.hok eb) dd fun h' dd' hs=>h _ ?_
  obtain⟨q,es,ep,hq,h2,h3,h4,_,h5⟩:=dd'
  refine cH I (by rw[e];exact True.intro) hs ⟨q,hq⟩ ⟨hl,hd,_,(rel.put k eb rv).keeps fun c ys ec=>?_,q,es,ep,hq,h2,h3,h4,h5⟩
  rw[d7 (Dk ec e (fun z=>nomatch z))]
  exact ec
end
section
variable {X:Cx} {pins:List (Addr×Obj)} {σ:St} {H:Hp} {s:Shared} {a:Addr} {kvs:List (j8×V)} {k:j8} {u:Value} {A:Around} {E:Value→Shared→Prop}
theorem xf {Q:Value→Shared→Prop}(I:Inv X pins σ H s)(e:H a=some (.dK kvs))(h:∀s',Inv X pins σ (p7 H a (.dK [])) s'→Q .none s'):wpAny (model X.prog X.w) A (call (.builtin "dict.clear") [.ref a]) Q E s:=by
 obtain⟨z,hd,vs,rel,dd⟩:=pj I.hok e
 refine call_meetsIn PySem.F.slot_dict_clear dd.typeIs PySem.F.entry_dict_clear (PySem.F.args_dict_clear_1 _) (meets_dict_clear (k8 X.prog X.w) a) ⟨vs,dd,by rw[←rel.length];exact z,fun h' dd' hs=>h _ ?_⟩
 have he:∃q,h'.get? a=some q:=let ⟨q,_,_,hq,_⟩:=dd';⟨q,hq⟩
 exact cH (t':=s.toks) I (by rw[e];exact True.intro) hs he (gL (Nat.zero_le _) hd .nil dd')
theorem BL {Q:Value→Shared→Prop}(I:Inv X pins σ H s)(e:Rd H a (.dK kvs))(h:∀t s',Inv X pins σ H s'→Q (.int kvs.length t) s'):wpAny (model X.prog X.w) A (call (.builtin "len") [.ref a]) Q E s:=by
 obtain⟨z,hd,vs,rel,dd⟩:=E8 I.hok e
 refine call_len_dict hd dd (by rw[←rel.length];rw[sizeLine_eq] at z;omega) ?_
 rw[←rel.length]
 exact h _ _ (I.tok _)
end
theorem mn {X:Cx}{pins:List (Addr×Obj)}{σ:St}{H:Hp}{s:Shared}{a:Addr}{y:V}{o:Option V}(I:Inv X pins σ H s)(g:aB H a y o):s.TypeIs (.ref a) "dict":=by
 rcases g with⟨kvs,k,e,_,_⟩|⟨kvs,k,b,e,_,_,_⟩
 ·obtain⟨_,_,vs,_,dd⟩:=E8 I.hok e
  exact dd.typeIs
 ·obtain⟨_,_,xs,_,dd⟩:=gE I.hok e
  exact dd.typeIs
section
variable {X:Cx} {o i e value:Expr} {pos pos' tpos:Pos} {td ty tv:TE}
end
theorem ue {P:Program}{w:World}{H:Hp}(h:Heap)(hb:sysModules<h.objs.size):ObjOk P w H (h.push {cls:= .type "dict",data:= .dict #[]}) h.objs.size (.dK []):=
 ⟨Nat.zero_le _,beq_eq_false_iff_ne.mpr (Ne.symm (Nat.ne_of_lt hb)),[],.nil,Heap.DictOf.new h⟩
def tQ:TE:=fun _ H Q=>∀p,H p=none→Q (.ref p) (p7 H p (.dK []))
section
variable {X:Cx} {pos:Pos}
theorem tI:PE X (.Dict [] [] pos) tQ:=fun pins s σ H Q I h=>
 wpAny_Dict_empty ⟨.ref s.heap.objs.size,_,I.laid (a:=s.heap.objs.size) (o:= .dK []) (t':=s.toks) (fun _ _ q=>Heap.get?_push_of_some _ q) (Nat.le_refl _) (ue s.heap I.big),rfl,h _ (I.hok.fresh (Nat.le_refl _))⟩
end
def vg:List (TE×TE)→St→Hp→(List (V×V)→Hp→Prop)→Prop
 |[],_,H,Q=>Q [] H
 |(tk,tv)::r,σ,H,Q=>tk σ H fun x H1=>tv σ H1 fun y H2=>vg r σ H2 fun ps H3=>Q ((x,y)::ps) H3
abbrev VV:List (V×V)→List (Value×Value)→Prop:=Paired fun p q=>RelV p.1 q.1∧RelV p.2 q.2
def FF (X:Cx)(pos:Pos)(keys:List (Option Expr))(values:List Expr)(trs:List (TE×TE)):Prop:=
 ∀(pins:List (Addr×Obj)) (s:Shared) (σ:St) (H:Hp) (Q:List (V×V)→Hp→Prop),Inv X pins σ H s→vg trs σ H Q→
  wpAny (model X.prog X.w) X.A (evalPairs (pairTrees keys values X.env pos)) (fun vs s'=>∃ps H',Inv X pins σ H' s'∧VV ps vs∧Q ps H') X.xe s
structure M1 (X:Cx) (o:Expr) (m:Str) (apos:Pos) (e:Expr) (cpos:Pos):Prop where
 base:attributeBase o m X.env (eval o X.env)=eval o X.env
 few:((backTo cpos (starEach [e] X.env)).all (fun x=>!x.1)&&(backToKw cpos (keywordEach [] X.env)).all (fun x=>x.1.isSome)
  &&decide (([e]:List Expr).length+([]:List Keyword).length+(if([]:List Keyword).isEmpty then 0 else 1)<30))=true
 line:(apos.endLine==cpos.line)=true
 trees:backTo cpos (starEach [e] X.env)=[(false,eval e X.env)]
structure M2 (X:Cx) (o:Expr) (m:Str) (apos:Pos) (e f:Expr) (cpos:Pos):Prop where
 base:attributeBase o m X.env (eval o X.env)=eval o X.env
 few:((backTo cpos (starEach [e,f] X.env)).all (fun x=>!x.1)&&(backToKw cpos (keywordEach [] X.env)).all (fun x=>x.1.isSome)
  &&decide (([e,f]:List Expr).length+([]:List Keyword).length+(if([]:List Keyword).isEmpty then 0 else 1)<30))=true
 line:(apos.endLine==cpos.line)=true
 trees:backTo cpos (starEach [e,f] X.env)=[(false,eval e X.env),(false,eval f X.env)]
def ES (H:Hp)(a:Addr):Prop:=(∃kvs,Rd H a (.dK kvs))∨∃kvs,Rd H a (.dT kvs)
theorem zc {X:Cx}{pins:List (Addr×Obj)}{σ:St}{H:Hp}{s:Shared}{a:Addr}(I:Inv X pins σ H s)(d:ES H a):
  s.TypeIs (.ref a) "dict"∧(∀b,Value.ref a= .ref b→∃ob,s.heap.get? b=some ob∧ob.dict=none)∧(a==sysModules)=false:=by
 rcases d with⟨kvs,e⟩|⟨kvs,e⟩
 ·obtain⟨_,hd,vs,_,dd⟩:=E8 I.hok e
  refine⟨dd.typeIs,fun b q=>?_,hd⟩
  cases q
  obtain⟨ob,_,_,h1,h2,_⟩:=dd
  exact⟨ob,h1,h2.2.1⟩
 ·obtain⟨_,hd,xs,_,dd⟩:=gE I.hok e
  refine⟨dd.typeIs,fun b q=>?_,hd⟩
  cases q
  obtain⟨ob,_,_,h1,h2,_⟩:=dd
  exact⟨ob,h1,h2.2.1⟩
section
variable {X:Cx} {pins:List (Addr×Obj)} {σ:St} {H:Hp} {s:Shared} {a:Addr} {y d:V} {u r:Value} {o:Option V} {A:Around} {E:Value→Shared→Prop}
theorem zb {Q:Value→Shared→Prop}(hu:A.units+1<cLine)(I:Inv X pins σ H s)(g:aB H a y o)(ry:RelV y u)(h:∀w' s',Inv X pins σ H s'→RelV (o.getD .non) w'→Q w' s'):
  wpAny (model X.prog X.w) A (call (.builtin "dict.get") [.ref a,u]) Q E s:=by
 rcases g with⟨kvs,k,e,ey,l⟩|⟨kvs,k,b,e,ey,eb,l⟩
 ·subst ey
  obtain⟨z,hd,vs,rel,dd⟩:=E8 I.hok e
  refine call_meetsIn PySem.F.slot_dict_get dd.typeIs PySem.F.entry_dict_get (PySem.F.args_dict_get_2 _ _) (meets_dict_get (k8 X.prog X.w) a (ff ry) hd) ⟨_,dd.mapOf,h _ _ (I.tok _) ?_⟩
  rw[l]
  exact(rel.val k).getD rfl
 ·subst ey
  cases (show u=Value.ref b from ry)
  obtain⟨z,hd,xs,rel,dd⟩:=gE I.hok e
  refine call_meetsIn PySem.F.slot_dict_get dd.typeIs PySem.F.entry_dict_get (PySem.F.args_dict_get_2 _ _) (meetsH_dict_get (tupleKind (k8 X.prog X.w)) a b hd) ⟨tupleKind_room_in1 hu,k,xs,dj I.hok eb,dd,h _ _ (I.tok _) ?_⟩
  rw[l]
  exact(rel.val k).getD rfl
end
def nH (td ty:TE):TE:=fun σ H Q=>td σ H fun x H1=>∃a,x= .ref a∧ES H1 a∧ty σ H1 fun y H2=>∃o,aB H2 a y o∧Q (o.getD .non) H2
section
variable {X:Cx} {o e f:Expr} {apos cpos:Pos} {td ty tx:TE}
theorem vm (hu:X.A.units+1<cLine)(ho:PE X o td)(he:PE X e ty)(m:M1 X o "get" apos e cpos):PE X (.Call (.Attribute o "get" apos) [e] [] cpos) (nH td ty):=by
 intro pins s σ H Q I h
 refine wpAny_Call_method m.base m.few m.line PySem.F.plainAttrs_dict PySem.F.slot_dict_get PySem.F.type_dict_get (K2 (ho pins s σ H _ I h) fun u s1 ⟨x,H1,I1,rx,a,ex,d,q1⟩=>?_)
 subst ex
 obtain rfl:u=Value.ref a:=rx
 obtain⟨t1,t2,_⟩:=zc I1 d
 refine⟨t1,t2,?_⟩
 rw[m.trees]
 refine Calls.callWith_builtin rfl (Calls.evalArgs_plain (Calls.spliced_cons (K2 (he pins s1 σ H1 _ I1 q1) fun iv s2 ⟨y,H2,I2,ry,ov,g,q2⟩=>Calls.spliced_nil ?_)))
 exact zb hu I2 g ry fun w' s3 I3 rw'=>⟨_,H2,I3,rw',q2⟩
end
section
variable {X:Cx} {pins:List (Addr×Obj)} {σ:St} {H:Hp} {s:Shared} {a:Addr} {kvs:List (j8×V)} {A:Around} {E:Value→Shared→Prop}
theorem vE {Q:Value→Shared→Prop}(I:Inv X pins σ H s)(e:Rd H a (.dK kvs))(h:∀p s',H p=none→Inv X pins σ (p7 H p (.dK kvs)) s'→Q (.ref p) s'):wpAny (model X.prog X.w) A (call (.type "dict") [.ref a]) Q E s:=by
 obtain⟨z,hd,vs,rel,dd⟩:=E8 I.hok e
 refine kt_call_dict hd dd (by rw[←rel.length];exact z) fun h' dd' hs=>?_
 refine h _ _ (I.hok.fresh (Nat.le_refl _)) (I.laid (a:=s.heap.objs.size) (o:= .dK kvs) (t':=s.toks) (fun b q hq=>?_) (Nat.le_refl _) (gL z (beq_eq_false_iff_ne.mpr (Ne.symm (Nat.ne_of_lt I.big))) rel dd'))
 exact(hs.2 b (Nat.ne_of_lt (Heap.lt_size hq))).trans (Heap.get?_push_of_some _ hq)
end
section
variable {X:Cx} {pins:List (Addr×Obj)} {σ:St} {H:Hp} {s:Shared} {a:Addr} {y:V} {u:Value} {A:Around} {E:Value→Shared→Prop}
end
end L2
namespace Att
open PySem PySem.W PySem.Calls PyProof.Rows
theorem eM {P:Params}{h:Heap}:∀(ns:List Int) (vs:List Value),WellAll P h vs (ns.map WData.int)→IntsAre vs ns:=by
 intro ns
 induction ns with
 |nil=>
  intro vs w
  rw[List.map_nil] at w
  cases w
  exact .nil
 |cons n ns ih=>
  intro vs w
  rw[List.map_cons] at w
  cases w with
  |cons a b=>
   cases a
   exact .cons _ _ (ih _ b)
theorem qo {l:OpenLaw}{n:Nat}(hn:l.most=some n){P:Params}{h:Heap}{args:List WData}{vals:List Value}
  (hpre:l.row.toRowW.claim.pre args=true) (hwl:WellAll P h vals args):
  ∃a vs ns,vals=[Value.ref a]∧args=[WData.list (ns.map WData.int)]∧h.get? a=some {cls:= .type "list",data:= .seq vs.toArray}∧IntsAre vs ns∧ns.length≤n:=by
 have hsh:WShape.hasAll [] args [.list .int]=true:=(pre_splitW hpre).1
 have hc:l.pre.holds [] {args:=args}=true:=(pre_splitW hpre).2
 obtain⟨d,r,rfl,h1,h2⟩:=hasAllW_cons hsh
 obtain rfl:=hasAllW_nil h2
 obtain⟨xs,rfl,h3⟩:=hasW_list h1
 obtain⟨ns,rfl⟩:=items_int h3
 have hlen:ns.length≤n:=by
  unfold OpenLaw.pre at hc
  have h4:(WTm.not (.lt (.lit (.int (n:Int))) (.len (.arg 0)))).holds [] {args:=[.list (ns.map .int)]}=true:=by
   have h4:=(holds_andW hc).1
   rw[hn] at h4
   exact h4
  have h5:=condW_of h4 (w_not (w_lt w_lit (w_len_list (w_arg rfl))))
  rw[List.length_map] at h5
  refine Nat.le_of_not_lt fun q=>?_
  have q':(n:Int)<((ns.length:Nat):Int):=by omega
  first
   |(rw[decide_eq_true q'] at h5;exact absurd h5 (by decide))
   |(simp at h5;omega)
 cases hwl with
 |cons w1 w2=>
  cases w2
  cases w1 with
  |list ho hall=>exact⟨_,_,ns,rfl,rfl,ho,eM ns _ hall,hlen⟩
theorem qA (l:OpenLaw)(args:List WData):l.row.toRowW.claim.post args (.bool true) args=true:=
 postW_of (r:=l.row.toRowW) (X:=(true==true))
  (show WShape.has [] (.bool true) .bool=true by first|rfl|decide|simp [WShape.has,WShape.arms,WShape.armsAll])
  (show(WTm.eq .res (.lit (.bool true))).value [] {args:=args,res:=some (.bool true),after:=args}=some (.bool (true==true)) from w_eq_bool (w_res rfl) w_lit) rfl
theorem attach_call {l:OpenLaw}{n:Nat}{q:Program}{loose:List Str}{XP:(Str→Option Value)→Heap→Prop}{YP:World→Heap→Prop}{d:DefRec}
  (hn:l.most=some n) (hdf:d.params.defaults=[])
  (call:∀(w:World) (s₀ s₁:Shared) (mg mb:Str→Option Value) (fa:Addr) (o:Obj) (pm cd doc:Value) (a:Addr) (vs:List Value) (ns:List Int),
   Ground q loose [] XP w s₀ mg mb s₁.heap→YP w s₁.heap→
   s₁.heap.get? fa=some o→o.data= .func (docDef d.name d.params d.body d.scope pm cd doc)→s₁.heap.CodeRec cd d.name→mg d.name=some (.ref fa)→
   s₁.heap.get? a=some {cls:= .type "list",data:= .seq vs.toArray}→IntsAre vs ns→ns.length≤n→s₁.gens= #[]→
   codeAny (model l.prog w) callerA (.call (.ref fa) ⟨[.ref a],[]⟩) (fun r s'=>r= .ok (.ret (.bool true))∧OldK s₁.heap s'.heap∧s'.os=s₁.os∧AllBare s'.gens) s₁):
  WalkO q loose XP YP l.row.toRowW d [] (fun f vs=>PySem.call f vs):=by
 intro w s₀ s₁ mg mb G Y fa o pm cd doc dV kV ho hd hcd hD hmg hg args vals as hpre hlay hrd hwl hlo
 obtain rfl:dV= .none:=Dflts.none hD hdf
 obtain rfl:kV= .none:=Dflts.noKw hD
 obtain⟨a,vs,ns,rfl,rfl,hobj,hints,hlen⟩:=qo hn hpre hwl
 refine enter_call (codeAny_mono (call w s₀ s₁ mg mb fa o pm cd doc a vs ns G Y ho (fd_plain hd) hcd hmg hobj hints hlen hg) fun r s' hq=>?_)
 obtain⟨rfl,h2,h3,h4⟩:=hq
 exact⟨.inl ⟨.bool true,.bool true,[],rfl,fun _=>rfl,.bool true,qA l _,fun _=>⟨List.Pairwise.nil,fun _ hm=>(nomatch hm)⟩⟩,h2,h3,h4⟩
section
variable {prog:Program} {w:World} {A:Around} {E:Value→Shared→Prop} {s:Shared} {K:Frag}
end
end Att
namespace L2
open PySem PySem.Spec PyProof.Rows
theorem iT:∀{vs:List Value} {ns:List Int},IntsAre vs ns→Vals (ns.map V.int) vs
 |_,_,.nil=> .nil
 |_,_,.cons n t h=> .cons ⟨t,rfl⟩ (iT h)
def Bh (H:Hp):Prop:=∀b,H b=none∨∃o xs,H b=some (.frz o (.lst xs))
theorem vj {P:Program}{w:World}{K:PySem.W.Frag}{mg mb:Str→Option Value}{CX:kD}{k:Nat}{fa a:Addr}{fd:FuncData}{x:Str}{sp:Sp}{s₁:Shared}{vs:List Value}{ns:List Int}
  (KX:K.In s₁.heap) (hns:s₁.heap.Ns mainGlobals mg) (hb:s₁.heap.Ns builtinsNs mb) (hbb:∀x:Str,x≠"__name__"→mb x=bootBuiltins x) (hlim:s₁.heap.NoLimit) (hg:s₁.gens= #[])
  (ha:s₁.heap.get? a=some {cls:= .type "list",data:= .seq vs.toArray}) (hi:IntsAre vs ns) (hl:ns.length≤sizeLine) (hr:Room k callerA)
  (F:∀base:Heap,K.In base→base.Ns mainGlobals mg→p0 P w K mg base CX k fa fd [x] sp) (hbind:∀(s:Shared) (u:Value),BindsTo s fd ⟨[u],[]⟩ [(x,u)])
  (hsp:∀H:Hp,Bh H→SqL K H a (ns.map V.int)→sp [.ref a] H (fun v _=>v= .bl true) fun _ _ _=>False)
  (hCX:∀H e s',CX [] H s₁ (fun _ _ _=>False) e s'→False):
  codeAny (model P w) callerA (.call (.ref fa) ⟨[.ref a],[]⟩) (fun r s'=>r= .ok (.ret (.bool true))∧OldK s₁.heap s'.heap∧s'.os=s₁.os∧AllBare s'.gens) s₁:=by
 have rv:=iT hi
 have lenV:=hi.length
 have core:∀H:Hp,Bh H→SqL K H a (ns.map V.int)→HOk P w H s₁.heap→(∀b,H b≠none→b=a)→(H a≠none→K.lookup a=none)→
   codeAny (model P w) callerA (.call (.ref fa) ⟨[.ref a],[]⟩) (fun r s'=>r= .ok (.ret (.bool true))∧OldK s₁.heap s'.heap∧s'.os=s₁.os∧AllBare s'.gens) s₁:=by
  intro H hO hS hok hA hK
  have base_of:∀{b:Addr} {o:Obj},s₁.heap.get? b=some o→H b=none→(kr s₁.heap H).get? b=some o:=fun e n=>vC e n
  have noA:∀{b:Addr} {o:Obj} {es:Array DictEntry} {ep:Nat},s₁.heap.get? b=some o→o.data= .dict es ep→H b=none:=fun{b o es ep} e d=>by
   cases q:H b with
   |none=>rfl
   |some u=>
    have e':b=a:=hA b (by rw[q];simp)
    subst e'
    rw[ha] at e;cases e
    have d':Data.seq vs.toArray _=Data.dict es ep:=d
    cases d'
  have nsK:∀{b:Addr} {m:Str→Option Value},s₁.heap.Ns b m→(kr s₁.heap H).Ns b m:=fun{b m} ⟨o,es,ep,e,d,r⟩=>⟨o,es,ep,base_of e (noA e d),d,r⟩
  have hKb:K.In (kr s₁.heap H):=fun b o e=>base_of (KX b o e) (by
   cases q:H b with
   |none=>rfl
   |some u=>
    have e':b=a:=hA b (by rw[q];simp)
    subst e'
    rw[hK (by rw[q];simp)] at e;cases e)
  have hM:Mod K mg (kr s₁.heap H):=⟨hKb,nsK hns,⟨mb,nsK hb,hbb⟩,let ⟨mc,h1,h2⟩:=hlim;⟨mc,nsK h1,h2⟩⟩
  have e0:xu P w K mg (kr s₁.heap H) callerA [] s₁ H:=⟨rfl,hM,fun b o e=>xT e,Nat.le_of_eq (su _ _),trivial,fun b hb=>absurd (show b∈([]:List Addr) from hb) (by simp),hok,.of_eq hg⟩
  refine codeAny_mono ((F _ hKb (nsK hns)).run callerA [] s₁ H ⟨[.ref a],[]⟩ [.ref a] [.ref a] _ _ hr e0 (hbind s₁ (.ref a)) (.cons rfl .nil) (hsp H hO hS)) fun r s' h=>?_
  cases r with
  |error e=>exact(hCX H e s' h).elim
  |ok fl=>
   cases fl with
   |next=>exact False.elim h
   |brk=>exact False.elim h
   |cont=>exact False.elim h
   |ret u=>
    obtain⟨v,H',os,bare,un,hok',r',q⟩:=h
    have q':v= .bl true:=q
    subst q'
    obtain rfl:u=Value.bool true:=r'
    refine⟨rfl,OldK.of_keep fun b o e=>?_,os,bare⟩
    cases q:H b with
    |none=>exact un.keep b o e q (by intro z;exact absurd (show b∈([]:List Addr) from z) (by simp)) (by simp)
    |some u=>
     rcases hO b with z|⟨ob,xs,z⟩
     ·rw[q] at z;cases z
     ·have z2:=un.frzs b ob _ z
      obtain⟨e1,_⟩:=hok b _ z
      obtain⟨e2,_⟩:=hok' b _ z2
      rw[e] at e1;cases e1
      exact e2
 cases hk:K.lookup a with
 |some o=>
  have e:=KX a o hk
  rw[ha] at e
  cases e
  refine core (fun _=>none) (fun _=> .inl rfl) (.inr ⟨_,vs.toArray,_,hk,rfl,rfl,rfl,by rw[List.size_toArray,lenV];exact hl,by simpa using rv⟩) (fun b u z=>by have z':(none:Option HO)=some u:=z;cases z') (fun b z=>absurd rfl z) fun z=>absurd rfl z
 |none=>
  refine core (fun b=>if b=a then some (.frz {cls:= .type "list",data:= .seq vs.toArray} (.lst (ns.map V.int))) else none) (fun b=>?_) (.inl (.inr ⟨{cls:= .type "list",data:= .seq vs.toArray},if_pos rfl⟩)) (fun b u z=>?_) (fun b z=>?_) fun _=>hk
  ·by_cases hb:b=a
   ·exact .inr ⟨_,_,if_pos hb⟩
   ·exact .inl (if_neg hb)
  ·by_cases hb:b=a
   ·have z':=(if_pos hb).symm.trans z
    cases z'
    subst hb
    exact⟨ha,by rw[List.length_map];exact hl,vs,_,rv,ha⟩
   ·have z':=(if_neg hb).symm.trans z
    cases z'
  ·by_cases hb:b=a
   ·exact hb
   ·exact absurd (if_neg hb) z
end L2
namespace L2
open PySem PySem.Spec PyProof.Rows
theorem walk_of {l:PySem.W.OpenLaw}{n k:Nat}{q:Program}{loose:List Str}{XP:(Str→Option Value)→Heap→Prop}{YP:World→Heap→Prop}{d:DefRec}{K:Params→PySem.W.Frag}{CX:World→kD}{sp:World→Sp}{x:Str}
  (hn:l.most=some n) (hn2:n≤sizeLine) (hdf:d.params.defaults=[]) (hr:Room k callerA)
  (hY:∀(w:World) (h:Heap),YP w h→(K w.params).In h)
  (F:∀(w:World) (mg:Str→Option Value) (fa:Addr) (h:Heap),(K w.params).In h→h.Ns mainGlobals mg→mg d.name=some (.ref fa)→
   ∃fd:FuncData,(∀(s:Shared) (u:Value),BindsTo s fd ⟨[u],[]⟩ [(x,u)])∧
    ∀base:Heap,(K w.params).In base→base.Ns mainGlobals mg→p0 l.prog w (K w.params) mg base (CX w) k fa fd [x] (sp w))
  (hsp:∀(w:World) (H:Hp) (a:Addr) (ns:List Int),ns.length≤n→Bh H→SqL (K w.params) H a (ns.map V.int)→sp w [.ref a] H (fun v _=>v= .bl true) fun _ _ _=>False)
  (hCX:∀(w:World) (H:Hp) (s:Shared) (e:Value) (s':Shared),CX w [] H s (fun _ _ _=>False) e s'→False):
  PySem.W.WalkO q loose XP YP l.row.toRowW d [] (fun f vs=>PySem.call f vs):=by
 refine Att.attach_call hn hdf fun w s₀ s₁ mg mb fa o pm cd doc a vs ns G Y ho hd hcd hmg hobj hints hlen hg=>?_
 have KX:=hY w _ Y
 obtain⟨fd,hb,hF⟩:=F w mg fa _ KX G.T.g hmg
 exact vj KX G.T.g G.T.b G.T.builtins G.T.nolimit hg hobj hints (Nat.le_trans hlen hn2) hr hF hb (fun H hO hS=>hsp w H a ns hlen hO hS) fun H e s'=>hCX w H s₁ e s'
end L2
namespace L2
open PySem PySem.Spec PyProof.Rows
def R0 (s:Stmt):Arguments:=match s with
 | .FunctionDef _ a _ _ _ _ _ _ _ _=>a
 |_=>{posonlyargs:=[],args:=[],vararg:=none,kwonlyargs:=[],kw_defaults:=[],kwarg:=none,defaults:=[]}
def N4 (s:Stmt):List Stmt:=match s with
 | .FunctionDef _ _ b _ _ _ _ _ _ _=>b
 |_=>[]
def b6 (s:Stmt):Scope:=match s with
 | .FunctionDef _ _ _ _ _ _ sc _ _ _=>sc
 |_=>{kind:= .function,names:=[],isGenerator:=false,isCoroutine:=false}
abbrev x9:kD:=fun _ _ _ _ _ _=>False
abbrev E0:XK:=fun _ _ _=>False
theorem o9 {X:Cx}:aF x9 X E0:=fun _ _ _ _ _ _ _ h=>h.elim
structure Fun (K:PySem.W.Frag) (x qual:Str) (st:Stmt) (f:Addr) (fd:FuncData):Prop where
 ex:∃(oc:Value) (od:Option Addr) (kV doc pm:Value) (an:Option Addr) (cdv ct:Value) (osl:Array (Option Value)),
  fd=PySem.W.fnOf x qual (R0 st) (N4 st) (b6 st) .none kV doc pm an cdv ct∧K.lookup f=some ⟨oc,od,.func fd,osl⟩∧PySem.W.codeIn K cdv qual=true
 kp:PySem.W.keepIn K (.ref f)=true
section
variable {P:Program} {w:World} {K:PySem.W.Frag} {mg:Str→Option Value} {base:Heap}
theorem Fun.ok {x qual:Str}{st:Stmt}{f:Addr}{fd:FuncData}{N ps:List Str}{k:Nat}{sp:Sp}(F:Fun K x qual st f fd)(S:d9 N ps (b6 st))(len:∀vs H Q E,sp vs H Q E→vs.length=ps.length)
  (hbody:∀(cdv:Value) (A:Around) (outer:List Env) (s:Shared) (H:Hp) (vs:List V) (Q:VK) (E:XK),Room k (A.deeper (envOfC qual (b6 st) s.heap.objs.size f cdv))→sp vs H Q E→
   ∃t,PSs (fS x9 P w K mg base N qual (b6 st) f cdv A outer s H E).nox (N4 st) t∧t {nx:=fun _ H'=>Q .non H',rt:=Q} (cq N vs) H):p0 P w K mg base x9 (k+1) f fd ps sp:=by
 obtain⟨oc,od,kV,doc,pm,an,cdv,ct,osl,rfl,lk,hcd⟩:=F.ex
 refine yA lk hcd S len fun A outer s H vs Q E hr hsp=>?_
 obtain⟨t,h,q⟩:=hbody cdv A outer s H vs Q E hr hsp
 exact⟨t,h.nox,q⟩
theorem Fun.binds {x qual:Str}{st:Stmt}{f:Addr}{fd:FuncData}{ps:List Str}(F:Fun K x qual st f fd)
  (h:∀(kV doc pm:Value) (an:Option Addr) (cdv ct:Value) (us:List Value),us.length=ps.length→bindArgs (PySem.W.fnOf x qual (R0 st) (N4 st) (b6 st) .none kV doc pm an cdv ct) ⟨us,[]⟩=pure (ps.zip us)):Binds K fd ps []:=by
 obtain⟨oc,od,kV,doc,pm,an,cdv,ct,osl,rfl,lk,hcd⟩:=F.ex
 exact .all (h kV doc pm an cdv ct)
theorem Aa {x qual:Str}{st:Stmt}{f:Addr}{oc:Value}{od an:Option Addr}{osl:Array (Option Value)}{kV doc pm cdv ct:Value}(l:K.lookup f=some ⟨oc,od,.func (PySem.W.fnOf x qual (R0 st) (N4 st) (b6 st) .none kV doc pm an cdv ct),osl⟩)
  (c:PySem.W.codeIn K cdv qual=true) (k:PySem.W.keepIn K (.ref f)=true):Fun K x qual st f (PySem.W.fnOf x qual (R0 st) (N4 st) (b6 st) .none kV doc pm an cdv ct):=⟨⟨oc,od,kV,doc,pm,an,cdv,ct,osl,rfl,l,c⟩,k⟩
end
theorem qT {n:Nat}(h:n≤1000):n<sizeLine:=Nat.lt_of_le_of_lt h (by decide)
section
variable {X:Cx}
end
theorem Ey {A B:Prop}(h:B):if false=true then A else B:=by
 rw[if_neg Bool.false_ne_true]
 exact h
theorem DO {A B:Prop}(h:A):if true=true then A else B:=by
 rw[if_pos rfl]
 exact h
def Same (H H':Hp):Prop:=∀b o,H b=some o→H' b=some o
theorem Same.refl (H:Hp):Same H H:=fun _ _ h=>h
theorem Same.trans {H H1 H2:Hp}(a:Same H H1)(b:Same H1 H2):Same H H2:=fun c o h=>b c o (a c o h)
theorem Same.free {H H':Hp}(e:Same H H'){l:Addr}(h:H' l=Option.none):H l=Option.none:=by
 cases q:H l with
 |none=>rfl
 |some o=>
  rw[e l o q] at h
  cases h
theorem Same.seq {K:PySem.W.Frag}{H H':Hp}{a:Addr}{xs:List V}(e:Same H H')(h:SqL K H a xs):SqL K H' a xs:=by
 rcases h with(h|⟨o,h⟩)|h
 ·exact .inl (.inl (e _ _ h))
 ·exact .inl (.inr ⟨o,e _ _ h⟩)
 ·exact .inr h
section
variable {κ:Type} [DecidableEq κ]
theorem pY {kvs:List (κ×V)}{k:κ}{v:V}(h:z6 kvs k=some v):k∈kvs.map (·.1):=by
 have q:(kvs.any fun kv=>decide (kv.1=k))=true:=by
  rw[az,h]
  all_goals rfl
 obtain⟨p,hp,e⟩:=List.any_eq_true.mp q
 exact List.mem_map.mpr ⟨p,hp,of_decide_eq_true e⟩
theorem F6:∀{l:List κ} {k:κ},l.Nodup→¬k∈l→(l++[k]).Nodup
 |[],k,_,_=>by simp
 |a::r,k,h,hk=>by
  obtain⟨h1,h2⟩:=List.nodup_cons.mp h
  show(a::(r++[k])).Nodup
  refine List.nodup_cons.mpr ⟨fun m=>?_,F6 h2 fun m=>hk (List.mem_cons.mpr (Or.inr m))⟩
  rcases List.mem_append.mp m with q|q
  ·exact h1 q
  ·exact hk (List.mem_cons.mpr (Or.inl (List.mem_singleton.mp q).symm))
end
end L2
set_option Elab.async false
set_option linter.all false
set_option maxRecDepth 100000
set_option maxHeartbeats 4000000
namespace L2
open PySem PySem.Spec PyProof.Rows
def eL (scope:Scope)(env:Env):List (Str×Addr):=(scope.names.filter fun x=>x.2== .free).reverse.map fun x=>(x.1,(env.cells.lookup x.1).getD 0)
theorem aR {env:Env}:∀(l:List (Str×NameKind)) (cs:List (Str×Addr)),(∀x∈l,x.2= .free→∃c,env.cells.lookup x.1=some c)→
  (forIn l cs fun(x:Str×NameKind) (r:List (Str×Addr))=>if(x.2==NameKind.free)=true then(do let a←cellOf env x.1;pure (ForInStep.yield ((x.1,a)::r))) else(pure (ForInStep.yield r):Sem (ForInStep (List (Str×Addr)))))=
   pure (((l.filter fun x=>x.2== .free).reverse.map fun x=>(x.1,(env.cells.lookup x.1).getD 0))++cs)
 |[],cs,_=>rfl
 |(n,k)::l,cs,h=>by
  rw[List.forIn_cons]
  by_cases hk:k= .free
  ·subst hk
   obtain⟨c,hc⟩:=h (n,.free) List.mem_cons_self rfl
   simp only[beq_self_eq_true,if_true]
   have hc':env.cells.lookup n=some c:=hc
   have e0:cellOf env n=pure c:=by unfold cellOf;rw[hc']
   simp only[e0,pure_bind]
   rw[aR l _ fun x hx=>h x (List.mem_cons_of_mem _ hx)]
   rw[List.filter_cons,if_pos (by rfl),List.reverse_cons,List.map_append,List.append_assoc]
   simp only[List.map_cons,List.map_nil,hc',Option.getD_some,List.cons_append,List.nil_append]
  ·have hb:(k==NameKind.free)=false:=by simpa using hk
   simp only[hb,Bool.false_eq_true,if_false,pure_bind]
   rw[aR l cs fun x hx=>h x (List.mem_cons_of_mem _ hx)]
   rw[List.filter_cons,if_neg (by simp [hb])]
theorem hU {scope:Scope}{env:Env}(h:∀x∈scope.names,x.2= .free→∃c,env.cells.lookup x.1=some c):closureFor scope env=pure (eL scope env):=by
 have e:=aR (env:=env) scope.names [] h
 rw[List.append_nil] at e
 unfold closureFor eL
 simp only[]
 refine Eq.trans ?_ (congrArg (fun m=>m>>=fun r=>(pure r:Sem (List (Str×Addr)))) e)
 rfl
theorem O1 {env:Env}{x:Str}:∀(l:List (Str×NameKind)),(∀y∈l,∃c,env.cells.lookup y.1=some c)→(x∈l.map (·.1)→(l.map fun y=>(y.1,(env.cells.lookup y.1).getD 0)).lookup x=env.cells.lookup x)∧(x∉l.map (·.1)→(l.map fun y=>(y.1,(env.cells.lookup y.1).getD 0)).lookup x=none)
 |[],_=>⟨fun h=>by simp at h,fun _=>rfl⟩
 |(n,k)::l,h=>by
  have ih:=O1 (x:=x) l fun y hy=>h y (List.mem_cons_of_mem _ hy)
  obtain⟨c,hc⟩:=h (n,k) List.mem_cons_self
  have hc':env.cells.lookup n=some c:=hc
  by_cases e:x=n
  ·subst e
   refine⟨fun _=>?_,fun z=>absurd (by simp) z⟩
   simp [List.lookup_cons,hc']
  ·have eb:(x==n)=false:=by simpa using e
   refine⟨fun hm=>?_,fun hm=>?_⟩
   ·simp only[List.map_cons,List.lookup_cons,eb]
    exact ih.1 (by simpa [e] using hm)
   ·simp only[List.map_cons,List.lookup_cons,eb]
    exact ih.2 (fun z=>hm (by simp [z]))
theorem P7 {scope:Scope}{env:Env}(h:∀x∈scope.names,x.2= .free→∃c,env.cells.lookup x.1=some c){x:Str}{c:Addr}(e:(eL scope env).lookup x=some c):env.cells.lookup x=some c:=by
 have hl:∀y∈(scope.names.filter fun x=>x.2== .free).reverse,∃c,env.cells.lookup y.1=some c:=fun y hy=>by
  obtain⟨h1,h2⟩:=List.mem_filter.mp (List.mem_reverse.mp hy)
  exact h y h1 (by simpa using h2)
 have a:=O1 (x:=x) _ hl
 by_cases hm:x∈(scope.names.filter fun x=>x.2== .free).reverse.map (·.1)
 ·rw[←a.1 hm];exact e
 ·have z:=a.2 hm
  unfold eL at e
  rw[z] at e;cases e
theorem mP {scope:Scope}{env:Env}(h:∀x∈scope.names,x.2= .free→∃c,env.cells.lookup x.1=some c){x:Str}(hx:(x,NameKind.free)∈scope.names):(eL scope env).lookup x=env.cells.lookup x:=by
 have hl:∀y∈(scope.names.filter fun x=>x.2== .free).reverse,∃c,env.cells.lookup y.1=some c:=fun y hy=>by
  obtain⟨h1,h2⟩:=List.mem_filter.mp (List.mem_reverse.mp hy)
  exact h y h1 (by simpa using h2)
 exact(O1 (x:=x) _ hl).1 (List.mem_map.mpr ⟨(x,.free),List.mem_reverse.mpr (List.mem_filter.mpr ⟨hx,rfl⟩),rfl⟩)
theorem jz {scope:Scope}{env:Env}(hc:∀y∈scope.names,y.2≠ .cell){x:Str}(h:(relabel scope env).names.lookup x=some .cell∨(relabel scope env).names.lookup x=some .free):(x,NameKind.free)∈scope.names:=by
 have key:∀(l:List (Str×NameKind)),(∀y∈l,y.2≠ .cell)→∀k,(k=NameKind.cell∨k=NameKind.free)→(l.map fun(n,k)=>if(k==NameKind.free&&env.scope.kind== .function&&env.kindOf n==some .cell) then(n,NameKind.cell) else(n,k)).lookup x=some k→(x,NameKind.free)∈l:=by
  intro l
  induction l with
  |nil=>intro _ k _ e;simp at e
  |cons y r ih=>
   obtain⟨n,k0⟩:=y
   intro hl k hk e
   have ih':=ih (fun y hy=>hl y (List.mem_cons_of_mem _ hy)) k hk
   rw[List.map_cons] at e
   have hk0:k0≠ .cell:=hl (n,k0) List.mem_cons_self
   dsimp only at e
   by_cases hcnd:(k0==NameKind.free&&env.scope.kind== .function&&env.kindOf n==some .cell)=true
   ·rw[if_pos hcnd] at e
    cases hx:x==n with
    |true=>
     have:x=n:=by simpa using hx
     subst this
     have:k0= .free:=by
      simp only[Bool.and_eq_true,beq_iff_eq] at hcnd
      exact hcnd.1.1
     subst this
     exact List.mem_cons_self
    |false=>
     simp only[List.lookup_cons,hx] at e
     exact List.mem_cons_of_mem _ (ih' e)
   ·rw[if_neg hcnd] at e
    cases hx:x==n with
    |true=>
     have:x=n:=by simpa using hx
     subst this
     simp only[List.lookup_cons,hx] at e
     have e':k0=k:=Option.some.inj e
     subst e'
     rcases hk with z|z
     ·exact absurd z hk0
     ·subst z;exact List.mem_cons_self
    |false=>
     simp only[List.lookup_cons,hx] at e
     exact List.mem_cons_of_mem _ (ih' e)
 rcases h with h|h
 ·exact key _ hc _ (.inl rfl) h
 ·exact key _ hc _ (.inr rfl) h
def bj (X:Cx)(own:List Str)(js:List Nat)(scope:Scope)(C:Addr)(s:Shared)(H:Hp)(fp:List Addr):Cx:=
 {X with N:=own++js.map (fun j=>X.N.getD j Str.empty),s₀:=s,H₀:=H,env:=compEnvC scope (eL scope X.env) C X.env,outer:=X.stack,stack:=X.stack,ex:=fp,fn:=fun _=>false,pn:=[],xe:=fun _ _=>False}
def uE (own:List Str)(js:List Nat)(σ:St):St:=own.map (fun _=>none)++js.map (fun j=>(σ[j]?).join)
def Bw (X:Cx)(own:List Str)(js:List Nat)(scope:Scope):Bool:=
 (scope.kind== .function)&&(scope.names.all fun x=>x.2 != .cell)&&(scope.names.all fun x=>x.2 != .local||scope.names.lookup x.1==some .local)&&
 (scope.names.all fun x=>x.2 != .free||(X.env.kindOf x.1==some .cell||X.env.kindOf x.1==some .free))&&
 (js.all fun j=>decide (j<X.N.length)&&scope.names.any (fun y=>y.1==X.N.getD j Str.empty&&y.2== .free))&&
 (scope.names.all fun x=>x.2 != .free||scope.names.lookup x.1 !=some .local)
theorem pv {own:List Str}{js:List Nat}{σ:St}{X:Cx}{scope:Scope}{C:Addr}{s:Shared}{H:Hp}{fp:List Addr}:(uE own js σ).length=(bj X own js scope C s H fp).N.length:=by
 show(uE own js σ).length=(own++js.map (fun j=>X.N.getD j Str.empty)).length
 unfold uE;simp
section
variable {X:Cx} {pins:List (Addr×Obj)} {σ:St} {H:Hp} {s:Shared} {own:List Str} {js:List Nat} {scope:Scope} {fp:List Addr} {C D:Addr} {h1:Heap}
structure ScB (X:Cx) (own:List Str) (js:List Nat) (scope:Scope):Prop where
 kind:scope.kind= .function
 nocell:∀y∈scope.names,y.2≠ .cell
 names:∀x∈scope.names,x.2= .local→scope.names.lookup x.1=some .local
 free:∀x∈scope.names,x.2= .free→X.env.kindOf x.1=some .cell∨X.env.kindOf x.1=some .free
 js:∀j∈js,j<X.N.length∧(X.N.getD j Str.empty,NameKind.free)∈scope.names
 one:∀x,(x,NameKind.free)∈scope.names→scope.names.lookup x≠some .local
theorem uC (h:Bw X own js scope=true):ScB X own js scope:=by
 unfold Bw at h
 simp only[Bool.and_eq_true,List.all_eq_true,Bool.or_eq_true,bne_iff_ne,beq_iff_eq,decide_eq_true_eq,List.any_eq_true] at h
 obtain⟨⟨⟨⟨⟨h1,h2⟩,h3⟩,h4⟩,h5⟩,h6⟩:=h
 refine⟨h1,h2,fun x hx e=>?_,fun x hx e=>?_,fun j hj=>?_,fun x hx=>?_⟩
 ·rcases h3 x hx with z|z
  ·exact absurd e z
  ·exact z
 ·rcases h4 x hx with z|z
  ·exact absurd e z
  ·exact z
 ·obtain⟨a,y,hy,e1,e2⟩:=h5 j hj
  refine⟨a,?_⟩
  obtain⟨n,k⟩:=y
  simp only at e1 e2
  rw[←e1,←e2];exact hy
 ·rcases h6 _ hx with z|z
  ·exact absurd rfl z
  ·exact z
theorem ScB.cells (S:ScB X own js scope)(I:Inv X pins σ H s):∀x∈scope.names,x.2= .free→∃c,X.env.cells.lookup x.1=some c:=fun x hx e=>I.ok.has x.1 (S.free x hx e)
theorem Inv.block (S:ScB X own js scope)(I:Inv X pins σ H s)(hf:∀b∈fp,cL X pins H b)(hob:∀b∈fp,∃o,s.heap.get? b=some o)(hC:s.heap.objs.size≤C){m:Str→Option Value}{t':Nat}(hn:h1.Ns C m)(k:∀b u,s.heap.get? b=some u→h1.get? b=some u):
  Inv (bj X own js scope C s H fp) (X.pn++pins) (uE own js σ) H {s with heap:=h1,toks:=t'}:=by
 have hcl:=S.cells I
 have below:∀b o,s.heap.get? b=some o→b≠C:=fun b o e=>Nat.ne_of_lt (Nat.lt_of_lt_of_le (Heap.lt_size e) hC)
 have stk:∀b,b≠X.env.locals→b∉X.fs→b∉V5 X.stack:=fun b h1 h2 z=>by
  rcases List.mem_cons.mp (I.stkSub b z) with e|e
  ·exact h1 e
  ·exact h2 e
 have noex:∀b o,X.base.get? b=some o→b∉fp:=fun b o e z=>by
  rcases(hf b z).2.2.2.1 with q|q
  ·exact I.ok.noex b o e q
  ·exact absurd (Nat.lt_of_lt_of_le (Heap.lt_size e) (Nat.le_trans I.ok.bsz q)) (Nat.lt_irrefl _)
 refine⟨⟨I.ok.mod,S.kind,I.ok.glob,I.ok.blt,hC,fun x y c e1 e2=>?_,fun x hx=>?_,fun x c z _=>(Bool.false_ne_true z).elim,I.ok.hd,I.ok.frames,.inl rfl,fun b hb=>⟨?_,fun x c e=>?_⟩,I.bs,Nat.le_trans I.ok.bsz I.sz,noex,fun b hb=>?_,I.stack,I.stkFree⟩,
  rfl,I.bare,Un.kept k,⟨m,hn,fun i x v e1 e2 e3=>?_⟩,fun x c e=>?_,?_,fun x c e=>?_,fun p hp=>?_,I.hok.kept k,pv⟩
 ·exact I.ok.inj x y c (P7 hcl e1) (P7 hcl e2)
 ·have hm:=jz S.nocell (x:=x) (env:=X.env) hx
  obtain⟨c,e⟩:=hcl (x,.free) hm rfl
  exact⟨c,(mP hcl hm).trans e⟩
 ·obtain⟨o,e⟩:=hob b hb;exact below b o e
 ·exact(hf b hb).2.2.2.2.1 x c (P7 hcl e)
 ·exact stk b (hf b hb).2.1 (hf b hb).2.2.1
 ·have e1':(own++js.map (fun j=>X.N.getD j Str.empty))[i]?=some x:=e1
  unfold uE at e2
  by_cases hi:i<own.length
  ·rw[List.getElem?_append_left (by simpa using hi),List.getElem?_map] at e2
   rw[List.getElem?_eq_getElem hi] at e2
   simp at e2
  ·rw[List.getElem?_append_right (by simpa using hi),List.getElem?_map] at e2
   rw[List.getElem?_append_right (by simpa using hi),List.getElem?_map] at e1'
   have el:(own.map fun _=>(none:Option V)).length=own.length:=by simp
   rw[el] at e2
   cases hj:js[i -own.length]? with
   |none=>rw[hj] at e1';simp at e1'
   |some j=>
    rw[hj] at e1' e2
    simp only[Option.map_some,Option.some.injEq] at e1' e2
    have hjm:j∈js:=List.mem_of_getElem? hj
    obtain⟨hlt,hmem⟩:=S.js j hjm
    have hNj:X.N[j]?=some x:=by
     rw[←e1',List.getD_eq_getElem?_getD,List.getElem?_eq_getElem hlt];simp
    have hσ:σ[j]?=some (some v):=by
     cases q:σ[j]? with
     |none=>rw[q] at e2;simp at e2
     |some w=>rw[q] at e2;simp at e2;rw[e2]
    rw[e1'] at hmem
    obtain⟨m0,hn0,hl0⟩:=I.loc
    have hkx:X.env.kindOf x=some .cell∨X.env.kindOf x=some .free:=S.free (x,.free) hmem rfl
    obtain⟨u,r,l⟩:=hl0 j x v hNj hσ (by rcases hkx with z|z;exact .inr (.inl z);exact .inr (.inr z))
    refine⟨u,r,?_⟩
    rcases l with⟨z,_⟩|⟨_,c,hc,hcell⟩
    ·rcases hkx with q|q
     ·rw[q] at z;cases z
     ·rw[q] at z;cases z
    ·have hc':(eL scope X.env).lookup x=some c:=(mP hcl hmem).trans hc
     obtain⟨oc,hoc,hocd⟩:=hcell
     refine .inr ⟨?_,c,hc',⟨oc,k _ _ hoc,hocd⟩⟩
     rcases e3 with z|z|z
     ·exfalso
      have hmm:(relabel scope X.env).names.lookup x=some .local:=z
      exact absurd hmm (by
       intro hh
       have key:∀l:List (Str×NameKind),(∀y∈l,y.2= .local→scope.names.lookup y.1=some .local)→(l.map fun(n,k)=>if(k==NameKind.free&&X.env.scope.kind== .function&&X.env.kindOf n==some .cell) then(n,NameKind.cell) else(n,k)).lookup x=some .local→scope.names.lookup x=some .local:=by
        intro l
        induction l with
        |nil=>intro _ e;simp at e
        |cons y r ih=>
         obtain⟨n,k0⟩:=y
         intro hl e
         rw[List.map_cons] at e
         dsimp only at e
         by_cases hcnd:(k0==NameKind.free&&X.env.scope.kind== .function&&X.env.kindOf n==some .cell)=true
         ·rw[if_pos hcnd] at e
          cases hx:x==n with
          |true=>simp only[List.lookup_cons,hx] at e;cases e
          |false=>simp only[List.lookup_cons,hx] at e;exact ih (fun y hy=>hl y (List.mem_cons_of_mem _ hy)) e
         ·rw[if_neg hcnd] at e
          cases hx:x==n with
          |true=>
           simp only[List.lookup_cons,hx] at e
           have e':k0= .local:=Option.some.inj e
           have:x=n:=by simpa using hx
           subst this
           exact hl (x,k0) List.mem_cons_self e'
          |false=>simp only[List.lookup_cons,hx] at e;exact ih (fun y hy=>hl y (List.mem_cons_of_mem _ hy)) e
       have a:=key scope.names S.names hh
       exact S.one x hmem a)
     ·exact .inl z
     ·exact .inr z
 ·obtain⟨v,o,ho,hd⟩:=I.cell x c (P7 hcl e)
  exact⟨v,o,k _ _ ho,hd⟩
 ·exact I.hok.fresh hC
 ·exact I.freeC x c (P7 hcl e)
 ·obtain⟨e,n,ne,nf,d⟩:=I.pin p hp
  exact⟨k _ _ e,n,below _ _ e,stk _ ne nf,d⟩
end
end L2
set_option Elab.async false
set_option linter.all false
set_option maxRecDepth 100000
set_option maxHeartbeats 4000000
namespace L2
open PySem PySem.Spec PyProof.Rows
theorem HOk.track {P:Program}{w:World}{H:Hp}{h h':Heap}{a C:Addr}{o:HO}(x:HOk P w H h)(hC:H C=none)(k:∀b,b≠C→h'.get? b=h.get? b)(hn:H a=none)(new:ObjOk P w (p7 H a o) h' a o):HOk P w (p7 H a o) h':=fun b u e=>by
 by_cases hb:b=a
 ·subst hb;rw[j7] at e;cases e;exact new
 ·rw[d7 hb] at e
  refine(x b u e).stay (fun c v hc q=>?_) (fun c q=>by rw[d7 (d8 q hn)];exact q) fun c xs q=>by rw[d7 (d8 q hn)];exact q
  have hcC:c≠C:=by
   rcases hc with z|z
   ·subst z;exact d8 e hC
   ·exact d8 z hC
  rw[k c hcC];exact q
abbrev sZ (ifs:List Expr)(env:Env):Sem Bool:=forIn ifs true fun c r=>if r=true then do let ok←isTrue c env (eval c env);pure (ForInStep.yield ok) else pure (ForInStep.yield r)
def nQ (X:Cx)(ifs:List Expr)(t:TT):Prop:=
 ∀(pins:List (Addr×Obj)) (s:Shared) (σ:St) (H:Hp) (Q:Bool→Hp→Prop),Inv X pins σ H s→t σ H Q→wpAny (model X.prog X.w) X.A (sZ ifs X.env) (TP X pins σ Q) X.xe s
theorem ED {X:Cx}:nQ X [] (fun _ H Q=>Q true H):=fun pins s σ H Q I h=>wpAny_tests_nil ⟨H,I,h⟩
theorem Ez {X:Cx}{c:Expr}{t:TT}(h:PT X c t):nQ X [c] t:=fun pins s σ H Q I hq=>wpAny_tests_one (h pins s σ H Q I hq)
section
variable {X:Cx} {pins:List (Addr×Obj)} {σ:St} {H:Hp} {s:Shared} {own:List Str} {js:List Nat} {scope:Scope}
variable {tg iter elt:Expr} {ifs:List Expr} {pos:Pos} {g:TG} {ti:TT} {te:TE}
structure BlockEnd (X:Cx) (pins:List (Addr×Obj)) (own:List Str) (js:List Nat) (scope:Scope) (σ:St) (H:Hp) (s:Shared) (fp:List Addr) (C D:Addr) (out:List V) (H':Hp) (s':Shared):Prop where
 inv:Inv (bj X own js scope C s H fp) (X.pn++pins) (uE own js σ) H' s'
 free:H' D=none
 obj:∃(its:List Value) (n:Nat),Vals out its∧s'.heap.get? D=some {cls:= .type "list",data:= .seq its.toArray n}
theorem BlockEnd.out {fp:List Addr}{C D:Addr}{out:List V}{H':Hp}{s':Shared}{h':Heap}(e:BlockEnd X pins own js scope σ H s fp C D out H' s')(I:Inv X pins σ H s)(hf:∀b∈fp,cL X pins H b)(hD:s.heap.objs.size≤D)(hC:s.heap.objs.size≤C)(hDC:D≠C)
  (hl:out.length≤sizeLine) (sb:Heap.SameBut C s'.heap h'):Inv X pins σ (p7 H' D (.lst out)) {s' with heap:=h'}:=by
 obtain⟨its,n,rv,ob⟩:=e.obj
 have J:=e.inv
 have U:Un (V5 X.stack) fp H H' s.heap s'.heap:=J.base
 have same:∀b,b≠C→h'.get? b=s'.heap.get? b:=fun b hb=>sb.2 b hb
 have old:∀b o,s.heap.get? b=some o→b≠C∧b≠D:=fun b o q=>⟨Nat.ne_of_lt (Nat.lt_of_lt_of_le (Heap.lt_size q) hC),Nat.ne_of_lt (Nat.lt_of_lt_of_le (Heap.lt_size q) hD)⟩
 have hHC:H' C=none:=J.free
 refine I.call' (s':={s' with heap:=h'}) (ch:=fp) J.os ?_ ?_ J.bare fun b hb=>?_
 ·refine⟨fun b o q n hb hx=>?_,fun b o q n hb hx=>?_,fun b o q n hx=>?_,fun b o q hx=>?_,fun b xs q=>?_,fun b o u q=>?_,fun b ps q=>?_⟩
  ·show h'.get? b=_
   rw[same b (old b o q).1];exact U.keep b o q n hb hx
  ·show ∃sl,h'.get? b=_
   rw[same b (old b o q).1];exact U.slot b o q n hb hx
  ·rw[d7 (old b o q).2];exact U.free b o q n hx
  ·show ∃o',h'.get? b=_
   rw[same b (old b o q).1];exact U.there b o q hx
  ·rw[d7 (d8 (U.tups b xs q) e.free)];exact U.tups b xs q
  ·rw[d7 (d8 (U.frzs b o u q) e.free)];exact U.frzs b o u q
  ·obtain⟨mo,z⟩:=U.tbls b ps q
   exact⟨mo,by rw[d7 (d8 z e.free)];exact z⟩
 ·refine HOk.track J.hok hHC same e.free ?_
  exact⟨hl,its,n,rv,by rw[same D hDC];exact ob⟩
 ·exact⟨(hf b hb).2.2.2.1,(hf b hb).2.1,(hf b hb).2.2.2.2.1,(hf b hb).2.2.2.2.2⟩
theorem ju (S:ScB X own js scope)(hc:X.calm=true){fp:List Addr}{it C D:Addr}{tn:Nat→Heap→Prop}{J:It}(T:eE X.prog X.w X.K tg J fp it tn)(I:Inv X pins σ H s)(hf:∀b∈fp,cL X pins H b)
  (hD:s.heap.objs.size≤D) (hC:s.heap.objs.size≤C) (hDC:D≠C) (hob:∀b∈fp,∃o,s.heap.get? b=some o)
  (hg:PG (bj X own js scope C s H fp) tg g) (hi:nQ (bj X own js scope C s H fp) ifs ti) (he:PE (bj X own js scope C s H fp) elt te)
  (W:Nat→Nat→List V→Hp→Prop) {K:List V→Hp→Prop}
  (turn:∀i m out H,W i m out H→(J.stop i H∧(H D=none→out.length≤sizeLine∧K out H))∨
   (J.go i H∧∀x H',J.yld i H x H'→g x (uE own js σ) H' fun σ2 H2=>σ2.drop own.length=js.map (fun j=>(σ[j]?).join)∧ti σ2 H2 fun b H3=>
    if b=true then te σ2 H3 fun v H4=>out.length≤sizeLine∧∃m',m'<m∧W (i+1) m' (out++[v]) H4 else ∃m',m'<m∧W (i+1) m' out H3))
  {R:Result→Shared→Prop} (hR:∀out H' s',BlockEnd X pins own js scope σ H s fp C D out H' s'→out.length≤sizeLine→K out H'→R (.ok .next) s')
  {m0:Nat} {H1:Hp} {s1:Shared} (w0:W 0 m0 [] H1) (B:BlockEnd X pins own js scope σ H s fp C D [] H1 s1) (st:tn 0 s1.heap) (fr:∀b∈fp,H1 b=none):
  codeAny (model X.prog X.w) X.A (.compLoop (.ListComp elt [⟨tg,iter,ifs,0⟩] scope pos) 0 (.ref it) (.ref D) (compEnvC scope (eL scope X.env) C X.env)) R s1:=by
 have stat:∀{H':Hp},(∀b∈fp,H' b=none)→∀b∈fp,cL (bj X own js scope C s H fp) (X.pn++pins) H' b:=fun hn b hb=>by
  obtain⟨o,ho⟩:=hob b hb
  refine⟨hn b hb,Nat.ne_of_lt (Nat.lt_of_lt_of_le (Heap.lt_size ho) hC),?_,.inl hb,fun x c e=>(hf b hb).2.2.2.2.1 x c (P7 (S.cells I) e),fun p hp=>(hf b hb).2.2.2.2.2 p hp⟩
  intro z
  rcases List.mem_cons.mp (I.stkSub b z) with e|e
  ·exact(hf b hb).2.1 e
  ·exact(hf b hb).2.2.1 e
 have Dfp:D∉fp:=fun z=>by
  obtain⟨o,ho⟩:=hob D z
  exact absurd (Nat.lt_of_lt_of_le (Heap.lt_size ho) hD) (Nat.lt_irrefl _)
 have Dcell:∀x c,(bj X own js scope C s H fp).env.cells.lookup x=some c→c≠D:=fun x c e z=>by
  obtain⟨v,o,ho,_⟩:=I.cell x c (P7 (S.cells I) e)
  rw[z] at ho
  exact absurd (Nat.lt_of_lt_of_le (Heap.lt_size ho) hD) (Nat.lt_irrefl _)
 have Dpin:∀p∈X.pn++pins,p.1≠D:=fun p hp z=>by
  have ho:=(I.pin p hp).1
  rw[z] at ho
  exact absurd (Nat.lt_of_lt_of_le (Heap.lt_size ho) hD) (Nat.lt_irrefl _)
 have Dfs:D∉(bj X own js scope C s H fp).fs:=fun z=>by
  obtain⟨_,o,ho,_⟩:=I.stack.mem z
  exact absurd (Nat.lt_of_lt_of_le (Heap.lt_size ho) hD) (Nat.lt_irrefl _)
 refine codeAny_loop rfl (fun n s'=>∃i out H',BlockEnd X pins own js scope σ H s fp C D out H' s'∧tn i s'.heap∧(∀b∈fp,H' b=none)∧W i n out H') (fun n s3 hI=>?_) m0 ⟨0,[],H1,B,st,fr,w0⟩
 obtain⟨i,out,H3,B3,st3,fr3,w3⟩:=hI
 obtain⟨its,nD,rv,obD⟩:=B3.obj
 have pinD:∀{σ':St} {H':Hp} {s':Shared},Inv (bj X own js scope C s H fp) (X.pn++pins) σ' H' s'→H' D=none→s'.heap.get? D=some {cls:= .type "list",data:= .seq its.toArray nD}→
   Inv (bj X own js scope C s H fp) (X.pn++pins++[(D,{cls:= .type "list",data:= .seq its.toArray nD})]) σ' H' s':=fun{σ' H' s'} I' n' e'=>I'.pins_of fun p hp=>by
  rcases List.mem_append.mp hp with z|z
  ·exact I'.pin p (by show p∈([]:List (Addr×Obj))++_;exact List.mem_append_right _ z)
  ·have z':p=(D,{cls:= .type "list",data:= .seq its.toArray nD}):=by simpa using z
   subst z'
   exact⟨e',n',hDC,Dfs,fun v q=>by cases q⟩
 have stat':∀{H':Hp},(∀b∈fp,H' b=none)→∀b∈fp,cL (bj X own js scope C s H fp) (X.pn++pins++[(D,{cls:= .type "list",data:= .seq its.toArray nD})]) H' b:=fun hn b hb=>by
  obtain⟨a1,a2,a3,a4,a5,a6⟩:=stat hn b hb
  refine⟨a1,a2,a3,a4,a5,fun p hp=>?_⟩
  have hp':p∈X.pn++pins++[(D,{cls:= .type "list",data:= .seq its.toArray nD})]:=hp
  rcases List.mem_append.mp hp' with z|z
  ·exact a6 p (by show p∈([]:List (Addr×Obj))++_;exact z)
  ·have z':p=(D,{cls:= .type "list",data:= .seq its.toArray nD}):=by simpa using z
   subst z'
   rintro rfl
   exact Dfp hb
 have thx:∀{α:Type} {t:Sem α} {Q Q':α→Shared→Prop} {E:Value→Shared→Prop} {s:Shared},wpAny (model X.prog X.w) X.A t Q (fun _ _=>False) s→(∀a s,Q a s→Q' a s)→wpAny (model X.prog X.w) X.A t Q' E s:=
  fun h hQ=>wpAny_mono h hQ fun _ _ x=>x.elim
 have unD:∀{pl:List (Addr×Obj)} {σ':St} {H':Hp} {s':Shared},Inv (bj X own js scope C s H fp) (X.pn++pins++[(D,{cls:= .type "list",data:= .seq its.toArray nD})]++pl) σ' H' s'→Inv (bj X own js scope C s H fp) (X.pn++pins) σ' H' s'∧H' D=none∧s'.heap.get? D=some {cls:= .type "list",data:= .seq its.toArray nD}:=fun{pl σ' H' s'} I'=>by
  have q:=I'.pin (D,{cls:= .type "list",data:= .seq its.toArray nD}) (List.mem_append_right _ (List.mem_append_left _ (List.mem_append_right _ (by simp))))
  exact⟨I'.unpinned.unpinned,q.2.1,q.1⟩
 show wpAny _ X.A ((compTurn (.ListComp elt [⟨tg,iter,ifs,0⟩] scope pos) 0 (.ref it) (.ref D) (compEnvC scope (eL scope X.env) C X.env)).onRaise (fun x=>do noteFrame x (compEnvC scope (eL scope X.env) C X.env);theTreesLotGoes x)) _ _ s3
 refine wpAny_noted ?_
 rw[compTurn_list]
 refine wpAny_bind (wpAny_standAt (wpAny_bind ?_))
 rcases turn i n out H3 w3 with⟨stop,fin⟩|⟨go,step⟩
 ·refine K2 (T.done (bj X own js scope C s H fp) rfl rfl rfl hc i _ s3 _ H3 _ (pinD B3.inv B3.free obD) (stat' fr3) st3 stop) fun r s4 ⟨hr,I4⟩=>?_
  subst hr
  obtain⟨J4,n4,o4⟩:=unD (pl:=[]) (by rw[List.append_nil];exact I4)
  obtain⟨hl,k⟩:=fin B3.free
  exact wpAny_pure (hR out H3 s4 ⟨J4,n4,its,nD,rv,o4⟩ hl k)
 ·refine K2 (T.item (bj X own js scope C s H fp) rfl rfl rfl hc i _ s3 _ H3 _ (pinD B3.inv B3.free obD) (stat' fr3) st3 go) fun r s4 ⟨u,hr,h4⟩=>?_
  subst hr
  refine wpAny_bind (K2 h4 fun _ s5 ⟨x,H5,I5,r5,y5,st5,fr5⟩=>?_)
  have I5':=I5.pinned (stat' fr5) (T.obj _ _ st5)
  refine wpAny_bind (thx (hg _ s5 _ H5 x u _ I5' r5 (step x H5 y5)) fun _ s6 ⟨σ6,H6,I6,q6⟩=>?_)
  obtain⟨ed,q6⟩:=q6
  refine wpAny_bind (thx (hi _ s6 σ6 H6 _ I6 q6) fun ok s7 ⟨H7,I7,q7⟩=>?_)
  have stay:∀{H':Hp} {s':Shared},Inv (bj X own js scope C s H fp) (X.pn++pins++[(D,{cls:= .type "list",data:= .seq its.toArray nD})]++hV fp s5.heap) σ6 H' s'→tn (i+1) s'.heap∧∀b∈fp,H' b=none:=fun{H' s'} I'=>by
   refine⟨T.keep _ _ _ st5 fun b hb o e=>(I'.pin (b,o) (List.mem_append_right _ (List.mem_append_right _ (X9 hb e)))).1,fun b hb=>?_⟩
   obtain⟨o,e,d⟩:=T.obj _ _ st5 b hb
   exact(I'.pin (b,o) (List.mem_append_right _ (List.mem_append_right _ (X9 hb e)))).2.1
  have wk:∀{H':Hp} {s':Shared},Inv (bj X own js scope C s H fp) (X.pn++pins) σ6 H' s'→Inv (bj X own js scope C s H fp) (X.pn++pins) (uE own js σ) H' s':=fun{H' s'} I'=>by
   refine I'.weak (by rw[I'.len];exact pv) fun k v e=>?_
   unfold uE at e
   by_cases hk:k<own.length
   ·rw[List.getElem?_append_left (by simpa using hk),List.getElem?_map,List.getElem?_eq_getElem hk] at e
    simp at e
   ·rw[List.getElem?_append_right (by simpa using hk)] at e
    have el:(own.map fun _=>(none:Option V)).length=own.length:=by simp
    rw[el,←ed,List.getElem?_drop] at e
    have ek:own.length+(k -own.length)=k:=by lia
    rw[ek] at e
    exact e
  cases ok with
  |false=>
   rw[if_neg Bool.false_ne_true] at q7
   obtain⟨m',hm,w7⟩:=q7
   obtain⟨J7,n7,o7⟩:=unD I7
   exact wpAny_pure ⟨rfl,m',hm,i+1,out,H7,⟨wk J7,n7,its,nD,rv,o7⟩,(stay I7).1,(stay I7).2,w7⟩
  |true=>
   rw[if_pos rfl] at q7
   refine wpAny_bind (wpAny_bind (thx (he _ s7 σ6 H7 _ I7 q7) fun y s8 ⟨v,H8,I8,r8,hl8,m',hm,w8⟩=>?_))
   obtain⟨J8,n8,o8⟩:=unD I8
   have isl:s8.heap.IsList D its.toArray:=⟨_,o8,rfl,nD,rfl⟩
   refine wpAny_bind (wpAny_list_append_plain (hsz:=by have:=rv.length;simp;lia) ⟨nD,o8⟩ fun h' hp' hs'=>?_)
   obtain⟨nn,ob'⟩:=hp'
   have ob2:h'.get? D=some {cls:= .type "list",data:= .seq (its++[y]).toArray nn}:=by
    rw[ob',List.push_toArray]
   have keep:∀b o,b≠D→s8.heap.get? b=some o→h'.get? b=some o:=fun b o hb e=>(hs'.2 b hb).trans e
   have J9:Inv (bj X own js scope C s H fp) (X.pn++pins) σ6 H8 {s8 with heap:=h'}:=J8.turned (t':=s8.toks) keep n8 hDC (.inr hD) Dcell (fun p hp=>Dpin p (by
    have hp':p∈([]:List (Addr×Obj))++(X.pn++pins):=hp
    rw[List.nil_append] at hp'
    exact hp'))
   refine wpAny_pure (wpAny_pure ⟨rfl,m',hm,i+1,out++[v],H8,⟨wk J9,n8,its++[y],nn,rv.append (.cons r8 .nil),ob2⟩,?_,(stay I8).2,w8⟩)
   exact T.keep _ _ _ (stay I8).1 fun b hb o e=>keep b o (by rintro rfl;exact Dfp hb) e
end
end L2
set_option Elab.async false
set_option linter.all false
set_option maxRecDepth 100000
set_option maxHeartbeats 4000000
namespace L2
open PySem PySem.Spec PyProof.Rows
def EZ (n:Nat)(PV:Nat→V→Prop):It:=⟨fun i _=>i<n,fun i H x H'=>H'=H∧PV i x,fun i _=>n≤i⟩
theorem pC {M:Model}{A:Around}{E:Value→Shared→Prop}{s:Shared}{tg:Expr}{it:Addr}{u:Value}{Q:Unit→Shared→Prop}(hu:∀a,u≠ .ref a)(hQ:Q () s):wpAny M A (letOwnedTupleGo tg (.ref it) u) Q E s:=by
 unfold letOwnedTupleGo
 cases tg<;>first
  |exact wpAny_pure hQ
  |(cases u<;>first
    |exact wpAny_pure hQ
    |exact absurd rfl (hu _))
theorem fY {P:Program}{w:World}{K:PySem.W.Frag}{tg:Expr}{it:Addr}{n:Nat}{Pv:Nat→Value→Prop}{PV:Nat→V→Prop}{St:Nat→Heap→Prop}
  (W:∀A:Around,A.handled=none→Walks P w A it [it] [it] n Pv St) (hv:∀i u,Pv i u→(∀a,u≠ .ref a)∧∃x,RelV x u∧PV i x)
  (ho:∀i h,St i h→∃o,h.get? it=some o∧∀v,o.data≠ .cell v)
  (hk:∀i h h',St i h→(∀o,h.get? it=some o→h'.get? it=some o)→St i h')
  (hself:∀(A:Around) (i:Nat) (s:Shared) (Q:Value→Shared→Prop) (E:Value→Shared→Prop),St i s.heap→Q (.ref it) s→wpAny (model P w) A (pyIter (.ref it)) Q E s):
  eE P w K tg (EZ n PV) [it] it (fun i h=>St i h∧i≤n) where
 mem:=by simp
 obj:=fun i h st b hb=>by
  have e:b=it:=by simpa using hb
  subst e
  exact ho i h st.1
 keep:=fun i h h' st k=>⟨hk i h h' st.1 fun o e=>k it (by simp) o e,st.2⟩
 item:=by
  intro X hP hw hK hc i pins s σ H E I hf st hg
  subst hP hw hK
  obtain⟨f0,f1,f2,f3,f4,f5⟩:=hf it (by simp)
  refine(W X.A (I.ok.hd hc)).item i s _ _ hg st.1 fun v h' tk hv' st' kk=>?_
  obtain⟨hne,x,rx,px⟩:=hv i v hv'
  have I1:Inv X pins σ H {s with heap:=h',toks:=tk}:=I.turned (fun b o hb e=>kk b o (by simpa using hb) e) f0 f1 f3 f4 f5
  exact⟨v,rfl,pC hne ⟨x,H,I1,rx,⟨rfl,px⟩,⟨st',hg⟩,fun b hb=>(hf b hb).1⟩⟩
 done:=by
  intro X hP hw hK hc i pins s σ H E I hf st hg
  subst hP hw hK
  obtain⟨f0,f1,f2,f3,f4,f5⟩:=hf it (by simp)
  have e:i=n:=Nat.le_antisymm st.2 hg
  subst e
  exact(W X.A (I.ok.hd hc)).done s _ _ st.1 fun h' tk kk=>⟨rfl,I.turned (fun b o hb e=>kk b o (by simpa using hb) e) f0 f1 f3 f4 f5⟩
 self:=fun A i s Q E st h=>hself A i s Q E st.1 h
def AG (c:Nat):V:= .str ⟨#[c]⟩
def yE (x:Str)(i:Nat)(v:V):Prop:=∃c,x.cps[i]?=some c∧v=AG c
def DU (x:Str):It:=EZ x.cps.size (yE x)
theorem ui {x:Str}{i:Nat}{u:Value}(h:SignAt x i u):(∀a,u≠ .ref a)∧∃v,RelV v u∧yE x i v:=by
 obtain⟨c,t,hc,rfl⟩:=h
 exact⟨fun a z=>(by cases z),AG c,⟨t,rfl⟩,c,hc,rfl⟩
theorem qW {P:Program}{w:World}{K:PySem.W.Frag}{tg:Expr}(it:Addr)(x:Str)(t:Tok):eE P w K tg (DU x) [it] it (fun i h=>h.IsStrIter it "str_ascii_iterator" x t i∧i≤x.cps.size):=
 fY (fun A hh=>Walks.strAscii hh it x t) (fun i u h=>ui h)
  (fun i h st=>by obtain⟨o,e,c,d⟩:=st;exact⟨o,e,fun v z=>by rw[d] at z;cases z⟩)
  (fun i h h' st k=>let ⟨o,e,r⟩:=st;⟨o,k o e,r⟩)
  (fun A i s Q E st h=>wpAny_pyIter_striter_ascii st h)
theorem rj {P:Program}{w:World}{K:PySem.W.Frag}{tg:Expr}(it:Addr)(x:Str)(t:Tok):eE P w K tg (DU x) [it] it (fun i h=>h.IsStrIter it "str_iterator" x t i∧i≤x.cps.size):=
 fY (fun A hh=>Walks.strWide hh it x t) (fun i u h=>ui h)
  (fun i h st=>by obtain⟨o,e,c,d⟩:=st;exact⟨o,e,fun v z=>by rw[d] at z;cases z⟩)
  (fun i h h' st k=>let ⟨o,e,r⟩:=st;⟨o,k o e,r⟩)
  (fun A i s Q E st h=>wpAny_pyIter_striter_wide st h)
section
variable {X:Cx} {tg:Expr}
def rIter (K:PySem.W.Frag)(v:V)(H:Hp)(R:It→Hp→Prop):Prop:=
 (∃a,v= .ref a∧(∃xs,SqL K H a xs)∧R (Itl K a) H)∨(∃a,v= .ref a∧(∃xs,SqT K H a xs)∧R (Dt K a) H)∨(∃x,v= .str x∧R (DU x) H)
theorem tW {pins:List (Addr×Obj)}{σ:St}{H1:Hp}{s1:Shared}{x:V}{v:Value}{R:It→Hp→Prop}(I1:Inv X pins σ H1 s1)(r1:RelV x v)(q1:rIter X.K x H1 R):
  wpAny (model X.prog X.w) X.A (pyIter v) (DC X pins σ tg R) X.xe s1:=by
 have fp0:∀b∈[s1.heap.objs.size],cL X pins H1 b:=fun b hb=>by
  have e:b=s1.heap.objs.size:=by simpa using hb
  subst e
  exact I1.fpOk (Nat.le_refl _) (I1.hok.fresh (Nat.le_refl _))
 rcases q1 with⟨a,e,⟨xs,hq⟩,q⟩|⟨a,e,⟨xs,hq⟩,q⟩|⟨z,e,q⟩
 ·subst e
  cases r1
  obtain⟨its,rv,p,hz⟩:=I1.list hq
  refine wpAny_pyIter_list p.isList ?_
  exact⟨s1.heap.objs.size,[s1.heap.objs.size],_,_,H1,rfl,I1.kept (t':=s1.toks) fun b o e=>Heap.get?_push_of_some _ e,qH a _,⟨_,Heap.get?_push_size _ rfl,rfl,rfl⟩,fp0,q⟩
 ·subst e
  cases r1
  obtain⟨its,rv,p,hz⟩:=I1.tuple hq
  refine wpAny_pyIter_tuple (show s1.heap.IsTuple a its.toArray from p) ?_
  exact⟨s1.heap.objs.size,[s1.heap.objs.size],_,_,H1,rfl,I1.kept (t':=s1.toks) fun b o e=>Heap.get?_push_of_some _ e,mY a _,⟨_,Heap.get?_push_size _ rfl,rfl,rfl⟩,fp0,q⟩
 ·subst e
  obtain⟨t,rfl⟩:=r1
  cases ha:z.cps.all (·<128) with
  |false=>exact wpAny_pyIter_wide ha ⟨s1.heap.objs.size,[s1.heap.objs.size],_,_,H1,rfl,I1.kept (t':=s1.toks) fun b o e=>Heap.get?_push_of_some _ e,rj _ z t,⟨⟨_,Heap.get?_push_size _ rfl,rfl,rfl⟩,Nat.zero_le _⟩,fp0,q⟩
  |true=>exact wpAny_pyIter_ascii ha ⟨s1.heap.objs.size,[s1.heap.objs.size],_,_,H1,rfl,I1.kept (t':=s1.toks) fun b o e=>Heap.get?_push_of_some _ e,qW _ z t,⟨⟨_,Heap.get?_push_size _ rfl,rfl,rfl⟩,Nat.zero_le _⟩,fp0,q⟩
end
section
variable {X:Cx}
theorem km:∀{bs:List Bool} {us:List Value},Vals (bs.map V.bl) us→us=bs.map Value.bool
 |[],_,.nil=>rfl
 |b::bs,_,.cons r t=>by
  have e:_=Value.bool b:=r
  rw[e,km t];rfl
theorem om (bs:List Bool):((List.range bs.length).all fun i=>(bs[i]?).getD true)=bs.all id:=by
 rw[Bool.eq_iff_iff,List.all_eq_true,List.all_eq_true]
 constructor
 ·intro h b hb
  obtain⟨i,hi,rfl⟩:=List.getElem_of_mem hb
  have:=h i (List.mem_range.mpr hi)
  simpa [List.getElem?_eq_getElem hi] using this
 ·intro h i hi
  have hi':=List.mem_range.mp hi
  simpa [List.getElem?_eq_getElem hi'] using h _ (List.getElem_mem hi')
theorem oF (bs:List Bool):((List.range bs.length).any fun i=>(bs[i]?).getD true)=bs.any id:=by
 rw[Bool.eq_iff_iff,List.any_eq_true,List.any_eq_true]
 constructor
 ·rintro⟨i,hi,e⟩
  have hi':=List.mem_range.mp hi
  simp only[List.getElem?_eq_getElem hi',Option.getD_some] at e
  exact⟨_,List.getElem_mem hi',e⟩
 ·rintro⟨b,hb,e⟩
  obtain⟨i,hi,rfl⟩:=List.getElem_of_mem hb
  exact⟨i,List.mem_range.mpr hi,by simp only[List.getElem?_eq_getElem hi,Option.getD_some];exact e⟩
theorem pM {s:Shared}{h':Heap}{o:Obj}(hk:∀b x,b∉[s.heap.objs.size]→(s.heap.push o).get? b=some x→h'.get? b=some x):∀b x,s.heap.get? b=some x→h'.get? b=some x:=
 fun b x e=>hk b x (fun hm=>by rw[List.mem_singleton.mp hm] at e;exact Nat.lt_irrefl _ (Heap.lt_size e)) (Heap.get?_push_of_some _ e)
def vL (K:PySem.W.Frag):List V→Hp→VK→Prop:=fun xs H Q=>∃(p:Addr) (bs:List Bool),xs=[.ref p]∧SqL K H p (bs.map V.bl)∧Q (.bl (bs.all id)) H
def zi (K:PySem.W.Frag):List V→Hp→VK→Prop:=fun xs H Q=>∃(p:Addr) (bs:List Bool),xs=[.ref p]∧SqL K H p (bs.map V.bl)∧Q (.bl (bs.any id)) H
theorem qS (hc:X.calm=true):CallR X (.builtin "all") (vL X.K):=by
 intro pins s σ H xs us Q I r h
 obtain⟨l,bs,rfl,hx,q⟩:=h
 obtain⟨u,rfl,ru⟩:=K6 r
 cases ru
 obtain⟨its,rv,ht,hz⟩:=I.list hx
 have e:=km rv
 subst e
 have hl:=ht.isList
 have hlt:l<s.heap.objs.size:=ht.lt
 refine call_all_walk (wpAny_pyIter_list hl ?_)
 refine⟨s.heap.objs.size,[s.heap.objs.size,l],[s.heap.objs.size],(bs.map Value.bool).toArray.size,_,_,fun i=>(bs[i]?).getD true,rfl,Walks.list (A:=X.A.in1) (I.ok.hd hc) _ l (Nat.ne_of_lt hlt) (bs.map Value.bool).toArray,
  ⟨⟨_,Heap.get?_push_size _ rfl,rfl,rfl⟩,hl.push _⟩,fun i v s' Q' E' hP hQ=>?_,fun h' tk hk=>?_⟩
 ·have hP':(bs.map Value.bool)[i]?=some v:=by simpa using hP
  rw[List.getElem?_map] at hP'
  cases e:bs[i]? with
  |none=>rw[e] at hP';cases hP'
  |some b=>
   rw[e] at hP'
   cases hP'
   simp only[e,Option.getD_some] at hQ
   exact wpAny_truthy_bool hQ
 ·have e:((List.range (bs.map Value.bool).toArray.size).all fun i=>(bs[i]?).getD true)=bs.all id:=by
   rw[List.size_toArray,List.length_map];exact om bs
  rw[e]
  exact⟨.bl (bs.all id),H,I.kept (pM hk),rfl,q⟩
theorem rG (hc:X.calm=true):CallR X (.builtin "any") (zi X.K):=by
 intro pins s σ H xs us Q I r h
 obtain⟨l,bs,rfl,hx,q⟩:=h
 obtain⟨u,rfl,ru⟩:=K6 r
 cases ru
 obtain⟨its,rv,ht,hz⟩:=I.list hx
 have e:=km rv
 subst e
 have hl:=ht.isList
 have hlt:l<s.heap.objs.size:=ht.lt
 refine call_any_walk (wpAny_pyIter_list hl ?_)
 refine⟨s.heap.objs.size,[s.heap.objs.size,l],[s.heap.objs.size],(bs.map Value.bool).toArray.size,_,_,fun i=>(bs[i]?).getD true,rfl,Walks.list (A:=X.A.in1) (I.ok.hd hc) _ l (Nat.ne_of_lt hlt) (bs.map Value.bool).toArray,
  ⟨⟨_,Heap.get?_push_size _ rfl,rfl,rfl⟩,hl.push _⟩,fun i v s' Q' E' hP hQ=>?_,fun h' tk hk=>?_⟩
 ·have hP':(bs.map Value.bool)[i]?=some v:=by simpa using hP
  rw[List.getElem?_map] at hP'
  cases e:bs[i]? with
  |none=>rw[e] at hP';cases hP'
  |some b=>
   rw[e] at hP'
   cases hP'
   simp only[e,Option.getD_some] at hQ
   exact wpAny_truthy_bool hQ
 ·have e:((List.range (bs.map Value.bool).toArray.size).any fun i=>(bs[i]?).getD true)=bs.any id:=by
   rw[List.size_toArray,List.length_map];exact oF bs
  rw[e]
  exact⟨.bl (bs.any id),H,I.kept (pM hk),rfl,q⟩
def CV:V→Option Int→Option Int→Hp→VK→Prop:=fun x lo hi H Q=>∃z,x= .str z∧z.length≤sizeLine∧Q (.str (Txt.slice z lo hi)) H
theorem zd:SlR X CV:=by
 intro pins s σ H x v vl vu lo hi sl Q I rx hs pl pu h
 obtain⟨z,rfl,hz,q⟩:=h
 obtain⟨t,rfl⟩:=rx
 refine⟨"str",_,F.slot_str_getitem.lookup,typeIs_str _ _ _,?_⟩
 have fin:∀t' k,EP X pins σ Q (.str (Txt.slice z lo hi) t') {s with toks:=k}:=fun t' k=>⟨.str _,H,I.tok _,⟨t',rfl⟩,q⟩
 cases pl with
 |none=>
  cases pu with
  |none=>exact wpAny_getItem_str_slice (l:=none) (u:=none) (st:=none) hs rfl (post_val_or_str ⟨Nat.le_trans (Txt.slice_le z _ _) hz,fin⟩)
  |int j tj=>exact wpAny_getItem_str_slice (l:=none) (u:=some (j,tj)) (st:=none) hs rfl (post_val_or_str ⟨Nat.le_trans (Txt.slice_le z _ _) hz,fin⟩)
 |int i ti=>
  cases pu with
  |none=>exact wpAny_getItem_str_slice (l:=some (i,ti)) (u:=none) (st:=none) hs rfl (post_val_or_str ⟨Nat.le_trans (Txt.slice_le z _ _) hz,fin⟩)
  |int j tj=>exact wpAny_getItem_str_slice (l:=some (i,ti)) (u:=some (j,tj)) (st:=none) hs rfl (post_val_or_str ⟨Nat.le_trans (Txt.slice_le z _ _) hz,fin⟩)
def EJ (K:PySem.W.Frag):V→Option Int→Option Int→Hp→VK→Prop:=fun x lo hi H Q=>CU K x lo hi H Q∨BI K x lo hi H Q∨CV x lo hi H Q
theorem AF:SlR X (EJ X.K):=sl_list.or (sl_tup.or zd)
def TyB (K:PySem.W.Frag)(H:Hp):V→String→Prop
 | .non,t=>t="NoneType"
 | .bl _,t=>t="bool"
 | .int _,t=>t="int"
 | .str _,t=>t="str"
 | .ref a,t=>(t="list"∧∃xs,SqL K H a xs)∨(t="tuple"∧∃xs,SqT K H a xs)∨(t="dict"∧∃kvs,Rd H a (.dK kvs))
 |_,_=>False
def du (t T:String):Bool:=t==T||(t=="bool"&&T=="int")
def wx (K:PySem.W.Frag):List V→Hp→VK→Prop:=fun xs H Q=>∃x T t,xs=[x,.ty T]∧TyB K H x t∧(T="str"∨T="int"∨T="bool"∨T="list"∨T="tuple"∨T="dict")∧Q (.bl (du t T)) H
theorem R6 {K:PySem.W.Frag}{t T:String}(ht:t="NoneType"∨t="bool"∨t="int"∨t="str"∨t="list"∨t="tuple"∨t="dict")(hT:T="str"∨T="int"∨T="bool"∨T="list"∨T="tuple"∨T="dict"):
  PySem.W.kitOne K (.type t) (.type T)=some (du t T):=by
 rcases ht with rfl|rfl|rfl|rfl|rfl|rfl|rfl<;>rcases hT with rfl|rfl|rfl|rfl|rfl|rfl<;>rfl
theorem call_isi:CallR X (.builtin "isinstance") (wx X.K):=by
 intro pins s σ H xs us Q I r h
 obtain⟨x,T,t,rfl,ty,hT,q⟩:=h
 obtain⟨u,c,rfl,rx,rc⟩:=dG r
 cases rc
 have fin:∀tk,EP X pins σ Q (.bool (du t T)) {s with toks:=tk}:=fun tk=>⟨.bl _,H,I.tok tk,rfl,q⟩
 cases x with
 |non=>cases ty;cases (show u=Value.none from rx);exact PySem.W.kia_one PySem.W.kitx_none I.kIn True.intro (R6 (by simp) hT) (fun z=>nomatch z) fin
 |bl y=>cases ty;cases (show u=Value.bool y from rx);exact PySem.W.kia_one PySem.W.kitx_bool I.kIn True.intro (R6 (by simp) hT) (fun z=>nomatch z) fin
 |int i=>cases ty;obtain⟨t,q⟩:=(show ∃t,u=Value.int i t from rx);cases q;exact PySem.W.kia_one PySem.W.kitx_int I.kIn True.intro (R6 (by simp) hT) (fun z=>nomatch z) fin
 |str y=>cases ty;obtain⟨t,q⟩:=(show ∃t,u=Value.str y t from rx);cases q;exact PySem.W.kia_one PySem.W.kitx_str I.kIn True.intro (R6 (by simp) hT) (fun z=>nomatch z) fin
 |byt _=>exact False.elim ty
 |flt _=>exact False.elim ty
 |ty _=>exact False.elim ty
 |ref a=>
  cases (show u=Value.ref a from rx)
  rcases ty with⟨rfl,ys,hy⟩|⟨rfl,ys,hy⟩|⟨rfl,kvs,hy⟩
  ·obtain⟨its,_,⟨o,n,e,c,_,_⟩,_⟩:=I.list hy
   exact PySem.W.kia_one PySem.W.kitx_list I.kIn ⟨o,e,c⟩ (R6 (by simp) hT) (fun z=>nomatch z) fin
  ·obtain⟨its,_,⟨o,e,c,_⟩,_⟩:=I.tuple hy
   exact PySem.W.kia_one PySem.W.kitx_tuple I.kIn ⟨o,e,c⟩ (R6 (by simp) hT) (fun z=>nomatch z) fin
  ·obtain⟨_,_,vs,_,o,es,ep,h1,h2,_⟩:=E8 I.hok hy
   exact PySem.W.kia_one PySem.W.kitx_dict I.kIn ⟨o,h1,h2.1⟩ (R6 (by simp) hT) (fun z=>nomatch z) fin
end
end L2
set_option Elab.async false
set_option linter.all false
set_option maxRecDepth 100000
set_option maxHeartbeats 4000000
namespace L2
open PySem PySem.Spec PyProof.Rows
section
variable {X:Cx}
def mV (K:PySem.W.Frag):R2:=fun x y H Q=>wj (fun i j=> .int (i+j)) x y H Q∨(∃i j,x= .str i∧y= .str j∧i.length+j.length≤sizeLine∧Q (.str (i++j)) H)∨CK x y H Q∨yT K x y H Q
theorem yu:OpR X (binaryOp .Add) (mV X.K):=op_add.or (op_add_str.or (op_cat.or wQ))
theorem op_in_sgn:OpR X (compareOp .In) (fun x y H Q=>∃c j,x=AG c∧y= .str j∧Q (.bl (decide (c∈j.cps.toList))) H):=by
 intro pins s σ H x y v u Q I rx ry h
 obtain⟨c,j,rfl,rfl,q⟩:=h
 refine rg pins s σ H _ _ v u Q I rx ry ⟨⟨#[c]⟩,j,rfl,rfl,?_⟩
 rw[StrLaws.found_one];exact q
theorem op_notIn_sgn:OpR X (compareOp .NotIn) (fun x y H Q=>∃c j,x=AG c∧y= .str j∧Q (.bl (!decide (c∈j.cps.toList))) H):=by
 intro pins s σ H x y v u Q I rx ry h
 obtain⟨c,j,rfl,rfl,q⟩:=h
 refine jA pins s σ H _ _ v u Q I rx ry ⟨⟨#[c]⟩,j,rfl,rfl,?_⟩
 rw[StrLaws.found_one];exact q
theorem nX (hu:X.A.units+1<cLine):OpR X (compareOp .In) (fun y x H Q=>∃a o,x= .ref a∧aB H a y o∧Q (.bl o.isSome) H):=by
 intro pins s σ H y x v u Q I ry rx h
 obtain⟨a,o,rfl,g,q⟩:=h
 cases rx
 exact EL hu I g ry fun s' I'=>⟨.bl _,H,I',rfl,q⟩
theorem iF (hu:X.A.units+1<cLine):OpR X (compareOp .NotIn) (fun y x H Q=>∃a o,x= .ref a∧aB H a y o∧Q (.bl (!o.isSome)) H):=by
 intro pins s σ H y x v u Q I ry rx h
 obtain⟨a,o,rfl,g,q⟩:=h
 cases rx
 exact wM hu I g ry fun s' I'=>⟨.bl _,H,I',rfl,q⟩
def AQ (K:PySem.W.Frag):R2:=fun x y H Q=>(∃c j,x=AG c∧y= .str j∧Q (.bl (decide (c∈j.cps.toList))) H)∨DN K false x y H Q∨(∃a o,y= .ref a∧aB H a x o∧Q (.bl o.isSome) H)
def eY (K:PySem.W.Frag):R2:=fun x y H Q=>(∃c j,x=AG c∧y= .str j∧Q (.bl (!decide (c∈j.cps.toList))) H)∨DN K true x y H Q∨(∃a o,y= .ref a∧aB H a x o∧Q (.bl (!o.isSome)) H)
theorem zN (hu:X.A.units+1<cLine):OpR X (compareOp .In) (AQ X.K):=op_in_sgn.or (op_in_seq.or (nX hu))
theorem qj (hu:X.A.units+1<cLine):OpR X (compareOp .NotIn) (eY X.K):=op_notIn_sgn.or (op_notIn_seq.or (iF hu))
def Bz:R2:=fun x y H Q=>wj (fun i j=> .bl (decide (i<j))) x y H Q∨(∃i j,x= .str i∧y= .str j∧Q (.bl (decide (i.cps.toList<j.cps.toList))) H)
theorem oH:OpR X (compareOp .Lt) Bz:=op_lt.or rT
theorem xt (hu:X.A.units+1<cLine):IxR X (fun x y H Q=>∃a v,x= .ref a∧aB H a y (some v)∧Q v H):=by
 intro value slice pins s σ H x y v u Q I rx ry h hs
 obtain⟨a,z,rfl,g,q⟩:=h
 cases rx
 exact tail_any (mn I g) PySem.F.slot_dict_getitem.lookup (qy hu I g ry fun w2 s' I' r'=>⟨z,H,I',r',q⟩) hs
def nZ (K:PySem.W.Frag):R2:=fun x y H Q=>EW K x y H Q∨(∃a v,x= .ref a∧aB H a y (some v)∧Q v H)
theorem Bb (hu:X.A.units+1<cLine):IxR X (nZ X.K):=ix_seq.or (xt hu)
def qU (K:PySem.W.Frag):List V→Hp→VK→Prop:=fun xs H Q=>(∃x n,xs=[x]∧BQ K x H n∧Q (.int n) H)∨(∃a kvs,xs=[V.ref a]∧Rd H a (.dK kvs)∧Q (.int kvs.length) H)
theorem call_lenX:CallR X (.builtin "len") (qU X.K):=by
 refine call_len.or ?_
 intro pins s σ H xs us Q I r h
 obtain⟨a,kvs,rfl,ha,q⟩:=h
 obtain⟨u,rfl,ru⟩:=K6 r
 cases ru
 exact BL I ha fun t s' I'=>⟨.int kvs.length,H,I',⟨t,rfl⟩,q⟩
end
def F0 (P:Program)(w:World)(K:PySem.W.Frag)(mg:Str→Option Value)(base:Heap)(CX:kD)(k:Nat)(x:Str)(ps:List Str)(dvs:List V)(sp:Sp):Prop:=
 ∃f fd ds,p0 P w K mg base CX k f fd ps sp∧mg x=some (.ref f)∧PySem.W.keepIn K (.ref f)=true∧Binds K fd ps ds∧Vals dvs ds
section
variable {X:Cx} {CX:kD} {k:Nat} {x:Str} {ps:List Str} {dvs:List V} {sp:Sp} {E:XK} {e:Expr} {es:List Expr} {t:TA} {p pos:Pos}
theorem uq (C:F0 X.prog X.w X.K X.mg X.base CX k x ps dvs sp)(hr:Room k X.A)(hx:aF CX X E)(ha:PA X (e::es) t)(hg:Gl X x:=by rfl)
  (hdb:(x==("__debug__":Str))=false:=by decide) (he:starEach (e::es) X.env=(false,eval e X.env)::starEach es X.env:=by rfl) (hpl:(backTo pos (starEach es X.env)).any (·.1)=false:=by rfl):
  PE X (.Call (.Name x p) (e::es) [] pos) (mR sp dvs E t):=by
 obtain⟨f,fd,ds,F,hm,hk,hb,hd⟩:=C
 exact wR F hr hg hm hk hb hd hx ha hdb he hpl
def DJ (mg:Str→Option Value)(x:Str)(v:V):Prop:=∃u,mg x=some u∧RelV v u
theorem Aq {v:V}(h:DJ X.mg x v)(hg:Gl X x:=by rfl)(hd:(x==("__debug__":Str))=false:=by decide):PE X (.Name x pos) (tC v):=by
 obtain⟨u,hm,r⟩:=h
 exact yn hg hm r hd
theorem A1 {k:Nat}{A:Around}(r:Room k A):A.units+1<cLine:=by have:=r.un;lia
end
section
variable {K:PySem.W.Frag} {σ:St} {H:Hp} {Q:VK} {D:oE} {nx bk ct:St→Hp→Prop} {rt:VK}
theorem Ct {i:Nat}{v:V}(h:σ[i]?=some (some v))(q:Q v H):ud i σ H Q:=⟨v,h,q⟩
theorem Fp {v:V}(q:Q v H):tC v σ H Q:=q
theorem Ep {r:R2}{ta tb:TE}(q:ta σ H fun x H1=>tb σ H1 fun y H2=>r x y H2 Q):wt r ta tb σ H Q:=q
theorem zg {t:TE}{Qb:Bool→Hp→Prop}(q:t σ H fun x H'=>∃k,x= .bl k∧Qb k H'):vJ t σ H Qb:=q
theorem Eh {b:Bool}{Qb:Bool→Prop}(q:Qb b):∃k,V.bl b= .bl k∧Qb k:=⟨b,rfl,q⟩
theorem Dq {b:Bool}{Qb:Bool→Prop}(q:Qb b):∃k,tD K (V.bl b) H k∧Qb k:=⟨b,rfl,q⟩
theorem BE {t:TT}{Qb:Bool→Hp→Prop}(q:t σ H fun c H1=>Qb (!c) H1):AL t σ H Qb:=q
theorem De {t u:TT}{Qb:Bool→Hp→Prop}(q:t σ H fun c H1=>if c=true then u σ H1 Qb else Qb false H1):Ab t u σ H Qb:=q
theorem Eg {t u:TT}{Qb:Bool→Hp→Prop}(q:t σ H fun c H1=>if c=true then Qb true H1 else u σ H1 Qb):DW t u σ H Qb:=q
theorem zk {ta tb:TE}(q:ta σ H fun x H1=>∃c,x= .bl c∧if c=true then tb σ H1 Q else Q (.bl false) H1):uu ta tb σ H Q:=q
theorem Cn {Qa:List V→Hp→Prop}(q:Qa [] H):tN σ H Qa:=q
theorem zj {ta:TE}{tr:TA}{Qa:List V→Hp→Prop}(q:ta σ H fun x H1=>tr σ H1 fun xs H2=>Qa (x::xs) H2):qe ta tr σ H Qa:=q
theorem zX {sp:Sp}{dvs:List V}{E:XK}{t:TA}(q:t σ H fun vs H1=>sp (vs++dvs) H1 Q E):mR sp dvs E t σ H Q:=q
theorem Eo {r:List V→Hp→VK→Prop}{t:TA}(q:t σ H fun vs H1=>r vs H1 Q):AJ r t σ H Q:=q
theorem Ed {r:V→Option Int→Option Int→Hp→VK→Prop}{te:TE}{tl th:TO}(q:te σ H fun x H1=>tl σ H1 fun l H2=>th σ H2 fun u H3=>r x l u H3 Q):ER r te tl th σ H Q:=q
theorem uK {Qo:Option Int→Hp→Prop}(q:Qo none H):kl σ H Qo:=q
theorem AY {t:TE}{Qo:Option Int→Hp→Prop}(q:t σ H fun x H1=>∃i,x= .int i∧Qo (some i) H1):tL t σ H Qo:=q
theorem CH {i:Int}{Qo:Int→Prop}(q:Qo i):∃j,V.int i= .int j∧Qo j:=⟨i,rfl,q⟩
theorem rS {i j:Int}(q:Q (.int (i+j)) H):mV K (.int i) (.int j) H Q:= .inl ⟨i,j,rfl,rfl,q⟩
theorem K3 {i j:Str}(h:i.length+j.length≤sizeLine)(q:Q (.str (i++j)) H):mV K (.str i) (.str j) H Q:= .inr (.inl ⟨i,j,rfl,rfl,h,q⟩)
theorem Er {g:Int→Int→V}{i j:Int}(q:Q (g i j) H):wj g (.int i) (.int j) H Q:=⟨i,j,rfl,rfl,q⟩
theorem Fh {C:Int→Int→Prop}{g:Int→Int→V}{i j:Int}(h:C i j)(q:Q (g i j) H):rI C g (.int i) (.int j) H Q:=⟨i,j,rfl,rfl,h,q⟩
theorem uw {i j:Int}(q:Q (.bl (decide (i<j))) H):Bz (.int i) (.int j) H Q:= .inl ⟨i,j,rfl,rfl,q⟩
theorem lC {i j:Int}(q:Q (.bl (decide (i=j))) H):Dy (.int i) (.int j) H Q:=⟨rfl,by rw[eX];rw[show(i==j)=decide (i=j) from Bool.beq_eq_decide_eq i j];exact q⟩
theorem mL {i j:Str}(q:Q (.bl (decide (i=j))) H):Dy (.str i) (.str j) H Q:=⟨rfl,by rw[jU];rw[show(i==j)=decide (i=j) from Bool.beq_eq_decide_eq i j];exact q⟩
theorem p9 {p:Addr}{xs:List V}(h:SqL K H p xs)(q:Q (.int xs.length) H):qU K [.ref p] H Q:= .inl ⟨.ref p,xs.length,rfl,.inl ⟨xs,h,rfl⟩,q⟩
theorem qw {p:Addr}{xs:List V}(h:SqT K H p xs)(q:Q (.int xs.length) H):qU K [.ref p] H Q:= .inl ⟨.ref p,xs.length,rfl,.inr ⟨xs,h,rfl⟩,q⟩
theorem rV {p:Addr}{kvs:List (j8×V)}(h:Rd H p (.dK kvs))(q:Q (.int kvs.length) H):qU K [.ref p] H Q:= .inr ⟨p,kvs,rfl,h,q⟩
theorem k9 {p:Addr}{xs:List V}{i:Int}{v:V}(h:SqL K H p xs)(e:mS xs i=some v)(q:Q v H):nZ K (.ref p) (.int i) H Q:= .inl (.inl ⟨p,xs,i,v,rfl,rfl,h,e,q⟩)
theorem b7 {p:Addr}{xs:List V}{i:Int}{v:V}(h:SqT K H p xs)(e:mS xs i=some v)(q:Q v H):nZ K (.ref p) (.int i) H Q:= .inl (.inr (.inl ⟨p,xs,i,v,rfl,rfl,h,e,q⟩))
theorem kN {z:Str}{i:Int}{c:Nat}(hz:z.length≤sizeLine)(e:mS z.cps.toList i=some c)(q:Q (AG c) H):nZ K (.str z) (.int i) H Q:= .inl (.inr (.inr ⟨z,i,c,rfl,rfl,hz,e,q⟩))
theorem E4 {p:Addr}{y v:V}(g:aB H p y (some v))(q:Q v H):nZ K (.ref p) y H Q:= .inr ⟨p,v,rfl,g,q⟩
theorem ib {p:Addr}{xs:List V}{lo hi:Option Int}(h:SqL K H p xs)(q:∀p,H p=none→Q (.ref p) (p7 H p (.lst (cX xs lo hi)))):EJ K (.ref p) lo hi H Q:= .inl ⟨p,xs,rfl,h,q⟩
theorem vK {l b:Addr}{xs zs:List V}(h1:H l=some (.lst xs))(h2:H b=some (.lst zs))(hz:xs.length+zs.length≤sizeLine)(q:∀p,H p=none→Q (.ref p) (p7 H p (.lst (xs++zs)))):mV K (.ref l) (.ref b) H Q:= .inr (.inr (.inl ⟨l,b,xs,zs,rfl,rfl,h1,h2,hz,q⟩))
theorem iY {x:V}{t T:String}(ty:TyB K H x t)(hT:T="str"∨T="int"∨T="bool"∨T="list"∨T="tuple"∨T="dict")(q:Q (.bl (du t T)) H):wx K [x,.ty T] H Q:=⟨x,T,t,rfl,ty,hT,q⟩
theorem tG {p:Addr}{bs:List Bool}(h:SqL K H p (bs.map V.bl))(q:Q (.bl (bs.all id)) H):vL K [.ref p] H Q:=⟨p,bs,rfl,h,q⟩
theorem BX {t:TA}(q:t σ H fun xs H1=>xs.length≤sizeLine∧∀p,H1 p=none→Q (.ref p) (p7 H1 p (.tup xs))):zo t σ H Q:=q
theorem Dn {t:TA}(q:t σ H fun xs H1=>xs.length≤sizeLine∧∀p,H1 p=none→Q (.ref p) (p7 H1 p (.lst xs))):Bj t σ H Q:=q
theorem Ci {t u:TS}(q:t ⟨u ⟨nx,rt,bk,ct⟩,rt,bk,ct⟩ σ H):xJ t u ⟨nx,rt,bk,ct⟩ σ H:=q
theorem Ap (q:nx σ H):uW ⟨nx,rt,bk,ct⟩ σ H:=q
theorem Cp {te:TE}(q:te σ H rt):Be te ⟨nx,rt,bk,ct⟩ σ H:=q
theorem zI {te:TE}(q:te σ H fun _ H1=>nx σ H1):tf te ⟨nx,rt,bk,ct⟩ σ H:=q
theorem Dl {c:TT}{t u:TS}(q:c σ H fun b H1=>if b=true then t ⟨nx,rt,bk,ct⟩ σ H1 else u ⟨nx,rt,bk,ct⟩ σ H1):Bd c t u ⟨nx,rt,bk,ct⟩ σ H:=q
theorem Cz {te:TE}{g:TG}(q:te σ H fun x H1=>g x σ H1 nx):oz te g ⟨nx,rt,bk,ct⟩ σ H:=q
theorem zO {i:Nat}{v:V}{Qs:St→Hp→Prop}(q:Qs (σ.set i (some v)) H):ai i v σ H Qs:=q
end
end L2
set_option Elab.async false
set_option linter.all false
set_option maxRecDepth 100000
set_option maxHeartbeats 4000000
namespace L2
open PySem PySem.Spec PyProof.Rows
section
variable {X:Cx} {pins:List (Addr×Obj)} {σ:St} {H:Hp} {s:Shared} {d:Addr} {kvs:List (j8×V)} {o:Obj}
abbrev K0 (d:Addr)(o:Obj)(kvs:List (j8×V))(H:Hp):Hp:=p7 H d (.frz o (.dK kvs))
theorem Inv.freeze (I:Inv X pins σ H s)(h:H d=some (.dK kvs))(ho:s.heap.get? d=some o):Inv X pins σ (K0 d o kvs H) s:=by
 have nd:∀b u,H b=some u→u≠ .dK kvs→b≠d:=fun b u e n z=>by
  subst z;rw[h] at e;exact n (Option.some.inj e).symm
 have hok:HOk X.prog X.w (K0 d o kvs H) s.heap:=fun b u e=>by
  have st:∀{a:Addr} {u:HO},ObjOk X.prog X.w H s.heap a u→ObjOk X.prog X.w (K0 d o kvs H) s.heap a u:=fun{a u} x=>
   x.stay (fun c v _ q=>q) (fun c q=>by unfold K0;rw[d7 (nd c _ q (by intro z;cases z))];exact q) fun c xs q=>by unfold K0;rw[d7 (nd c _ q (by intro z;cases z))];exact q
  by_cases hb:b=d
  ·subst hb
   unfold K0 at e
   rw[j7] at e
   cases e
   exact⟨ho,st (I.hok _ _ h)⟩
  ·unfold K0 at e
   rw[d7 hb] at e
   exact st (I.hok b u e)
 have q:=I.un (H':=K0 d o kvs H) (h':=s.heap) (t':=s.toks) ⟨fun b o e n hb hx=>e,fun b o e n hb hx=>⟨o.slots,e⟩,fun b o e n hx=>by
  unfold K0;rw[d7 (fun z=>by subst z;rw[h] at n;cases n)];exact n,fun b o e _=>⟨o,e⟩,fun b xs e=>by unfold K0;rw[d7 (nd b _ e (by intro z;cases z))];exact e,
  fun b o u e=>by unfold K0;rw[d7 (nd b _ e (by intro z;cases z))];exact e,fun b ps e=>⟨#[],by unfold K0;rw[d7 (nd b _ e (by intro z;cases z))];simpa using e⟩⟩ hok
 exact q
def CJ:Option HO→Option HO
 |some (.frz _ u)=>some u
 |o=>o
def thaw (d:Addr)(H:Hp):Hp:=fun b=>if b=d then CJ (H d) else H b
theorem O8 {b:Addr}(h:b≠d):thaw d H b=H b:=by unfold thaw;rw[if_neg h]
theorem jB {u:HO}(h:H d=some (.frz o u)):thaw d H d=some u:=by unfold thaw;rw[if_pos rfl,h];rfl
theorem uO {u:HO}(h:H d=some (.frz o u)):thaw d H=p7 H d u:=by
 funext b
 by_cases hb:b=d
 ·subst hb;rw[jB h,j7]
 ·rw[O8 hb,d7 hb]
theorem pU (h:∀o u,H d≠some (.frz o u)):thaw d H=H:=by
 funext b
 by_cases hb:b=d
 ·subst hb
  unfold thaw
  rw[if_pos rfl]
  cases q:H b with
  |none=>rfl
  |some u=>cases u with
   |frz o u=>exact absurd q (h o u)
   |_=>rfl
 ·exact O8 hb
def xg (X:Cx)(th:Hp→Hp):Prop:=∀(pins:List (Addr×Obj)) (σ:St) (H:Hp) (s:Shared),Inv X pins σ H s→Inv X pins σ (th H) s
theorem eT:xg X id:=fun _ _ _ _ I=>I
theorem rL (hn:∀o u,X.H₀ d≠some (.frz o u)):xg X (thaw d):=fun pins σ H s I=>by
 by_cases hf:∃o u,H d=some (.frz o u)
 ·obtain⟨o,u,h⟩:=hf
  rw[uO h]
  have nd:∀b v,H b=some v→v≠ .frz o u→b≠d:=fun b v e n z=>by
   subst z;rw[h] at e;exact n (Option.some.inj e).symm
  have nn:∀b,H b=none→b≠d:=fun b e z=>by subst z;rw[h] at e;cases e
  have st:∀{a:Addr} {v:HO},ObjOk X.prog X.w H s.heap a v→ObjOk X.prog X.w (p7 H d u) s.heap a v:=fun{a v} x=>
   x.stay (fun c v _ q=>q) (fun c q=>by rw[d7 (nd c _ q (by intro z;cases z))];exact q) fun c xs q=>by rw[d7 (nd c _ q (by intro z;cases z))];exact q
  refine⟨I.ok,I.os,I.bare,⟨I.base.keep,I.base.slot,fun b ob e n hx=>?_,I.base.there,fun b xs e=>?_,fun b ob v e=>?_,fun b ps e=>?_⟩,I.loc,I.cell,?_,fun x c e=>?_,fun p hp=>?_,fun b v e=>?_,I.len⟩
  ·have q:=I.base.free b ob e n hx
   rw[d7 (nn b q)];exact q
  ·have q:=I.base.tups b xs e
   rw[d7 (nd b _ q (by intro z;cases z))];exact q
  ·have q:=I.base.frzs b ob v e
   rw[d7 (fun z=>by subst z;exact hn ob v e)];exact q
  ·obtain⟨m,q⟩:=I.base.tbls b ps e
   exact⟨m,by rw[d7 (nd b _ q (by intro z;cases z))];exact q⟩
  ·rw[d7 (nn _ I.free)];exact I.free
  ·have q:=I.freeC x c e
   rw[d7 (nn _ q)];exact q
  ·obtain⟨a1,a2,a3⟩:=I.pin p hp
   exact⟨a1,by rw[d7 (nn _ a2)];exact a2,a3⟩
  ·by_cases hb:b=d
   ·subst hb
    rw[j7] at e
    cases e
    exact st (I.hok _ _ h).2
   ·rw[d7 hb] at e
    exact st (I.hok b v e)
 ·rw[pU fun o u e=>hf ⟨o,u,e⟩];exact I
theorem Same.thaw {H H':Hp}(h:H d=some (.dK kvs))(e:Same (K0 d o kvs H) H'):Same H (thaw d H'):=fun b u q=>by
 by_cases hb:b=d
 ·subst hb
  rw[h] at q;cases q
  have z:=e b _ (show K0 b o kvs H b=some _ from j7)
  exact jB z
 ·rw[O8 hb]
  exact e b u (by unfold K0;rw[d7 hb];exact q)
end
abbrev mX:=St→Hp→(It→(Hp→Hp)→Hp→Prop)→Prop
def wA (X:Cx)(tg iter:Expr)(wi:mX):Prop:=
 ∀(pins:List (Addr×Obj)) (s:Shared) (σ:St) (H:Hp) (R:It→(Hp→Hp)→Hp→Prop),Inv X pins σ H s→wi σ H R→
  wpAny (model X.prog X.w) X.A (eval iter X.env) (fun v s1=>wpAny (model X.prog X.w) X.A (pyIter v) (DC X pins σ tg fun J H'=>∃th,xg X th∧R J th H') X.xe s1) X.xe s
theorem PI.two {X:Cx}{tg iter:Expr}{wi:TI}(h:PI X tg iter wi):wA X tg iter (fun σ H R=>wi σ H fun J H'=>R J id H'):=by
 intro pins s σ H R I q
 refine K2 (h pins s σ H _ I q) fun v s1 h1=>K2 h1 fun itv s2 h2=>?_
 obtain⟨it,fp,tn,J,H',e,I',T,st,f,q⟩:=h2
 exact⟨it,fp,tn,J,H',e,I',T,st,f,id,eT,q⟩
def yd (J:It)(th:Hp→Hp)(g:TG)(tb:TS)(nx:St→Hp→Prop)(rt:VK)(σ:St)(H1:Hp):Prop:=∃W:Nat→Nat→St→Hp→Prop,(∃m,W 0 m σ H1)∧∀i m σ H,W i m σ H→
 (J.stop i H∧nx σ (th H))∨(J.go i H∧∃N:St→Hp→Prop,(∀σ' H',N σ' H'→∃m',m'<m∧W (i+1) m' σ' H')∧∀x H',J.yld i H x H'→g x σ H' fun σ2 H2=>tb ⟨N,fun v H=>rt v (th H),fun σ H=>nx σ (th H),N⟩ σ2 H2)
def ux (wi:mX)(g:TG)(tb:TS):TS:=fun D σ H=>wi σ H fun J th H1=>yd J th g tb D.nx D.rt σ H1
theorem yc {X:Cx}{tg iter:Expr}{body:List Stmt}{wi:mX}{g:TG}{tb:TS}{pos:Pos}(hp:PassesOwn (model X.prog X.w) X.A X.env X.xe)(hc:X.calm=true)(hi:wA X tg iter wi)(hg:PG X tg g)(hb:PSs X body tb)
  (hs:∀x,foldedSetIterable iter X.env x=pure x:=by intro _;rfl):PS X (.For tg iter body [] pos) (ux wi g tb):=by
 intro pins s σ H D I h
 refine wpAny_For (K2 (hi pins s σ H _ I h) fun v s1 h1=>K2 h1 fun itv s2 h2=>?_) hs
 obtain⟨it,fp,tn,J,H2,e,I2,T,st2,f2,th,hth,W,⟨m0,w0⟩,turn⟩:=h2
 subst e
 have stat:∀{H':Hp},(∀b∈fp,H' b=none)→∀b∈fp,cL X pins H' b:=fun hn b hb=>⟨hn b hb,(f2 b hb).2⟩
 refine codeAny_forLoop_any (fun n s'=>∃i σ' H',Inv X pins σ' H' s'∧tn i s'.heap∧(∀b∈fp,H' b=none)∧W i n σ' H') ?_ m0 ⟨0,σ,H2,I2,st2,fun b hb=>(f2 b hb).1,w0⟩
 rintro n s3 ⟨i,σ3,H3,I3,st3,fr3,w3⟩
 rcases turn i n σ3 H3 w3 with⟨stop,qn⟩|⟨go,N,hN,step⟩
 ·refine wpAny_passesOwn hp (K2 (T.done X rfl rfl rfl hc i pins s3 σ3 H3 X.xe I3 (stat fr3) st3 stop) fun r s4 ⟨hr,I4⟩=>?_)
  subst hr
  exact wpAny_execs_nil ⟨σ3,th H3,hth _ _ _ _ I4,qn⟩
 ·refine wpAny_passesOwn hp (K2 (T.item X rfl rfl rfl hc i pins s3 σ3 H3 X.xe I3 (stat fr3) st3 go) fun r s4 ⟨u,hr,h4⟩=>?_)
  subst hr
  refine wpAny_passesOwn hp (K2 h4 fun _ s5 ⟨x,H5,I5,r5,y5,st5,fr5⟩=>?_)
  have I5':=I5.pinned (stat fr5) (T.obj _ _ st5)
  refine wpAny_passesOwn hp (K2 (hg _ s5 σ3 H5 x u _ I5' r5 (step x H5 y5)) fun _ s6 ⟨σ6,H6,I6,q6⟩=>?_)
  refine wpAny_passesOwn hp (K2 (hb _ s6 σ6 H6 _ I6 q6) fun f s7 q7=>?_)
  have again:∀{σ7:St} {H7:Hp},Inv X (pins++hV fp s5.heap) σ7 H7 s7→N σ7 H7→∃m,m<n∧∃i σ' H',Inv X pins σ' H' s7∧tn i s7.heap∧(∀b∈fp,H' b=none)∧W i m σ' H':=fun{σ7 H7} I7 n7=>by
   obtain⟨m',hm,w7⟩:=hN σ7 H7 n7
   refine⟨m',hm,i+1,σ7,H7,I7.unpinned,T.keep _ _ _ st5 fun b hb o e=>(I7.pin (b,o) (List.mem_append_right _ (List.mem_append_right _ (X9 hb e)))).1,fun b hb=>?_,w7⟩
   obtain⟨o,e,d⟩:=T.obj _ _ st5 b hb
   exact(I7.pin (b,o) (List.mem_append_right _ (List.mem_append_right _ (X9 hb e)))).2.1
  cases f with
  |next=>obtain⟨σ7,H7,I7,n7⟩:=q7;exact again I7 n7
  |cont=>obtain⟨σ7,H7,I7,n7⟩:=q7;exact again I7 n7
  |brk=>obtain⟨σ7,H7,I7,q7⟩:=q7;exact⟨σ7,th H7,hth _ _ _ _ I7.unpinned,q7⟩
  |ret v=>obtain⟨x7,σ7,H7,I7,r7,q7⟩:=q7;exact⟨x7,σ7,th H7,hth _ _ _ _ I7.unpinned,r7,q7⟩
def vA (own:List Str)(js:List Nat)(J:It)(th:Hp→Hp)(g:TG)(ti:TT)(te:TE)(Q:VK)(σ:St)(H1:Hp):Prop:=∃W:Nat→Nat→List V→Hp→Prop,(∃m,W 0 m [] H1)∧∀i m out H,W i m out H→
 (J.stop i H∧∀D,H D=none→out.length≤sizeLine∧Q (.ref D) (th (p7 H D (.lst out))))∨
 (J.go i H∧∀x H',J.yld i H x H'→g x (uE own js σ) H' fun σ2 H2=>σ2.drop own.length=js.map (fun j=>(σ[j]?).join)∧ti σ2 H2 fun b H3=>
  if b=true then te σ2 H3 fun v H4=>out.length≤sizeLine∧∃m',m'<m∧W (i+1) m' (out++[v]) H4 else ∃m',m'<m∧W (i+1) m' out H3)
def fw (own:List Str)(js:List Nat)(wi:mX)(g:TG)(ti:TT)(te:TE):TE:=fun σ H Q=>wi σ H fun J th H1=>vA own js J th g ti te Q σ H1
def Al:TT:=fun _ H Q=>Q true H
theorem Df {X:Cx}:nQ X [] Al:=ED
theorem sv {X:Cx}{own:List Str}{js:List Nat}{scope:Scope}{tg iter elt:Expr}{ifs:List Expr}{pos:Pos}{g:TG}{ti:TT}{te:TE}{wi:mX}(S:Bw X own js scope=true)(hc:X.calm=true)(hit:wA X tg iter wi)
  (hg:∀C s H fp,PG (bj X own js scope C s H fp) tg g) (hi:∀C s H fp,nQ (bj X own js scope C s H fp) ifs ti) (he:∀C s H fp,PE (bj X own js scope C s H fp) elt te)
  (hs:∀x,foldedSetIterable iter X.env x=pure x:=by intro _;rfl):
  PE X (.ListComp elt [⟨tg,iter,ifs,0⟩] scope pos) (fw own js wi g ti te):=by
 have SB:=uC S
 intro pins s σ H Q I h
 rw[eval_ListComp]
 refine wpAny_comprehension_free (use:=none) rfl hs (hU (SB.cells I)) SB.kind SB.names (K2 (hit pins s σ H _ I h) fun v s1 h1=>K2 h1 fun itv s2 h2=>?_)
 obtain⟨it,fp,tn,J,H2,e,I2,T,st2,f2,th,hth,W,⟨m0,w0⟩,turn⟩:=h2
 subst e
 refine wpAny_newObj_type (wpAny_newFunctionEnv SB.nocell (by intro y hy;simp at hy) (fun h₁ hns₁ hsb₁=>?_) SB.kind)
 dsimp only at hns₁ hsb₁⊢
 generalize hH2:s2.heap.push {cls:= .type "list",dict:=none,data:= .seq ([]:List Value).toArray}=G2 at hns₁ hsb₁⊢
 have hCs:G2.objs.size=s2.heap.objs.size+1:=by rw[←hH2,Heap.size_push]
 have hDC:s2.heap.objs.size≠G2.objs.size:=by rw[hCs];exact Nat.ne_of_lt (Nat.lt_succ_self _)
 have hC:s2.heap.objs.size≤G2.objs.size:=by rw[hCs];exact Nat.le_succ _
 have old:∀b o,s2.heap.get? b=some o→h₁.get? b=some o:=fun b o e=>
  hsb₁.extBut b o (Nat.ne_of_lt (Nat.lt_of_lt_of_le (Heap.lt_size e) hC)) (Heap.get?_push_of_some _ (hH2▸Heap.get?_push_of_some _ e))
 have hob:∀b∈fp,∃o,s2.heap.get? b=some o:=fun b hb=>let ⟨o,e,_⟩:=T.obj _ _ st2 b hb;⟨o,e⟩
 have hacc:h₁.get? s2.heap.objs.size=some {cls:= .type "list",data:= .seq ([]:List Value).toArray}:=
  hsb₁.extBut _ _ hDC (Heap.get?_push_of_some _ (hH2▸Heap.get?_push_size _ rfl))
 have loop:∀s3:Shared,s3={s2 with heap:=h₁,toks:=s2.toks+([]:List (Str×Value)).length}→
   codeAny (model X.prog X.w) X.A (.compLoop (.ListComp elt [⟨tg,iter,ifs,0⟩] scope pos) 0 (.ref it) (.ref s2.heap.objs.size) (compEnvC scope (eL scope X.env) G2.objs.size X.env))
    (compPost (model X.prog X.w) X.A X.xe none (EP X pins σ Q) (.ref s2.heap.objs.size) G2.objs.size) s3:=by
  rintro s3 rfl
  refine ju (K:=fun out H'=>Q (.ref s2.heap.objs.size) (th (p7 H' s2.heap.objs.size (.lst out)))) SB hc T I2 f2 (Nat.le_refl _) hC hDC hob (hg _ _ _ _) (hi _ _ _ _) (he _ _ _ _) W (fun i m out H' w=>?_) (fun out H' s' B hl k=>?_) w0
   ⟨Inv.block SB I2 f2 hob hC hns₁ old,I2.hok.fresh (Nat.le_refl _),[],_,.nil,hacc⟩ (T.keep _ _ _ st2 fun b _ o e=>old b o e) (fun b hb=>(f2 b hb).1)
  ·rcases turn i m out H' w with⟨a,b⟩|c
   ·exact .inl ⟨a,fun n=>b _ n⟩
   ·exact .inr c
  ·obtain⟨mm,hn,_⟩:=B.inv.loc
   exact⟨mm,hn,fun h' sb=>⟨.ref s2.heap.objs.size,_,hth _ _ _ _ (B.out I2 f2 (Nat.le_refl _) hC hDC hl sb),rfl,k⟩⟩
 exact codeAny_compStart_list (loop _ rfl) (T.self _ 0 _ _ _ (T.keep _ _ _ st2 fun b _ o e=>old b o e) (loop _ rfl))
theorem F2 {α β : Type} {F : α → β → Prop} : ∀ {l₁ : List α} {l₂ : List β} {i : Nat} {a : α}, Paired F l₁ l₂ → l₁[i]? = some a → ∃ b, l₂[i]? = some b ∧ F a b
 := by
  intro l₁ l₂ i a hp e
  induction hp generalizing i with
  | nil => cases e
  | cons r _ ih => cases i with
    | zero => cases e; exact ⟨_, rfl, r⟩
    | succ i => exact ih e
section
variable {P:Program} {w:World}
theorem W7 {k:j8}{v:Value}(h:(k8 P w).is k v=true):RelV (kV k) v:=by
 rcases z4 (show bq k v=true from h) with⟨i,t,rfl,rfl⟩|⟨x,t,rfl,rfl⟩
 ·exact⟨t,rfl⟩
 ·exact⟨t,rfl⟩
theorem vD {k:j8}{v:Value}(h:(k8 P w).is k v=true):∀a,v≠ .ref a:=by
 rcases z4 (show bq k v=true from h) with⟨i,t,rfl,rfl⟩|⟨x,t,rfl,rfl⟩<;>exact fun a z=>by cases z
structure vo (P:Program) (w:World) (d:Addr) (o:Obj) (kvs:List (j8×V)) (vs:List (j8×Value)) (ep:Nat):Prop where
 kv:KV kvs vs
 at_:∀h:Heap,h.get? d=some o→h.DictAt (k8 P w) d vs ep
 nd:(kvs.map (·.1)).Nodup
theorem W3 {H:Hp}{h:Heap}{d:Addr}{kvs:List (j8×V)}(ok:HOk P w H h)(e:Rd H d (.dK kvs)):(d==sysModules)=false∧∃o vs ep,h.get? d=some o∧vo P w d o kvs vs ep:=by
 obtain⟨z,hd,vs,rel,o,es,ep,h1,r⟩:=E8 ok e
 refine⟨hd,o,vs,ep,h1,rel,fun h' e'=>⟨o,es,e',r⟩,?_⟩
 rw[KV.keys rel]
 exact r.2.2.2.2
def EX (d:Addr)(o:Obj)(kvs:List (j8×V))(f:j8×V→V):It:=
 ⟨fun i H=>H d=some (.frz o (.dK kvs))∧i<kvs.length,fun i H x H'=>H'=H∧∃kv,kvs[i]?=some kv∧x=f kv,fun i H=>H d=some (.frz o (.dK kvs))∧kvs.length≤i⟩
def Cu (d:Addr)(o:Obj)(kvs:List (j8×V)):It:=
 ⟨fun i H=>H d=some (.frz o (.dK kvs))∧i<kvs.length,fun i H x H'=>∃t kv,kvs[i]?=some kv∧H t=none∧x= .ref t∧H'=p7 H t (.tup [kV kv.1,kv.2]),fun i H=>H d=some (.frz o (.dK kvs))∧kvs.length≤i⟩
theorem rm {K:PySem.W.Frag}{tg:Expr}{d:Addr}{o:Obj}{kvs:List (j8×V)}{vs:List (j8×Value)}{ep:Nat}(D:vo P w d o kvs vs ep)(it:Addr):
  eE P w K tg (EX d o kvs fun kv=>kV kv.1) [it] it (fun i h=>h.IsKeyIter it d i vs.length ep) where
 mem:=by simp
 obj:=fun i h st b hb=>by
  have e:b=it:=by simpa using hb
  subst e
  obtain⟨o,e,c,dd⟩:=st
  exact⟨o,e,fun v z=>by rw[dd] at z;cases z⟩
 keep:=fun i h h' st k=>st.at fun o e=>k it (by simp) o e
 item:=by
  intro X hP hw hK hc i pins s σ H E I hf st hg
  subst hP hw hK
  obtain⟨hfz,hi⟩:=hg
  obtain⟨f0,f1,f2,f3,f4,f5⟩:=hf it (by simp)
  have dat:=D.at_ s.heap (I.hok d _ hfz).1
  have hl:=KV.length D.kv
  obtain⟨kv,hkv⟩:∃kv,kvs[i]?=some kv:=⟨kvs[i],by simp [hi]⟩
  obtain⟨⟨k,x⟩,hx⟩:∃p,vs[i]?=some p:=⟨vs[i]'(by lia),by simp [show i<vs.length by lia]⟩
  have hkk:kv.1=k:=by
   have e1:(kvs.map (·.1))[i]?=some kv.1:=by rw[List.getElem?_map,hkv];rfl
   rw[KV.keys D.kv,List.getElem?_map,hx] at e1
   exact(Option.some.inj e1).symm
  refine wpAny_pyNext_dict_item st dat hx fun key h' hkey hit' hs'=>?_
  have I1:Inv X pins σ H {s with heap:=h'}:=I.turned (t':=s.toks) (fun b o hb e=>hs'.extBut b o hb e) f0 f1 f3 f4 f5
  exact⟨key,rfl,pC (vD hkey) ⟨kV kv.1,H,I1,by rw[hkk];exact W7 hkey,⟨rfl,kv,hkv,rfl⟩,hit',fun b hb=>(hf b hb).1⟩⟩
 done:=by
  intro X hP hw hK hc i pins s σ H E I hf st hg
  subst hP hw hK
  obtain⟨hfz,hi⟩:=hg
  obtain⟨f0,f1,f2,f3,f4,f5⟩:=hf it (by simp)
  have dat:=D.at_ s.heap (I.hok d _ hfz).1
  have hl:=KV.length D.kv
  exact wpAny_pyNext_dict_end (I.ok.hd hc) st dat (by simp;lia) fun h' eb=>⟨rfl,I.turned (t':=s.toks) (fun b o hb e=>eb b o hb e) f0 f1 f3 f4 f5⟩
 self:=fun _ _ _ _ _ st h=>wpAny_pyIter_keyiter st h
theorem nE {K:PySem.W.Frag}{elts:List Expr}{x1}{tpos:Pos}{d:Addr}{o:Obj}{kvs:List (j8×V)}{vs:List (j8×Value)}{ep:Nat}(D:vo P w d o kvs vs ep)(it:Addr):
  eE P w K (.Tuple elts x1 tpos) (Cu d o kvs) [it] it (fun i h=>∃ok ov,IsItemIter h it d i vs.length ep ok ov) where
 mem:=by simp
 obj:=fun i h st b hb=>by
  have e:b=it:=by simpa using hb
  subst e
  obtain⟨ok,ov,e⟩:=st
  exact⟨_,e,fun v z=>by
   have z':Data.fields _=Data.cell v:=z
   cases z'⟩
 keep:=fun i h h' st k=>let ⟨ok,ov,e⟩:=st;⟨ok,ov,k it (by simp) _ e⟩
 item:=by
  intro X hP hw hK hc i pins s σ H E I hf st hg
  subst hP hw hK
  obtain⟨hfz,hi⟩:=hg
  obtain⟨ok,ov,st⟩:=st
  obtain⟨f0,f1,f2,f3,f4,f5⟩:=hf it (by simp)
  have dat:=D.at_ s.heap (I.hok d _ hfz).1
  have hl:=KV.length D.kv
  obtain⟨kv,hkv⟩:∃kv,kvs[i]?=some kv:=⟨kvs[i],by simp [hi]⟩
  obtain⟨⟨k,x⟩,hx⟩:∃p,vs[i]?=some p:=⟨vs[i]'(by lia),by simp [show i<vs.length by lia]⟩
  obtain⟨hkk,rx⟩:kv.1=k∧RelV kv.2 x:=by
   have q:=F2 D.kv hkv
   obtain⟨p,hp,r⟩:=q
   rw[hx] at hp;cases hp
   exact r
  refine wpAny_pyNext_items_item st dat hx fun key h' hkey hout htup hsz hk=>?_
  have hitlt:it<s.heap.objs.size:=Heap.lt_size st
  refine⟨.ref s.heap.objs.size,rfl,wpAny_letOwnedTupleGo_items (s:={s with heap:=h'}) hout fun h'' hit'' hs''=>?_⟩
  have hs2:Heap.SameBut it h' h'':=hs''
  have kp:∀b o,b≠it→s.heap.get? b=some o→h''.get? b=some o:=fun b o hb e=>hs2.extBut b o hb (hk b o hb e)
  have tupAt:h''.get? s.heap.objs.size=some {cls:= .type "tuple",data:= .seq #[key,x]}:=hs2.extBut _ _ (Nat.ne_of_gt hitlt) htup
  have fresh:H s.heap.objs.size=none:=I.hok.fresh (Nat.le_refl _)
  have nsz:∀b o,s.heap.get? b=some o→b≠s.heap.objs.size:=fun b o e=>Nat.ne_of_lt (Heap.lt_size e)
  have hH:∀b u,H b=some u→b≠s.heap.objs.size∧b≠it:=fun b u e=>⟨d8 e fresh,d8 e f0⟩
  have hok:HOk X.prog X.w (p7 H s.heap.objs.size (.tup [kV kv.1,kv.2])) h'':=fun b u e=>by
   by_cases hb:b=s.heap.objs.size
   ·subst hb
    rw[j7] at e;cases e
    refine⟨by show 2≤sizeLine;decide,[key,x],.cons (by rw[hkk];exact W7 hkey) (.cons rx .nil),⟨_,tupAt,rfl,_,rfl⟩⟩
   ·rw[d7 hb] at e
    refine(I.hok b u e).stay (fun c v hc q=>kp c v ?_ q) (fun c q=>by rw[d7 (hH c _ q).1];exact q) fun c xs q=>by rw[d7 (hH c _ q).1];exact q
    rcases hc with z|z
    ·rw[z];exact(hH b _ e).2
    ·exact(hH c _ z).2
  have I1:Inv X pins σ (p7 H s.heap.objs.size (.tup [kV kv.1,kv.2])) {s with heap:=h''}:=by
   refine I.call' (s':={s with heap:=h''}) (ch:=[it]) rfl ⟨fun b o e n hb hx=>kp b o (by simpa using hx) e,fun b o e n hb hx=>⟨o.slots,kp b o (by simpa using hx) e⟩,fun b o e n hx=>by rw[d7 (nsz b o e)];exact n,
    fun b o e hx=>⟨o,kp b o (by simpa using hx) e⟩,fun b xs e=>by rw[d7 (hH b _ e).1];exact e,fun b ob v e=>by rw[d7 (hH b _ e).1];exact e,fun b ps e=>⟨#[],by rw[d7 (hH b _ e).1];simpa using e⟩⟩ hok I.bare fun b hb=>?_
   have e:b=it:=by simpa using hb
   subst e
   exact⟨f3,f1,f4,f5⟩
  refine⟨.ref s.heap.objs.size,_,I1,rfl,⟨_,kv,hkv,fresh,rfl,rfl⟩,⟨_,_,hit''⟩,fun b hb=>?_⟩
  have e:b=it:=by simpa using hb
  subst e
  rw[d7 (Nat.ne_of_lt hitlt)];exact f0
 done:=by
  intro X hP hw hK hc i pins s σ H E I hf st hg
  subst hP hw hK
  obtain⟨hfz,hi⟩:=hg
  obtain⟨ok,ov,st⟩:=st
  obtain⟨f0,f1,f2,f3,f4,f5⟩:=hf it (by simp)
  have dat:=D.at_ s.heap (I.hok d _ hfz).1
  have hl:=KV.length D.kv
  exact wpAny_pyNext_items_end (I.ok.hd hc) st dat (by simp;lia) fun h' eb=>⟨rfl,I.turned (t':=s.toks) (fun b o hb e=>eb b o hb e) f0 f1 f3 f4 f5⟩
 self:=fun _ _ _ _ _ st h=>by
  obtain⟨ok,ov,st⟩:=st
  exact PySem.W.kcp_self st h
end
section
variable {X:Cx} {tg:Expr}
def rIterD (mk:Addr→Obj→List (j8×V)→It)(v:V)(H:Hp)(R:It→(Hp→Hp)→Hp→Prop):Prop:=
 ∃d kvs,v= .ref d∧((H d=some (.dK kvs)∧((kvs.map (·.1)).Nodup→∀o,R (mk d o kvs) (thaw d) (K0 d o kvs H)))∨(∃o,H d=some (.frz o (.dK kvs))∧((kvs.map (·.1)).Nodup→R (mk d o kvs) id H)))
theorem rIterD.go {mk:Addr→Obj→List (j8×V)→It}{x:V}{u:Value}{pins:List (Addr×Obj)}{σ:St}{H:Hp}{s:Shared}{R:It→(Hp→Hp)→Hp→Prop}(I:Inv X pins σ H s)(r:RelV x u)(h:rIterD mk x H R):
  ∃d kvs o vs ep th H',u= .ref d∧(d==sysModules)=false∧s.heap.get? d=some o∧vo X.prog X.w d o kvs vs ep∧Inv X pins σ H' s∧xg X th∧R (mk d o kvs) th H':=by
 obtain⟨d,kvs,e,h⟩:=h
 subst e
 cases r
 rcases h with⟨h,q⟩|⟨o,h,q⟩
 ·obtain⟨hd,o,vs,ep,ho,D⟩:=W3 I.hok (.inl h)
  refine⟨d,kvs,o,vs,ep,thaw d,_,rfl,hd,ho,D,I.freeze h ho,rL fun ob v z=>?_,q D.nd o⟩
  have z':=I.base.frzs d ob v z
  rw[h] at z';cases z'
 ·obtain⟨hd,o',vs,ep,ho,D⟩:=W3 I.hok (.inr ⟨o,h⟩)
  have e:=(I.hok d _ h).1
  rw[ho] at e;cases e
  exact⟨d,kvs,_,vs,ep,id,H,rfl,hd,ho,D,I,eT,q D.nd⟩
theorem rIter.mono {K:PySem.W.Frag}{v:V}{H:Hp}{R R':It→Hp→Prop}(h:rIter K v H R)(k:∀J H,R J H→R' J H):rIter K v H R':=by
 rcases h with⟨a,e,hq,q⟩|⟨a,e,hq,q⟩|⟨x,e,q⟩
 ·exact .inl ⟨a,e,hq,k _ _ q⟩
 ·exact .inr (.inl ⟨a,e,hq,k _ _ q⟩)
 ·exact .inr (.inr ⟨x,e,k _ _ q⟩)
abbrev EV (d:Addr)(o:Obj)(kvs:List (j8×V)):It:=EX d o kvs fun kv=>kV kv.1
def uG (K:PySem.W.Frag)(v:V)(H:Hp)(R:It→(Hp→Hp)→Hp→Prop):Prop:=rIter K v H (fun J H'=>R J id H')∨rIterD EV v H R
def Dw (K:PySem.W.Frag)(tl:TE):mX:=fun σ H R=>tl σ H fun v H1=>uG K v H1 R
theorem Dp {l:Expr}{tl:TE}(hl:PE X l tl):wA X tg l (Dw X.K tl):=by
 intro pins s σ H R I h
 refine K2 (hl pins s σ H _ I h) fun v s1 ⟨x,H1,I1,r1,q1⟩=>?_
 rcases q1 with q1|q1
 ·exact tW I1 r1 (q1.mono fun J H' q=>⟨id,eT,q⟩)
 ·obtain⟨d,kvs,o,vs,ep,th,H',rfl,hd,ho,D,I2,hth,q⟩:=rIterD.go I1 r1 q1
  refine wpAny_pyIter_dict hd (D.at_ _ ho) ?_
  refine⟨s1.heap.objs.size,[s1.heap.objs.size],_,_,H',rfl,I2.kept (t':=s1.toks) fun b o e=>Heap.get?_push_of_some _ e,rm D _,⟨_,Heap.get?_push_size _ rfl,rfl,rfl⟩,fun b hb=>?_,th,hth,q⟩
  have e:b=s1.heap.objs.size:=by simpa using hb
  subst e
  exact I2.fpOk (Nat.le_refl _) (I2.hok.fresh (Nat.le_refl _))
def oQ (tl:TE):mX:=fun σ H R=>tl σ H fun v H1=>rIterD Cu v H1 R
theorem uS {elts:List Expr}{x1}{tpos:Pos}{o:Expr}{tl:TE}{apos cpos:Pos}(ho:PE X o tl)
  (hbase:attributeBase o "items" X.env (eval o X.env)=eval o X.env:=by rfl) (hline:(apos.endLine==cpos.line)=true:=by rfl):
  wA X (.Tuple elts x1 tpos) (.Call (.Attribute o "items" apos) [] [] cpos) (oQ tl):=by
 intro pins s σ H R I h
 refine wpAny_Call_method0_late hbase hline (K2 (ho pins s σ H _ I h) fun v s1 ⟨x,H1,I1,r1,q1⟩=>?_)
 obtain⟨d,kvs,ob,vs,ep,th,H',rfl,hd,hob,D,I2,hth,q⟩:=rIterD.go I1 r1 q1
 have dof:=(D.at_ _ hob).dictOf
 refine⟨"dict","dict.items",F.plainAttrs_dict,F.slot_dict_items,F.type_dict_items,dof.typeIs,dof.mapOf.noDict,Calls.callWith_builtin rfl (PySem.evalArgs_none ?_)⟩
 refine call_meetsIn F.slot_dict_items dof.typeIs F.entry_dict_items (F.args_dict_items_1 _) (meets_dict_items (k8 X.prog X.w) d hd) ⟨⟨vs,dof⟩,?_⟩
 have I3:Inv X pins σ H' {s1 with heap:=s1.heap.push {cls:= .type "dict_items",data:= .fields #[.ref d]}}:=I2.kept (t':=s1.toks) fun b o e=>Heap.get?_push_of_some _ e
 refine wpAny_pyIter_items (s:={s1 with heap:=s1.heap.push {cls:= .type "dict_items",data:= .fields #[.ref d]}}) (knd:=k8 X.prog X.w) ⟨_,Heap.get?_push_size _ rfl,rfl,rfl⟩ (D.at_ _ (Heap.get?_push_of_some _ hob)) ?_
 generalize hG:s1.heap.push {cls:= .type "dict_items",data:= .fields #[.ref d]}=G at I3⊢
 refine⟨G.objs.size,[G.objs.size],_,_,H',rfl,I3.kept (t':=s1.toks) fun b o e=>Heap.get?_push_of_some _ e,nE D _,⟨.none,.none,Heap.get?_push_size _ rfl⟩,fun b hb=>?_,th,hth,q⟩
 have e:b=G.objs.size:=by simpa using hb
 subst e
 exact I3.fpOk (Nat.le_refl _) (I3.hok.fresh (Nat.le_refl _))
end
end L2
set_option Elab.async false
set_option linter.all false
set_option maxRecDepth 100000
set_option maxHeartbeats 4000000
namespace L2
open PySem PySem.Spec PyProof.Rows
section
variable {J:It} {th:Hp→Hp} {n:Nat} {g:TG} {tb:TS} {nx bk ct:St→Hp→Prop} {rt:VK} {σ:St} {H:Hp} {own:List Str} {js:List Nat} {ti:TT} {te:TE} {Q:VK} {K:PySem.W.Frag}
theorem jE (Pv:Nat→St→Hp→Prop)(h0:Pv 0 σ H)(hgo:∀i σ H,i<n→Pv i σ H→J.go i H)
  (hs:∀i x σ H H',i<n→Pv i σ H→J.yld i H x H'→g x σ H' fun σ2 H2=>tb ⟨Pv (i+1),fun v H=>rt v (th H),fun σ H=>nx σ (th H),Pv (i+1)⟩ σ2 H2)
  (hd:∀σ H,Pv n σ H→J.stop n H∧nx σ (th H)):
  yd J th g tb nx rt σ H:=by
 refine⟨fun i m σ H=>m=n -i∧i≤n∧Pv i σ H,⟨n,by simp,Nat.zero_le _,h0⟩,?_⟩
 rintro i m σ H ⟨rfl,hi,p⟩
 by_cases hlt:i<n
 ·exact .inr ⟨hgo i σ H hlt p,Pv (i+1),fun σ' H' p'=>⟨n -(i+1),by lia,rfl,hlt,p'⟩,fun x H' y=>hs i x σ H H' hlt p y⟩
 ·have e:i=n:=by lia
  subst e
  exact .inl (hd σ H p)
theorem F8 (Pv:Nat→List V→Hp→Prop)(h0:Pv 0 [] H)(hgo:∀i out H,i<n→Pv i out H→J.go i H)
  (hs:∀(N:List V→Hp→Prop) i x out H H',i<n→Pv i out H→J.yld i H x H'→(∀out' H',Pv (i+1) out' H'→N out' H')→g x (uE own js σ) H' fun σ2 H2=>σ2.drop own.length=js.map (fun j=>(σ[j]?).join)∧ti σ2 H2 fun b H3=>
   if b=true then te σ2 H3 fun v H4=>out.length≤sizeLine∧N (out++[v]) H4 else N out H3)
  (hd:∀out H,Pv n out H→J.stop n H∧∀D,H D=none→out.length≤sizeLine∧Q (.ref D) (th (p7 H D (.lst out)))):
  vA own js J th g ti te Q σ H:=by
 refine⟨fun i m out H=>m=n -i∧i≤n∧Pv i out H,⟨n,by simp,Nat.zero_le _,h0⟩,?_⟩
 rintro i m out H ⟨rfl,hi,p⟩
 by_cases hlt:i<n
 ·exact .inr ⟨hgo i out H hlt p,fun x H' y=>hs (fun out' H'=>∃m',m'<n -i∧m'=n -(i+1)∧i+1≤n∧Pv (i+1) out' H') i x out H H' hlt p y fun out' H' q=>⟨n -(i+1),by lia,rfl,hlt,q⟩⟩
 ·have e:i=n:=by lia
  subst e
  exact .inl (hd out H p)
theorem CT {wi:mX}(q:wi σ H fun J th H1=>yd J th g tb nx rt σ H1):ux wi g tb ⟨nx,rt,bk,ct⟩ σ H:=q
theorem Av {wi:mX}(q:wi σ H fun J th H1=>vA own js J th g ti te Q σ H1):fw own js wi g ti te σ H Q:=q
theorem CY {Qb:Bool→Hp→Prop}(q:Qb true H):Al σ H Qb:=q
theorem Ec {tl:TE}{R:It→(Hp→Hp)→Hp→Prop}(q:tl σ H fun v H1=>uG K v H1 R):Dw K tl σ H R:=q
theorem C4 {a:Addr}{xs:List V}{R:It→(Hp→Hp)→Hp→Prop}(h:SqL K H a xs)(q:R (Itl K a) id H):uG K (.ref a) H R:= .inl (.inl ⟨a,rfl,⟨xs,h⟩,q⟩)
theorem sO {d:Addr}{kvs:List (j8×V)}{R:It→(Hp→Hp)→Hp→Prop}(h:H d=some (.dK kvs))(q:(kvs.map (·.1)).Nodup→∀o,R (EV d o kvs) (thaw d) (K0 d o kvs H)):uG K (.ref d) H R:=
 .inr ⟨d,kvs,rfl,.inl ⟨h,q⟩⟩
theorem wq {tl:TE}{R:It→(Hp→Hp)→Hp→Prop}(q:tl σ H fun v H1=>rIterD Cu v H1 R):oQ tl σ H R:=q
theorem R7 {d:Addr}{kvs:List (j8×V)}{R:It→(Hp→Hp)→Hp→Prop}(h:H d=some (.dK kvs))(q:(kvs.map (·.1)).Nodup→∀o,R (Cu d o kvs) (thaw d) (K0 d o kvs H)):rIterD Cu (.ref d) H R:=⟨d,kvs,rfl,.inl ⟨h,q⟩⟩
theorem zA {ta:TA}{R:It→Hp→Prop}(q:ta σ H fun vs H1=>∃j:Int,vs=[.int j]∧-(2 ^ 62)≤j∧j<2 ^ 62∧R (DE 0 j.toNat) H1):vi ta σ H R:=q
theorem eV {i:Int}{R:Int→Prop}(h0:0≤i)(h1:i<1000000)(q:R i):∃j:Int,[V.int i]=[.int j]∧-(2 ^ 62)≤j∧j<2 ^ 62∧R j:=⟨i,rfl,by lia,by lia,q⟩
theorem K4 {p:Prop}[Decidable p]{A B:Prop}(h1:p→A)(h2:¬p→B):if decide p=true then A else B:=by
 by_cases h:p
 ·rw[if_pos (decide_eq_true h)];exact h1 h
 ·rw[if_neg (by simp [h])];exact h2 h
theorem Y5 {p:Prop}[Decidable p]{A B:Prop}(h1:¬p→A)(h2:p→B):if(!decide p)=true then A else B:=by
 by_cases h:p
 ·rw[if_neg (by simp [h])];exact h2 h
 ·rw[if_pos (by simp [h])];exact h1 h
theorem tX {b:Bool}{A B:Prop}(h1:b=true→A)(h2:b=false→B):if b=true then A else B:=by
 cases b with
 |true=>rw[if_pos rfl];exact h1 rfl
 |false=>rw[if_neg Bool.false_ne_true];exact h2 rfl
theorem BM {A B:Prop}(h:A):if(!false)=true then A else B:=by rw[if_pos (by rfl)];exact h
theorem BR {A B:Prop}(h:B):if(!true)=true then A else B:=by rw[if_neg (by decide)];exact h
theorem d6 {o:HO}{p:Addr}(hp:H p=none):∃H',p7 H p o=H'∧H' p=some o∧Same H H'∧∀b,b≠p→H' b=H b:=⟨_,rfl,j7,fun b u e=>by rw[d7 (d8 e hp)];exact e,fun b hb=>d7 hb⟩
theorem nN {α:Type}{xs:List α}{i:Int}(h0:0≤i)(h1:i<xs.length):∃v,mS xs i=some v∧xs[i.toNat]?=some v:=by
 obtain⟨j,rfl⟩:=Int.eq_ofNat_of_zero_le h0
 have hj:j<xs.length:=by lia
 exact⟨xs[j],b5 (by simp [hj]),by simp [hj]⟩
theorem pF (c:Nat):(⟨#[c]⟩:Str).length=1:=rfl
theorem h9 {n:Nat}(h:n≤1000):n≤sizeLine:=Nat.le_trans h (by decide)
theorem Same.rd {H H':Hp}{a:Addr}{u:HO}(s:Same H H')(h:Rd H a u):Rd H' a u:=by
 rcases h with h|⟨o,h⟩
 ·exact .inl (s _ _ h)
 ·exact .inr ⟨o,s _ _ h⟩
theorem Same.tup {H H':Hp}{a:Addr}{xs:List V}(s:Same H H')(h:SqT K H a xs):SqT K H' a xs:=by
 rcases h with h|h
 ·exact .inl (s.rd h)
 ·exact .inr h
theorem Itl.get {a:Addr}{xs:List V}{i:Nat}{H H':Hp}{v:V}(h:(Itl K a).yld i H v H')(hx:SqL K H a xs):H'=H∧xs[i]?=some v:=⟨h.1,h.2 xs hx⟩
end
end L2
set_option Elab.async false
set_option linter.all false
set_option maxRecDepth 100000
set_option maxHeartbeats 4000000
namespace L2
open PySem PySem.Spec PyProof.Rows
section
variable {X:Cx} (K:PySem.W.Frag) {a e:Expr} {ta te:TE} {tg:Expr} {pos:Pos}
theorem V7 (h:X.K=K:=by rfl):OpR X (binaryOp .Add) (mV K):=h▸yu
theorem kIn (hu:X.A.units+1<cLine)(h:X.K=K:=by rfl):OpR X (compareOp .In) (AQ K):=h▸zN hu
theorem gz (hu:X.A.units+1<cLine)(h:X.K=K:=by rfl):OpR X (compareOp .NotIn) (eY K):=h▸qj hu
theorem x8 (hu:X.A.units+1<cLine)(h:X.K=K:=by rfl):IxR X (nZ K):=h▸Bb hu
theorem Ef (h:X.K=K:=by rfl):SlR X (EJ K):=h▸AF
theorem zG (hc:X.calm=true)(h:X.K=K:=by rfl):CallR X (.builtin "all") (vL K):=h▸qS hc
theorem Ee (hc:X.calm=true)(h:X.K=K:=by rfl):CallR X (.builtin "any") (zi K):=h▸rG hc
def Ag (ta:TE):TT:=fun σ H Q=>ta σ H fun x H'=>∃k,tD K x H' k∧Q k H'
theorem DZ (ha:PE X a ta)(h:X.K=K:=by rfl)(he:∀whole,isTrue a X.env whole=(do let v←whole;standAt a.pos;holding [v] (truthy v)):=by intro _;rfl):PT X a (Ag K ta):=h▸sC ha he
theorem zr {σ:St}{H:Hp}{Qb:Bool→Hp→Prop}(q:ta σ H fun x H'=>∃k,tD K x H' k∧Qb k H'):Ag K ta σ H Qb:=q
theorem Fm (hl:PE X a ta)(h:X.K=K:=by rfl):wA X tg a (Dw K ta):=h▸Dp hl
theorem DP {es:List Expr}{k:Nat}{t:oR}{n:Nat}(hc:X.calm=true)(hg:wW X es t)(h:X.K=K:=by rfl)
  (hn:(assignEach es X.env).length=n:=by rfl) (hst:(assignEach es X.env).findIdx? (·.1)=none:=by rfl):PG X (.Tuple es k pos) (tY K n t):=h▸zZ hc hg hn hst
end
end L2
set_option Elab.async false
set_option linter.all false
set_option maxRecDepth 100000
set_option maxHeartbeats 4000000
namespace L2
open PySem PySem.Spec PyProof.Rows
def z7:Expr→Bool
 | .Starred _ _=>false
 |_=>true
def u9 (es:List Expr):Bool:=es.all z7
theorem au {e:Expr}{es:List Expr}{env:Env}(h:z7 e=true):starEach (e::es) env=(false,eval e env)::starEach es env:=by
 cases e<;>first|rfl|cases h
theorem ax {env:Env}{pos:Pos}:∀{es:List Expr},u9 es=true→(backTo pos (starEach es env)).any (·.1)=false
 |[],_=>rfl
 |e::es,h=>by
  have h':(z7 e&&u9 es)=true:=h
  rw[Bool.and_eq_true] at h'
  rw[au h'.1]
  show(false||(backTo pos (starEach es env)).any (·.1))=false
  rw[ax h'.2];rfl
theorem pH {e:Expr}{es:List Expr}{env:Env}(h:z7 e=true):assignEach (e::es) env=(false,assign e env)::assignEach es env:=by
 cases e<;>first|rfl|cases h
theorem sW {env:Env}:∀{es:List Expr},u9 es=true→(assignEach es env).length=es.length
 |[],_=>rfl
 |e::es,h=>by
  have h':(z7 e&&u9 es)=true:=h
  rw[Bool.and_eq_true] at h'
  rw[pH h'.1,List.length_cons,sW h'.2,List.length_cons]
theorem uV {env:Env}:∀{es:List Expr},u9 es=true→(assignEach es env).findIdx? (·.1)=none
 |[],_=>rfl
 |e::es,h=>by
  have h':(z7 e&&u9 es)=true:=h
  rw[Bool.and_eq_true] at h'
  rw[pH h'.1,List.findIdx?_cons]
  simp [uV h'.2]
section
variable {X:Cx} {K:PySem.W.Frag} {e:Expr} {es:List Expr} {te:TE} {t:TA} {x:Str} {p pos:Pos} {id T:String} {r:List V→Hp→VK→Prop}
theorem Fi (ha:PE X e te)(hr:PA X es t)(h:z7 e=true:=by rfl):PA X (e::es) (qe te t):=xl ha hr (au h)
theorem cB (hc:CallR X (.builtin id) r)(hm:X.mg x=none)(hv:bootBuiltins x=some (.builtin id))(ha:PA X (e::es) t)(hg:Gl X x:=by rfl)(hn:x≠"__name__":=by decide)(hdb:(x==("__debug__":Str))=false:=by decide)
  (h:u9 (e::es)=true:=by rfl):PE X (.Call (.Name x p) (e::es) [] pos) (AJ r t):=by
 have h':(z7 e&&u9 es)=true:=h
 rw[Bool.and_eq_true] at h'
 exact sD hc hg hm hv ha hn hdb (au h'.1) (ax h'.2)
theorem Fl (hc:CallR X (.type T) r)(hm:X.mg x=none)(hv:bootBuiltins x=some (.type T))(ha:PA X (e::es) t)(hg:Gl X x:=by rfl)(hn:x≠"__name__":=by decide)(hdb:(x==("__debug__":Str))=false:=by decide)
  (h:u9 (e::es)=true:=by rfl):PE X (.Call (.Name x p) (e::es) [] pos) (AJ r t):=by
 have h':(z7 e&&u9 es)=true:=h
 rw[Bool.and_eq_true] at h'
 exact rn hc hg hm hv ha hn hdb (au h'.1) (ax h'.2)
theorem cC {CX:kD}{k:Nat}{ps:List Str}{dvs:List V}{sp:Sp}{E:XK}(C:F0 X.prog X.w X.K X.mg X.base CX k x ps dvs sp)(hr:Room k X.A)(hx:aF CX X E)(ha:PA X (e::es) t)(hg:Gl X x:=by rfl)
  (hdb:(x==("__debug__":Str))=false:=by decide) (h:u9 (e::es)=true:=by rfl):PE X (.Call (.Name x p) (e::es) [] pos) (mR sp dvs E t):=by
 have h':(z7 e&&u9 es)=true:=h
 rw[Bool.and_eq_true] at h'
 exact uq C hr hx ha hg hdb (au h'.1) (ax h'.2)
theorem gT {tg:Expr}{k:Nat}{u:oR}(hc:X.calm=true)(hg:wW X es u)(hK:X.K=K:=by rfl)(h:u9 es=true:=by rfl):PG X (.Tuple es k pos) (tY K es.length u):=DP K hc hg hK (sW h) (uV h)
theorem gC {g:TG}{u:oR}(h1:PG X e g)(h2:wW X es u)(h:z7 e=true:=by rfl):wW X (e::es) (pZ g u):=sS h1 h2 (by rw[pH h];rfl)
end
end L2
set_option Elab.async false
set_option linter.all false
set_option maxRecDepth 100000
set_option maxHeartbeats 4000000
namespace L2
open PySem PySem.Spec PyProof.Rows
structure QE (X:Cx) (e:Expr) (t:TE):Prop where
 r:PE X e t
structure QT (X:Cx) (e:Expr) (t:TT):Prop where
 r:PT X e t
structure QW (X:Cx) (e:Expr) (t:TT):Prop where
 r:PW X e t
structure QA (X:Cx) (es:List Expr) (t:TA):Prop where
 r:PA X es t
structure QS (X:Cx) (st:Stmt) (t:TS):Prop where
 r:PS X st t
structure QSs (X:Cx) (st:List Stmt) (t:TS):Prop where
 r:PSs X st t
structure QG (X:Cx) (tg:Expr) (t:TG):Prop where
 r:PG X tg t
structure Du (X:Cx) (tg:List Expr) (t:oR):Prop where
 r:wW X tg t
structure QI (X:Cx) (tg iter:Expr) (t:mX):Prop where
 r:wA X tg iter t
structure DG (X:Cx) (ifs:List Expr) (t:TT):Prop where
 r:nQ X ifs t
structure QO (X:Cx) (e:Option Expr) (t:TO):Prop where
 r:PO X e t
structure QP (X:Cx) (pos:Pos) (keys:List (Option Expr)) (values:List Expr) (trs:List (TE×TE)):Prop where
 r:FF X pos keys values trs
section
variable {X:Cx} {a b c e o:Expr} {es:List Expr} {ta tb tc te to:TE} {tA tB':TT} {t:TA} {ae:List Expr} {pos apos cpos p2:Pos} {x:Str} {p:Pos} {bid T:String}
theorem En {j}:QE X (.Constant .none j pos) (tC .non):=⟨Ah⟩
theorem kE {b:Bool}{j}:QE X (.Constant (.bool b) j pos) (tC (.bl b)):=⟨Cr⟩
theorem j0 {i:Int}{j}:QE X (.Constant (.int i) j pos) (tC (.int i)):=⟨zP⟩
theorem P8 {x:Str}{j}:QE X (.Constant (.str x) j pos) (tC (.str x)):=⟨Bg⟩
theorem qV (i:Nat)(hN:X.N[i]?=some x:=by rfl)(hv:EC X.env.scope x:=by first|exact Or.inl rfl|exact Or.inr (Or.inl rfl)|exact Or.inr (Or.inr rfl))(hd:(x==("__debug__":Str))=false:=by decide)
  (hcd:(x==("__classdict__":Str))=false:=by decide):QE X (.Name x pos) (ud i):=⟨AH hN hv hd hcd⟩
theorem Fc {v:V}(h:DJ X.mg x v)(hg:Gl X x:=by rfl)(hd:(x==("__debug__":Str))=false:=by decide):QE X (.Name x pos) (tC v):=⟨Aq h hg hd⟩
theorem Ds (n:String)(hm:X.mg x=none)(hv:bootBuiltins x=some (.type n))(hg:Gl X x:=by rfl)(hn:x≠"__name__":=by decide)(hd:(x==("__debug__":Str))=false:=by decide):QE X (.Name x pos) (tC (.ty n)):=⟨xw hg hm hv rfl hn hd⟩
theorem F7 {op:Operator}{r:R2}(ho:OpR X (binaryOp op) r)(ha:QE X a ta)(hb:QE X b tb):QE X (.BinOp a op b pos) (wt r ta tb):=⟨BY ho ha.r hb.r⟩
theorem Fj {op:UnaryOp}{r:V→Hp→VK→Prop}(ho:DM X (unaryOp op) r)(ha:QE X a ta):QE X (.UnaryOp op a pos) (Ej r ta):=⟨Cb ho ha.r⟩
theorem BJ {op}(h:QE X a ta):QE X (.BoolOp op [a] pos) ta:=⟨Ay h.r⟩
theorem AO (ha:QE X a ta)(hb:QE X (.BoolOp .And (b::ae) pos) tb):QE X (.BoolOp .And (a::b::ae) pos) (uu ta tb):=⟨Ai ha.r hb.r⟩
theorem iH {op:CmpOp}{r:R2}(ho:OpR X (compareOp op) r)(ha:QE X a ta)(hb:QE X b tb)(hm:behindInMarks op b=false):QE X (.Compare a [op] [b] pos) (wt r ta tb):=⟨wK ho ha.r hb.r hm⟩
theorem C7 {op:CmpOp}{r:R2}(ho:OpR X (compareOp op) r)(ha:QE X a ta)(hb:QE X b tb)(hm:behindInMarks op b=false):QT X (.Compare a [op] [b] pos) (vJ (wt r ta tb)):=⟨xK ho ha.r hb.r hm⟩
theorem Fo:QO X none kl:=⟨xN⟩
theorem CQ (h:QE X e te):QO X (some e) (tL te):=⟨xO h.r⟩
theorem DX {lo hi:Option Expr}{tl th:TO}{r:V→Option Int→Option Int→Hp→VK→Prop}(hr:SlR X r)(he:QE X e te)(hl:QO X lo tl)(hu:QO X hi th):QE X (.Subscript e (.Slice lo hi none p2) pos) (ER r te tl th):=⟨vx hr he.r hl.r hu.r⟩
theorem x6 {r:R2}(hr:IxR X r)(ha:QE X a ta)(hb:QE X b tb)(hs:pN b):QE X (.Subscript a b pos) (wt r ta tb):=⟨Cc hr ha.r hb.r hs⟩
theorem S7 (h:QA X es t):QE X (.List es pos) (Bj t):=⟨Ax h.r⟩
theorem K1 {x1}(h:QA X es t):QE X (.Tuple es x1 pos) (zo t):=⟨zL h.r⟩
theorem wd:QE X (.Dict [] [] pos) tQ:=⟨tI⟩
theorem o3:QA X [] tN:=⟨AM⟩
theorem i9 (ha:QE X e te)(hr:QA X es t)(h:z7 e=true:=by rfl):QA X (e::es) (qe te t):=⟨Fi ha.r hr.r h⟩
theorem qB {r:List V→Hp→VK→Prop}(hc:CallR X (.builtin bid) r)(hm:X.mg x=none)(hv:bootBuiltins x=some (.builtin bid))(ha:QA X (e::es) t)(hg:Gl X x:=by rfl)(hn:x≠"__name__":=by decide)(hdb:(x==("__debug__":Str))=false:=by decide)
  (h:u9 (e::es)=true:=by rfl):QE X (.Call (.Name x p) (e::es) [] pos) (AJ r t):=⟨cB hc hm hv ha.r hg hn hdb h⟩
theorem kI {r:List V→Hp→VK→Prop}(hc:CallR X (.type T) r)(hm:X.mg x=none)(hv:bootBuiltins x=some (.type T))(ha:QA X (e::es) t)(hg:Gl X x:=by rfl)(hn:x≠"__name__":=by decide)(hdb:(x==("__debug__":Str))=false:=by decide)
  (h:u9 (e::es)=true:=by rfl):QE X (.Call (.Name x p) (e::es) [] pos) (AJ r t):=⟨Fl hc hm hv ha.r hg hn hdb h⟩
theorem qC {CX:kD}{k:Nat}{ps:List Str}{dvs:List V}{sp:Sp}{E:XK}(C:F0 X.prog X.w X.K X.mg X.base CX k x ps dvs sp)(hr:Room k X.A)(hx:aF CX X E)(ha:QA X (e::es) t)(hg:Gl X x:=by rfl)
  (hdb:(x==("__debug__":Str))=false:=by decide) (h:u9 (e::es)=true:=by rfl):QE X (.Call (.Name x p) (e::es) [] pos) (mR sp dvs E t):=⟨cC C hr hx ha.r hg hdb h⟩
theorem qM {name:Str}{r:V→List V→Hp→VK→Prop}(pa:PlainAttrs T)(slot:Slot T name bid)(hty:typeOf (.builtin bid)=pure (.type "method_descriptor"))(hm:xR X bid r)(K:PySem.W.Frag)(ho:QE X o to)(ha:QA X (e::es) t)(hK:X.K=K:=by rfl)
  (hbase:attributeBase o name X.env (eval o X.env)=eval o X.env:=by rfl)
  (h:u9 (e::es)=true:=by rfl) (h2:decide ((e::es).length<30)=true:=by rfl) (hline:(apos.endLine==cpos.line)=true:=by rfl):QE X (.Call (.Attribute o name apos) (e::es) [] cpos) (DV K T r to t):=by
 have h':(z7 e&&u9 es)=true:=h
 rw[Bool.and_eq_true] at h'
 have hall:∀{l:List Expr},u9 l=true→(backTo cpos (starEach l X.env)).all (fun x=>!x.1)=true:=fun{l} hl=>by
  have q:=ax (env:=X.env) (pos:=cpos) hl
  rw[List.all_eq_true]
  intro y hy
  rw[List.any_eq_false] at q
  simpa using q y hy
 subst hK
 refine⟨BV pa slot hty hm ho.r ha.r hbase ?_ hline (au h'.1) (ax h'.2)⟩
 rw[hall h]
 show(true&&true&&decide ((e::es).length+0+0<30))=true
 simpa using h2
theorem Cy {name:Str}{r:V→List V→Hp→VK→Prop}(pa:PlainAttrs T)(slot:Slot T name bid)(hty:typeOf (.builtin bid)=pure (.type "method_descriptor"))(hm:xR X bid r)(K:PySem.W.Frag)(ho:QE X o to)(hK:X.K=K:=by rfl)
  (hbase:attributeBase o name X.env (eval o X.env)=eval o X.env:=by rfl) (hline:(apos.endLine==cpos.line)=true:=by rfl):QE X (.Call (.Attribute o name apos) [] [] cpos) (yX K T r to):=⟨hK▸AN pa slot hty hm ho.r hbase hline⟩
theorem V4 {own:List Str}{js:List Nat}{scope:Scope}{tg iter elt:Expr}{ifs:List Expr}{g:TG}{ti:TT}{wi:mX}(S:Bw X own js scope=true)(hc:X.calm=true)(hit:QI X tg iter wi)
  (hg:∀C s H fp,QG (bj X own js scope C s H fp) tg g) (hi:∀C s H fp,DG (bj X own js scope C s H fp) ifs ti) (he:∀C s H fp,QE (bj X own js scope C s H fp) elt te)
  (hs:∀x,foldedSetIterable iter X.env x=pure x:=by intro _;rfl):QE X (.ListComp elt [⟨tg,iter,ifs,0⟩] scope pos) (fw own js wi g ti te):=
 ⟨sv S hc hit.r (fun C s H fp=>(hg C s H fp).r) (fun C s H fp=>(hi C s H fp).r) (fun C s H fp=>(he C s H fp).r) hs⟩
theorem gn:DG X [] Al:=⟨Df⟩
theorem Ac (h:QT X c tA):DG X [c] tA:=⟨Ez h.r⟩
theorem mW (ha:QT X a tA):QT X (.UnaryOp .Not a pos) (AL tA):=⟨Bk ha.r⟩
theorem bB (K:PySem.W.Frag)(ha:QE X a ta)(h:X.K=K:=by rfl)(he:∀whole,isTrue a X.env whole=(do let v←whole;standAt a.pos;holding [v] (truthy v)):=by intro _;rfl):QT X a (Ag K ta):=⟨DZ K ha.r h he⟩
theorem vX (h:QW X a tA):QT X a tA:=⟨h.r.pt⟩
theorem df (ha:QT X a tA):QW X (.BoolOp .And [a] pos) tA:=⟨wB ha.r⟩
theorem pK (ha:QT X a tA):QW X (.BoolOp .Or [a] pos) tA:=⟨AX ha.r⟩
theorem dY (ha:QT X a tA)(hb:QW X (.BoolOp .And (b::ae) pos) tB'):QW X (.BoolOp .And (a::b::ae) pos) (Ab tA tB'):=⟨zR ha.r hb.r⟩
theorem wI (ha:QT X a tA)(hb:QW X (.BoolOp .Or (b::ae) pos) tB'):QW X (.BoolOp .Or (a::b::ae) pos) (DW tA tB'):=⟨Ck ha.r hb.r⟩
theorem U6 {i:Nat}(hN:X.N.Nodup)(hi:X.N[i]?=some x)(hx:yL X.env.scope x)(hf:X.fn x=true∨X.env.scope.names.lookup x=some .local:=by first|exact .inl rfl|exact .inr rfl|assumption):QG X (.Name x pos) (ai i):=⟨xy hN hi hx hf⟩
theorem we:Du X [] zK:=⟨yr⟩
theorem ic {g:TG}{u:oR}(h1:QG X e g)(h2:Du X es u)(h:z7 e=true:=by rfl):Du X (e::es) (pZ g u):=⟨gC h1.r h2.r h⟩
theorem wb (K:PySem.W.Frag){k:Nat}{u:oR}(hc:X.calm=true)(hg:Du X es u)(hK:X.K=K:=by rfl)(h:u9 es=true:=by rfl):QG X (.Tuple es k pos) (tY K es.length u):=⟨gT (tg:= .Name Str.empty pos) hc hg.r hK h⟩
theorem lE {i:Expr}{ti:TE}{u:pf}(ho:QE X o to)(hi:QE X i ti)(hs:qQ X u)
  (ha:∀v,assign (.Subscript o i pos) X.env v=(do
   let ov←holding [v] (eval o X.env)
   let iv←holding [v,ov] (eval i X.env)
   standAt pos
   holding [v,ov,iv] (setItem ov iv v)
   release [v,ov,iv] []):=by intro _;rfl):QG X (.Subscript o i pos) (xo to ti u):=⟨zJ ho.r hi.r hs ha⟩
theorem af (K:PySem.W.Frag){tg:Expr}(hl:QE X a ta)(h:X.K=K:=by rfl):QI X tg a (Dw K ta):=⟨Fm K hl.r h⟩
def BP (wi:TI):mX:=fun σ H R=>wi σ H fun J H'=>R J id H'
theorem CS {wi:TI}{σ:St}{H:Hp}{R:It→(Hp→Hp)→Hp→Prop}(q:wi σ H fun J H'=>R J id H'):BP wi σ H R:=q
theorem xI {tg:Expr}(hm:X.mg "range"=none)(ha:QA X [a] t)(hg:Gl X "range":=by rfl)(h:z7 a=true:=by rfl):QI X tg (.Call (.Name "range" p) [a] [] pos) (BP (vi t)):=⟨(qx hg hm ha.r (au h)).two⟩
theorem eU {elts:List Expr}{x1}{tpos:Pos}(ho:QE X o to)
  (hbase:attributeBase o "items" X.env (eval o X.env)=eval o X.env:=by rfl) (hline:(apos.endLine==cpos.line)=true:=by rfl):QI X (.Tuple elts x1 tpos) (.Call (.Attribute o "items" apos) [] [] cpos) (oQ to):=⟨uS ho.r hbase hline⟩
variable {st:Stmt} {sts body orelse:List Stmt} {u u':TS} {g:TG}
theorem ie:QSs X [] uW:=⟨yh⟩
theorem E6 (h:QS X st u):QSs X [st] u:=⟨xc h.r⟩
theorem C6 (h1:QS X st u)(h2:QSs X sts u'):QSs X (st::sts) (xJ u u'):=⟨tm h1.r h2.r⟩
theorem z8 {i:Nat}{pos':Pos}(hN:X.N.Nodup)(hi:X.N[i]?=some x)(hx:yL X.env.scope x)(he:QE X e te)(hs:swapsWith e (some (.Name x pos')) pos.line X.env=pure false:=by rfl)(hf:X.fn x=true∨X.env.scope.names.lookup x=some .local:=by first|exact .inl rfl|exact .inr rfl):
  QS X (.Assign [.Name x pos'] e pos) (oz te (ai i)):=⟨zT hN hi hx he.r hs hf⟩
theorem Y9 {tg:Expr}(he:QE X e te)(hg:QG X tg g)(hs:swapsWithSole [tg] e pos.line X.env=pure false:=by rfl)(hw:swappedStores [tg] e X.env=pure none:=by rfl)(h:z7 tg=true:=by rfl):QS X (.Assign [tg] e pos) (oz te g):=
 ⟨Ae he.r hg.r hs hw (by rw[pH h];rfl)⟩
theorem fb (hc:QT X c tA)(ht:QSs X body u)(he:QSs X orelse u'):QS X (.If c body orelse pos) (Bd tA u u'):=⟨CB hc.r ht.r he.r⟩
theorem C9 (he:QE X e te):QS X (.Return (some e) pos) (Be te):=⟨Ar he.r⟩
theorem wa (he:QE X e te)(hs:swapsWith e none pos.line X.env=pure false:=by rfl):QS X (.Expr e pos) (tf te):=⟨wm he.r hs⟩
theorem cP {tg iter:Expr}{wi:mX}(hp:PassesOwn (model X.prog X.w) X.A X.env X.xe)(hc:X.calm=true)(hi:QI X tg iter wi)(hg:QG X tg g)(hb:QSs X body u)(hs:∀x,foldedSetIterable iter X.env x=pure x:=by intro _;rfl):QS X (.For tg iter body [] pos) (ux wi g u):=
 ⟨yc hp hc hi.r hg.r hb.r hs⟩
end
end L2
set_option Elab.async false
set_option linter.all false
set_option maxRecDepth 100000
set_option maxHeartbeats 4000000
namespace L2
open PySem PySem.Spec PyProof.Rows
theorem X6:∀{ss:List Str} {us:List Value},Vals (ss.map V.str) us→StrsAre us ss
 |[],_,.nil=> .nil
 |x::ss,_,.cons r t=>by
  obtain⟨k,rfl⟩:=r
  exact .cons x k (X6 t)
theorem W4:∀{us:List Value} {ss:List Str},StrsAre us ss→Vals (ss.map V.str) us
 |_,_,.nil=> .nil
 |_,_,.cons y t r=> .cons ⟨t,rfl⟩ (W4 r)
theorem N6:∀{xs:List V} {us:List Value},xs.length=us.length→(∀(i:Nat) x u,xs[i]?=some x→us[i]?=some u→RelV x u)→Vals xs us
 |[],[],_,_=> .nil
 |[],_::_,h,_=>by simp at h
 |_::_,[],h,_=>by simp at h
 |x::xs,u::us,h,k=> .cons (k 0 x u rfl rfl) (N6 (by simpa using h) fun i y v e1 e2=>k (i+1) y v (by simpa using e1) (by simpa using e2))
section
variable {X:Cx}
theorem Inv.newL {pins:List (Addr×Obj)}{σ:St}{H:Hp}{s:Shared}{h':Heap}{tk:Nat}{a:Addr}{xs:List V}{out:Array Value}{e:Nat}(I:Inv X pins σ H s)(k:∀b u,s.heap.get? b=some u→h'.get? b=some u)(ha:s.heap.objs.size≤a)
  (ho:h'.get? a=some {cls:= .type "list",data:= .seq out e}) (rv:Vals xs out.toList) (hz:xs.length≤sizeLine):Inv X pins σ (p7 H a (.lst xs)) {s with heap:=h',toks:=tk}:=
 I.laid k ha ⟨hz,out.toList,e,rv,by rw[ho]⟩
theorem ObjOk.live {P:Program}{w:World}{H:Hp}{h:Heap}{a:Addr}{o:HO}(x:ObjOk P w H h a o):∃ob,h.get? a=some ob:=by
 cases o with
 |lst xs=>obtain⟨_,_,_,_,e⟩:=x;exact⟨_,e⟩
 |tup xs=>obtain⟨_,_,_,o,e,_⟩:=x;exact⟨_,e⟩
 |dK kvs=>obtain⟨_,_,_,_,o,_,_,e,_⟩:=x;exact⟨_,e⟩
 |dT kvs=>obtain⟨_,_,_,_,o,_,_,e,_⟩:=x;exact⟨_,e⟩
 |set S n=>obtain⟨o,_,_,_,e,_⟩:=x;exact⟨_,e⟩
 |ins C dx fs=>obtain⟨_,_,_,e,_⟩:=x;exact⟨_,e⟩
 |own y=>exact x
 |xd fs=>obtain⟨_,⟨_,_,_,e,_⟩,_⟩:=x;exact⟨_,e⟩
 |rng lo hi=>obtain⟨_,_,_,e⟩:=x;exact⟨_,e⟩
 |frz ob u=>obtain⟨e,_⟩:=x;exact⟨_,e⟩
 |tbl ps=>exact⟨_,(show h.get? a=some _ from x)⟩
 |met f y=>exact⟨_,(show h.get? a=some _ from x)⟩
 |ext φ=>obtain⟨_,e,_⟩:=x;exact e
theorem Inv.newN {pins:List (Addr×Obj)}{σ:St}{H:Hp}{s:Shared}{h':Heap}{tk:Nat}{a:Addr}{xs:List V}{out:Array Value}{e:Nat}(I:Inv X pins σ H s)(k:∀b u,s.heap.get? b=some u→h'.get? b=some u)(hn:s.heap.get? a=none)
  (ho:h'.get? a=some {cls:= .type "list",data:= .seq out e}) (rv:Vals xs out.toList) (hz:xs.length≤sizeLine):H a=none∧Inv X pins σ (p7 H a (.lst xs)) {s with heap:=h',toks:=tk}:=by
 have hH:H a=none:=by
  cases q:H a with
  |none=>rfl
  |some u=>
   obtain⟨ob,z⟩:=(I.hok a u q).live
   rw[hn] at z;cases z
 have na:∀b o,s.heap.get? b=some o→b≠a:=fun b o z w=>by rw[w,hn] at z;cases z
 have nh:∀b u,H b=some u→b≠a:=fun b u z=>d8 z hH
 refine⟨hH,I.un ⟨fun b o z n _ _=>k b o z,fun b o z n _ _=>⟨o.slots,k b o z⟩,fun b o z n _=>by rw[d7 (na b o z)];exact n,fun b o z _=>⟨o,k b o z⟩,fun b ys z=>by rw[d7 (nh b _ z)];exact z,
  fun b ob u z=>by rw[d7 (nh b _ z)];exact z,fun b ps z=>⟨#[],by rw[d7 (nh b _ z)];simpa using z⟩⟩ fun b u z=>?_⟩
 by_cases hb:b=a
 ·subst hb
  rw[j7] at z;cases z
  exact⟨hz,out.toList,e,rv,by rw[ho]⟩
 ·rw[d7 hb] at z
  exact(I.hok b u z).stay (fun c v _ y=>k c v y) (fun c y=>by rw[d7 (nh c _ y)];exact y) fun c ys y=>by rw[d7 (nh c _ y)];exact y
def ke (K:PySem.W.Frag):List V→Hp→VK→Prop:=fun xs H Q=>∃(p:Addr) (ss:List Str),xs=[.ref p]∧(SqL K H p (ss.map V.str)∨∃kvs:List (j8×V),Rd H p (.dK kvs)∧kvs.map (·.1)=ss.map Sum.inr)∧ss.length<64∧
 ∀ss':List Str,ss'.Perm ss→sortedS ss'=true→∀l,H l=none→Q (.ref l) (p7 H l (.lst (ss'.map V.str)))
theorem qJ {M:Program}{w:World}{A:Around}{E:Value→Shared→Prop}{s:Shared}{a:Addr}{vs:List Value}{ss:List Str}{n:Nat}{Q:Value→Shared→Prop}(ho:s.heap.get? a=some (seqObj "list" vs.toArray n))(hS:StrsAre vs ss)(h64:vs.length<64)
  (h:∀(out:Array Value) (ss':List Str),StrsAre out.toList ss'→ss'.Perm ss→sortedS ss'=true→Q .none {s with heap:=sortedHeap s.heap a vs out}):
  wpAny (model M w) A (call (.builtin "list.sort") [.ref a]) Q E s:=by
 refine wpAny_call_entry PySem.F.slot_list_sort ⟨_,ho,rfl⟩ PySem.F.entry_list_sort ?_ (PySem.F.args_list_sort_1 _)
 refine list_sort_treeK strKind_oneLt ho hS.keysOf (fun v₁ v₂ ae e=>keyKind_strs (by rw[←e];exact hS)) h64 fun st' hp hs=>?_
 obtain⟨ss',h1,h2,h3⟩:=sorted_out_str hS hp hs
 exact⟨_,rfl,h _ ss' h1 h2 h3⟩
theorem jF (hc:X.calm=true):CallR X (.builtin "sorted") (ke X.K):=by
 intro pins s σ H xs us Q I r h
 obtain⟨p,ss,rfl,hx,h64,q⟩:=h
 obtain⟨u,rfl,ru⟩:=K6 r
 cases ru
 have hsl:(64:Nat)≤sizeLine:=by decide
 rcases hx with hx|⟨kvs,hx,hk⟩
 ·obtain⟨its,rv,ht,hz⟩:=I.list hx
  have hS:=X6 rv
  have hl:its.length=ss.length:=by have:=rv.length;simpa using this.symm
  refine sorted_strs ht.isList hS (by lia) fun out ss' a1 a2 a3=>?_
  obtain⟨e,he⟩:=sortedAll_at s.heap its out
  have hl':=a2.length_eq
  exact⟨.ref (s.heap.objs.size+1),_,I.newL (tk:=s.toks) (fun _ _=>sortedAll_old) (Nat.le_succ _) he (W4 a1) (by rw[List.length_map];lia),rfl,q ss' a2 a3 _ (I.hok.fresh (Nat.le_succ _))⟩
 ·obtain⟨hd,o,vs,ep,ho,D⟩:=W3 I.hok hx
  have dat:=D.at_ _ ho
  have hlen:kvs.length=ss.length:=by have:=congrArg List.length hk;simpa using this
  have hlv:=KV.length D.kv
  refine Calls.call_function_entry kind_sorted plain_sorted entry_sorted (args_sorted1 _) ?_
  unfold Builtin.«sorted»
  refine wpAny_bind (m:=checkCount "sorted" 1 1 _) (wpAny_pure ?_)
  refine wpAny_bind (PySem.W.kdu_collect (A:=X.A.in1) (PySem.W.kdl_dict (knd:=k8 X.prog X.w) (kvs:=vs) (ep:=ep) hd) (I.ok.hd hc) dat (by lia) fun h' tk acc hkp hacc=>?_)
  have hl:acc.toList.length=vs.length:=by rw[Array.length_toList];exact hacc.1
  have hS:StrsAre acc.toList ss:=by
   refine X6 (N6 (by rw[List.length_map];lia) fun i x u e1 e2=>?_)
   obtain⟨k,y,hy,hky⟩:=hacc.2 i u (by rw[←Array.getElem?_toList];exact e2)
   have e3:(kvs.map (·.1))[i]?=some k:=by rw[KV.keys D.kv,List.getElem?_map,hy];rfl
   rw[hk,List.getElem?_map] at e3
   rw[List.getElem?_map] at e1
   cases e4:ss[i]? with
   |none=>rw[e4] at e1;cases e1
   |some z=>
    rw[e4] at e1 e3
    cases e1
    cases e3
    exact W7 hky
  refine wpAny_bind (wpAny_newList ?_ (by rw[hl];lia))
  refine wpAny_bind (wpAny_holding (qJ (s:={s with heap:=h'.push {cls:= .type "list",data:= .seq acc.toList.toArray},toks:=tk}) (n:=0) (Heap.get?_push_size _ rfl) hS (by lia) fun out ss' a1 a2 a3=>?_))
  obtain⟨e,he⟩:=sortedHeap_at (h:=h'.push {cls:= .type "list",data:= .seq acc.toList.toArray}) (a:=h'.objs.size) (vs:=acc.toList) (n:=0) (out:=out) (Heap.get?_push_size _ rfl)
  have hno:s.heap.get? h'.objs.size=none:=by
   cases z:s.heap.get? h'.objs.size with
   |none=>rfl
   |some ob=>exact absurd (Heap.lt_size (hkp _ _ z)) (Nat.lt_irrefl _)
  have hl':=a2.length_eq
  obtain⟨hH,I2⟩:=I.newN (tk:=tk) (h':=sortedHeap (h'.push {cls:= .type "list",data:= .seq acc.toList.toArray}) h'.objs.size acc.toList out) (xs:=ss'.map V.str) (fun b u eb=>by
   have hb:=Heap.lt_size (hkp b u eb)
   rw[sortedHeap_old (b:=b) (Nat.ne_of_lt hb) (by rw[Heap.size_push];exact Nat.lt_succ_of_lt hb)]
   exact Heap.get?_push_of_some _ (hkp b u eb)) hno he (W4 a1) (by rw[List.length_map];lia)
  exact wpAny_pure ⟨_,rfl,.ref h'.objs.size,_,I2,rfl,q ss' a2 a3 _ hH⟩
def qd (K:PySem.W.Frag):List V→Hp→VK→Prop:=fun xs H Q=>(∃p ys,xs=[.ref p]∧(SqL K H p ys∨SqT K H p ys)∧∀l,H l=none→Q (.ref l) (p7 H l (.lst ys)))∨
 (∃(p:Addr) (kvs:List (j8×V)),xs=[.ref p]∧Rd H p (.dK kvs)∧∀l,H l=none→Q (.ref l) (p7 H l (.lst (kvs.map fun kv=>kV kv.1))))
theorem og (hc:X.calm=true):CallR X (.type "list") (qd X.K):=by
 refine call_list_of.or ?_
 intro pins s σ H xs us Q I r h
 obtain⟨p,kvs,rfl,hx,q⟩:=h
 obtain⟨u,rfl,ru⟩:=K6 r
 cases ru
 obtain⟨hd,o,vs,ep,ho,D⟩:=W3 I.hok hx
 have hlv:=KV.length D.kv
 have hz:kvs.length≤sizeLine:=(E8 I.hok hx).1
 refine PySem.W.kdl_call (PySem.W.kdl_dict (knd:=k8 X.prog X.w) (kvs:=vs) (ep:=ep) hd) (I.ok.hd hc) (D.at_ _ ho) (by lia) fun h' tk acc c hkp hS hacc=>?_
 refine⟨.ref s.heap.objs.size,_,I.newL (tk:=tk) hkp (Nat.le_refl _) hS (N6 (by have:=hacc.1;simp;lia) fun i x u e1 e2=>?_) (by rw[List.length_map];exact hz),rfl,q _ (I.hok.fresh (Nat.le_refl _))⟩
 obtain⟨k,y,hy,hky⟩:=hacc.2 i u (by rw[←Array.getElem?_toList];exact e2)
 rw[List.getElem?_map] at e1
 cases e4:kvs[i]? with
 |none=>rw[e4] at e1;cases e1
 |some kv=>
  rw[e4] at e1
  cases e1
  have e3:(kvs.map (·.1))[i]?=some kv.1:=by rw[List.getElem?_map,e4];rfl
  rw[KV.keys D.kv,List.getElem?_map,hy] at e3
  cases e3
  exact W7 hky
def yx:List V→Hp→VK→Prop:=fun xs H Q=>∃(p:Addr) (kvs:List (j8×V)),xs=[.ref p]∧Rd H p (.dK kvs)∧∀l,H l=none→Q (.ref l) (p7 H l (.dK kvs))
theorem nO:CallR X (.type "dict") yx:=by
 intro pins s σ H xs us Q I r h
 obtain⟨p,kvs,rfl,hx,q⟩:=h
 obtain⟨u,rfl,ru⟩:=K6 r
 cases ru
 exact vE I hx fun l s' hl I'=>⟨.ref l,_,I',rfl,q l hl⟩
def xV (K:PySem.W.Frag):List V→Hp→VK→Prop:=fun xs H Q=>∃(p:Addr) (ns:List Int),xs=[.ref p]∧SqL K H p (ns.map V.int)∧Q (.int ns.sum) H
theorem rQ (hc:X.calm=true):CallR X (.builtin "sum") (xV X.K):=by
 intro pins s σ H xs us Q I r h
 obtain⟨p,ns,rfl,hx,q⟩:=h
 obtain⟨u,rfl,ru⟩:=K6 r
 cases ru
 obtain⟨its,rv,ht,hz⟩:=I.list hx
 have hi:=oS rv
 obtain⟨ys,hy⟩:=hi.allInts.items
 have hl:s.heap.IsList p (intItems ys):=hy▸ht.isList
 refine sum_intListG (I.ok.hd hc) hl fun h' tk t' hk=>?_
 have e1:ns=ys.toList.map (·.1):=by
  rw[←nums_intItems,←hy]
  exact(show numsOf its.toArray.toList=ns from hi.numsOf).symm
 have e2:preSum (numAt ys) ys.size=ns.sum:=by
  rw[preSum_eq,List.take_of_length_le (by simp),e1]
 rw[e2]
 exact⟨.int ns.sum,H,I.kept hk,⟨t',rfl⟩,q⟩
def yI:R2:=fun x y H Q=>rI CMul (fun i j=> .int (i*j)) x y H Q∨(∃z n,x= .str z∧y= .int n∧z.length≤1000∧-1000≤n∧n≤1000∧Q (.str (Txt.mul z n)) H)
theorem bc:OpR X (binaryOp .Mult) yI:=by
 refine op_mul.or ?_
 intro pins s σ H x y v u Q I rx ry h
 obtain⟨z,n,rfl,rfl,h1,h2,h3,q⟩:=h
 obtain⟨t,rfl⟩:=rx
 obtain⟨t',rfl⟩:=ry
 exact SB.mul (mulOk_of 1000 1000 h1 h3 (by lia) (by decide) (by decide)) fun t2 k=>⟨.str _,H,I.tok _,⟨t2,rfl⟩,q⟩
def pQ:pf:=fun o i v H Q=>yR o i v H Q∨(∃a H',o= .ref a∧DPut H a i v H'∧Q H')
theorem wX (hu:X.A.units+1<cLine):qQ X pQ:=by
 intro pins s σ H o i v ov iv u Q I ro ri rv h
 rcases h with h|⟨a,H',rfl,g,q⟩
 ·exact uf pins s σ H o i v ov iv u Q I ro ri rv h
 ·cases ro
  exact rq hu I g ri rv fun s' I'=>⟨H',I',q⟩
end
end L2
set_option Elab.async false
set_option linter.all false
set_option maxRecDepth 100000
set_option maxHeartbeats 4000000
namespace L2
open PySem PySem.Spec PyProof.Rows
section
variable {X:Cx}
theorem Inv.pairNew {pins:List (Addr×Obj)}{σ:St}{H:Hp}{s:Shared}{fp:List Addr}{h':Heap}{tk:Nat}{x y:V}{u v:Value}{e:Nat}(I:Inv X pins σ H s)(hf:∀b∈fp,cL X pins H b)
  (kp:∀b o,b∉fp→s.heap.get? b=some o→h'.get? b=some o) (there:∀b∈fp,b<s.heap.objs.size) (tup:h'.get? s.heap.objs.size=some {cls:= .type "tuple",data:= .seq #[u,v] e}) (rx:RelV x u) (ry:RelV y v):
  H s.heap.objs.size=none∧Inv X pins σ (p7 H s.heap.objs.size (.tup [x,y])) {s with heap:=h',toks:=tk}∧∀b∈fp,p7 H s.heap.objs.size (.tup [x,y]) b=none:=by
 have fresh:H s.heap.objs.size=none:=I.hok.fresh (Nat.le_refl _)
 have nsz:∀b o,s.heap.get? b=some o→b≠s.heap.objs.size:=fun b o z=>Nat.ne_of_lt (Heap.lt_size z)
 have hH:∀b w,H b=some w→b≠s.heap.objs.size∧b∉fp:=fun b w z=>⟨d8 z fresh,fun m=>by rw[(hf b m).1] at z;cases z⟩
 have hok:HOk X.prog X.w (p7 H s.heap.objs.size (.tup [x,y])) h':=fun b w z=>by
  by_cases hb:b=s.heap.objs.size
  ·subst hb
   rw[j7] at z;cases z
   exact⟨by show 2≤sizeLine;decide,[u,v],.cons rx (.cons ry .nil),⟨_,tup,rfl,_,rfl⟩⟩
  ·rw[d7 hb] at z
   refine(I.hok b w z).stay (fun c ob hc q=>kp c ob ?_ q) (fun c q=>by rw[d7 (hH c _ q).1];exact q) fun c ys q=>by rw[d7 (hH c _ q).1];exact q
   rcases hc with m|m
   ·rw[m];exact(hH b _ z).2
   ·exact(hH c _ m).2
 refine⟨fresh,I.call' (s':={s with heap:=h',toks:=tk}) (ch:=fp) rfl ⟨fun b o z n _ hx=>kp b o hx z,fun b o z n _ hx=>⟨o.slots,kp b o hx z⟩,fun b o z n _=>by rw[d7 (nsz b o z)];exact n,
  fun b o z hx=>⟨o,kp b o hx z⟩,fun b ys z=>by rw[d7 (hH b _ z).1];exact z,fun b ob w z=>by rw[d7 (hH b _ z).1];exact z,fun b ps z=>⟨#[],by rw[d7 (hH b _ z).1];simpa using z⟩⟩ hok I.bare fun b hb=>?_,fun b hb=>?_⟩
 ·obtain⟨f0,f1,f2,f3,f4,f5⟩:=hf b hb
  exact⟨f3,f1,f4,f5⟩
 ·rw[d7 (Nat.ne_of_lt (there b hb))];exact(hf b hb).1
theorem Inv.turnedAll {pins:List (Addr×Obj)}{σ:St}{H:Hp}{s:Shared}{fp:List Addr}{h':Heap}{tk:Nat}(I:Inv X pins σ H s)(hf:∀b∈fp,cL X pins H b)
  (kp:∀b o,b∉fp→s.heap.get? b=some o→h'.get? b=some o):Inv X pins σ H {s with heap:=h',toks:=tk}:=by
 have hH:∀b w,H b=some w→b∉fp:=fun b w z m=>by rw[(hf b m).1] at z;cases z
 refine I.call' (s':={s with heap:=h',toks:=tk}) (ch:=fp) rfl ⟨fun b o z n _ hx=>kp b o hx z,fun b o z n _ hx=>⟨o.slots,kp b o hx z⟩,fun b o z n _=>n,
  fun b o z hx=>⟨o,kp b o hx z⟩,fun b ys z=>z,fun b ob w z=>z,fun b ps z=>⟨#[],by simpa using z⟩⟩ (fun b w z=>?_) I.bare fun b hb=>?_
 ·refine(I.hok b w z).stay (fun c ob hc q=>kp c ob ?_ q) (fun c q=>q) fun c ys q=>q
  rcases hc with m|m
  ·rw[m];exact hH b _ z
  ·exact hH c _ m
 ·obtain⟨f0,f1,f2,f3,f4,f5⟩:=hf b hb
  exact⟨f3,f1,f4,f5⟩
end
def Et (K:PySem.W.Frag)(l:Addr):It:=
 ⟨fun i H=>∃xs x,SqL K H l xs∧xs[i]?=some x,fun i H x H'=>∃t v,(∀xs,SqL K H l xs→xs[i]?=some v)∧H t=none∧x= .ref t∧H'=p7 H t (.tup [.int i,v]),fun i H=>∃xs,SqL K H l xs∧xs.length≤i⟩
theorem qK {P:Program}{w:World}{K:PySem.W.Frag}{elts:List Expr}{x1}{tpos:Pos}{en it l:Addr}(hne:en≠it):eE P w K (.Tuple elts x1 tpos) (Et K l) [en,it] en (fun i h=>∃old,IsEnum h en it i old∧h.IsListIter it l i) where
 mem:=by simp
 obj:=fun i h st b hb=>by
  obtain⟨old,h1,o,e,c,d⟩:=st
  have hb':b=en∨b=it:=by simpa using hb
  rcases hb' with rfl|rfl
  ·exact⟨_,h1,fun v z=>by
    have z':Data.fields _=Data.cell v:=z
    cases z'⟩
  ·exact⟨o,e,fun v z=>by rw[d] at z;cases z⟩
 keep:=fun i h h' st k=>by
  obtain⟨old,h1,h2⟩:=st
  exact⟨old,k en (by simp) _ h1,h2.at fun o e=>k it (by simp) o e⟩
 item:=by
  intro X hP hw hK hc i pins s σ H E I hf st hg
  subst hP hw hK
  obtain⟨old,st1,st2⟩:=st
  obtain⟨xs,x,hq,hx⟩:=hg
  obtain⟨its,rv,p,hz⟩:=I.list hq
  obtain⟨u,hu,ru⟩:=rv.get hx
  have hen:en<s.heap.objs.size:=Heap.lt_size st1
  have hit:it<s.heap.objs.size:=by obtain⟨o,e,_⟩:=st2;exact Heap.lt_size e
  refine wpAny_pyNext_enum_item st1 st2 p.isList (x:=u) (by simpa using hu) hne fun h' heo hit1 ht1 hz1 hk1=>?_
  refine⟨.ref s.heap.objs.size,rfl,wpAny_letOwnedTupleGo_enum (s:={s with heap:=h',toks:=s.toks+1}) heo fun h'' he'' hs''=>?_⟩
  have hs2:Heap.SameBut en h' h'':=hs''
  have tupAt:h''.get? s.heap.objs.size=some {cls:= .type "tuple",data:= .seq #[.int i s.toks,u]}:=hs2.extBut _ _ (Nat.ne_of_gt hen) ht1
  obtain⟨fr,I1,fr2⟩:=I.pairNew (fp:=[en,it]) (h':=h'') (tk:=s.toks+1) (x:= .int i) (y:=x) hf (fun b o hb e=>by
   have hb':b≠en∧b≠it:=by simpa using hb
   exact hs2.extBut b o hb'.1 (hk1 b o hb'.1 hb'.2 e)) (fun b hb=>by
   have hb':b=en∨b=it:=by simpa using hb
   rcases hb' with rfl|rfl
   ·exact hen
   ·exact hit) tupAt ⟨_,rfl⟩ ru
  refine⟨.ref s.heap.objs.size,_,I1,rfl,⟨_,x,fun ys hy=>by rw[I.list_inj hy hq];exact hx,fr,rfl,rfl⟩,⟨_,he'',?_⟩,fr2⟩
  exact hit1.at fun o e=>hs2.extBut it o (Ne.symm hne) e
 done:=by
  intro X hP hw hK hc i pins s σ H E I hf st hg
  subst hP hw hK
  obtain⟨old,st1,st2⟩:=st
  obtain⟨xs,hq,hx⟩:=hg
  obtain⟨its,rv,p,hz⟩:=I.list hq
  have hl:=rv.length
  exact wpAny_pyNext_enum_end (I.ok.hd hc) st1 st2 p.isList (by simp;lia) fun h' eb=>⟨rfl,I.turnedAll (fp:=[en,it]) (tk:=s.toks) hf fun b o hb e=>eb b o (by
   have hb':b≠en∧b≠it:=by simpa using hb
   exact hb'.2) e⟩
 self:=fun _ _ _ _ _ st h=>by
  obtain⟨old,st1,st2⟩:=st
  exact wpAny_pyIter_enum st1 h
section
variable {X:Cx} {a b:Expr} {t:TA} {p pos:Pos}
end
section
variable {X:Cx} {a b:Expr} {t:TA} {p pos:Pos}
end
section
variable {X:Cx} (K:PySem.W.Frag) {a b:Expr} {t:TA} {p pos:Pos}
theorem O6 (hc:X.calm=true)(h:X.K=K:=by rfl):CallR X (.builtin "sorted") (ke K):=h▸jF hc
theorem Ek (hc:X.calm=true)(h:X.K=K:=by rfl):CallR X (.builtin "sum") (xV K):=h▸rQ hc
end
theorem Z7 {X:Cx}:xR X "list.append" pI:=rF
section
variable {K:PySem.W.Frag} {σ:St} {H:Hp} {Q:VK}
theorem C0 {p:Addr}{kvs:List (j8×V)}{ss:List Str}(h:Rd H p (.dK kvs))(hk:kvs.map (·.1)=ss.map Sum.inr)(h64:ss.length<64)(q:∀ss':List Str,ss'.Perm ss→sortedS ss'=true→∀l,H l=none→Q (.ref l) (p7 H l (.lst (ss'.map V.str)))):ke K [.ref p] H Q:=⟨p,ss,rfl,.inr ⟨kvs,h,hk⟩,h64,q⟩
theorem ny {p:Addr}{xs:List V}(h:SqL K H p xs)(q:∀l,H l=none→Q (.ref l) (p7 H l (.lst xs))):qd K [.ref p] H Q:= .inl ⟨p,xs,rfl,.inl h,q⟩
theorem Ce {p:Addr}{ns:List Int}(h:SqL K H p (ns.map V.int))(q:Q (.int ns.sum) H):xV K [.ref p] H Q:=⟨p,ns,rfl,h,q⟩
theorem sk {i j:Int}(h:CMul i j)(q:Q (.int (i*j)) H):yI (.int i) (.int j) H Q:= .inl ⟨i,j,rfl,rfl,h,q⟩
theorem AR {to ti:TE}{t:pf}{v:V}{Qs:St→Hp→Prop}(q:to σ H fun o H1=>ti σ H1 fun i H2=>t o i v H2 fun H3=>Qs σ H3):xo to ti t v σ H Qs:=q
theorem u6 {a:Addr}{kvs:List (j8×V)}{k:j8}{v:V}{Qh:Hp→Prop}(h:H a=some (.dK kvs))(hl:kvs.length<sizeLine)(q:Qh (p7 H a (.dK (D0 kvs k v)))):pQ (.ref a) (kV k) v H Qh:= .inr ⟨a,_,rfl,DPut.k h hl,q⟩
theorem T4 {n:Nat}{t:oR}{a:Addr}{xs:List V}{Qs:St→Hp→Prop}(h:SqT K H a xs)(hl:xs.length=n)(q:t xs σ H Qs):tY K n t (.ref a) σ H Qs:=⟨a,xs,rfl,h,hl,q⟩
theorem xk {t:TG}{u:oR}{v:V}{r:List V}{Qs:St→Hp→Prop}(q:t v σ H fun σ' H'=>u r σ' H' Qs):pZ t u (v::r) σ H Qs:=⟨v,r,rfl,q⟩
theorem AI {Qs:St→Hp→Prop}(q:Qs σ H):zK [] σ H Qs:=⟨rfl,q⟩
theorem DR {T:String}{r:V→List V→Hp→VK→Prop}{to:TE}{t:TA}(q:to σ H fun x H1=>CO K T x H1∧t σ H1 fun xs H2=>r x xs H2 Q):DV K T r to t σ H Q:=q
theorem BK {T:String}{r:V→List V→Hp→VK→Prop}{to:TE}(q:to σ H fun x H1=>CO K T x H1∧r x [] H1 Q):yX K T r to σ H Q:=q
theorem aK {p:Addr}{x:V}{o:Option V}(g:aB H p x o)(q:Q (.bl o.isSome) H):AQ K x (.ref p) H Q:= .inr (.inr ⟨p,o,rfl,g,q⟩)
theorem Q8 {p:Addr}{x:V}{o:Option V}(g:aB H p x o)(q:Q (.bl (!o.isSome)) H):eY K x (.ref p) H Q:= .inr (.inr ⟨p,o,rfl,g,q⟩)
theorem L0 {a:Addr}{kvs:List (j8×V)}{k:j8}(e:Rd H a (.dK kvs)):aB H a (kV k) (z6 kvs k):= .inl ⟨kvs,k,e,rfl,rfl⟩
end
end L2
set_option Elab.async false
set_option linter.all false
set_option maxRecDepth 100000
set_option maxHeartbeats 4000000
namespace L2
open PySem PySem.Spec PyProof.Rows
open PySem.AutoSeq1 (wpAny_loadPart')
def EqP (P:Program)(w:World)(A:Around)(s:Shared)(y x:Value)(b:Bool):Prop:=∀(E:Value→Shared→Prop) (Q:Bool→Shared→Prop),Q b s→wpAny (model P w) A (eqBool y x) Q E s
def RcP (P:Program)(w:World)(A:Around)(s:Shared)(y x:Value)(b:Bool):Prop:=∀(E:Value→Shared→Prop) (Q:Value→Shared→Prop),Q (.bool b) s→wpAny (model P w) A (richCompare .Eq y x) Q E s
theorem EqP.of {P:Program}{w:World}{A:Around}{s:Shared}{y x:Value}{b:Bool}(h:SeqAt.EqAt A s y x b):EqP P w A s y x b:=fun E Q q=>h P w E Q q
theorem EqP.refs {P:Program}{w:World}{A:Around}{s:Shared}{l m:Addr}{k:Bool}(hne:l≠m)(h:RcP P w A s (.ref l) (.ref m) k):EqP P w A s (.ref l) (.ref m) k:=fun E Q q=>by
 unfold eqBool
 refine wpAny_holding (wpAny_ite_split (fun z=>absurd (Value.ref.inj (eq_of_beq z)) hne) fun _=>wpAny_bind (h E _ (wpAny_truthy_bool q)))
theorem zw {P:Program}{w:World}(l m:Addr)(xs ys:Array Value)(n1 n2:Nat)(d1 d2:Option Addr)(s1 s2:Array (Option Value))(f:Nat→Bool):
  MeetsIn P w (Builtin.«tuple.__eq__» ⟨[.ref l,.ref m],[]⟩) (fun A R s=>
   s.heap.get? l=some {cls:= .type "tuple",dict:=d1,data:= .seq xs n1,slots:=s1}∧s.heap.get? m=some {cls:= .type "tuple",dict:=d2,data:= .seq ys n2,slots:=s2}∧
   (∀j (g1:j<xs.size) (g2:j<ys.size),EqP P w A.in1 s xs[j] ys[j] (f j))∧
   R (.ok (.ret (.bool ((List.range (min xs.size ys.size)).all f&&xs.size==ys.size)))) s):=
 .of_wp fun A R s hyp=>by
  obtain⟨hp,gg,dr,tk,os⟩:=s
  obtain⟨e1,e2,he,fin⟩:=hyp
  have sub:=AutoSeq1.sub_tuple_tuple
  have len:(xs.toList.zip ys.toList).length=min xs.size ys.size:=by simp
  wp_walk using wpAny_loadPart' e1,wpAny_loadPart' e2,wpAny_forIn_list _ (fun more acc st=>acc.1=none∧st=⟨hp,gg,dr,tk,os⟩∧∃i,more=(xs.toList.zip ys.toList).drop i∧
   R (.ok (.ret (.bool (((List.range (min xs.size ys.size)).drop i).all f&&xs.size==ys.size)))) ⟨hp,gg,dr,tk,os⟩) _
  case turn=>
   rintro⟨y,x⟩ more acc st ⟨ha,rfl,i,hi,hR⟩
   have lt:i<(xs.toList.zip ys.toList).length:=by
    rcases Nat.lt_or_ge i (xs.toList.zip ys.toList).length with z|z
    ·exact z
    ·rw[List.drop_of_length_le z] at hi
     cases hi
   have lm:i<min xs.size ys.size:=len▸lt
   have lx:i<xs.size:=Nat.lt_of_lt_of_le lm (Nat.min_le_left _ _)
   have ly:i<ys.size:=Nat.lt_of_lt_of_le lm (Nat.min_le_right _ _)
   rw[List.drop_eq_getElem_cons lt] at hi
   injection hi with h1 h2
   have q1:y=xs[i]:=by simpa using congrArg Prod.fst h1
   have q2:x=ys[i]:=by simpa using congrArg Prod.snd h1
   subst q1 q2
   have dr1:(List.range (min xs.size ys.size)).drop i=i::(List.range (min xs.size ys.size)).drop (i+1):=by simp [List.drop_eq_getElem_cons,lm]
   rw[dr1,List.all_cons] at hR
   refine wpAny_bind (he i lx ly _ _ ?_)
   cases hf:f i with
   |true=>
    rw[hf] at hR
    wp_walk
    exact⟨rfl,rfl,i+1,h2,by simpa using hR⟩
   |false=>
    rw[hf] at hR
    wp_walk
    exact⟨_,rfl,by simpa using hR⟩
  case fin=>
   rintro⟨c1,c2⟩ st ⟨ha,rfl,i,hi,hR⟩
   simp only at ha
   subst ha
   have ge:min xs.size ys.size≤i:=by
    rcases Nat.lt_or_ge i (xs.toList.zip ys.toList).length with z|z
    ·rw[List.drop_eq_getElem_cons z] at hi
     cases hi
    ·exact len▸z
   rw[List.drop_of_length_le (by simpa using ge)] at hR
   wp_walk
   exact⟨_,rfl,by simpa [Builtin.Tuple.tupleCompareSizes] using hR⟩
  case h=>
   exact⟨rfl,rfl,0,rfl,by simpa using fin⟩
theorem RcP.tup {P:Program}{w:World}{A:Around}{s:Shared}{l m:Addr}{xs ys:Array Value}{f:Nat→Bool}(hl:s.heap.IsTuple l xs)(hm:s.heap.IsTuple m ys)(hu:A.units<cLine)
  (he:∀j (g1:j<xs.size) (g2:j<ys.size),EqP P w A.in1 s xs[j] ys[j] (f j)):RcP P w A s (.ref l) (.ref m) ((List.range (min xs.size ys.size)).all f&&xs.size==ys.size):=fun E Q q=>by
 obtain⟨⟨c1,d1,a1,s1⟩,o1,k1,n1,t1⟩:=id hl
 obtain⟨⟨c2,d2,a2,s2⟩,o2,k2,n2,t2⟩:=id hm
 simp only at k1 t1 k2 t2
 subst k1 t1 k2 t2
 refine wpAny_richCompare_same_room (op:= .Eq) ⟨_,o1,rfl⟩ ⟨_,o2,rfl⟩ PySem.F.slot_tuple_eq (call_meetsIn PySem.F.slot_tuple_eq ⟨_,o1,rfl⟩ PySem.F.entry_tuple_eq (PySem.F.args_tuple_eq_2 _ _) (zw l m xs ys n1 n2 d1 d2 s1 s2 f) ⟨o1,o2,he,?_⟩) hu
 exact⟨(fun z=>nomatch z),q⟩
def S8:List V→List V→Bool
 |[],[]=>true
 |x::xs,y::ys=>bH x y&&S8 xs ys
 |_,_=>false
inductive Eq1 (K:PySem.W.Frag) (H:Hp):V→V→Bool→Prop
 |flat {x y:V}:A0 x=true→A0 y=true→Eq1 K H x y (bH x y)
 |tup {a b:Addr} {xs ys:List V}:SqT K H a xs→SqT K H b ys→xs.all A0=true→ys.all A0=true→Eq1 K H (.ref a) (.ref b) (S8 xs ys)
 |nt {a:Addr} {xs:List V}:SqT K H a xs→Eq1 K H .non (.ref a) false
 |tn {a:Addr} {xs:List V}:SqT K H a xs→Eq1 K H (.ref a) .non false
theorem lF:∀{x:V},A0 x=true→bH x x=true
 | .non,_=>rfl
 | .bl b,_=>by simp [bH]
 | .int i,_=>by simp [bH]
 | .str x,_=>by simp [bH]
theorem dB:∀{xs:List V},xs.all A0=true→S8 xs xs=true
 |[],_=>rfl
 |x::xs,h=>by
  rw[List.all_cons,Bool.and_eq_true] at h
  show(bH x x&&S8 xs xs)=true
  rw[lF h.1,dB h.2];rfl
theorem M3:∀(xs ys:List V),((List.range (min xs.length ys.length)).all (fun j=>bH (xs.getD j .non) (ys.getD j .non))&&xs.length==ys.length)=S8 xs ys
 |[],[]=>rfl
 |[],_::_=>by simp [S8]
 |_::_,[]=>by simp [S8]
 |x::xs,y::ys=>by
  have ih:=M3 xs ys
  have e:min (x::xs).length (y::ys).length=min xs.length ys.length+1:=by simp
  rw[e,List.range_succ_eq_map,List.all_cons,List.all_map]
  show((bH x y&&(List.range (min xs.length ys.length)).all _)&&(xs.length+1==ys.length+1))=(bH x y&&S8 xs ys)
  rw[←ih,Bool.and_assoc]
  congr 1
  congr 1
  simp
section
variable {X:Cx} {pins:List (Addr×Obj)} {σ:St} {H:Hp} {s:Shared} {A:Around}
theorem Eq1.at_ {x y:V}{u v:Value}{b:Bool}(I:Inv X pins σ H s)(h:Eq1 X.K H x y b)(rx:RelV x u)(ry:RelV y v)(hu:A.units+8<cLine):SeqAt.EqAt A s u v b:=by
 cases h with
 |flat fx fy=>exact aH rx ry fx fy
 | @tup a c xs ys ha hc fx fy=>
  cases rx
  cases ry
  obtain⟨its,r1,p1,z1⟩:=I.tuple ha
  obtain⟨its',r2,p2,z2⟩:=I.tuple hc
  by_cases hac:a=c
  ·subst hac
   have e:=I.tuple_inj ha hc
   subst e
   rw[dB fx]
   exact SeqAt.EqAt.same _
  ·have l1:=r1.length
   have l2:=r2.length
   have q:=SeqAt.RcAt.tuples (A:=A) (e:=fun j=>bH (xs.getD j .non) (ys.getD j .non)) (show s.heap.IsTuple a its.toArray from p1) (show s.heap.IsTuple c its'.toArray from p2) (by lia) fun j g1 g2=>by
    have g1':j<its.length:=by simpa using g1
    have g2':j<its'.length:=by simpa using g2
    have x1:xs[j]?=some (xs[j]'(by lia)):=by simp [show j<xs.length by lia]
    have y1:ys[j]?=some (ys[j]'(by lia)):=by simp [show j<ys.length by lia]
    obtain⟨u1,hu1,ru1⟩:=r1.get x1
    obtain⟨u2,hu2,ru2⟩:=r2.get y1
    have e1:its.toArray[j]=u1:=by
     have:=List.getElem?_eq_getElem g1'
     rw[hu1] at this
     simpa using(Option.some.inj this).symm
    have e2:its'.toArray[j]=u2:=by
     have:=List.getElem?_eq_getElem g2'
     rw[hu2] at this
     simpa using(Option.some.inj this).symm
    rw[e1,e2]
    have d1:xs.getD j .non=xs[j]'(by lia):=by rw[List.getD_eq_getElem?_getD,x1];rfl
    have d2:ys.getD j .non=ys[j]'(by lia):=by rw[List.getD_eq_getElem?_getD,y1];rfl
    rw[d1,d2]
    exact aH ru1 ru2 (List.all_eq_true.mp fx _ (List.getElem_mem _)) (List.all_eq_true.mp fy _ (List.getElem_mem _))
   have e3:its.toArray.size=xs.length:=by simp [l1]
   have e4:its'.toArray.size=ys.length:=by simp [l2]
   rw[e3,e4,M3] at q
   exact .of_refs hac q
 | @nt a xs ha=>
  cases rx
  cases ry
  obtain⟨its,r1,p1,z1⟩:=I.tuple ha
  exact SeqAt.EqAt.none_tuple (show s.heap.IsTuple a its.toArray from p1) (by lia)
 | @tn a xs ha=>
  cases rx
  cases ry
  obtain⟨its,r1,p1,z1⟩:=I.tuple ha
  exact SeqAt.EqAt.tuple_none (show s.heap.IsTuple a its.toArray from p1) (by lia)
end
inductive EqH (K:PySem.W.Frag) (H:Hp) (kb:List (j8×V)):List (j8×V)→Bool→Prop
 |nil:EqH K H kb [] true
 |miss {k:j8} {v:V} {r:List (j8×V)}:z6 kb k=none→EqH K H kb ((k,v)::r) false
 |hit {k:j8} {v y:V} {r:List (j8×V)} {e b:Bool}:z6 kb k=some y→Eq1 K H v y e→EqH K H kb r b→EqH K H kb ((k,v)::r) (e&&b)
def EqD (K:PySem.W.Frag)(H:Hp)(a b:Addr)(r:Bool):Prop:=(a=b∧r=true)∨(a≠b∧∃ka kb r0,Rd H a (.dK ka)∧Rd H b (.dK kb)∧EqH K H kb ka r0∧r=(ka.length==kb.length&&r0))
section
variable {X:Cx} {pins:List (Addr×Obj)} {σ:St} {H:Hp} {s:Shared} {A:Around}
theorem EqH.hits {kb:List (j8×V)}{vb:List (j8×Value)}(I:Inv X pins σ H s)(hu:A.units+8<cLine)(rb:KV kb vb){ka:List (j8×V)}{r:Bool}(h:EqH X.K H kb ka r):∀{va:List (j8×Value)},KV ka va→PySem.W.KeqHits A s vb va r:=by
 induction h with
 |nil=>
  intro va t
  cases t
  exact .nil
 | @miss k v r hn=>
  intro va t
  cases t with
  | @cons _ q _ l e t=>
   obtain⟨k',u⟩:=q
   have ek':k=k':=e.1
   subst ek'
   refine .miss ?_
   have z:=KV.val rb k
   rw[hn] at z
   cases e:valueAt vb k with
   |none=>rfl
   |some y=>rw[e] at z;exact False.elim z
 | @hit k v y r e b hy h1 hr ih=>
  intro va t
  cases t with
  | @cons _ q _ l e t=>
   obtain⟨k',u⟩:=q
   have ek':k=k':=e.1
   subst ek'
   have z:=KV.val rb k
   rw[hy] at z
   cases e5:valueAt vb k with
   |none=>rw[e5] at z;exact False.elim z
   |some y'=>
    rw[e5] at z
    exact .hit e5 (h1.at_ I e.2 z hu) (ih t)
theorem EqD.at_ {a b:Addr}{r:Bool}(I:Inv X pins σ H s)(h:EqD X.K H a b r)(hu:A.units+16<cLine):EqP X.prog X.w A s (.ref a) (.ref b) r:=by
 rcases h with⟨rfl,rfl⟩|⟨hne,ka,kb,r0,h1,h2,h3,rfl⟩
 ·exact .of (SeqAt.EqAt.same _)
 ·obtain⟨z1,d1,va,ra,da⟩:=E8 I.hok h1
  obtain⟨z2,d2,vb,rb,db⟩:=E8 I.hok h2
  refine .refs hne fun E Q q=>?_
  have l1:=KV.length ra
  have l2:=KV.length rb
  exact PySem.W.keq_eq (knd:=k8 X.prog X.w) d1 d2 da db (by lia) (fun _=>h3.hits (A:=A.in1) I (by show A.units+1+8<_;lia) rb ra) (by rw[←l1,←l2];exact q)
def Dg (K:PySem.W.Frag):R2:=fun x y H Q=>∃a b p q p' q' r r',x= .ref a∧y= .ref b∧SqT K H a [.ref p,.ref q]∧SqT K H b [.ref p',.ref q']∧EqD K H p p' r∧EqD K H q q' r'∧Q (.bl (r&&r')) H
theorem zM (hu:X.A.units+64<cLine):OpR X (compareOp .Eq) (Dg X.K):=by
 intro pins s σ H x y v u Q I rx ry h
 obtain⟨a,b,p,q,p',q',r,r',rfl,rfl,ha,hb,h1,h2,k⟩:=h
 cases rx
 cases ry
 obtain⟨its,v1,t1,_⟩:=I.tuple ha
 obtain⟨its',v2,t2,_⟩:=I.tuple hb
 obtain⟨_,_,rfl,e1,e2⟩:=dG v1
 obtain⟨_,_,rfl,e3,e4⟩:=dG v2
 cases e1
 cases e2
 cases e3
 cases e4
 refine RcP.tup (P:=X.prog) (w:=X.w) (f:=fun j=>if j=0 then r else r') (show s.heap.IsTuple a _ from t1) (show s.heap.IsTuple b _ from t2) (by lia) (fun j g1 g2=>?_) _ _ ⟨.bl (r&&r'),H,I,by show Value.bool _=Value.bool _;simp [List.range_succ],k⟩
 have g:j<2:=by simpa using g1
 match j,g with
 |0,_=>exact h1.at_ I (by show X.A.units+1+16<_;lia)
 |1,_=>exact h2.at_ I (by show X.A.units+1+16<_;lia)
def CM (K:PySem.W.Frag):R2:=fun x y H Q=>∃a b xs ys,x= .ref a∧y= .ref b∧SqL K H a xs∧SqL K H b ys∧xs.all A0=true∧ys.all A0=true∧Q (.bl (S8 xs ys)) H
theorem gW:∀{xs ys:List V},xs.length≠ys.length→S8 xs ys=false
 |[],[],h=>absurd rfl h
 |[],_::_,_=>rfl
 |_::_,[],_=>rfl
 |x::xs,y::ys,h=>by
  show(bH x y&&S8 xs ys)=false
  rw[gW (by simpa using h),Bool.and_false]
theorem An (hu:X.A.units+64<cLine):OpR X (compareOp .Eq) (CM X.K):=by
 intro pins s σ H x y v u Q I rx ry h
 obtain⟨a,b,xs,ys,rfl,rfl,ha,hb,fx,fy,k⟩:=h
 cases rx
 cases ry
 obtain⟨its,r1,p1,z1⟩:=I.list ha
 obtain⟨its',r2,p2,z2⟩:=I.list hb
 have l1:=r1.length
 have l2:=r2.length
 have e3:its.toArray.size=xs.length:=by simp [l1]
 have e4:its'.toArray.size=ys.length:=by simp [l2]
 by_cases hl:xs.length=ys.length
 ·have q:=SeqAt.RcAt.lists (A:=X.A) (e:=fun j=>bH (xs.getD j .non) (ys.getD j .non)) p1.isList p2.isList (by rw[e3,e4];exact hl) (by lia) fun j g1 g2=>by
   have g1':j<its.length:=by simpa using g1
   have g2':j<its'.length:=by simpa using g2
   have x1:xs[j]?=some (xs[j]'(by lia)):=by simp [show j<xs.length by lia]
   have y1:ys[j]?=some (ys[j]'(by lia)):=by simp [show j<ys.length by lia]
   obtain⟨u1,hu1,ru1⟩:=r1.get x1
   obtain⟨u2,hu2,ru2⟩:=r2.get y1
   have e1:its.toArray[j]=u1:=by
    have:=List.getElem?_eq_getElem g1'
    rw[hu1] at this
    simpa using(Option.some.inj this).symm
   have e2:its'.toArray[j]=u2:=by
    have:=List.getElem?_eq_getElem g2'
    rw[hu2] at this
    simpa using(Option.some.inj this).symm
   rw[e1,e2]
   have d1:xs.getD j .non=xs[j]'(by lia):=by rw[List.getD_eq_getElem?_getD,x1];rfl
   have d2:ys.getD j .non=ys[j]'(by lia):=by rw[List.getD_eq_getElem?_getD,y1];rfl
   rw[d1,d2]
   exact aH ru1 ru2 (List.all_eq_true.mp fx _ (List.getElem_mem _)) (List.all_eq_true.mp fy _ (List.getElem_mem _))
  have e5:=M3 xs ys
  rw[hl,Nat.min_self,beq_self_eq_true,Bool.and_true] at e5
  rw[e3,hl,e5] at q
  exact q X.prog X.w _ _ ⟨.bl _,H,I,rfl,k⟩
 ·refine SeqAt.RcAt.lists_lengths (A:=X.A) p1.isList p2.isList (by rw[e3,e4];simpa using hl) (by lia) X.prog X.w _ _ ⟨.bl _,H,I,?_,k⟩
  rw[gW hl];rfl
def Dm (K:PySem.W.Frag):R2:=fun x y H Q=>(∃a b xs ys,x= .ref a∧y= .ref b∧SqT K H a xs∧SqT K H b ys∧xs.all A0=true∧ys.all A0=true∧Q (.bl (S8 xs ys)) H)∨(∃a xs,x= .non∧y= .ref a∧SqT K H a xs∧Q (.bl false) H)
theorem yY (hu:X.A.units+64<cLine):OpR X (compareOp .Eq) (Dm X.K):=by
 intro pins s σ H x y v u Q I rx ry h
 rcases h with⟨a,b,xs,ys,rfl,rfl,ha,hb,fx,fy,k⟩|⟨a,xs,rfl,rfl,ha,k⟩
 ·cases rx
  cases ry
  obtain⟨its,r1,p1,z1⟩:=I.tuple ha
  obtain⟨its',r2,p2,z2⟩:=I.tuple hb
  have l1:=r1.length
  have l2:=r2.length
  have q:=SeqAt.RcAt.tuples (A:=X.A) (e:=fun j=>bH (xs.getD j .non) (ys.getD j .non)) (show s.heap.IsTuple a its.toArray from p1) (show s.heap.IsTuple b its'.toArray from p2) (by lia) fun j g1 g2=>by
   have g1':j<its.length:=by simpa using g1
   have g2':j<its'.length:=by simpa using g2
   have x1:xs[j]?=some (xs[j]'(by lia)):=by simp [show j<xs.length by lia]
   have y1:ys[j]?=some (ys[j]'(by lia)):=by simp [show j<ys.length by lia]
   obtain⟨u1,hu1,ru1⟩:=r1.get x1
   obtain⟨u2,hu2,ru2⟩:=r2.get y1
   have e1:its.toArray[j]=u1:=by
    have:=List.getElem?_eq_getElem g1'
    rw[hu1] at this
    simpa using(Option.some.inj this).symm
   have e2:its'.toArray[j]=u2:=by
    have:=List.getElem?_eq_getElem g2'
    rw[hu2] at this
    simpa using(Option.some.inj this).symm
   rw[e1,e2]
   have d1:xs.getD j .non=xs[j]'(by lia):=by rw[List.getD_eq_getElem?_getD,x1];rfl
   have d2:ys.getD j .non=ys[j]'(by lia):=by rw[List.getD_eq_getElem?_getD,y1];rfl
   rw[d1,d2]
   exact aH ru1 ru2 (List.all_eq_true.mp fx _ (List.getElem_mem _)) (List.all_eq_true.mp fy _ (List.getElem_mem _))
  have e3:its.toArray.size=xs.length:=by simp [l1]
  have e4:its'.toArray.size=ys.length:=by simp [l2]
  rw[e3,e4,M3] at q
  exact q X.prog X.w _ _ ⟨.bl _,H,I,rfl,k⟩
 ·cases rx
  cases ry
  obtain⟨its,r1,p1,z1⟩:=I.tuple ha
  exact SeqAt.RcAt.none_tuple (A:=X.A) (show s.heap.IsTuple a its.toArray from p1) (by lia) X.prog X.w _ _ ⟨.bl false,H,I,rfl,k⟩
def oY (K:PySem.W.Frag):R2:=fun x y H Q=>Dy x y H Q∨CM K x y H Q∨Dm K x y H Q∨Dg K x y H Q
theorem Ft (K:PySem.W.Frag){k:Nat}(hr:Room k X.A)(h:X.K=K:=by rfl):OpR X (compareOp .Eq) (oY K):=h▸op_eq.or ((An hr.units).or ((yY hr.units).or (zM hr.units)))
end
section
variable {K:PySem.W.Frag} {H:Hp} {Q:VK}
theorem vc {i j:Int}(q:Q (.bl (decide (i=j))) H):oY K (.int i) (.int j) H Q:= .inl (lC q)
theorem uP {i j:Str}(q:Q (.bl (decide (i=j))) H):oY K (.str i) (.str j) H Q:= .inl (mL q)
theorem tU {a b:Addr}{xs ys:List V}(ha:SqT K H a xs)(hb:SqT K H b ys)(fx:xs.all A0=true)(fy:ys.all A0=true)(q:Q (.bl (S8 xs ys)) H):oY K (.ref a) (.ref b) H Q:= .inr (.inr (.inl (.inl ⟨a,b,xs,ys,rfl,rfl,ha,hb,fx,fy,q⟩)))
end
end L2
set_option Elab.async false
set_option linter.all false
set_option maxRecDepth 100000
set_option maxHeartbeats 4000000
namespace L2
open PySem PySem.Spec PyProof.Rows
section
variable {K:PySem.W.Frag} {σ:St} {H H' H1:Hp} {Q:VK} {d:Addr} {kvs:List (j8×V)} {o:Obj}
theorem lD {i j:Int}(q:Q (.bl (!decide (i=j))) H):EK (.int i) (.int j) H Q:=⟨rfl,by rw[eX];rw[show(i==j)=decide (i=j) from Bool.beq_eq_decide_eq i j];exact q⟩
theorem EM {r:V→Hp→VK→Prop}{ta:TE}(q:ta σ H fun x H1=>r x H1 Q):Ej r ta σ H Q:=q
theorem Cd {i:Int}(q:Q (.int (-i)) H):rU (fun i=> .int (-i)) (.int i) H Q:=⟨i,rfl,q⟩
def nf:HO→Bool
 | .frz _ _=>false
 |_=>true
def Le (H H':Hp):Prop:=∀a u,nf u=true→Rd H a u→Rd H' a u
theorem Le.trans (a:Le H H1)(b:Le H1 H'):Le H H':=fun x u n h=>b x u n (a x u n h)
theorem Same.le (s:Same H H'):Le H H':=fun a u _ h=>s.rd h
theorem bP (h:H d=some (.dK kvs)):Le H (K0 d o kvs H):=fun a u n r=>by
 by_cases e:a=d
 ·subst e
  rcases r with r|⟨o',r⟩
  ·rw[h] at r;cases r
   exact .inr ⟨o,j7⟩
  ·rw[h] at r;cases r
 ·unfold K0 Rd
  rw[d7 e];exact r
theorem jW:Le H (thaw d H):=fun a u n r=>by
 by_cases e:a=d
 ·subst e
  rcases r with r|⟨o',r⟩
  ·rw[pU fun o v z=>by rw[r] at z;cases z;cases n];exact .inl r
  ·exact .inl (jB r)
 ·unfold Rd
  rw[O8 e];exact r
theorem Le.tup {a:Addr}{xs:List V}(l:Le H H')(h:SqT K H a xs):SqT K H' a xs:=by
 rcases h with h|h
 ·exact .inl (l _ _ rfl h)
 ·exact .inr h
theorem Le.dic {a:Addr}(l:Le H H')(h:Rd H a (.dK kvs)):Rd H' a (.dK kvs):=l _ _ rfl h
abbrev N9:=Str×Str×Str
structure E7 where
 pts:List (Str×Str)
 ts:List (Str×N9)
def r6 (pts:List (Str×Str)):List (j8×V):=pts.map fun x=>(Sum.inr x.1,.str x.2)
def aP (t:N9):List V:=[.str t.1,.str t.2.1,.str t.2.2]
def TieAt (K:PySem.W.Frag)(H:Hp)(kv:j8×V)(x:Str×N9):Prop:=kv.1=Sum.inr x.1∧∃a,kv.2= .ref a∧SqT K H a (aP x.2)
def TiesIs (K:PySem.W.Frag)(H:Hp)(kvs:List (j8×V))(ts:List (Str×N9)):Prop:=Paired (TieAt K H) kvs ts
structure WebAt (K:PySem.W.Frag) (H:Hp) (a p q:Addr) (kvs:List (j8×V)) (W:E7):Prop where
 tup:SqT K H a [.ref p,.ref q]
 pts:Rd H p (.dK (r6 W.pts))
 ties:Rd H q (.dK kvs)
 ts:TiesIs K H kvs W.ts
theorem TieAt.mono {kv:j8×V}{x:Str×N9}(l:Le H H')(h:TieAt K H kv x):TieAt K H' kv x:=let ⟨e,a,ea,s⟩:=h;⟨e,a,ea,l.tup s⟩
theorem TiesIs.mono {ts:List (Str×N9)}(l:Le H H')(h:TiesIs K H kvs ts):TiesIs K H' kvs ts:=Paired.imp' (fun _ _ z=>z.mono l) h
theorem WebAt.mono {a p q:Addr}{W:E7}(l:Le H H')(h:WebAt K H a p q kvs W):WebAt K H' a p q kvs W:=⟨l.tup h.tup,l.dic h.pts,l.dic h.ties,h.ts.mono l⟩
theorem TiesIs.length {ts:List (Str×N9)}(h:TiesIs K H kvs ts):kvs.length=ts.length:=Paired.length h
theorem TiesIs.keys {ts:List (Str×N9)}(h:TiesIs K H kvs ts):kvs.map (·.1)=ts.map fun x=>Sum.inr x.1:=by
 unfold TiesIs at h
 induction h with
 |nil=>rfl
 |cons r _ ih=>rw[List.map_cons,List.map_cons,ih,r.1]
theorem TiesIs.get {ts:List (Str×N9)}{i:Nat}{kv:j8×V}(h:TiesIs K H kvs ts)(e:kvs[i]?=some kv):∃x,ts[i]?=some x∧TieAt K H kv x:=F2 h e
theorem TiesIs.val {ts:List (Str×N9)}{n:Str}:∀{kvs:List (j8×V)} {ts:List (Str×N9)},TiesIs K H kvs ts→n∈ts.map (·.1)→∃a x,z6 kvs (Sum.inr n:j8)=some (.ref a)∧(n,x)∈ts∧SqT K H a (aP x)
 |_,_,.nil,h=>by simp at h
 |kv::r,x::ts,.cons t u,h=>by
  obtain⟨e,a,ea,s⟩:=t
  by_cases hn:x.1=n
  ·subst hn
   refine⟨a,x.2,?_,List.mem_cons_self,s⟩
   rw[V2 e,ea]
  ·have h':n∈ts.map (·.1):=by
    rcases List.mem_cons.mp h with z|z
    ·exact absurd z.symm hn
    ·exact z
   obtain⟨b,y,h1,h2,h3⟩:=TiesIs.val (ts:=ts) u h'
   refine⟨b,y,?_,List.mem_cons_of_mem _ h2,h3⟩
   rw[V3 (by rw[e];intro z;exact hn (Sum.inr.inj z))]
   exact h1
theorem C5 (pts:List (Str×Str)):(r6 pts).map (·.1)=pts.map fun x=>Sum.inr x.1:=by
 unfold r6
 rw[List.map_map];rfl
def lt (a b:Str):Bool:=decide (a.cps.toList<b.cps.toList)
end
end L2
set_option Elab.async false
set_option linter.all false
set_option maxRecDepth 100000
set_option maxHeartbeats 4000000
namespace L2
open PySem PySem.Spec PyProof.Rows
theorem Inv.off {X:Cx}{pins:List (Addr×Obj)}{σ:St}{H:Hp}{s:Shared}{C:Addr}{h':Heap}(I:Inv X pins σ H s)(hH:H C=none)(h0:X.s₀.heap.objs.size≤C)(h1:C≠X.env.locals)(h2:∀x c,X.env.cells.lookup x=some c→c≠C)(h3:∀p∈X.pn++pins,p.1≠C)(sb:Heap.SameBut C s.heap h'):Inv X pins σ H {s with heap:=h'}:=by
 refine I.call' (s':={s with heap:=h'}) (ch:=[C]) rfl ?_ ?_ I.bare fun b hb=>?_
 ·have same:∀b,b∉[C]→h'.get? b=s.heap.get? b:=fun b hb=>sb.2 b fun z=>hb (by rw[z];exact List.mem_cons_self)
  refine⟨fun b o q n hb hx=>?_,fun b o q n hb hx=>?_,fun b o q n hx=>n,fun b o q hx=>?_,fun b xs q=>q,fun b o u q=>q,fun b ps q=>⟨#[],by rw[Array.append_empty];exact q⟩⟩
  ·show h'.get? b=_
   rw[same b hx];exact q
  ·exact⟨o.slots,(same b hx).trans q⟩
  ·exact⟨o,(same b hx).trans q⟩
 ·refine fun b ob e=>(I.hok b ob e).stay (fun c w' hc q=>(sb.2 c ?_).trans q) (fun _ q=>q) fun _ _ q=>q
  rintro rfl
  rcases hc with rfl|hc
  ·rw[hH] at e;cases e
  ·rw[hH] at hc;cases hc
 ·rw[List.mem_singleton.mp hb]
  exact⟨.inr h0,h1,h2,h3⟩
theorem oJ {X:Cx}{own:List Str}{js:List Nat}{scope:Scope}{tg iter elt:Expr}{ifs:List Expr}{pos spos py:Pos}{g:TG}{ti:TT}{te:TE}{wi:mX}{i:Nat}{y:Str}(hN:X.N.Nodup)(hy:X.N[i]?=some y)(hl:yL X.env.scope y)(S:Bw X own js scope=true)(hc:X.calm=true)(hit:wA X tg iter wi)
  (hg:∀C s H fp,PG (bj X own js scope C s H fp) tg g) (hi:∀C s H fp,nQ (bj X own js scope C s H fp) ifs ti) (he:∀C s H fp,PE (bj X own js scope C s H fp) elt te)
  (hsw:swapsWith (.ListComp elt [⟨tg,iter,ifs,0⟩] scope pos) (some (.Name y py)) spos.line X.env=pure true)
  (hf:X.fn y=true∨X.env.scope.names.lookup y=some .local)
  (hs:∀x,foldedSetIterable iter X.env x=pure x):
  PS X (.Assign [.Name y py] (.ListComp elt [⟨tg,iter,ifs,0⟩] scope pos) spos) (oz (fw own js wi g ti te) (ai i)):=by
 have SB:=uC S
 intro pins s σ H D I h
 rw[exec_Assign_Name_used _ _ _ _ hsw]
 refine wpAny_bind (wpAny_standAt (wpAny_bind ?_))
 show wpAny _ X.A (do let _←comprehension (.ListComp elt [⟨tg,iter,ifs,0⟩] scope pos) scope X.env _ (newList []) false (eval iter X.env) (some (assign (.Name y py) X.env))) _ _ s
 refine wpAny_bind (wpAny_mono (wpAny_comprehension_free (use:=some (assign (.Name y py) X.env)) (Q:=fun _ s'=>SP X pins D .next s') rfl hs (hU (SB.cells I)) SB.kind SB.names (K2 (hit pins s σ H _ I h) fun v s1 h1=>K2 h1 fun itv s2 h2=>?_)) (fun _ s' hq=>wpAny_pure (wpAny_pure hq)) fun _ _ e=>e)
 obtain⟨it,fp,tn,J,H2,e,I2,T,st2,f2,th,hth,W,⟨m0,w0⟩,turn⟩:=h2
 subst e
 refine wpAny_newObj_type (wpAny_newFunctionEnv SB.nocell (by intro y hy;simp at hy) (fun h₁ hns₁ hsb₁=>?_) SB.kind)
 dsimp only at hns₁ hsb₁⊢
 generalize hH2:s2.heap.push {cls:= .type "list",dict:=none,data:= .seq ([]:List Value).toArray}=G2 at hns₁ hsb₁⊢
 have hCs:G2.objs.size=s2.heap.objs.size+1:=by rw[←hH2,Heap.size_push]
 have hDC:s2.heap.objs.size≠G2.objs.size:=by rw[hCs];exact Nat.ne_of_lt (Nat.lt_succ_self _)
 have hC:s2.heap.objs.size≤G2.objs.size:=by rw[hCs];exact Nat.le_succ _
 have old:∀b o,s2.heap.get? b=some o→h₁.get? b=some o:=fun b o e=>
  hsb₁.extBut b o (Nat.ne_of_lt (Nat.lt_of_lt_of_le (Heap.lt_size e) hC)) (Heap.get?_push_of_some _ (hH2▸Heap.get?_push_of_some _ e))
 have off:∀b o,s2.heap.get? b=some o→b≠G2.objs.size:=fun b o e=>Nat.ne_of_lt (Nat.lt_of_lt_of_le (Heap.lt_size e) hC)
 have hob:∀b∈fp,∃o,s2.heap.get? b=some o:=fun b hb=>let ⟨o,e,_⟩:=T.obj _ _ st2 b hb;⟨o,e⟩
 have hacc:h₁.get? s2.heap.objs.size=some {cls:= .type "list",data:= .seq ([]:List Value).toArray}:=
  hsb₁.extBut _ _ hDC (Heap.get?_push_of_some _ (hH2▸Heap.get?_push_size _ rfl))
 have loop:∀s3:Shared,s3={s2 with heap:=h₁,toks:=s2.toks+([]:List (Str×Value)).length}→
   codeAny (model X.prog X.w) X.A (.compLoop (.ListComp elt [⟨tg,iter,ifs,0⟩] scope pos) 0 (.ref it) (.ref s2.heap.objs.size) (compEnvC scope (eL scope X.env) G2.objs.size X.env))
    (compPost (model X.prog X.w) X.A X.xe (some (assign (.Name y py) X.env)) (fun _ s'=>SP X pins D .next s') (.ref s2.heap.objs.size) G2.objs.size) s3:=by
  rintro s3 rfl
  refine ju (K:=fun out H'=>ai i (.ref s2.heap.objs.size) σ (th (p7 H' s2.heap.objs.size (.lst out))) D.nx) SB hc T I2 f2 (Nat.le_refl _) hC hDC hob (hg _ _ _ _) (hi _ _ _ _) (he _ _ _ _) W (fun i m out H' w=>?_) (fun out H' s' B hl' k=>?_) w0
   ⟨Inv.block SB I2 f2 hob hC hns₁ old,I2.hok.fresh (Nat.le_refl _),[],_,.nil,hacc⟩ (T.keep _ _ _ st2 fun b _ o e=>old b o e) (fun b hb=>(f2 b hb).1)
  ·rcases turn i m out H' w with⟨a,b⟩|c
   ·exact .inl ⟨a,fun n=>b _ n⟩
   ·exact .inr c
  ·obtain⟨mm,hn,_⟩:=B.inv.loc
   have hHC:H' G2.objs.size=none:=B.inv.free
   have IJ:=B.out I2 f2 (Nat.le_refl _) hC hDC hl' (h':=s'.heap) (Heap.SameBut.refl _ _)
   show wpAny _ X.A (assign (.Name y py) X.env (.ref s2.heap.objs.size)) _ _ s'
   refine wpAny_assign_Name (jo IJ hN hy hl (v:= .ref s2.heap.objs.size) rfl (fun s'' I'' hx=>?_) hf)
   obtain⟨a,sa,ha⟩:=hx
   have haC:G2.objs.size≠a:=by
    rcases ha with rfl|ha
    ·exact Ne.symm (Nat.ne_of_lt (Nat.lt_of_lt_of_le I2.lt hC))
    ·obtain⟨_,o,ho,_⟩:=I2.cell _ _ ha
     exact Ne.symm (off _ _ ho)
   refine⟨mm,hn.sameBut sa haC,fun h' sb=>⟨_,_,hth _ _ _ _ (I''.off (by rw[d7 (Ne.symm hDC)];exact hHC) (Nat.le_trans I2.sz hC) (Ne.symm (Nat.ne_of_lt (Nat.lt_of_lt_of_le I2.lt hC))) (fun x c e=>?_) (fun p hp=>off _ _ (I2.pin p hp).1) sb),k⟩⟩
   obtain⟨_,o,ho,_⟩:=I2.cell _ _ e
   exact off _ _ ho
 exact codeAny_compStart_list (loop _ rfl) (T.self _ 0 _ _ _ (T.keep _ _ _ st2 fun b _ o e=>old b o e) (loop _ rfl))
theorem tH {X:Cx}{own:List Str}{js:List Nat}{scope:Scope}{tg iter elt:Expr}{ifs:List Expr}{pos spos py:Pos}{g:TG}{ti:TT}{te:TE}{wi:mX}{i:Nat}{y:Str}(hN:X.N.Nodup)(hy:X.N[i]?=some y)(hl:yL X.env.scope y)(S:Bw X own js scope=true)(hc:X.calm=true)(hit:QI X tg iter wi)
  (hg:∀C s H fp,QG (bj X own js scope C s H fp) tg g) (hi:∀C s H fp,DG (bj X own js scope C s H fp) ifs ti) (he:∀C s H fp,QE (bj X own js scope C s H fp) elt te)
  (hsw:swapsWith (.ListComp elt [⟨tg,iter,ifs,0⟩] scope pos) (some (.Name y py)) spos.line X.env=pure true:=by rfl)
  (hf:X.fn y=true∨X.env.scope.names.lookup y=some .local:=by first|exact .inl rfl|exact .inr rfl)
  (hs:∀x,foldedSetIterable iter X.env x=pure x:=by intro _;rfl):QS X (.Assign [.Name y py] (.ListComp elt [⟨tg,iter,ifs,0⟩] scope pos) spos) (oz (fw own js wi g ti te) (ai i)):=
 ⟨oJ hN hy hl S hc hit.r (fun C s H fp=>(hg C s H fp).r) (fun C s H fp=>(hi C s H fp).r) (fun C s H fp=>(he C s H fp).r) hsw hf hs⟩
end L2
set_option Elab.async false
set_option linter.all false
set_option maxRecDepth 100000
set_option maxHeartbeats 4000000
namespace L2
open PySem PySem.Spec PyProof.Rows
open PySem.AutoSeq1 (wpAny_loadPart')
def NcP (P:Program)(w:World)(A:Around)(s:Shared)(y x:Value)(b:Bool):Prop:=∀(E:Value→Shared→Prop) (Q:Value→Shared→Prop),Q (.bool b) s→wpAny (model P w) A (richCompare .NotEq y x) Q E s
theorem Ao {P:Program}{w:World}(l m:Addr)(xs ys:Array Value)(n1 n2:Nat)(d1 d2:Option Addr)(s1 s2:Array (Option Value))(f:Nat→Bool):
  MeetsIn P w (Builtin.«tuple.__ne__» ⟨[.ref l,.ref m],[]⟩) (fun A R s=>
   s.heap.get? l=some {cls:= .type "tuple",dict:=d1,data:= .seq xs n1,slots:=s1}∧s.heap.get? m=some {cls:= .type "tuple",dict:=d2,data:= .seq ys n2,slots:=s2}∧
   (∀j (g1:j<xs.size) (g2:j<ys.size),EqP P w A.in1 s xs[j] ys[j] (f j))∧
   R (.ok (.ret (.bool (!((List.range (min xs.size ys.size)).all f&&xs.size==ys.size))))) s):=
 .of_wp fun A R s hyp=>by
  obtain⟨hp,gg,dr,tk,os⟩:=s
  obtain⟨e1,e2,he,fin⟩:=hyp
  have sub:=AutoSeq1.sub_tuple_tuple
  have len:(xs.toList.zip ys.toList).length=min xs.size ys.size:=by simp
  wp_walk using wpAny_loadPart' e1,wpAny_loadPart' e2,wpAny_forIn_list _ (fun more acc st=>acc.1=none∧st=⟨hp,gg,dr,tk,os⟩∧∃i,more=(xs.toList.zip ys.toList).drop i∧
   R (.ok (.ret (.bool (!(((List.range (min xs.size ys.size)).drop i).all f&&xs.size==ys.size))))) ⟨hp,gg,dr,tk,os⟩) _
  case turn=>
   rintro⟨y,x⟩ more acc st ⟨ha,rfl,i,hi,hR⟩
   have lt:i<(xs.toList.zip ys.toList).length:=by
    rcases Nat.lt_or_ge i (xs.toList.zip ys.toList).length with z|z
    ·exact z
    ·rw[List.drop_of_length_le z] at hi
     cases hi
   have lm:i<min xs.size ys.size:=len▸lt
   have lx:i<xs.size:=Nat.lt_of_lt_of_le lm (Nat.min_le_left _ _)
   have ly:i<ys.size:=Nat.lt_of_lt_of_le lm (Nat.min_le_right _ _)
   rw[List.drop_eq_getElem_cons lt] at hi
   injection hi with h1 h2
   have q1:y=xs[i]:=by simpa using congrArg Prod.fst h1
   have q2:x=ys[i]:=by simpa using congrArg Prod.snd h1
   subst q1 q2
   have dr1:(List.range (min xs.size ys.size)).drop i=i::(List.range (min xs.size ys.size)).drop (i+1):=by simp [List.drop_eq_getElem_cons,lm]
   rw[dr1,List.all_cons] at hR
   refine wpAny_bind (he i lx ly _ _ ?_)
   cases hf:f i with
   |true=>
    rw[hf] at hR
    wp_walk
    exact⟨rfl,rfl,i+1,h2,by simpa using hR⟩
   |false=>
    rw[hf] at hR
    wp_walk
    exact⟨_,rfl,by simpa using hR⟩
  case fin=>
   rintro⟨c1,c2⟩ st ⟨ha,rfl,i,hi,hR⟩
   simp only at ha
   subst ha
   have ge:min xs.size ys.size≤i:=by
    rcases Nat.lt_or_ge i (xs.toList.zip ys.toList).length with z|z
    ·rw[List.drop_eq_getElem_cons z] at hi
     cases hi
    ·exact len▸z
   rw[List.drop_of_length_le (by simpa using ge)] at hR
   wp_walk
   exact⟨_,rfl,by simpa [Builtin.Tuple.tupleCompareSizes,bne] using hR⟩
  case h=>
   exact⟨rfl,rfl,0,rfl,by simpa using fin⟩
theorem NcP.tup {P:Program}{w:World}{A:Around}{s:Shared}{l m:Addr}{xs ys:Array Value}{f:Nat→Bool}(hl:s.heap.IsTuple l xs)(hm:s.heap.IsTuple m ys)(hu:A.units<cLine)
  (he:∀j (g1:j<xs.size) (g2:j<ys.size),EqP P w A.in1 s xs[j] ys[j] (f j)):NcP P w A s (.ref l) (.ref m) (!((List.range (min xs.size ys.size)).all f&&xs.size==ys.size)):=fun E Q q=>by
 obtain⟨⟨c1,d1,a1,s1⟩,o1,k1,n1,t1⟩:=id hl
 obtain⟨⟨c2,d2,a2,s2⟩,o2,k2,n2,t2⟩:=id hm
 simp only at k1 t1 k2 t2
 subst k1 t1 k2 t2
 refine wpAny_richCompare_same_room (op:= .NotEq) ⟨_,o1,rfl⟩ ⟨_,o2,rfl⟩ PySem.F.slot_tuple_ne (call_meetsIn PySem.F.slot_tuple_ne ⟨_,o1,rfl⟩ PySem.F.entry_tuple_ne (PySem.F.args_tuple_ne_2 _ _) (Ao l m xs ys n1 n2 d1 d2 s1 s2 f) ⟨o1,o2,he,?_⟩) hu
 exact⟨(fun z=>nomatch z),q⟩
section
variable {X:Cx} {pins:List (Addr×Obj)} {σ:St} {H:Hp} {s:Shared} {A:Around}
def CI (K:PySem.W.Frag):R2:=fun x y H Q=>∃a b p q p' q' r r',x= .ref a∧y= .ref b∧SqT K H a [.ref p,.ref q]∧SqT K H b [.ref p',.ref q']∧EqD K H p p' r∧EqD K H q q' r'∧Q (.bl (!(r&&r'))) H
theorem Ad (hu:X.A.units+64<cLine):OpR X (compareOp .NotEq) (CI X.K):=by
 intro pins s σ H x y v u Q I rx ry h
 obtain⟨a,b,p,q,p',q',r,r',rfl,rfl,ha,hb,h1,h2,k⟩:=h
 cases rx
 cases ry
 obtain⟨its,v1,t1,_⟩:=I.tuple ha
 obtain⟨its',v2,t2,_⟩:=I.tuple hb
 obtain⟨_,_,rfl,e1,e2⟩:=dG v1
 obtain⟨_,_,rfl,e3,e4⟩:=dG v2
 cases e1
 cases e2
 cases e3
 cases e4
 refine NcP.tup (P:=X.prog) (w:=X.w) (f:=fun j=>if j=0 then r else r') (show s.heap.IsTuple a _ from t1) (show s.heap.IsTuple b _ from t2) (by lia) (fun j g1 g2=>?_) _ _ ⟨.bl (!(r&&r')),H,I,by show Value.bool _=Value.bool _;simp [List.range_succ],k⟩
 have g:j<2:=by simpa using g1
 match j,g with
 |0,_=>exact h1.at_ I (by show X.A.units+1+16<_;lia)
 |1,_=>exact h2.at_ I (by show X.A.units+1+16<_;lia)
def BU (K:PySem.W.Frag):R2:=fun x y H Q=>∃a b xs ys,x= .ref a∧y= .ref b∧SqL K H a xs∧SqL K H b ys∧xs.all A0=true∧ys.all A0=true∧Q (.bl (!S8 xs ys)) H
theorem AS (hu:X.A.units+64<cLine):OpR X (compareOp .NotEq) (BU X.K):=by
 intro pins s σ H x y v u Q I rx ry h
 obtain⟨a,b,xs,ys,rfl,rfl,ha,hb,fx,fy,k⟩:=h
 cases rx
 cases ry
 obtain⟨its,r1,p1,z1⟩:=I.list ha
 obtain⟨its',r2,p2,z2⟩:=I.list hb
 have l1:=r1.length
 have l2:=r2.length
 have e3:its.toArray.size=xs.length:=by simp [l1]
 have e4:its'.toArray.size=ys.length:=by simp [l2]
 by_cases hl:xs.length=ys.length
 ·have q:=SeqAt.RcNeAt.lists (A:=X.A) (e:=fun j=>bH (xs.getD j .non) (ys.getD j .non)) p1.isList p2.isList (by rw[e3,e4];exact hl) (by lia) fun j g1 g2=>by
   have g1':j<its.length:=by simpa using g1
   have g2':j<its'.length:=by simpa using g2
   have x1:xs[j]?=some (xs[j]'(by lia)):=by simp [show j<xs.length by lia]
   have y1:ys[j]?=some (ys[j]'(by lia)):=by simp [show j<ys.length by lia]
   obtain⟨u1,hu1,ru1⟩:=r1.get x1
   obtain⟨u2,hu2,ru2⟩:=r2.get y1
   have e1:its.toArray[j]=u1:=by
    have:=List.getElem?_eq_getElem g1'
    rw[hu1] at this
    simpa using(Option.some.inj this).symm
   have e2:its'.toArray[j]=u2:=by
    have:=List.getElem?_eq_getElem g2'
    rw[hu2] at this
    simpa using(Option.some.inj this).symm
   rw[e1,e2]
   have d1:xs.getD j .non=xs[j]'(by lia):=by rw[List.getD_eq_getElem?_getD,x1];rfl
   have d2:ys.getD j .non=ys[j]'(by lia):=by rw[List.getD_eq_getElem?_getD,y1];rfl
   rw[d1,d2]
   exact aH ru1 ru2 (List.all_eq_true.mp fx _ (List.getElem_mem _)) (List.all_eq_true.mp fy _ (List.getElem_mem _))
  have e5:=M3 xs ys
  rw[hl,Nat.min_self,beq_self_eq_true,Bool.and_true] at e5
  rw[e3,hl,e5] at q
  exact q X.prog X.w _ _ ⟨.bl _,H,I,rfl,k⟩
 ·refine SeqAt.RcNeAt.lists_lengths (A:=X.A) p1.isList p2.isList (by rw[e3,e4];simpa using hl) (by lia) X.prog X.w _ _ ⟨.bl _,H,I,?_,k⟩
  rw[gW hl];rfl
def BN (K:PySem.W.Frag):R2:=fun x y H Q=>(∃a b xs ys,x= .ref a∧y= .ref b∧SqT K H a xs∧SqT K H b ys∧xs.all A0=true∧ys.all A0=true∧Q (.bl (!S8 xs ys)) H)∨(∃a xs,x= .non∧y= .ref a∧SqT K H a xs∧Q (.bl true) H)
theorem Az (hu:X.A.units+64<cLine):OpR X (compareOp .NotEq) (BN X.K):=by
 intro pins s σ H x y v u Q I rx ry h
 rcases h with⟨a,b,xs,ys,rfl,rfl,ha,hb,fx,fy,k⟩|⟨a,xs,rfl,rfl,ha,k⟩
 ·cases rx
  cases ry
  obtain⟨its,r1,p1,z1⟩:=I.tuple ha
  obtain⟨its',r2,p2,z2⟩:=I.tuple hb
  have l1:=r1.length
  have l2:=r2.length
  have q:=SeqAt.RcNeAt.tuples (A:=X.A) (e:=fun j=>bH (xs.getD j .non) (ys.getD j .non)) (show s.heap.IsTuple a its.toArray from p1) (show s.heap.IsTuple b its'.toArray from p2) (by lia) fun j g1 g2=>by
   have g1':j<its.length:=by simpa using g1
   have g2':j<its'.length:=by simpa using g2
   have x1:xs[j]?=some (xs[j]'(by lia)):=by simp [show j<xs.length by lia]
   have y1:ys[j]?=some (ys[j]'(by lia)):=by simp [show j<ys.length by lia]
   obtain⟨u1,hu1,ru1⟩:=r1.get x1
   obtain⟨u2,hu2,ru2⟩:=r2.get y1
   have e1:its.toArray[j]=u1:=by
    have:=List.getElem?_eq_getElem g1'
    rw[hu1] at this
    simpa using(Option.some.inj this).symm
   have e2:its'.toArray[j]=u2:=by
    have:=List.getElem?_eq_getElem g2'
    rw[hu2] at this
    simpa using(Option.some.inj this).symm
   rw[e1,e2]
   have d1:xs.getD j .non=xs[j]'(by lia):=by rw[List.getD_eq_getElem?_getD,x1];rfl
   have d2:ys.getD j .non=ys[j]'(by lia):=by rw[List.getD_eq_getElem?_getD,y1];rfl
   rw[d1,d2]
   exact aH ru1 ru2 (List.all_eq_true.mp fx _ (List.getElem_mem _)) (List.all_eq_true.mp fy _ (List.getElem_mem _))
  have e3:its.toArray.size=xs.length:=by simp [l1]
  have e4:its'.toArray.size=ys.length:=by simp [l2]
  rw[e3,e4,M3] at q
  exact q X.prog X.w _ _ ⟨.bl _,H,I,rfl,k⟩
 ·cases rx
  cases ry
  obtain⟨its,r1,p1,z1⟩:=I.tuple ha
  exact SeqAt.RcNeAt.none_tuple (A:=X.A) (show s.heap.IsTuple a its.toArray from p1) (by lia) X.prog X.w _ _ ⟨.bl true,H,I,rfl,k⟩
def yQ (K:PySem.W.Frag):R2:=fun x y H Q=>∃a b ka kb r0,x= .ref a∧y= .ref b∧Rd H a (.dK ka)∧Rd H b (.dK kb)∧EqH K H kb ka r0∧Q (.bl (ka.length==kb.length&&r0)) H
def yN (K:PySem.W.Frag):R2:=fun x y H Q=>∃a b ka kb r0,x= .ref a∧y= .ref b∧Rd H a (.dK ka)∧Rd H b (.dK kb)∧EqH K H kb ka r0∧Q (.bl (!(ka.length==kb.length&&r0))) H
theorem xP (hu:X.A.units+64<cLine):OpR X (compareOp .Eq) (yQ X.K):=by
 intro pins s σ H x y v u Q I rx ry h
 obtain⟨a,b,ka,kb,r0,rfl,rfl,h1,h2,h3,k⟩:=h
 cases rx
 cases ry
 obtain⟨z1,d1,va,ra,da⟩:=E8 I.hok h1
 obtain⟨z2,d2,vb,rb,db⟩:=E8 I.hok h2
 have l1:=KV.length ra
 have l2:=KV.length rb
 exact PySem.W.keq_eq (knd:=k8 X.prog X.w) d1 d2 da db (by lia) (fun _=>h3.hits (A:=X.A.in1) I (by show X.A.units+1+8<_;lia) rb ra) ⟨.bl _,H,I,rfl,by rw[←l1,←l2];exact k⟩
theorem xS (hu:X.A.units+64<cLine):OpR X (compareOp .NotEq) (yN X.K):=by
 intro pins s σ H x y v u Q I rx ry h
 obtain⟨a,b,ka,kb,r0,rfl,rfl,h1,h2,h3,k⟩:=h
 cases rx
 cases ry
 obtain⟨z1,d1,va,ra,da⟩:=E8 I.hok h1
 obtain⟨z2,d2,vb,rb,db⟩:=E8 I.hok h2
 have l1:=KV.length ra
 have l2:=KV.length rb
 exact PySem.W.keq_ne (knd:=k8 X.prog X.w) d1 d2 da db (by lia) (fun _=>h3.hits (A:=X.A.in1) I (by show X.A.units+1+8<_;lia) rb ra) ⟨.bl _,H,I,rfl,by rw[←l1,←l2];exact k⟩
def zF (K:PySem.W.Frag):R2:=fun x y H Q=>oY K x y H Q∨yQ K x y H Q
theorem DQ (K:PySem.W.Frag){k:Nat}(hr:Room k X.A)(h:X.K=K:=by rfl):OpR X (compareOp .Eq) (zF K):=(Ft K hr h).or (h▸xP hr.units)
def rM (K:PySem.W.Frag):R2:=fun x y H Q=>EK x y H Q∨BU K x y H Q∨BN K x y H Q∨CI K x y H Q∨yN K x y H Q
theorem Fu (K:PySem.W.Frag){k:Nat}(hr:Room k X.A)(h:X.K=K:=by rfl):OpR X (compareOp .NotEq) (rM K):=h▸op_ne.or ((AS hr.units).or ((Az hr.units).or ((Ad hr.units).or (xS hr.units))))
end
section
variable {K:PySem.W.Frag} {H:Hp} {Q:VK}
theorem EI {x y:V}(q:oY K x y H Q):zF K x y H Q:= .inl q
theorem lg {i j:Int}(q:Q (.bl (!decide (i=j))) H):rM K (.int i) (.int j) H Q:= .inl (lD q)
theorem gc {a b:Addr}{xs ys:List V}(ha:SqL K H a xs)(hb:SqL K H b ys)(fx:xs.all A0=true)(fy:ys.all A0=true)(q:Q (.bl (!S8 xs ys)) H):rM K (.ref a) (.ref b) H Q:= .inr (.inl ⟨a,b,xs,ys,rfl,rfl,ha,hb,fx,fy,q⟩)
end
section
variable {X:Cx} {o e f:Expr} {apos cpos:Pos} {td ty tx:TE} {name:Str}
theorem Co (hb:attributeBase o name X.env (eval o X.env)=eval o X.env)(hl:(apos.endLine==cpos.line)=true)(h:z7 e=true):M1 X o name apos e cpos:=by
 have z:starEach [e] X.env=[(false,eval e X.env)]:=au (es:=[]) h
 have z2:backTo cpos (starEach [e] X.env)=[(false,eval e X.env)]:=by rw[z];rfl
 exact⟨hb,by rw[z2];rfl,hl,z2⟩
theorem dJ (hu:X.A.units+1<cLine)(ho:QE X o td)(he:QE X e ty)(hb:attributeBase o "get" X.env (eval o X.env)=eval o X.env:=by rfl)(hl:(apos.endLine==cpos.line)=true:=by rfl)(h:z7 e=true:=by rfl):
  QE X (.Call (.Attribute o "get" apos) [e] [] cpos) (nH td ty):=⟨vm hu ho.r he.r (Co hb hl h)⟩
end
section
variable {σ:St} {H:Hp} {Q:VK} {td ty tx:TE}
theorem Cw (q:td σ H fun x H1=>∃a,x= .ref a∧ES H1 a∧ty σ H1 fun y H2=>∃o,aB H2 a y o∧Q (o.getD .non) H2):nH td ty σ H Q:=q
end
end L2
set_option Elab.async false
set_option linter.all false
set_option maxRecDepth 100000
set_option maxHeartbeats 4000000
namespace L2
open PySem PySem.Spec PyProof.Rows
open Sem (wp)
section
variable {prog:Program} {w:World} {KT:Type} [DecidableEq KT] {knd:KeyKind prog w KT} {A:Around} {E:Value→Shared→Prop} {s:Shared}
theorem eB {it d:Addr}{i ep:Nat}{kvs:List (KT×Value)}{k:KT}{v:Value}{Q:Value→Shared→Prop}(hit:s.heap.IsKeyIter it d i kvs.length ep)
  (hm:s.heap.DictAt knd d kvs ep) (hx:kvs[i]?=some (k,v))
  (hQ:∀key h',knd.is k key=true→h'.IsKeyIter it d (i+1) kvs.length ep→Heap.SameBut it s.heap h'→Q key {s with heap:=h'}):
  wpAny (model prog w) A (Builtin.SmallTypes.nextOf (.ref it)) Q E s:=by
 obtain⟨o,ho,hc,hd⟩:=id hit
 obtain⟨od,es,hod,hcd,hdd,hk,hp,hn⟩:=id hm
 have hsz:es.size=kvs.length:=by rw[←hp.length];simp
 have hlt:i<kvs.length:=(List.getElem?_eq_some_iff.mp hx).1
 have hlt':i<es.size:=by rw[hsz];exact hlt
 have hkey:knd.is k es[i].key=true:=(hp.get? (e:=es[i]) (by simp [hlt']) hx).1
 have hown:Builtin.Dict_items.ownsTuple "dict_keyiterator"=false:=by decide
 unfold Builtin.SmallTypes.nextOf
 refine wpAny_bind (wpAny_callSpecial?_slot (name:=Str.ofString "__next__") hit.typeIs F.slot_dict_keyiterator_next
  (wpAny_call_entry F.slot_dict_keyiterator_next hit.typeIs F.entry_dict_keyiterator_next ?_ (F.args_dict_keyiterator_next_1 _)))
 refine wpAny_bind (wpAny_pure (wpAny_bind (wpAny_bind ?_)))
 first|refine wpAny_bind (wpAny_typeNameOfWhole_keyiter hit.typeIs (wpAny_pure ?_))|refine wpAny_bind (wpAny_typeNameOf_keyiter hit.typeIs (wpAny_pure ?_))
 refine wpAny_bind (wpAny_fieldsOf ho hd ?_)
 simp only[hown,Bool.false_eq_true,if_false]
 show wpAny _ _ (if(Value.ref d==Value.none)=true then _ else _) _ _ s
 rw[if_neg (show ¬((Value.ref d==Value.none)=true) from Bool.false_ne_true)]
 refine wpAny_bind (wpAny_pure (wpAny_bind (wpAny_dictEntries hod hdd ?_)))
 rw[if_neg (by rw[hsz];simp)]
 refine wpAny_bind (wpAny_pure (wpAny_bind (wpAny_dictEpoch hod hdd ?_)))
 rw[if_neg (by simp)]
 refine wpAny_pure ?_
 simp only[show ¬((i:Int)<0) from by lia,if_false,Int.toNat_natCast,Array.getElem?_eq_getElem hlt']
 refine wpAny_bind ?_
 first|refine wpAny_bind (wpAny_typeNameOfWhole_keyiter hit.typeIs (wpAny_pure ?_))|refine wpAny_bind (wpAny_typeNameOf_keyiter hit.typeIs (wpAny_pure ?_))
 refine wpAny_bind (wpAny_isOneOf_keyiter hit.typeIs ?_)
 show wpAny _ _ (setField (.ref it) 1 (rawInt ((i:Int)+1))>>=_) _ _ s
 refine wpAny_bind (wpAny_setField ho hd (by simp) ?_)
 have hit':(s.heap.update it (Obj.mapFields (·.setIfInBounds 1 (rawInt ((i:Int)+1))))).IsKeyIter it d (i+1) kvs.length ep:=
  ⟨_,Heap.get?_update_self _ ho (Obj.isFreed_of_fields (Obj.data_mapFields hd _)),(Obj.cls_mapFields ..).trans hc,by rw[Obj.data_mapFields hd];simp [rawInt]⟩
 refine wpAny_bind (wpAny_holding ?_)
 refine wpAny_bind (wpAny_isOneOf_keyiter (s:={s with heap:=s.heap.update it (Obj.mapFields (·.setIfInBounds 1 (rawInt ((i:Int)+1))))}) hit'.typeIs ?_)
 show wpAny _ _ (pure es[i].key) _ _ _
 exact wpAny_pure (wpAny_pure ⟨_,rfl,wpAny_pure (hQ _ _ hkey hit' (Heap.SameBut.update ..))⟩)
theorem fU {it d:Addr}{i ep:Nat}{kvs:List (KT×Value)}{Q:Value→Shared→Prop}(hh:A.handled=none)(hit:s.heap.IsKeyIter it d i kvs.length ep)
  (hm:s.heap.DictAt knd d kvs ep) (hx:kvs[i]?=none)
  (hE:∀h' e,Heap.ExtBut it s.heap h'→(∃o,h'.get? e=some o∧o.cls= .type "StopIteration")→E (.ref e) {s with heap:=h'}):
  wpAny (model prog w) A (Builtin.SmallTypes.nextOf (.ref it)) Q E s:=by
 obtain⟨o,ho,hc,hd⟩:=id hit
 obtain⟨od,es,hod,hcd,hdd,hk,hp,hn⟩:=id hm
 have hsz:es.size=kvs.length:=by rw[←hp.length];simp
 have hge:es.size≤i:=by rw[hsz];simpa using hx
 have hown:Builtin.Dict_items.ownsTuple "dict_keyiterator"=false:=by decide
 unfold Builtin.SmallTypes.nextOf
 refine wpAny_bind (wpAny_callSpecial?_slot (name:=Str.ofString "__next__") hit.typeIs F.slot_dict_keyiterator_next
  (wpAny_call_entry F.slot_dict_keyiterator_next hit.typeIs F.entry_dict_keyiterator_next ?_ (F.args_dict_keyiterator_next_1 _)))
 refine wpAny_bind (wpAny_pure (wpAny_bind (wpAny_bind ?_)))
 first|refine wpAny_bind (wpAny_typeNameOfWhole_keyiter hit.typeIs (wpAny_pure ?_))|refine wpAny_bind (wpAny_typeNameOf_keyiter hit.typeIs (wpAny_pure ?_))
 refine wpAny_bind (wpAny_fieldsOf ho hd ?_)
 simp only[hown,Bool.false_eq_true,if_false]
 show wpAny _ _ (if(Value.ref d==Value.none)=true then _ else _) _ _ s
 rw[if_neg (show ¬((Value.ref d==Value.none)=true) from Bool.false_ne_true)]
 refine wpAny_bind (wpAny_pure (wpAny_bind (wpAny_dictEntries hod hdd ?_)))
 rw[if_neg (by rw[hsz];simp)]
 refine wpAny_bind (wpAny_pure (wpAny_bind (wpAny_dictEpoch hod hdd ?_)))
 rw[if_neg (by simp)]
 refine wpAny_pure ?_
 simp only[show ¬((i:Int)<0) from by lia,if_false,Int.toNat_natCast,Array.getElem?_eq_none hge]
 refine wpAny_bind ?_
 first|refine wpAny_bind (wpAny_typeNameOfWhole_keyiter hit.typeIs (wpAny_pure ?_))|refine wpAny_bind (wpAny_typeNameOf_keyiter hit.typeIs (wpAny_pure ?_))
 show wpAny _ _ (setField (.ref it) 0 .none>>=_) _ _ s
 refine wpAny_bind (wpAny_setField ho hd (by simp) ?_)
 show wpAny _ _ (newExc (.type "StopIteration") []>>=_) _ _ _
 refine wpAny_bind ?_
 simp only[newExc,newTuple]
 refine wpAny_bind (wpAny_newObj_type ?_ (by size_fits))
 refine wpAny_bind (m:=firstArgMember _ _) (wpAny_of_eq (a:=Value.none) (by first|rfl|(simp only[firstArgMember];rfl)) ?_)
 refine wpAny_newObj_type ?_ (by size_fits)
 simp only[raiseNew]
 refine wpAny_bind (wpAny_handled ?_)
 first|rw[show A.in1.handled=none from hh]|rw[hh]
 refine wpAny_bind (wpAny_pure (wpAny_throw ?_))
 exact hE _ _ (((Heap.SameBut.update ..).extBut.push _).push _) ⟨_,Heap.get?_push_size _ rfl,rfl⟩
end
section
variable {prog:Program} {w:World} {KT:Type} [DecidableEq KT] {knd:KeyKind prog w KT} {A:Around} {E:Value→Shared→Prop} {s:Shared}
open PySem.AutoSeq1 (wpAny_loadPart')
abbrev Q3 (d:Addr)(n ep:Nat):Obj:={cls:= .type "dict_keyiterator",data:= .fields #[.ref d,.int 0 0,.int n 0,.int ep 0]}
abbrev ki (it:Addr):Obj:={cls:= .type "enumerate",data:= .fields #[.none,.bool false,.ref it,rawInt 0,.none,.none]}
theorem ur (d:Addr)(kvs:List (KT×Value))(ep:Nat)(hd:(d==sysModules)=false):
  MeetsIn prog w (Builtin.«enumerate.__new__» ⟨[.type "enumerate",.ref d],[]⟩) (fun _ R s=>s.heap.DictAt knd d kvs ep∧
   R (.ok (.ret (.ref (s.heap.push (Q3 d kvs.length ep)).objs.size))) {s with heap:=(s.heap.push (Q3 d kvs.length ep)).push (ki s.heap.objs.size)}):=
 .of_wp fun A R s h=>by
  obtain⟨hp,g,dr,tk,os⟩:=s;obtain⟨hm,h⟩:=h
  have hsub:=sub_enumerate
  obtain⟨⟨c,dct,dt,sl⟩,es,hod,hcd,hdd,hk,hp',hn⟩:=id hm
  have hc:c= .type "dict":=hcd.1
  subst hc
  wp_walk using wpAny_loadPart' hod
  refine wpAny_stack_any fun st=>wpAny_pure ?_
  split
  ·rename_i c _ _ _ _ _
   cases (c==Value.type "enumerate")
   ·wp_walk using wpAny_loadPart' hod,wpAny_pyIter_dict hd hm
    exact⟨_,rfl,h⟩
   ·wp_walk using wpAny_loadPart' hod,wpAny_pyIter_dict hd hm
    exact⟨_,rfl,h⟩
  ·wp_walk using wpAny_loadPart' hod,wpAny_pyIter_dict hd hm
   exact⟨_,rfl,h⟩
theorem oj {d:Addr}{kvs:List (KT×Value)}{ep:Nat}{Q:Value→Shared→Prop}(hd:(d==sysModules)=false)(hm:s.heap.DictAt knd d kvs ep)
  (h:∀h',IsEnum h' (s.heap.objs.size+1) s.heap.objs.size 0 .none→h'.IsKeyIter s.heap.objs.size d 0 kvs.length ep→h'.objs.size=s.heap.objs.size+2→
   (∀b o,s.heap.get? b=some o→h'.get? b=some o)→Q (.ref (s.heap.objs.size+1)) {s with heap:=h'}):
  wpAny (model prog w) A (call (.type "enumerate") [.ref d]) Q E s:=by
 refine callType_newIn F.called_enumerate (by decide) (F.typeCall_enumerate_1 _) (F.newCall_enumerate_1 _) (fun obj=>F.args_object_init_2 obj _) F.entry_enumerate_new
  (ur (knd:=knd) d kvs ep hd) ⟨hm,?_⟩
 have hz:(s.heap.push (Q3 d kvs.length ep)).objs.size=s.heap.objs.size+1:=Heap.size_push ..
 show _∧_
 rw[hz]
 have he:IsEnum ((s.heap.push (Q3 d kvs.length ep)).push (ki s.heap.objs.size)) (s.heap.objs.size+1) s.heap.objs.size 0 .none:=by
  have:=Heap.get?_push_size (s.heap.push (Q3 d kvs.length ep)) (o:=ki s.heap.objs.size) rfl
  rw[hz] at this;exact this
 refine⟨⟨_,he,rfl⟩,h _ he ⟨_,Heap.get?_push_of_some _ (Heap.get?_push_size _ rfl),rfl,rfl⟩ (by rw[Heap.size_push,hz]) fun b o x=>Heap.get?_push_of_some _ (Heap.get?_push_of_some _ x)⟩
theorem iR (hh:A.handled=none){it d:Addr}(hne:d≠it)(kvs:List (KT×Value))(ep:Nat):
  Draws prog w A it [it,d] kvs.length (fun i v=>∃k x,kvs[i]?=some (k,x)∧knd.is k v=true) (fun i h=>h.IsKeyIter it d i kvs.length ep∧h.DictAt knd d kvs ep) where
 live:=fun _ _ st=>let ⟨o,ho,_⟩:=st.1;⟨o,ho⟩
 frame:=fun _ _ _ st hk=>⟨st.1.at fun o e=>hk it (by simp) o e,let ⟨o,es,e,r⟩:=st.2;⟨o,es,hk d (by simp) o e,r⟩⟩
 item:=fun i s Q E hi st hQ=>by
  obtain⟨⟨k,x⟩,hx⟩:∃p,kvs[i]?=some p:=⟨kvs[i],by simp [hi]⟩
  refine eB st.1 st.2 hx fun key h' hkey hit' hs'=>?_
  exact hQ key h' s.toks ⟨k,x,hx,hkey⟩ ⟨hit',let ⟨o,es,e,r⟩:=st.2;⟨o,es,hs'.extBut _ _ hne e,r⟩⟩ hs'
 done:=fun s Q E st hE=>fU hh st.1 st.2 (by simp) hE
end
def zE (d:Addr)(o:Obj)(kvs:List (j8×V)):It:=
 ⟨fun i H=>H d=some (.frz o (.dK kvs))∧i<kvs.length,fun i H x H'=>∃t kv,kvs[i]?=some kv∧H t=none∧x= .ref t∧H'=p7 H t (.tup [.int i,kV kv.1]),fun i H=>H d=some (.frz o (.dK kvs))∧kvs.length=i⟩
theorem oD {P:Program}{w:World}{K:PySem.W.Frag}{elts:List Expr}{x1}{tpos:Pos}{d:Addr}{o:Obj}{kvs:List (j8×V)}{vs:List (j8×Value)}{ep:Nat}(D:vo P w d o kvs vs ep){en it:Addr}(hne:en≠it):
  eE P w K (.Tuple elts x1 tpos) (zE d o kvs) [en,it] en (fun i h=>∃old,IsEnum h en it i old∧h.IsKeyIter it d i vs.length ep) where
 mem:=by simp
 obj:=fun i h st b hb=>by
  obtain⟨old,h1,o,e,c,dd⟩:=st
  have hb':b=en∨b=it:=by simpa using hb
  rcases hb' with rfl|rfl
  ·exact⟨_,h1,fun v z=>by
    have z':Data.fields _=Data.cell v:=z
    cases z'⟩
  ·exact⟨o,e,fun v z=>by rw[dd] at z;cases z⟩
 keep:=fun i h h' st k=>by
  obtain⟨old,h1,h2⟩:=st
  exact⟨old,k en (by simp) _ h1,h2.at fun o e=>k it (by simp) o e⟩
 item:=by
  intro X hP hw hK hc i pins s σ H E I hf st hg
  subst hP hw hK
  obtain⟨old,st1,st2⟩:=st
  obtain⟨hfz,hi⟩:=hg
  have dat:=D.at_ s.heap (I.hok d _ hfz).1
  have hl:=KV.length D.kv
  have hdi:d≠it:=d8 hfz (hf it (by simp)).1
  have hde:d≠en:=d8 hfz (hf en (by simp)).1
  have hen:en<s.heap.objs.size:=Heap.lt_size st1
  have hit:it<s.heap.objs.size:=by obtain⟨o,e,_⟩:=st2;exact Heap.lt_size e
  obtain⟨kv,hkv⟩:∃kv,kvs[i]?=some kv:=⟨kvs[i],by simp [hi]⟩
  refine wpAny_pyNext_enum_itemD (iR (knd:=k8 X.prog X.w) (A:=X.A.in1) (show X.A.in1.handled=none from I.ok.hd hc) hdi vs ep) st1 ⟨st2,dat⟩ (by lia) hne (by simp;exact⟨hne,Ne.symm hde⟩) fun u h' tk hP heo hst1 ht1 hz1 hk1=>?_
  obtain⟨k,x,hx,hkey⟩:=hP
  have hkk:kv.1=k:=by
   have e1:(kvs.map (·.1))[i]?=some kv.1:=by rw[List.getElem?_map,hkv];rfl
   rw[KV.keys D.kv,List.getElem?_map,hx] at e1
   exact(Option.some.inj e1).symm
  refine⟨.ref s.heap.objs.size,rfl,wpAny_letOwnedTupleGo_enum (s:={s with heap:=h',toks:=tk+1}) heo fun h'' he'' hs''=>?_⟩
  have hs2:Heap.SameBut en h' h'':=hs''
  have tupAt:h''.get? s.heap.objs.size=some {cls:= .type "tuple",data:= .seq #[.int i tk,u]}:=hs2.extBut _ _ (Nat.ne_of_gt hen) ht1
  obtain⟨fr,I1,fr2⟩:=I.pairNew (fp:=[en,it]) (h':=h'') (tk:=tk+1) (x:= .int i) (y:=kV kv.1) hf (fun b o hb e=>by
   have hb':b≠en∧b≠it:=by simpa using hb
   exact hs2.extBut b o hb'.1 (hk1 b o hb'.1 hb'.2 e)) (fun b hb=>by
   have hb':b=en∨b=it:=by simpa using hb
   rcases hb' with rfl|rfl
   ·exact hen
   ·exact hit) tupAt ⟨_,rfl⟩ (by rw[hkk];exact W7 hkey)
  refine⟨.ref s.heap.objs.size,_,I1,rfl,⟨_,kv,hkv,fr,rfl,rfl⟩,⟨_,he'',?_⟩,fr2⟩
  exact hst1.1.at fun o e=>hs2.extBut it o (Ne.symm hne) e
 done:=by
  intro X hP hw hK hc i pins s σ H E I hf st hg
  subst hP hw hK
  obtain⟨old,st1,st2⟩:=st
  obtain⟨hfz,hi⟩:=hg
  have dat:=D.at_ s.heap (I.hok d _ hfz).1
  have hl:=KV.length D.kv
  have hdi:d≠it:=d8 hfz (hf it (by simp)).1
  have e:i=vs.length:=by lia
  subst e
  exact wpAny_pyNext_enum_endD (iR (knd:=k8 X.prog X.w) (A:=X.A.in1) (show X.A.in1.handled=none from I.ok.hd hc) hdi vs ep) st1 ⟨st2,dat⟩ fun h' eb=>⟨rfl,I.turnedAll (fp:=[en,it]) (tk:=s.toks) hf fun b o hb e=>eb b o (by
   have hb':b≠en∧b≠it:=by simpa using hb
   exact hb'.2) e⟩
 self:=fun _ _ _ _ _ st h=>by
  obtain⟨old,st1,st2⟩:=st
  exact wpAny_pyIter_enum st1 h
section
variable {X:Cx} {a:Expr} {t:TA} {p pos:Pos}
def oI (K:PySem.W.Frag)(ta:TA):mX:=fun σ H R=>ta σ H fun vs H1=>∃v,vs=[v]∧((∃l xs,v= .ref l∧SqL K H1 l xs∧R (Et K l) id H1)∨rIterD zE v H1 R)
theorem vB {elts:List Expr}{x1}{tpos:Pos}(hg:Gl X "enumerate")(hm:X.mg "enumerate"=none)(ha:PA X [a] t)(hs:starEach [a] X.env=[(false,eval a X.env)]):wA X (.Tuple elts x1 tpos) (.Call (.Name "enumerate" p) [a] [] pos) (oI X.K t):=by
 intro pins s σ H R I h
 refine Call_ (fg I hg hm Boot.«enumerate» (PyProof.Rows.callWith_type1 (K2 (ha pos pins s σ H _ I h) fun us s1 ⟨vs,H1,I1,r1,q1⟩=>?_) hs rfl))
 obtain⟨v,e,q⟩:=q1
 subst e
 obtain⟨u,rfl,ru⟩:=K6 r1
 rcases q with⟨l,xs,rfl,hq,q⟩|q
 ·cases ru
  obtain⟨its,rv,pl,hz⟩:=I1.list hq
  refine call_enumerate_list pl.isList fun h' he hit hsz hk=>?_
  have I2:Inv X pins σ H1 {s1 with heap:=h'}:=I1.kept (t':=s1.toks) hk
  refine wpAny_pyIter_enum (s:={s1 with heap:=h'}) he ?_
  refine⟨s1.heap.objs.size+1,[s1.heap.objs.size+1,s1.heap.objs.size],_,_,H1,rfl,I2,qK (l:=l) (Nat.succ_ne_self _),⟨_,he,hit⟩,fun b hb=>?_,id,eT,q⟩
  have hb':b=s1.heap.objs.size+1∨b=s1.heap.objs.size:=by simpa using hb
  rcases hb' with rfl|rfl
  ·exact I1.fpOk (Nat.le_succ _) (I1.hok.fresh (Nat.le_succ _))
  ·exact I1.fpOk (Nat.le_refl _) (I1.hok.fresh (Nat.le_refl _))
 ·obtain⟨d,kvs,o,vs,ep,th,H',rfl,hd,ho,D,I2,hth,q⟩:=rIterD.go I1 ru q
  refine oj (knd:=k8 X.prog X.w) hd (D.at_ _ ho) fun h' he hit hsz hk=>?_
  have I3:Inv X pins σ H' {s1 with heap:=h'}:=I2.kept (t':=s1.toks) hk
  refine wpAny_pyIter_enum (s:={s1 with heap:=h'}) he ?_
  refine⟨s1.heap.objs.size+1,[s1.heap.objs.size+1,s1.heap.objs.size],_,_,H',rfl,I3,oD D (Nat.succ_ne_self _),⟨_,he,hit⟩,fun b hb=>?_,th,hth,q⟩
  have hb':b=s1.heap.objs.size+1∨b=s1.heap.objs.size:=by simpa using hb
  rcases hb' with rfl|rfl
  ·exact I2.fpOk (Nat.le_succ _) (I2.hok.fresh (Nat.le_succ _))
  ·exact I2.fpOk (Nat.le_refl _) (I2.hok.fresh (Nat.le_refl _))
theorem mr (K:PySem.W.Frag){elts:List Expr}{x1}{tpos:Pos}(hm:X.mg "enumerate"=none)(ha:QA X [a] t)(hg:Gl X "enumerate":=by rfl)(h:z7 a=true:=by rfl)(hK:X.K=K:=by rfl):QI X (.Tuple elts x1 tpos) (.Call (.Name "enumerate" p) [a] [] pos) (oI K t):=
 ⟨hK▸vB hg hm ha.r (au h)⟩
end
section
variable {K:PySem.W.Frag} {σ:St} {H:Hp} {ta:TA} {R:It→(Hp→Hp)→Hp→Prop}
theorem yv (q:ta σ H fun vs H1=>∃v,vs=[v]∧((∃l xs,v= .ref l∧SqL K H1 l xs∧R (Et K l) id H1)∨rIterD zE v H1 R)):oI K ta σ H R:=q
end
end L2
set_option Elab.async false
set_option linter.all false
set_option maxRecDepth 100000
set_option maxHeartbeats 4000000
namespace L2
open PySem PySem.Spec PyProof.Rows
open Sem (wp)
theorem kx:typeLookup (.type "list") "keys"=pure none:=by rw[typeLookup_type,builtinLookup_eq_fast];kernel_rfl
section
variable {prog:Program} {w:World} {A:Around} {E:Value→Shared→Prop} {s:Shared}
theorem sr {a:Addr}{o:Obj}{xs:Array Value}{k:Nat}{Q:Option Value→Shared→Prop}
  (hx:s.heap.get? a=some o) (hc:o.cls= .type "list") (hdat:o.data= .seq xs k) (hd:o.dict=none) (hA:A.handled=none)
  (h:∀h' tk,(∀b ob,s.heap.get? b=some ob→h'.get? b=some ob)→Q none {s with heap:=h',toks:=tk}):
  wpAny (model prog w) A (getAttr? (.ref a) "keys") Q E s:=by
 obtain⟨c,dct,dat,sl⟩:=o
 simp only at hc hdat hd
 subst hc hdat hd
 obtain⟨hp,g,d,tk,os⟩:=s
 have hT:∀tk',(⟨hp,g,d,tk',os⟩:Shared).TypeIs (.ref a) "list":=fun _=>⟨_,hx,rfl⟩
 have f1:=sub_AttributeError
 have f3:=F.slot_list_getattribute.lookup
 have f4:=F.slot_list_getattribute.bind (.ref a)
 have f5:=am_list_getattr_none
 unfold getAttr? getAttrBy? getAttrBy
 repeat(any_goals (first|assumption|exact hT _|((with_reducible show wpAny _ _ (call (Value.builtin "list.__getattribute__") _ _) _ _ _);refine call_meets F.slot_list_getattribute (hT _) am_entry_list_getattribute (F.args_list_getattribute_2 _ _) (meets_getattribute_miss_list a xs k sl "keys" _ kx (by decide+kernel) (by decide+kernel)) ⟨hx,hA,fun h' tk' e hx'=>?_⟩)|wp_step))
 obtain⟨t',u',he⟩:=hx'.there
 show wpAny _ _ (getattributeRaised _ _ _ _ _ _ _) _ _ _
 unfold getattributeRaised
 repeat(any_goals (first|assumption|wp_step))
 exact h _ _ hx'.keeps
end
theorem aO:entryFor table "dict.update.loop"=some Builtin.«dict.update.loop»:=entryFor_of_tree (by kernel_rfl)
theorem K7:plainId "dict.update.loop"=true:=by decide+kernel
section
variable {prog:Program} {w:World} {KT:Type} [DecidableEq KT] {knd:KeyKind prog w KT} {A:Around} {E:Value→Shared→Prop}
def PairAt (knd:KeyKind prog w KT)(h:Heap)(d it:Addr)(u:Value)(kv:KT×Value):Prop:=∃t key,u= .ref t∧h.IsTuple t #[key,kv.2]∧knd.is kv.1 key=true∧t≠d∧t≠it
theorem PairAt.keep {h h':Heap}{d it:Addr}{u:Value}{kv:KT×Value}(p:PairAt knd h d it u kv)(k:∀b o,b≠d→b≠it→h.get? b=some o→h'.get? b=some o):PairAt knd h' d it u kv:=by
 obtain⟨t,key,e,⟨o,ho,r⟩,hk,h1,h2⟩:=p
 exact⟨t,key,e,⟨o,k t o h1 h2 ho,r⟩,hk,h1,h2⟩
theorem qG {d it l:Addr}{items:List Value}{res:Value}(hh:A.handled=none)(hdi:d≠it)(hli:l≠it)(hld:l≠d):
  ∀(more:List (KT×Value)) (i:Nat) (s:Shared) (kvs:List (KT×Value)) (R:Result→Shared→Prop),
   s.heap.IsListIter it l i→s.heap.IsList l items.toArray→Paired (PairAt knd s.heap d it) (items.drop i) more→s.heap.DictOf knd d kvs→kvs.length+more.length≤sizeLine→
   (∀h' tk,(∀b o,b≠d→b≠it→s.heap.get? b=some o→h'.get? b=some o)→h'.DictOf knd d (more.foldl (fun a x=>stored a x.1 x.2) kvs)→R (.ok (.ret res)) {s with heap:=h',toks:=tk})→
   codeAny (model prog w) A (.builtin "dict.update.loop" ⟨[.ref d,.ref it,rawInt (i:Int),res],[]⟩) R s:=by
 intro more
 induction more with
 |nil=>
  intro i s kvs R hit hl hp hd hz hR
  have hx:items.toArray[i]?=none:=by
   have hn:items.drop i=[]:=by cases hp':items.drop i with
    |nil=>rfl
    |cons x r=>rw[hp'] at hp;cases hp
   have:=List.drop_eq_nil_iff.mp hn
   simp;lia
  refine codeAny_builtin aO ?_
  rw[Around.under_plainId K7 _]
  show wpAny _ A.in1 (pyNext (.ref it)>>=_) _ _ s
  refine wpAny_bind (wpAny_pyNext_list_end (A:=A.in1) hh hit hl hx fun h' eb=>?_)
  show wpAny _ A.in1 (Builtin.Dict.addKeywords d []>>=_) _ _ _
  refine wpAny_bind (wpAny_pure (wpAny_pure ?_))
  exact hR h' s.toks (fun b o h1 h2 e=>eb b o h2 e) (hd.extBut eb hdi)
 |cons kv more ih=>
  intro i s kvs R hit hl hp hd hz hR
  obtain⟨x,hx,hp0,hp1⟩:∃x,items.toArray[i]?=some x∧PairAt knd s.heap d it x kv∧Paired (PairAt knd s.heap d it) (items.drop (i+1)) more:=by
   cases hp':items.drop i with
   |nil=>rw[hp'] at hp;cases hp
   |cons x r=>
    rw[hp'] at hp
    cases hp with
    |cons h1 h2=>
     refine⟨x,?_,h1,?_⟩
     ·have z:=congrArg List.head? hp'
      simpa using z
     ·have z:=congrArg List.tail hp'
      rw[List.tail_drop] at z
      rw[z];exact h2
  obtain⟨t,key,rfl,⟨ot,hot,hct,nt,hdt⟩,hkey,h1,h2⟩:=hp0
  refine codeAny_builtin aO ?_
  rw[Around.under_plainId K7 _]
  show wpAny _ A.in1 (pyNext (.ref it)>>=_) _ _ s
  refine wpAny_bind (wpAny_pyNext_list_item hit hl hx fun h' hit' hs'=>?_)
  have hot':h'.get? t=some ot:=hs'.extBut _ _ h2 hot
  refine wpAny_bind (wpAny_holding (wpAny_bind (wpAny_tryCatch ?_)))
  unfold Builtin.Dict.pairItems
  refine wpAny_bind (wpAny_typeOf (s:={s with heap:=h'}) ⟨_,hot',hct⟩ ?_)
  rw[if_pos (by decide)]
  refine wpAny_bind (wpAny_seqItems (s:={s with heap:=h'}) hot' hdt ?_)
  refine wpAny_pure ?_
  show wpAny _ A.in1 (holding [key,kv.2] (dictSet d key kv.2)) _ _ _
  refine wpAny_holding (wpAny_dictSet_pairs (s:={s with heap:=h'}) (kvs:=kvs) hkey (hd.extBut hs'.extBut hdi) (fun h'' dd hs''=>?_) (by simp only[List.length_cons] at hz;lia))
  have kp:∀b o,b≠d→b≠it→s.heap.get? b=some o→h''.get? b=some o:=fun b o hb1 hb2 e=>hs''.extBut b o hb1 (hs'.extBut b o hb2 e)
  refine wpAny_pure ⟨plainId_quiet K7 _,?_⟩
  refine ih (i+1) _ (stored kvs kv.1 kv.2) R ?_ ?_ (Paired.imp' (fun _ _ z=>z.keep kp) hp1) dd ?_ (fun h3 tk k3 d3=>hR h3 tk (fun b o e1 e2 e=>k3 b o e1 e2 (kp b o e1 e2 e)) d3)
  ·exact hit'.at fun o e=>hs''.extBut it o (Ne.symm hdi) e
  ·obtain⟨ol,hol,r⟩:=hl
   exact⟨ol,kp l ol hld hli hol,r⟩
  ·have z:=stored_length_le kvs kv.1 kv.2
   simp only[List.length_cons] at hz
   lia
theorem et {l:Addr}{items:List Value}{o:Obj}{n:Nat}{more:List (KT×Value)}{s:Shared}{Q:Value→Shared→Prop}(hh:A.handled=none)(ho:s.heap.get? l=some o)(hc:o.cls= .type "list")(hdat:o.data= .seq items.toArray n)(hdn:o.dict=none)(hz:more.length≤sizeLine)
  (hp:Paired (fun u kv=>∃t key,u= .ref t∧s.heap.IsTuple t #[key,kv.2]∧knd.is kv.1 key=true) items more)
  (h:∀h' tk,h'.DictOf knd s.heap.objs.size (more.foldl (fun a x=>stored a x.1 x.2) [])→(∀b o,s.heap.get? b=some o→h'.get? b=some o)→Q (.ref s.heap.objs.size) {s with heap:=h',toks:=tk}):
  wpAny (model prog w) A (call (.type "dict") [.ref l]) Q E s:=by
 refine callType_codes (Q₁:=fun obj s₁=>obj= .ref s.heap.objs.size∧s₁={s with heap:=s.heap.push {cls:= .type "dict",data:= .dict #[]}}) F.kt_called_dict (F.kt_typeCall_dict_1 _) F.entry_dict_init (kt_code_dict_new _ ⟨rfl,rfl⟩) ?_
 rintro obj s₁ ⟨rfl,rfl⟩
 have hnew:(s.heap.push {cls:= .type "dict",data:= .dict #[]}).DictOf knd s.heap.objs.size []:=Heap.DictOf.new s.heap
 have hl0:l≠s.heap.objs.size:=Nat.ne_of_lt (Heap.lt_size ho)
 refine⟨hnew.typeIs,F.args_dict_init_2 _ _,?_⟩
 unfold Builtin.«dict.__init__»
 refine wpAny_bind ?_
 unfold Builtin.Dict.selfAndRest
 refine wpAny_bind (wpAny_notOrdered_dict hnew.typeIs ?_)
 show wpAny _ _ (pure (s.heap.objs.size,[Value.ref l])) _ _ _
 refine wpAny_pure ?_
 show wpAny _ _ (Builtin.Dict.updateFrom "dict.__init__" s.heap.objs.size (.ref l) [] .none) _ _ _
 unfold Builtin.Dict.updateFrom
 have ho1:(s.heap.push {cls:= .type "dict",data:= .dict #[]}).get? l=some o:=Heap.get?_push_of_some _ ho
 refine wpAny_bind (wpAny_typeOf (s:={s with heap:=s.heap.push {cls:= .type "dict",data:= .dict #[]}}) ⟨_,ho1,hc⟩ ?_)
 rw[if_pos (by decide)]
 refine wpAny_bind (sr (s:={s with heap:=s.heap.push {cls:= .type "dict",data:= .dict #[]}}) ho1 hc hdat hdn hh fun h2 tk2 k2=>?_)
 rw[if_pos (show((none:Option Value).isNone)=true from rfl)]
 have ho2:h2.get? l=some o:=k2 l o ho1
 have hd2:h2.DictOf knd s.heap.objs.size []:=let ⟨od,es,ep,e,r⟩:=hnew;⟨od,es,ep,k2 _ _ e,r⟩
 have hlt:s.heap.objs.size<h2.objs.size:=by obtain⟨od,es,ep,e,r⟩:=hd2;exact Heap.lt_size e
 have up:∀b ob,s.heap.get? b=some ob→(h2.push {cls:= .type "list_iterator",data:= .fields #[.ref l,.int 0 0]}).get? b=some ob:=fun b ob e=>Heap.get?_push_of_some _ (k2 b ob (Heap.get?_push_of_some _ e))
 refine wpAny_bind (wpAny_rule (wpAny_bind (wpAny_pyIter_list (l:=l) (items:=items.toArray) ⟨o,ho2,hc,n,hdat⟩ ?_)))
 refine wpAny_pure ⟨plainId_quiet K7 _,?_⟩
 refine qG (knd:=knd) (l:=l) (items:=items) (A:=A.in1) hh (Nat.ne_of_lt hlt) (Nat.ne_of_lt (Heap.lt_size ho2)) hl0 more 0 _ [] _ ⟨_,Heap.get?_push_size _ rfl,rfl,rfl⟩ ⟨o,Heap.get?_push_of_some _ ho2,hc,n,hdat⟩ ?_ (hd2.push _) (by simpa using hz) fun h3 tk k3 d3=>⟨rfl,h h3 tk d3 fun b ob e=>k3 b ob (Nat.ne_of_lt (Heap.lt_size e)) (Nat.ne_of_lt (Nat.lt_trans (Heap.lt_size e) hlt)) (up b ob e)⟩
 rw[List.drop_zero]
 refine Paired.imp' (fun u kv z=>?_) hp
 obtain⟨t,key,rfl,⟨ot,hot,r⟩,hk⟩:=z
 exact⟨t,key,rfl,⟨ot,up t ot hot,r⟩,hk,Nat.ne_of_lt (Heap.lt_size hot),Nat.ne_of_lt (Nat.lt_trans (Heap.lt_size hot) hlt)⟩
end
section
variable {X:Cx}
def PrV (K:PySem.W.Frag)(H:Hp)(x:V)(kv:j8×V):Prop:=∃t,x= .ref t∧SqT K H t [kV kv.1,kv.2]
def dZ (kvs:List (j8×V)):List (j8×V):=kvs.foldl (fun a x=>D0 a x.1 x.2) []
theorem KV.puts:∀{ps:List (j8×V)} {qs:List (j8×Value)} {a:List (j8×V)} {b:List (j8×Value)},KV ps qs→KV a b→KV (ps.foldl (fun a x=>D0 a x.1 x.2) a) (qs.foldl (fun a x=>stored a x.1 x.2) b)
 |_,_,_,_,.nil,h=>h
 |_::_,_::_,a,b,.cons r t,h=>by
  obtain⟨e,rv⟩:=r
  rw[List.foldl_cons,List.foldl_cons]
  refine KV.puts t ?_
  rw[←e]
  exact KV.put h _ rv
theorem dM:∀(ps:List (j8×V)) (a:List (j8×V)),(ps.foldl (fun a x=>D0 a x.1 x.2) a).length≤a.length+ps.length
 |[],a=>Nat.le_refl _
 |p::r,a=>by
  rw[List.foldl_cons,List.length_cons]
  have z:=dM r (D0 a p.1 p.2)
  have z2:=R8 a p.1 p.2
  lia
theorem zQ {pins : List (Addr × Obj)} {σ : L2.St} {H : Hp} {s : Shared} (I : Inv X pins σ H s) : ∀ {xs : List V} {kvs : List (j8 × V)} {us : List Value}, Paired (PrV X.K H) xs kvs → Vals xs us → ∃ more : List (j8 × Value), KV kvs more ∧ Paired (fun u kv => ∃ t key, u = Value.ref t ∧ s.heap.IsTuple t #[key, kv.2] ∧ (k8 X.prog X.w).is kv.1 key = true) us more
 := by
  intro xs kvs us hp hv
  induction hp generalizing us with
  | nil => cases hv; exact ⟨[], .nil, .nil⟩
  | @cons x kv l m r t ih => cases hv with
    | cons r' t' =>
      obtain ⟨tt, rfl, sq⟩ := r
      cases r'
      obtain ⟨its, v1, t1, _⟩ := I.tuple sq
      obtain ⟨key, v, rfl, rk, rv⟩ := dG v1
      obtain ⟨more, h1, h2⟩ := ih t'
      exact ⟨(kv.1, v) :: more, .cons ⟨rfl, rv⟩ h1, .cons ⟨tt, key, rfl, t1, ff rk⟩ h2⟩
def sR (K:PySem.W.Frag):List V→Hp→VK→Prop:=fun xs H Q=>∃(p:Addr) (ys:List V) (kvs:List (j8×V)),xs=[.ref p]∧SqL K H p ys∧Paired (PrV K H) ys kvs∧kvs.length≤sizeLine∧∀l,H l=none→Q (.ref l) (p7 H l (.dK (dZ kvs)))
theorem oZ (hc:X.calm=true):CallR X (.type "dict") (sR X.K):=by
 intro pins s σ H xs us Q I r h
 obtain⟨p,ys,kvs,rfl,hq,hp,hz,q⟩:=h
 obtain⟨u,rfl,ru⟩:=K6 r
 cases ru
 obtain⟨its,rv,pl,_⟩:=I.list hq
 obtain⟨more,kv,pr⟩:=zQ I hp rv
 obtain⟨o,n,e,c,hd,dt⟩:=pl
 have hl:more.length=kvs.length:=(KV.length kv).symm
 refine et (knd:=k8 X.prog X.w) (I.ok.hd hc) e c dt hd (by lia) pr fun h' tk dd k=>?_
 refine⟨.ref s.heap.objs.size,_,?_,rfl,q _ (I.hok.fresh (Nat.le_refl _))⟩
 refine I.laid (a:=s.heap.objs.size) (o:= .dK (dZ kvs)) (t':=tk) k (Nat.le_refl _) (gL ?_ (beq_eq_false_iff_ne.mpr (Ne.symm (Nat.ne_of_lt I.big))) (KV.puts kv .nil) dd)
 have z:=dM kvs []
 unfold dZ
 simp only[List.length_nil] at z
 lia
def fB (K:PySem.W.Frag):List V→Hp→VK→Prop:=fun xs H Q=>yx xs H Q∨sR K xs H Q
theorem aU (K:PySem.W.Frag)(hc:X.calm=true)(h:X.K=K:=by rfl):CallR X (.type "dict") (fB K):=by
 subst h
 intro pins s σ H xs us Q I r h
 rcases h with h|h
 ·exact nO pins s σ H xs us Q I r h
 ·exact oZ hc pins s σ H xs us Q I r h
end
section
variable {K:PySem.W.Frag} {H:Hp} {Q:VK}
theorem P6 {p:Addr}{kvs:List (j8×V)}(h:Rd H p (.dK kvs))(q:∀l,H l=none→Q (.ref l) (p7 H l (.dK kvs))):fB K [.ref p] H Q:= .inl ⟨p,kvs,rfl,h,q⟩
theorem M4 {p:Addr}{xs:List V}{kvs:List (j8×V)}(h:SqL K H p xs)(hp:Paired (PrV K H) xs kvs)(hz:kvs.length≤sizeLine)(q:∀l,H l=none→Q (.ref l) (p7 H l (.dK (dZ kvs)))):fB K [.ref p] H Q:= .inr ⟨p,xs,kvs,rfl,h,hp,hz,q⟩
end
end L2
set_option Elab.async false
set_option linter.all false
set_option maxRecDepth 100000
set_option maxHeartbeats 4000000
namespace L2
open PySem PySem.Spec PyProof.Rows
section
variable {X:Cx}
end
end L2
set_option Elab.async false
set_option linter.all false
set_option maxRecDepth 100000
set_option maxHeartbeats 4000000
namespace L2
open PySem PySem.Spec PyProof.Rows
theorem ObjOk.there {P:Program}{w:World}{H:Hp}{h:Heap}{a:Addr}{o:HO}(x:ObjOk P w H h a o):∃u,h.get? a=some u:=by
 induction o with
 |lst xs=>obtain⟨_,_,_,_,e⟩:=x;exact⟨_,e⟩
 |tup xs=>obtain⟨_,_,_,o,e,_⟩:=x;exact⟨_,e⟩
 |dK kvs=>obtain⟨_,_,_,_,o,_,_,e,_⟩:=x;exact⟨_,e⟩
 |dT kvs=>obtain⟨_,_,_,_,o,_,_,e,_⟩:=x;exact⟨_,e⟩
 |set S n=>obtain⟨o,_,_,_,e,_⟩:=x;exact⟨_,e⟩
 |ins C dx fs=>obtain⟨_,_,_,e,_⟩:=x;exact⟨_,e⟩
 |own y=>exact x
 |xd fs=>obtain⟨_,⟨_,_,_,e,_⟩,_⟩:=x;exact⟨_,e⟩
 |rng lo hi=>obtain⟨_,_,_,e⟩:=x;exact⟨_,e⟩
 |frz ob u=>obtain⟨e,_⟩:=x;exact⟨_,e⟩
 |tbl ps=>exact⟨_,show h.get? a=some _ from x⟩
 |met f y=>exact⟨_,show h.get? a=some _ from x⟩
 |ext φ=>obtain⟨_,e,_⟩:=x;exact e
structure Fly (P:Program) (w:World) (outer:List Env) (H:Hp) (s:Shared) (a C:Addr) (a0:Value) (B:Heap) (H':Hp) (s':Shared):Prop where
 fl:Heap.FlyingW B outer a (.ref C) a0 s'.heap
 os:s'.os=s.os
 bare:AllBare s'.gens
 un:Un (V5 outer) [] H H' s.heap s'.heap
 hok:HOk P w H' s'.heap
 kp:∀b o,s.heap.get? b=some o→H b=none→b∉V5 outer→B.get? b=some o
 th:∀b o,s.heap.get? b=some o→b∉V5 outer→∃o',B.get? b=some o'
 tr:∀b o,H' b=some o→∃u,B.get? b=some u
 nw:H' a=none
def cS (P:Program)(w:World):kD:=fun outer H s E e s'=>∃(a C:Addr) (a0:Value) (B:Heap) (H':Hp),e= .ref a∧Fly P w outer H s a C a0 B H' s'∧E (.ref C) (some a) H'
theorem nA {P:Program}{w:World}{H:Hp}{B h h':Heap}(ok:HOk P w H h)(tr:∀b o,H b=some o→∃u,B.get? b=some u)(k1:B.StaysIn h)(k2:B.StaysIn h'):HOk P w H h':=fun a o e=>
 (ok a o e).stay (fun b u hb q=>by
  have hH:∃o',H b=some o':=by
   rcases hb with rfl|hb
   ·exact⟨_,e⟩
   ·exact⟨_,hb⟩
  obtain⟨o',ho'⟩:=hH
  obtain⟨u',hu'⟩:=tr b o' ho'
  have z:=k1 b u' hu'
  rw[q] at z
  cases z
  exact k2 b _ hu') (fun _ z=>z) fun _ _ z=>z
section
variable {X:Cx} {pins:List (Addr×Obj)} {σ:St} {H:Hp} {s s':Shared}
theorem F1 {base h:Heap}{l:List Env}(F:h.FunFrames base l){b:Addr}{o:Obj}(hb:b∈V5 l)(e:h.get? b=some o):∀vs,o.data≠ .fields vs:=by
 obtain⟨_,o',h1,h2⟩:=F.mem hb
 rw[e] at h1;cases h1;exact h2
theorem Fly.land {a C:Addr}{a0:Value}{B:Heap}{H':Hp}{h':Heap}(I:Inv X pins σ H s)(F:Fly X.prog X.w X.stack H s a C a0 B H' s')(k:B.StaysIn h')(sl:s'.heap.UpToSlots h')(t':Nat):
  Inv X pins σ H' {s' with heap:=h',toks:=t'}:=by
 have fr:=F.fl.2.2.1
 have u:Un (V5 X.stack) [] H H' s.heap h':=by
  refine⟨fun b o e n hb _=>k b o (F.kp b o e n hb),fun b o e n hb _=>?_,F.un.free,fun b o e _=>?_,F.un.tups,F.un.frzs,F.un.tbls⟩
  ·obtain⟨s1,e1⟩:=F.un.slot b o e n hb (by simp)
   obtain⟨s2,e2⟩:=sl b _ e1 (F1 fr hb e1)
   exact⟨s2,e2⟩
  ·by_cases hb:b∈V5 X.stack
   ·obtain⟨o',e1⟩:=F.un.there b o e (by simp)
    obtain⟨s2,e2⟩:=sl b _ e1 (F1 fr hb e1)
    exact⟨_,e2⟩
   ·obtain⟨o',e1⟩:=F.th b o e hb
    exact⟨o',k b o' e1⟩
 have hok:=nA F.hok F.tr F.fl.1 k
 exact I.call' (s':={s' with heap:=h',toks:=t'}) (ch:=[]) F.os u hok F.bare (fun b z=>absurd z (by simp))
end
section
variable {P:Program} {w:World} {K:PySem.W.Frag} {mg:Str→Option Value} {base:Heap} {N:List Str} {qual:Str} {scope:Scope} {f:Addr} {cd:Value} {A:Around} {outer:List Env} {s0:Shared} {H0:Hp} {E:XK}
theorem cE {b:Addr}(hb:b∈V5 outer):b∈V5 (envOfC qual scope s0.heap.objs.size f cd::outer):=by
 unfold V5 at*
 rw[List.filterMap_cons]
 split
 ·exact hb
 ·exact List.mem_cons_of_mem _ hb
theorem eZ {b:Addr}{o:Obj}(e:s0.heap.get? b=some o)(hb:b∉V5 outer):b∉V5 (envOfC qual scope s0.heap.objs.size f cd::outer):=fun z=>by
 unfold V5 at z hb
 rw[List.filterMap_cons] at z
 have hl:=Heap.lt_size e
 rcases List.mem_cons.mp z with z|z
 ·rw[z] at hl;exact absurd hl (Nat.lt_irrefl _)
 ·exact hb z
theorem jL {pins:List (Addr×Obj)}{σ:St}{H:Hp}{s:Shared}{h1:Heap}{e C:Addr}{vs:List Value}(I:Inv (fS (cS P w) P w K mg base N qual scope f cd A outer s0 H0 E) pins σ H s)
  (hx:Heap.MadeExcOf s.heap h1 e (.ref C) vs) (q:E (.ref C) (some e) H):(fS (cS P w) P w K mg base N qual scope f cd A outer s0 H0 E).xe (.ref e) {s with heap:=h1}:=by
 have hst:∀env∈(envOfC qual scope s0.heap.objs.size f cd::outer),∀b,env.frame=some b→b∈V5 (envOfC qual scope s0.heap.objs.size f cd::outer):=fun env he b hb=>List.mem_filterMap.mpr ⟨env,he,hb⟩
 have fr:s.heap.FunFrames base (envOfC qual scope s0.heap.objs.size f cd::outer):=I.stack
 have tr:∀b o,H b=some o→∃u,(PySem.W.hideAll s.heap (V5 (envOfC qual scope s0.heap.objs.size f cd::outer))).get? b=some u:=fun b o z=>by
  obtain⟨u,hu⟩:=(I.hok b o z).there
  refine⟨u,PySem.W.hideAll_get _ hu fun hb=>?_⟩
  have:=I.stkFree b hb
  rw[z] at this;cases this
 have nw:H e=none:=by
  cases z:H e with
  |none=>rfl
  |some o=>
   obtain⟨u,hu⟩:=(I.hok e o z).there
   rw[hx.new] at hu;cases hu
 have hb0:Un (V5 outer) [] H0 H s0.heap s.heap:=I.base
 refine wpAny_leaves_madeW (base:=PySem.W.hideAll s.heap (V5 (envOfC qual scope s0.heap.objs.size f cd::outer))) I.ok.frames rfl (fun b o z=>PySem.W.of_hideAll _ z) (PySem.W.funFrames_hide fr hst) hx fun h' t x1 x2 x3 x4=>?_
 have kp:∀b o,s0.heap.get? b=some o→H0 b=none→b∉V5 outer→(PySem.W.hideAll s.heap (V5 (envOfC qual scope s0.heap.objs.size f cd::outer))).get? b=some o:=fun b o z n hb=>
  PySem.W.hideAll_get _ (hb0.keep b o z n hb (by simp)) (eZ z hb)
 have th:∀b o,s0.heap.get? b=some o→b∉V5 outer→∃o',(PySem.W.hideAll s.heap (V5 (envOfC qual scope s0.heap.objs.size f cd::outer))).get? b=some o':=fun b o z hb=>by
  obtain⟨o',z'⟩:=hb0.there b o z (by simp)
  exact⟨o',PySem.W.hideAll_get _ z' (eZ z hb)⟩
 have hk:=x1.1
 refine⟨e,C,_,_,H,rfl,⟨x1,I.os,I.bare,⟨fun b o z n hb _=>hk b o (kp b o z n hb),fun b o z n hb _=>?_,fun b o z n _=>hb0.free b o z n (by simp),fun b o z _=>?_,hb0.tups,hb0.frzs,hb0.tbls⟩,?_,kp,th,tr,nw⟩,q⟩
 ·obtain⟨s1,e1⟩:=hb0.slot b o z n hb (by simp)
  have nf:=F1 fr (cE hb) e1
  obtain⟨s2,e2⟩:=x4 b _ (hx.keeps _ _ e1) nf
  exact⟨s2,e2⟩
 ·by_cases hb:b∈V5 outer
  ·obtain⟨o',e1⟩:=hb0.there b o z (by simp)
   obtain⟨s2,e2⟩:=x4 b _ (hx.keeps _ _ e1) (F1 fr (cE hb) e1)
   exact⟨_,e2⟩
  ·obtain⟨o',e1⟩:=th b o z hb
   exact⟨o',hk b o' e1⟩
 ·exact nA I.hok tr (fun b o z=>PySem.W.of_hideAll _ z) hk
theorem vS:aF (cS P w) (fS (cS P w) P w K mg base N qual scope f cd A outer s0 H0 E) E:=by
 intro pins σ H s e s' I h
 obtain⟨a,C,a0,B,H',rfl,F,q⟩:=h
 have fr:=F.fl.2.2.1
 have hb0:Un (V5 outer) [] H0 H s0.heap s.heap:=I.base
 refine wpAny_leaves_onW I.ok.frames rfl F.fl fun h' x1 x2=>?_
 have hk:=x1.1
 have kp:∀b o,s0.heap.get? b=some o→H0 b=none→b∉V5 outer→B.get? b=some o:=fun b o z n hb=>
  F.kp b o (hb0.keep b o z n hb (by simp)) (hb0.free b o z n (by simp)) (eZ z hb)
 have th:∀b o,s0.heap.get? b=some o→b∉V5 outer→∃o',B.get? b=some o':=fun b o z hb=>by
  obtain⟨o',z'⟩:=hb0.there b o z (by simp)
  exact F.th b o' z' (eZ z hb)
 have ub:Un (V5 (envOfC qual scope s0.heap.objs.size f cd::outer)) [] H H' s.heap s'.heap:=F.un
 refine⟨a,C,a0,B,H',rfl,⟨x1,F.os.trans I.os,F.bare,⟨fun b o z n hb _=>hk b o (kp b o z n hb),fun b o z n hb _=>?_,fun b o z n _=>?_,fun b o z _=>?_,fun b xs z=>ub.tups b xs (hb0.tups b xs z),fun b o u z=>ub.frzs b o u (hb0.frzs b o u z),fun b ps z=>?_⟩,nA F.hok F.tr F.fl.1 hk,kp,th,F.tr,F.nw⟩,q⟩
 ·obtain⟨s1,e1⟩:=hb0.slot b o z n hb (by simp)
  obtain⟨s2,e2⟩:=ub.slot b _ e1 (hb0.free b o z n (by simp)) (cE hb) (by simp)
  obtain⟨s3,e3⟩:=x2 b _ e2 (F1 fr (cE hb) e2)
  exact⟨s3,e3⟩
 ·obtain⟨o',e1⟩:=hb0.there b o z (by simp)
  exact ub.free b o' e1 (hb0.free b o z n (by simp)) (by simp)
 ·by_cases hb:b∈V5 outer
  ·obtain⟨o',e1⟩:=hb0.there b o z (by simp)
   obtain⟨o2,e2⟩:=ub.there b o' e1 (by simp)
   obtain⟨s3,e3⟩:=x2 b _ e2 (F1 fr (cE hb) e2)
   exact⟨_,e3⟩
  ·obtain⟨o',e1⟩:=th b o z hb
   exact⟨o',hk b o' e1⟩
 ·obtain⟨m1,e1⟩:=hb0.tbls b ps z
  obtain⟨m2,e2⟩:=ub.tbls b _ e1
  exact⟨m1++m2,by rw[e2,Array.append_assoc]⟩
end
def DL:List Value:=[.type "ValueError",.type "Exception",.type "BaseException",.type "object"]
structure ExC (K:PySem.W.Frag) (mg:Str→Option Value) (x:Str) (C:Addr):Prop where
 bound:mg x=some (.ref C)
 exc:PySem.W.excIn K C DL "ValueError.__new__"=true
theorem ExC.own {K:PySem.W.Frag}{mg:Str→Option Value}{x:Str}{C:Addr}{h:Heap}(O:ExC K mg x C)(X:K.In h):OwnCls x C DL "ValueError.__new__" mg h:=by
 have q:=O.exc
 refine⟨O.bound,?_⟩
 unfold PySem.W.excIn at q
 split at q
 ·rename_i g1 g2 g3 lk
  split at q
  ·rename_i c2 l2 i0 i1 i2 i3 nn i5 em es
   simp only[Bool.and_eq_true,beq_iff_eq,Bool.not_eq_true'] at q
   obtain⟨⟨⟨⟨⟨ea,eb⟩,q1⟩,q2⟩,q3⟩,q4⟩:=q
   subst ea
   subst eb
   obtain⟨y1,y2,y3,y4,y5,y6,y7,y8,y9,y10,y11⟩:=g2
   dsimp only at em q1 q3 q4
   subst em q1
   have e3:g3= #[i0,i1,i2,i3,some (.builtin "ValueError.__new__"),i5]:=by
    cases g3 with
    |mk l=>
     have es':l=[i0,i1,i2,i3,some (.builtin "ValueError.__new__"),i5]:=es
     rw[es']
   subst e3
   exact⟨l2,y4,y1,y5,y2,y6,y7,y8,y9,y10,g1,i0,i1,i2,i3,i5,h.nsMap y4,X _ _ lk,Heap.Ns.of_isNs (PySem.W.isNs_of_in X q3),PySem.W.nsMap_none_of_in X q3 q4,PySem.W.tail_of_in X q2⟩
  ·cases q
 ·cases q
def nj (X:Cx)(E:XK):Prop:=∀(pins:List (Addr×Obj)) (σ:St) (H:Hp) (s:Shared) (h1:Heap) (e C:Addr) (vs:List Value),Inv X pins σ H s→Heap.MadeExcOf s.heap h1 e (.ref C) vs→E (.ref C) (some e) H→X.xe (.ref e) {s with heap:=h1}
theorem pG {P:Program}{w:World}{K:PySem.W.Frag}{mg:Str→Option Value}{base:Heap}{N:List Str}{qual:Str}{scope:Scope}{f:Addr}{cd:Value}{A:Around}{outer:List Env}{s0:Shared}{H0:Hp}{E:XK}:
  nj (fS (cS P w) P w K mg base N qual scope f cd A outer s0 H0 E) E:=fun _ _ _ _ _ _ _ _ I hx q=>jL I hx q
def oq (C:Addr)(E:XK)(ta:TA):TS:=fun _ σ H=>ta σ H fun vs H1=>vs.length≤sizeLine∧∀e,H1 e=none→E (.ref C) (some e) H1
section
variable {X:Cx} {E:XK} {x:Str} {C:Addr} {np cpos pos:Pos} {e:Expr} {es:List Expr} {ta:TA}
theorem uQ (R:nj X E)(O:ExC X.K X.mg x C)(hc:X.calm=true)(ha:PA X (e::es) ta)(hg:Gl X x:=by rfl)(hdb:(x==("__debug__":Str))=false:=by decide)(h:u9 (e::es)=true:=by rfl):
  PS X (.Raise (some (.Call (.Name x np) (e::es) [] cpos)) none pos) (oq C E ta):=by
 intro pins s σ H D I hw
 have h':(z7 e&&u9 es)=true:=h
 rw[Bool.and_eq_true] at h'
 have h1:starEach (e::es) X.env=(false,eval e X.env)::starEach es X.env:=au h'.1
 have h2:(backTo cpos (starEach es X.env)).any (·.1)=false:=ax h'.2
 obtain⟨tl,y0,y1,y2,y3,y4,y5,y6,y7,y8,y9,u0,u1,u2,u3,u5,mN,hC,hN,hni,T⟩:=(O.own I.ok.mod.kin).obj
 refine wpAny_Raise_call_subT (k5:=u5) (k3:=u3) (k2:=u2) (k1:=u1) (k0:=u0) (dd:=y9) (col:=y8) (ab:=y7) (sub:=y6) (sn:=y5) (hdct:=y4) (bs:=y3) (q:=y2) (nm:=y1) (N:=y0) (C:=C) (bm:=tl) (mN:=mN) PySem.F.excBase_ValueError (T.hasType (by decide)) (I.ok.hd hc) ?_ hni (cO I hg O.bound ⟨rfl,?_⟩ hdb)
 ·rw[h1]
  show(false||(backTo cpos (starEach es X.env)).any (·.1))=false
  rw[h2];rfl
 ·have hw':=ha cpos pins s σ H _ I hw
  rw[h1] at hw'⊢
  refine Calls.evalArgs_plain (K2 hw' fun us s1 ⟨vs,H1,I1,r,q1,q2⟩=>?_)
  refine⟨rfl,by rw[←r.length];exact q1,I1.bk _ _ hC,hN.keeps I1.bk,T.keeps I1.bk,fun h2 e2 hm=>?_⟩
  have nw:H1 e2=none:=by
   cases z:H1 e2 with
   |none=>rfl
   |some o=>
    obtain⟨u,hu⟩:=(I1.hok e2 o z).there
    rw[hm.new] at hu;cases hu
  exact R pins σ H1 s1 h2 e2 C us I1 hm (q2 e2 nw)
theorem sy (R:nj X E)(O:ExC X.K X.mg x C)(hc:X.calm=true)(ha:QA X (e::es) ta)(hg:Gl X x:=by rfl)(hdb:(x==("__debug__":Str))=false:=by decide)(h:u9 (e::es)=true:=by rfl):
  QS X (.Raise (some (.Call (.Name x np) (e::es) [] cpos)) none pos) (oq C E ta):=⟨uQ R O hc ha.r hg hdb h⟩
end
theorem Fun.okE {P:Program}{w:World}{K:PySem.W.Frag}{mg:Str→Option Value}{base:Heap}{x qual:Str}{st:Stmt}{f:Addr}{fd:FuncData}{N ps:List Str}{k:Nat}{sp:Sp}(F:Fun K x qual st f fd)(S:d9 N ps (b6 st))(len:∀vs H Q E,sp vs H Q E→vs.length=ps.length)
  (hbody:∀(cdv:Value) (A:Around) (outer:List Env) (s:Shared) (H:Hp) (vs:List V) (Q:VK) (E:XK),Room k (A.deeper (envOfC qual (b6 st) s.heap.objs.size f cdv))→sp vs H Q E→
   ∃t,PSs (fS (cS P w) P w K mg base N qual (b6 st) f cdv A outer s H E) (N4 st) t∧t {nx:=fun _ H'=>Q .non H',rt:=Q} (cq N vs) H):p0 P w K mg base (cS P w) (k+1) f fd ps sp:=by
 obtain⟨oc,od,kV,doc,pm,an,cdv,ct,osl,rfl,lk,hcd⟩:=F.ex
 exact yA lk hcd S len fun A outer s H vs Q E hr hsp=>hbody cdv A outer s H vs Q E hr hsp
end L2
set_option Elab.async false
set_option linter.all false
set_option maxRecDepth 100000
set_option maxHeartbeats 4000000
namespace L2
open PySem PySem.Spec PyProof.Rows
abbrev Cx.pinned (X:Cx)(pins:List (Addr×Obj)):Cx:={X with pn:=X.pn++pins}
def FA (X:Cx)(pins:List (Addr×Obj))(Es:St→XK):Value→Shared→Prop:=fun e s'=>∃(pins':List (Addr×Obj)) (σ:St) (H:Hp) (s:Shared),Inv (X.pinned pins) pins' σ H s∧cS X.prog X.w X.stack H s (Es σ) e s'
abbrev Cx.tried (X:Cx)(pins:List (Addr×Obj))(Es:St→XK):Cx:={X with pn:=X.pn++pins,xe:=FA X pins Es}
abbrev Cx.suite (X:Cx)(e:Addr):Cx:={X with A:=X.A.mark (some (.ref e)),calm:=false,xe:=fun _ _=>False}
section
variable {X:Cx} {pins pins':List (Addr×Obj)} {Es:St→XK} {σ:St} {H:Hp} {s:Shared} {e:Addr}
theorem Inv.toTried (I:Inv X pins σ H s):Inv (X.tried pins Es) [] σ H s:=
 ⟨⟨I.ok.mod,I.ok.kind,I.ok.glob,I.ok.blt,I.ok.above,I.ok.inj,I.ok.has,I.ok.cab,I.ok.hd,I.ok.frames,I.ok.stk,I.ok.exf,I.ok.bs,I.ok.bsz,I.ok.noex,I.ok.exfs,I.ok.funs,I.ok.frf⟩,
  I.os,I.bare,I.base,I.loc,I.cell,I.free,I.freeC,fun p hp=>I.pin p (by simpa using hp),I.hok,I.len⟩
theorem Inv.ofTried (I:Inv (X.tried pins Es) pins' σ H s):Inv X pins σ H s:=
 ⟨⟨I.ok.mod,I.ok.kind,I.ok.glob,I.ok.blt,I.ok.above,I.ok.inj,I.ok.has,I.ok.cab,I.ok.hd,I.ok.frames,I.ok.stk,I.ok.exf,I.ok.bs,I.ok.bsz,I.ok.noex,I.ok.exfs,I.ok.funs,I.ok.frf⟩,
  I.os,I.bare,I.base,I.loc,I.cell,I.free,I.freeC,fun p hp=>I.pin p (List.mem_append_left _ hp),I.hok,I.len⟩
theorem Inv.ofPinned (I:Inv (X.pinned pins) pins' σ H s):Inv X pins σ H s:=
 ⟨⟨I.ok.mod,I.ok.kind,I.ok.glob,I.ok.blt,I.ok.above,I.ok.inj,I.ok.has,I.ok.cab,I.ok.hd,I.ok.frames,I.ok.stk,I.ok.exf,I.ok.bs,I.ok.bsz,I.ok.noex,I.ok.exfs,I.ok.funs,I.ok.frf⟩,
  I.os,I.bare,I.base,I.loc,I.cell,I.free,I.freeC,fun p hp=>I.pin p (List.mem_append_left _ hp),I.hok,I.len⟩
theorem Inv.triedPinned (I:Inv (X.tried pins Es) pins' σ H s):Inv (X.pinned pins) pins' σ H s:=
 ⟨⟨I.ok.mod,I.ok.kind,I.ok.glob,I.ok.blt,I.ok.above,I.ok.inj,I.ok.has,I.ok.cab,I.ok.hd,I.ok.frames,I.ok.stk,I.ok.exf,I.ok.bs,I.ok.bsz,I.ok.noex,I.ok.exfs,I.ok.funs,I.ok.frf⟩,
  I.os,I.bare,I.base,I.loc,I.cell,I.free,I.freeC,I.pin,I.hok,I.len⟩
theorem kG (A:Around)(h:Option Value):(A.mark h).frames=A.frames:=rfl
theorem Inv.toSuite (I:Inv X pins σ H s):Inv (X.suite e) pins σ H s:=
 ⟨⟨I.ok.mod,I.ok.kind,I.ok.glob,I.ok.blt,I.ok.above,I.ok.inj,I.ok.has,I.ok.cab,(fun z=>nomatch z),(kG _ _).trans I.ok.frames,I.ok.stk,I.ok.exf,I.ok.bs,I.ok.bsz,I.ok.noex,I.ok.exfs,I.ok.funs,I.ok.frf⟩,
  I.os,I.bare,I.base,I.loc,I.cell,I.free,I.freeC,I.pin,I.hok,I.len⟩
theorem Inv.ofSuite (ok:X.Ok)(I:Inv (X.suite e) pins σ H s):Inv X pins σ H s:=
 ⟨ok,I.os,I.bare,I.base,I.loc,I.cell,I.free,I.freeC,I.pin,I.hok,I.len⟩
def IsExc (a C:Addr)(h:Heap):Prop:=∃o vs,h.get? a=some o∧o.cls= .ref C∧o.data= .fields vs
theorem vU {P:Program}{w:World}{H:Hp}{h:Heap}{a C:Addr}(x:IsExc a C h):ObjOk P w H h a (.ext (IsExc a C)):=by
 obtain⟨o,vs,e,c,d⟩:=x
 refine⟨⟨o,vs,e,c,d⟩,⟨o,e⟩,fun h1 h2 ⟨o',vs',e',c',d'⟩ k=>⟨o',vs',k _ e',c',d'⟩⟩
theorem Inv.track {a C:Addr}(I:Inv X pins σ H s)(hn:H a=none)(x:IsExc a C s.heap)(h0:X.s₀.heap.get? a=none)(hp:∀p∈X.pn++pins,p.1≠a):Inv X pins σ (p7 H a (.ext (IsExc a C))) s:=by
 obtain⟨o,vs,e,c,d⟩:=id x
 have ne0:∀b ob,X.s₀.heap.get? b=some ob→b≠a:=fun b ob z q=>by rw[q,h0] at z;cases z
 refine⟨I.ok,I.os,I.bare,⟨I.base.keep,I.base.slot,fun b ob z n hx=>?_,I.base.there,fun b xs z=>?_,fun b ob u z=>?_,fun b ps z=>?_⟩,I.loc,I.cell,?_,fun y c' z=>?_,fun p hq=>?_,fun b u z=>?_,I.len⟩
 ·rw[d7 (ne0 b ob z)];exact I.base.free b ob z n hx
 ·have z':=I.base.tups b xs z
  rw[d7 fun q=>by rw[q,hn] at z';cases z'];exact z'
 ·have z':=I.base.frzs b ob u z
  rw[d7 fun q=>by rw[q,hn] at z';cases z'];exact z'
 ·obtain⟨more,z'⟩:=I.base.tbls b ps z
  exact⟨more,by rw[d7 fun q=>by rw[q,hn] at z';cases z'];exact z'⟩
 ·obtain⟨m,⟨oL,es,ep,hL,dL,_⟩,_⟩:=I.loc
  rw[d7 fun q=>?_]
  ·exact I.free
  ·rw[q,e] at hL;cases hL;rw[d] at dL;cases dL
 ·obtain⟨v,oc,hoc,hod⟩:=I.cell y c' z
  rw[d7 fun q=>?_]
  ·exact I.freeC y c' z
  ·rw[q,e] at hoc;cases hoc;rw[d] at hod;cases hod
 ·obtain⟨p1,p2,p3,p4,p5⟩:=I.pin p hq
  exact⟨p1,by rw[d7 (hp p hq)];exact p2,p3,p4,p5⟩
 ·by_cases q:b=a
  ·subst q
   rw[j7] at z;cases z
   exact vU x
  ·rw[d7 q] at z
   refine(I.hok b u z).stay (fun _ _ _ q=>q) (fun b' q'=>?_) fun b' xs q'=>?_
   ·rw[d7 fun k=>by rw[k,hn] at q';cases q'];exact q'
   ·rw[d7 fun k=>by rw[k,hn] at q';cases q'];exact q'
theorem aV {M:Model}{A:Around}{E:Value→Shared→Prop}{i:Nat}{n:Str}{pos:Pos}{Q:Unit→Shared→Prop}(I:Inv X pins σ H s)(hN:X.N.Nodup)(hi:X.N[i]?=some n)(hl:X.env.scope.names.lookup n=some .local)
  (h:∀s',Inv X pins (σ.set i none) H s'→Q () s'):wpAny M A (do bindName X.env n .none;unbindBehindTheSuite X.env n pos) Q E s:=by
 obtain⟨m,hn,hm⟩:=id I.loc
 have hcls:(X.env.scope.kind== .class||(X.env.scope.kind== .module&&X.env.locals !=X.env.globals))=false:=by rw[I.ok.kind];rfl
 have hiσ:i<σ.length:=by rw[I.len];exact(List.getElem?_eq_some_iff.mp hi).1
 refine wpAny_nameGoes_keeps hl hn hcls fun h' v hn' hs=>h _ ?_
 have nL:∀b o,X.s₀.heap.get? b=some o→b≠X.env.locals:=fun b o e=>Nat.ne_of_lt (Nat.lt_of_lt_of_le (Heap.lt_size e) I.ok.above)
 refine⟨I.ok,I.os,I.bare,⟨fun b o e n hb hx=>?_,fun b o e n hb hx=>?_,I.base.free,fun b o e hx=>?_,I.base.tups,I.base.frzs,I.base.tbls⟩,⟨_,hn',fun j y v' e1 e2 e3=>?_⟩,fun y c e=>?_,I.free,I.freeC,fun p hp=>?_,fun b ob e=>?_,by simpa using I.len⟩
 ·exact(hs.2 b (nL b o e)).trans (I.base.keep b o e n hb hx)
 ·obtain⟨sl,e1⟩:=I.base.slot b o e n hb hx
  exact⟨sl,(hs.2 b (nL b o e)).trans e1⟩
 ·obtain⟨o',e1⟩:=I.base.there b o e hx
  exact⟨o',(hs.2 b (nL b o e)).trans e1⟩
 ·by_cases hj:j=i
  ·subst hj
   rw[List.getElem?_set_self hiσ] at e2
   cases e2
  ·rw[List.getElem?_set_ne (Ne.symm hj)] at e2
   obtain⟨u',r',q⟩:=hm j y v' e1 e2 e3
   refine⟨u',r',?_⟩
   rcases q with⟨k,e⟩|⟨k,c,e,z⟩
   ·refine .inl ⟨k,?_⟩
    have hy:y≠n:=fun e=>hj (fv hN e1 (e▸hi))
    show(if y=n then v else m y)=some u'
    rw[if_neg hy];exact e
   ·exact .inr ⟨k,c,e,z.sameBut hs (I.cne y c e)⟩
 ·obtain⟨w',z⟩:=I.cell y c e
  exact⟨w',z.sameBut hs (I.cne y c e)⟩
 ·obtain⟨e,n,ne,nf,d⟩:=I.pin p hp
  exact⟨(hs.2 p.1 ne).trans e,n,ne,nf,d⟩
 ·refine(I.hok b ob e).stay (fun c w' hc q=>(hs.2 c ?_).trans q) (fun _ q=>q) fun _ _ q=>q
  rintro rfl
  have f:=I.free
  rcases hc with rfl|hc
  ·rw[f] at e;cases e
  ·rw[f] at hc;cases hc
end
def vV (sp:Sp)(dvs:List V)(Es:St→XK)(t:TA):TE:=fun σ H Q=>t σ H fun vs H1=>sp (vs++dvs) H1 Q (Es σ)
section
variable {X:Cx} {pins:List (Addr×Obj)} {Es:St→XK} {k:Nat} {ps:List Str} {dvs:List V} {sp:Sp} {x:Str} {p pos:Pos} {e:Expr} {es:List Expr} {t:TA}
theorem EU (C:F0 X.prog X.w X.K X.mg X.base (cS X.prog X.w) k x ps dvs sp)(hr:Room k X.A)(ha:QA (X.tried pins Es) (e::es) t)(hg:Gl X x:=by rfl)
  (hdb:(x==("__debug__":Str))=false:=by decide) (h:u9 (e::es)=true:=by rfl):QE (X.tried pins Es) (.Call (.Name x p) (e::es) [] pos) (vV sp dvs Es t):=⟨by
 have h':(z7 e&&u9 es)=true:=h
 rw[Bool.and_eq_true] at h'
 obtain⟨f,fd,ds,F,hm,hk,hb,hd⟩:=C
 intro pins' s σ H Q I hw
 refine wpAny_Call_Name_kw (cO I hg hm ?_ hdb)
 refine PySem.W.callWith_K (h₀:=X.base) I.ok.mod.kin hk (K2 (ha.r pos pins' s σ H _ I hw) fun us s1 ⟨vs,H1,I1,r,q⟩=>⟨I1.kIn,?_⟩) (au h'.1) (ax h'.2)
 have r2:Vals (vs++dvs) (us++ds):=r.append hd
 have hl:(us++ds).length=ps.length:=by rw[←r2.length];exact F.len _ _ _ _ q
 refine wpAny_call (codeAny_mono (F.run X.A X.stack s1 H1 ⟨us,[]⟩ (us++ds) (vs++dvs) Q (Es σ) hr I1.env0 (hb s1 us I1.kIn hl) r2 q) fun r s' hq=>?_)
 cases r with
 |error e=>exact⟨pins',σ,H1,s1,I1.triedPinned,hq⟩
 |ok fl=>
  cases fl with
  |ret u=>exact I1.after hq
  |next=>exact False.elim hq
  |brk=>exact False.elim hq
  |cont=>exact False.elim hq⟩
end
theorem lG {M:Model}{A:Around}{E:Value→Shared→Prop}{K:PySem.W.Frag}{s:Shared}{a C T:Addr}{b:Bool}{Q:Bool→Shared→Prop}(X:K.In s.heap)(x:IsExc a C s.heap)(hm:PySem.W.typeIn K (.ref T)=some (.type "type"))
  (he:PySem.W.subIn K (.ref T) (.type "BaseException")=some true) (hc:(PySem.W.clsIn K T).isSome=true) (hs:PySem.W.subIn K (.ref C) (.ref T)=some b) (q:Q b s):wpAny M A (excMatches (.ref a) (.ref T)) Q E s:=by
 obtain⟨oe,vs,ex,ec,ed⟩:=x
 have L1:PySem.W.Looks M s.heap (isInstance (.ref T) (.type "tuple")) false:=(PySem.W.looks_typeIn X hm).andThen (PySem.W.Looks.of_pure tc_notTuple)
 have L2:PySem.W.Looks M s.heap (isType (.ref T)) true:=by
  unfold PySem.W.clsIn at hc
  split at hc
  ·rename_i lk
   intro A' Q' E' s' k q'
   unfold isType loadHead
   exact wpAny_bind (wpAny_loadPart (k _ _ (X _ _ lk)) (wpAny_pure q'))
  ·cases hc
 have L3:=PySem.W.looks_subIn (M:=M) X he
 have L4:PySem.W.Looks M s.heap (typeOf (.ref a)) (.ref C):=by
  have z:PySem.W.Looks M s.heap (typeOf (.ref a)) oe.cls:=(PySem.W.Looks.ld ex).andThen .now
  rw[ec] at z;exact z
 have L5:=PySem.W.looks_subIn (M:=M) X hs
 unfold excMatches
 refine wpAny_bind (L1.here ?_)
 simp only[Bool.false_eq_true,if_false]
 have LX:PySem.W.Looks M s.heap (isExcClass (.ref T)) true:=by
  unfold isExcClass
  exact L2.andThen (by simpa using L3)
 refine wpAny_bind (wpAny_pure ?_)
 refine wpAny_bind ?_
 rw[List.forIn_cons]
 refine wpAny_bind (wpAny_bind (LX.here ?_))
 simp only[Bool.not_true,Bool.false_eq_true,if_false]
 refine wpAny_pure ?_
 simp only[List.forIn_nil]
 refine wpAny_pure ?_
 refine wpAny_bind (L4.here ?_)
 refine wpAny_bind ?_
 rw[List.forIn_cons]
 refine wpAny_bind (wpAny_bind (L5.here ?_))
 cases b with
 |true=>
  simp only[if_true]
  exact wpAny_pure (wpAny_pure (wpAny_pure q))
 |false=>
  simp only[Bool.false_eq_true,if_false]
  refine wpAny_pure ?_
  simp only[List.forIn_nil]
  exact wpAny_pure (wpAny_pure q)
structure EN (K:PySem.W.Frag) (mg:Str→Option Value) (x:Str) (T:Addr):Prop where
 bound:mg x=some (.ref T)
 ty:PySem.W.typeIn K (.ref T)=some (.type "type")
 exc:PySem.W.subIn K (.ref T) (.type "BaseException")=some true
 cls:(PySem.W.clsIn K T).isSome=true
def Ak (K:PySem.W.Frag)(T:Addr)(i:Nat)(tb:(St→XK)→TS)(ts:TS):TS:=fun D σ H=>
 tb (fun σ' c oa H'=>∃C a,c= .ref C∧oa=some a∧PySem.W.subIn K (.ref C) (.ref T)=some true∧
  ts {nx:=fun σ2 H2=>D.nx (σ2.set i none) H2,rt:=D.rt,bk:=fun σ2 H2=>D.bk (σ2.set i none) H2,ct:=fun σ2 H2=>D.ct (σ2.set i none) H2} (σ'.set i (some (.ref a))) (p7 H' a (.ext (IsExc a C)))) D σ H
section
variable {X:Cx} {x n:Str} {T:Addr} {np hpos pos:Pos} {i:Nat} {b₀:Stmt} {body suite:List Stmt} {tb:(St→XK)→TS} {ts:TS}
theorem Br (O:EN X.K X.mg x T)(hN:X.N.Nodup)(hi:X.N[i]?=some n)(hl:X.env.scope.names.lookup n=some .local)(hb:∀pins Es,PSs (X.tried pins Es) body (tb Es))(hs:∀e,PSs (X.suite e) (b₀::suite) ts)
  (hst:X.stack=X.env::X.outer) (hfr:X.env.frame=some X.env.locals) (hex:X.ex=[]) (hg:Gl X x:=by rfl) (hdb:(x==("__debug__":Str))=false:=by decide):
  PS X (.Try body [.ExceptHandler (some (.Name x np)) (some n) (b₀::suite) hpos] [] [] pos) (Ak X.K T i tb ts):=by
 intro pins s σ H D I hw
 refine wpAny_Try_except (wpAny_mono (hb pins _ [] s σ H D I.toTried hw) (fun f s1 q=>?_) fun e s1 q=>?_)
 ·cases f with
  |next=>obtain⟨σ',H',I',q'⟩:=q;exact wpAny_execs_nil ⟨σ',H',I'.ofTried,q'⟩
  |brk=>obtain⟨σ',H',I',q'⟩:=q;exact⟨σ',H',I'.ofTried,q'⟩
  |cont=>obtain⟨σ',H',I',q'⟩:=q;exact⟨σ',H',I'.ofTried,q'⟩
  |ret u=>obtain⟨v,σ',H',I',r',q'⟩:=q;exact⟨v,σ',H',I'.ofTried,r',q'⟩
 ·obtain⟨pins',σ',H1,s2,I2',a,C',a0,B,H',rfl,F,C,a',ec,ea,hsub,hts⟩:=q
  cases ec
  cases ea
  have I2:=I2'.ofPinned
  have hfl:=F.fl
  rw[hst] at hfl
  refine wpAny_looks_onW (by rw[I.ok.frames,hst]) hfr hfl fun h4 held4 sm4=>?_
  refine wpAny_landsW held4 fun h5 hfl5 sm5=>?_
  have I5:Inv X pins σ' H' {s1 with heap:=h5}:=F.land I2 hfl5.1 (sm4.trans sm5) s1.toks
  have hx5:IsExc a C' h5:=by
   obtain⟨oe,vs,z1,z2,z3,_⟩:=hfl5.first
   exact⟨oe,vs,z1,z2,z3⟩
  refine wpAny_handleBy_cons (codeAny_handlers_test ?_) (by intro q;cases q)
  refine cO (X:=X.suite a) (I5.toSuite (e:=a)) hg O.bound ?_ hdb
  refine lG I5.kIn hx5 O.ty O.exc O.cls hsub ?_
  refine codeAny_handlers_suite_as ?_
  refine lands_againW hfl5 fun h6 hfl6 sm6=>?_
  have I6:Inv X pins σ' H' {s1 with heap:=h6}:=F.land I2 hfl6.1 ((sm4.trans sm5).trans sm6) s1.toks
  have hx6:IsExc a C' h6:=by
   obtain⟨oe,vs,z1,z2,z3,_⟩:=hfl6.first
   exact⟨oe,vs,z1,z2,z3⟩
  have nB:B.get? a=none:=hfl6.2.1
  have nfr:a∉V5 X.stack:=fun hb=>by
   obtain⟨oe,vs,z1,z2,z3⟩:=hx6
   rw[hst] at hb
   exact F1 hfl6.2.2.1 hb z1 vs z3
  have n2:s2.heap.get? a=none:=by
   cases z:s2.heap.get? a with
   |none=>rfl
   |some o=>
    obtain⟨o',z'⟩:=F.th a o z nfr
    rw[nB] at z';cases z'
  have n0:X.s₀.heap.get? a=none:=by
   cases z:X.s₀.heap.get? a with
   |none=>rfl
   |some o=>
    obtain⟨o',z'⟩:=I2.base.there a o z (by rw[hex];simp)
    rw[n2] at z';cases z'
  have I7:=(I6.track F.nw hx6 n0 fun p hp q=>by
   have z:=(I2.pin p hp).1
   rw[q,n2] at z;cases z).toSuite (e:=a)
  refine gF (X:=X.suite a) I7 hN hi (.inl hl) (v:= .ref a) rfl (fun s8 I8=>?_) (.inr hl)
  refine wpAny_mono (hs a pins s8 _ _ _ I8 hts) (fun f s9 q=>?_) fun _ _ z=>z.elim
  cases f with
  |next=>
   obtain⟨σ9,H9,I9,q9⟩:=q
   exact aV (I9.ofSuite I.ok) hN hi hl fun s10 I10=>⟨_,_,I10,q9⟩
  |brk=>
   obtain⟨σ9,H9,I9,q9⟩:=q
   exact aV (I9.ofSuite I.ok) hN hi hl fun s10 I10=>⟨_,_,I10,q9⟩
  |cont=>
   obtain⟨σ9,H9,I9,q9⟩:=q
   exact aV (I9.ofSuite I.ok) hN hi hl fun s10 I10=>⟨_,_,I10,q9⟩
  |ret u=>
   obtain⟨v9,σ9,H9,I9,r9,q9⟩:=q
   exact aV (I9.ofSuite I.ok) hN hi hl fun s10 I10=>⟨_,_,_,I10,r9,q9⟩
theorem DT (O:EN X.K X.mg x T)(hN:X.N.Nodup)(hi:X.N[i]?=some n)(hb:∀pins Es,QSs (X.tried pins Es) body (tb Es))(hs:∀e,QSs (X.suite e) (b₀::suite) ts)(hl:X.env.scope.names.lookup n=some .local:=by rfl)
  (hst:X.stack=X.env::X.outer:=by rfl) (hfr:X.env.frame=some X.env.locals:=by rfl) (hex:X.ex=[]:=by rfl) (hg:Gl X x:=by rfl) (hdb:(x==("__debug__":Str))=false:=by decide):
  QS X (.Try body [.ExceptHandler (some (.Name x np)) (some n) (b₀::suite) hpos] [] [] pos) (Ak X.K T i tb ts):=⟨Br O hN hi hl (fun p E=>(hb p E).r) (fun e=>(hs e).r) hst hfr hex hg hdb⟩
end
end L2
set_option Elab.async false
set_option linter.all false
set_option maxRecDepth 100000
set_option maxHeartbeats 4000000
namespace L2
open PySem PySem.Spec PyProof.Rows PySem.W
def cV:Value→V→Prop
 | .ref T,v=>v= .ref T
 | .type n,v=>v= .ty n
 |_,_=>False
section
variable {X:Cx}
end
def cA (K:Frag)(x:Str):Addr:=match nsIn K mainGlobals x with
 |some (some (.ref C))=>C
 |_=>0
theorem tZ {P:Program}{w:World}{X:Cx}:aF (cS P w) X E0:=fun _ _ _ _ _ _ _ ⟨_,_,_,_,_,_,_,z⟩=>z.elim
section
variable {K:Frag} {σ:St} {H:Hp} {Q:VK} {D:oE}
theorem yj {C:Addr}{E:XK}{ta:TA}(q:ta σ H fun vs H1=>vs.length≤sizeLine∧∀e,H1 e=none→E (.ref C) (some e) H1):oq C E ta D σ H:=q
theorem CD {T:Addr}{i:Nat}{tb:(St→XK)→TS}{ts:TS}(q:tb (fun σ' c oa H'=>∃C a,c= .ref C∧oa=some a∧PySem.W.subIn K (.ref C) (.ref T)=some true∧
  ts {nx:=fun σ2 H2=>D.nx (σ2.set i none) H2,rt:=D.rt,bk:=fun σ2 H2=>D.bk (σ2.set i none) H2,ct:=fun σ2 H2=>D.ct (σ2.set i none) H2} (σ'.set i (some (.ref a))) (p7 H' a (.ext (IsExc a C)))) D σ H):Ak K T i tb ts D σ H:=q
theorem xC {sp:Sp}{dvs:List V}{Es:St→XK}{t:TA}(q:t σ H fun vs H1=>sp (vs++dvs) H1 Q (Es σ)):vV sp dvs Es t σ H Q:=q
end
section
variable {X:Cx}
def CC (K:Frag):R2:=fun x y H Q=>(∃a xs i,x= .ref a∧y= .int i∧SqT K H a xs∧Q (.bl true) H)∨(∃a xs i,x= .int i∧y= .ref a∧SqT K H a xs∧Q (.bl true) H)
theorem Bp (hu:X.A.units+64<cLine):OpR X (compareOp .NotEq) (CC X.K):=by
 intro pins s σ H x y v u Q I rx ry h
 rcases h with⟨a,xs,i,rfl,rfl,ha,k⟩|⟨a,xs,i,rfl,rfl,ha,k⟩
 ·cases rx
  obtain⟨t,rfl⟩:=(show ∃t,u=Value.int i t from ry)
  obtain⟨its,r1,p1,z1⟩:=I.tuple ha
  exact SeqAt.RcNeAt.tuple_int (A:=X.A) i t (show s.heap.IsTuple a its.toArray from p1) (by lia) X.prog X.w _ _ ⟨.bl true,H,I,rfl,k⟩
 ·cases ry
  obtain⟨t,rfl⟩:=(show ∃t,v=Value.int i t from rx)
  obtain⟨its,r1,p1,z1⟩:=I.tuple ha
  exact SeqAt.RcNeAt.int_tuple (A:=X.A) i t (show s.heap.IsTuple a its.toArray from p1) (by lia) X.prog X.w _ _ ⟨.bl true,H,I,rfl,k⟩
def xa (K:Frag):R2:=fun x y H Q=>rM K x y H Q∨CC K x y H Q
theorem EH (K:Frag){k:Nat}(hr:Room k X.A)(h:X.K=K:=by rfl):OpR X (compareOp .NotEq) (xa K):=(Fu K hr h).or (h▸Bp hr.units)
def yi:V→List V→Hp→VK→Prop:=fun x vs H Q=>∃a kvs,x= .ref a∧vs=[]∧H a=some (.dK kvs)∧Q .non (p7 H a (.dK []))
theorem ah:xR X "dict.clear" yi:=by
 intro pins s σ H x vs v us Q I rx rv h
 obtain⟨a,kvs,rfl,rfl,hH,q⟩:=h
 cases rx
 have hus:=rv.zero
 subst hus
 exact xf I hH fun s' I'=>⟨.non,_,I',rfl,q⟩
end
section
variable {K:Frag} {H:Hp} {Q:VK}
theorem Em {x y:V}(q:rM K x y H Q):xa K x y H Q:= .inl q
theorem uJ {i j:Int}(q:Q (.bl (!decide (i=j))) H):xa K (.int i) (.int j) H Q:= .inl (lg q)
end
end L2
set_option Elab.async false
set_option linter.all false
set_option maxRecDepth 100000
set_option maxHeartbeats 4000000
namespace L2
open PySem PySem.Spec PyProof.Rows
def M7 (ka kb:List (j8×V)):List (j8×V):=kb.foldl (fun a x=>D0 a x.1 x.2) ka
theorem jh:∀{kb ka:List (j8×V)},(M7 ka kb).length≤ka.length+kb.length
 |[],ka=>Nat.le_refl _
 |p::r,ka=>by
  show(M7 (D0 ka p.1 p.2) r).length≤_
  have z:=jh (kb:=r) (ka:=D0 ka p.1 p.2)
  have z2:=R8 ka p.1 p.2
  rw[List.length_cons];lia
section
variable {X:Cx}
def xH:V→List V→Hp→VK→Prop:=fun x vs H Q=>∃a b ka kb,x= .ref a∧vs=[.ref b]∧H a=some (.dK ka)∧Rd H b (.dK kb)∧a≠b∧ka.length+kb.length≤1000∧Q .non (p7 H a (.dK (M7 ka kb)))
theorem Z5:xR X "dict.update" xH:=by
 intro pins s σ H x vs v us Q I rx rv h
 obtain⟨a,b,ka,kb,rfl,rfl,hA,hB,hne,hl,q⟩:=h
 cases rx
 obtain⟨u,rfl,ru⟩:=K6 rv
 cases ru
 obtain⟨z,hd,va,ra,da⟩:=pj I.hok hA
 obtain⟨z2,hd2,vb,rb,db⟩:=E8 I.hok hB
 have lz:ka.length+kb.length≤sizeLine:=h9 hl
 refine call_meetsIn PySem.F.slot_dict_update da.typeIs PySem.F.entry_dict_update (PySem.F.args_dict_update_2 _ _) (meets_dict_update (k8 X.prog X.w) a b hne hd2) ⟨va,vb,da,db,by rw[←ra.length,←rb.length];exact lz,fun h' dd' _ hs=>?_⟩
 have he:∃q,h'.get? a=some q:=let ⟨q,_,_,hq,_⟩:=dd';⟨q,hq⟩
 have hl2:=jh (kb:=kb) (ka:=ka)
 refine⟨.non,_,cH (t':=s.toks) I (by rw[hA];exact True.intro) hs he (gL (kvs:=M7 ka kb) (Nat.le_trans hl2 lz) hd (KV.puts rb ra) dd'),rfl,q⟩
end
section
open PySem.Builtin PySem.Builtin.Str
end
end L2
set_option Elab.async false
set_option linter.all false
set_option maxRecDepth 100000
set_option maxHeartbeats 4000000
namespace L2
open PySem PySem.Spec PyProof.Rows
def Q5 (σ:List Str)(x:Str):List Str:=if x∈σ then σ else σ++[x]
def iD (ss:List Str):List Str:=ss.foldl Q5 []
theorem addS_le (σ:List Str)(x:Str):(Q5 σ x).length≤σ.length+1:=by
 unfold Q5;split
 ·lia
 ·rw[List.length_append];simp
theorem vp {σ:List Str}{x y:Str}:y∈Q5 σ x↔y∈σ∨y=x:=by
 unfold Q5;split
 ·next h=>exact⟨.inl,fun z=>z.elim id fun e=>e▸h⟩
 ·simp
theorem kY:∀(ss σ:List Str),(ss.foldl Q5 σ).length≤σ.length+ss.length
 |[],σ=>Nat.le_refl _
 |x::r,σ=>by
  have z:=kY r (Q5 σ x)
  have z2:=addS_le σ x
  rw[List.foldl_cons,List.length_cons];lia
theorem jn:∀(ss σ:List Str),σ.Nodup→((ss.foldl Q5 σ).length=σ.length+ss.length↔(σ++ss).Nodup)
 |[],σ,nd=>by simp [nd]
 |x::r,σ,nd=>by
  rw[List.foldl_cons,List.length_cons]
  by_cases h:x∈σ
  ·have e:Q5 σ x=σ:=by unfold Q5;rw[if_pos h]
   rw[e]
   have z:=kY r σ
   constructor
   ·intro q;lia
   ·intro q
    exact absurd rfl ((List.nodup_append.mp q).2.2 x h x (by simp))
  ·have e:Q5 σ x=σ++[x]:=by unfold Q5;rw[if_neg h]
   have nd':(σ++[x]).Nodup:=List.nodup_append.mpr ⟨nd,by simp,fun a ha b hb e=>h (by
    have hbx:b=x:=by simpa using hb
    rw[←hbx,←e];exact ha)⟩
   have z:=jn r (σ++[x]) nd'
   rw[e]
   rw[List.length_append,List.length_singleton] at z
   rw[List.append_assoc] at z
   show _↔(σ++([x]++r)).Nodup
   rw[←z];lia
theorem sT (ss:List Str):(iD ss).length=ss.length↔ss.Nodup:=by
 have z:=jn ss [] List.nodup_nil
 simpa [iD] using z
section
variable {prog:Program} {w:World} {A:Around} {E:Value→Shared→Prop}
def StrsAre:List Value→List Str→Prop:=Paired fun u x=>∃t,u= .str x t
theorem sX {d it l:Addr}{items:List Value}(hh:A.handled=none)(hdi:d≠it)(hli:l≠it)(hld:l≠d):
  ∀(more:List Str) (i:Nat) (s:Shared) (σ:List Str) (R:Result→Shared→Prop),
   s.heap.IsListIter it l i→s.heap.IsList l items.toArray→StrsAre (items.drop i) more→s.heap.SetOf (strKind prog w) d (fun k=>decide (k∈σ)) σ.length→σ.length+more.length<2000→
   (∀h' tk,(∀b o,b≠d→b≠it→s.heap.get? b=some o→h'.get? b=some o)→h'.SetOf (strKind prog w) d (fun k=>decide (k∈more.foldl Q5 σ)) (more.foldl Q5 σ).length→R (.ok (.ret .none)) {s with heap:=h',toks:=tk})→
   codeAny (model prog w) A (.builtin "set.update.loop" ⟨[.ref d,.ref it],[]⟩) R s:=by
 intro more
 induction more with
 |nil=>
  intro i s σ R hit hl hp hd hz hR
  have hx:items.toArray[i]?=none:=by
   have hn:items.drop i=[]:=by cases hp':items.drop i with
    |nil=>rfl
    |cons x r=>rw[hp'] at hp;cases hp
   have:=List.drop_eq_nil_iff.mp hn
   simp;lia
  refine codeAny_builtin F.entry_set_update_loop ?_
  rw[Around.under_plainId F.plain_set_update_loop _]
  show wpAny _ A.in1 (pyNext (.ref it)>>=_) _ _ s
  refine wpAny_bind (wpAny_pyNext_list_end (A:=A.in1) hh hit hl hx fun h' eb=>?_)
  show wpAny _ A.in1 (ret Value.none) _ _ _
  refine wpAny_pure (hR h' s.toks (fun b o h1 h2 e=>eb b o h2 e) ?_)
  obtain⟨o,es,ep,t,ho,r⟩:=hd
  exact⟨o,es,ep,t,eb d o hdi ho,r⟩
 |cons x more ih=>
  intro i s σ R hit hl hp hd hz hR
  obtain⟨u,hx,⟨t,rfl⟩,hp1⟩:∃u,items.toArray[i]?=some u∧(∃t,u=Value.str x t)∧StrsAre (items.drop (i+1)) more:=by
   cases hp':items.drop i with
   |nil=>rw[hp'] at hp;cases hp
   |cons u r=>
    rw[hp'] at hp
    cases hp with
    |cons h1 h2=>
     refine⟨u,?_,h1,?_⟩
     ·have z:=congrArg List.head? hp'
      simpa using z
     ·have z:=congrArg List.tail hp'
      rw[List.tail_drop] at z
      rw[z];exact h2
  simp only[List.length_cons] at hz
  refine codeAny_builtin F.entry_set_update_loop ?_
  rw[Around.under_plainId F.plain_set_update_loop _]
  show wpAny _ A.in1 (pyNext (.ref it)>>=_) _ _ s
  refine wpAny_bind (wpAny_pyNext_list_item hit hl hx fun h' hit' hs'=>?_)
  have hd':h'.SetOf (strKind prog w) d (fun k=>decide (k∈σ)) σ.length:=by
   obtain⟨o,es,ep,tb,ho,r⟩:=hd
   exact⟨o,es,ep,tb,hs'.extBut d o hdi ho,r⟩
  refine wpAny_bind (wpAny_holding ?_)
  unfold setAdd
  refine wpAny_holding (wpAny_bind ((strKind prog w).pyHash (k:=x) (strKind_is _ _ _ _) ?_))
  refine wpAny_setAddHashed_of (knd:=strKind prog w) (s:={s with heap:=h',toks:=s.toks+1}) (strKind_is _ _ _ _) rfl hd' (by unfold scanBound;lia) fun h'' hs'' hS2=>?_
  have hS3:h''.SetOf (strKind prog w) d (fun k=>decide (k∈Q5 σ x)) (Q5 σ x).length:=by
   refine SetOf_congr hS2 (fun k=>?_) ?_
   ·rw[Bool.eq_iff_iff]
    simp [vp]
   ·unfold Q5
    by_cases h:x∈σ
    ·rw[if_pos (by simpa using h),if_pos h]
    ·rw[if_neg (by simpa using h),if_neg h,List.length_append];rfl
  have kp:∀b o,b≠d→b≠it→s.heap.get? b=some o→h''.get? b=some o:=fun b o hb1 hb2 e=>(hs''.2 b hb1).trans (hs'.extBut b o hb2 e)
  have hle:=addS_le σ x
  refine wpAny_pure ⟨plainId_quiet F.plain_set_update_loop _,?_⟩
  refine ih (i+1) _ (Q5 σ x) R ?_ ?_ hp1 hS3 (by lia) (fun h3 tk k3 d3=>hR h3 tk (fun b o e1 e2 e=>k3 b o e1 e2 (kp b o e1 e2 e)) d3)
  ·exact hit'.at fun o e=>(hs''.2 it (Ne.symm hdi)).trans e
  ·obtain⟨ol,hol,r⟩:=hl
   exact⟨ol,kp l ol hld hli hol,r⟩
end
section
variable {prog:Program} {w:World} {A:Around} {E:Value→Shared→Prop}
set_option maxHeartbeats 3200000 in
theorem iy {l:Addr}{items:List Value}{o:Obj}{n:Nat}{ss:List Str}{s:Shared}{Q:Value→Shared→Prop}(hh:A.handled=none)(ho:s.heap.get? l=some o)(hc:o.cls= .type "list")(hdat:o.data= .seq items.toArray n)(hz:ss.length<1000)(hp:StrsAre items ss)
  (h:∀h' tk,h'.SetOf (strKind prog w) s.heap.objs.size (fun k=>decide (k∈iD ss)) (iD ss).length→(∀b o,s.heap.get? b=some o→h'.get? b=some o)→Q (.ref s.heap.objs.size) {s with heap:=h',toks:=tk}):
  wpAny (model prog w) A (call (.type "set") [.ref l]) Q E s:=by
 obtain⟨c1,c2,c3⟩:=F.called_set.mro
 have c4:=F.called_set.made;have c5:=F.called_set.sub;have c6:=F.called_set.notType;have c7:=F.called_set.canCreate;have c8:=F.typeCall_set_1 (.ref l)
 refine wpAny_call (codeAny_of_tree (show wpAny _ _ (callAny (.type "set") _) _ _ _ from wpAny_pure ⟨Code.quiet_builtin _ (by decide+kernel),codeAny_builtin F.entry_type_call ?_⟩))
 rw[Around.under_plain (weight_type_call_type "set" [Value.ref l] []) rfl]
 repeat(any_goals first|assumption|wp_step)
 refine codeAny_mono (code_set_new_1 (E:=E) (.ref l) (Q₁:=fun ob st=>∃led:Bool,ob= .ref s.heap.objs.size∧st={s with heap:=s.heap.push {cls:= .type "set",dict:=none,data:= .set #[] 0 (.fresh 0 0 led)}}) fun led=>⟨led,rfl,rfl⟩) fun r1 st1 hr1=>?_
 match r1,hr1 with
 | .error _,hr1=>exact hr1
 | .ok .next,hr1=>exact hr1.elim
 | .ok .brk,hr1=>exact hr1.elim
 | .ok .cont,hr1=>exact hr1.elim
 | .ok (.ret ob),hr1=>
  obtain⟨led,rfl,rfl⟩:=hr1
  have hS0:(s.heap.push {cls:= .type "set",dict:=none,data:= .set #[] 0 (.fresh 0 0 led)}).get? s.heap.objs.size=some {cls:= .type "set",dict:=none,data:= .set #[] 0 (.fresh 0 0 led)}:=Heap.get?_push_size _ rfl
  have ho1:(s.heap.push {cls:= .type "set",dict:=none,data:= .set #[] 0 (.fresh 0 0 led)}).get? l=some o:=Heap.get?_push_of_some _ ho
  have hl0:l≠s.heap.objs.size:=Nat.ne_of_lt (Heap.lt_size ho)
  generalize hP:s.heap.push {cls:= .type "set",dict:=none,data:= .set #[] 0 (.fresh 0 0 led)}=hp1 at hS0 ho1
  have c9:Shared.TypeIs {s with heap:=hp1} (.ref s.heap.objs.size) "set":=⟨_,hS0,rfl⟩
  have c10:=F.called_set.init.lookup;have c11:=F.called_set.init.bind (.ref s.heap.objs.size)
  repeat(any_goals first|assumption|wp_step)
  refine codeAny_mono (codeAny_call_builtin (R:=wants (fun r st=>r= .none∧∃h2 tk2,st={s with heap:=h2,toks:=tk2}∧h2.SetOf (strKind prog w) s.heap.objs.size (fun k=>decide (k∈iD ss)) (iD ss).length∧(∀b o,s.heap.get? b=some o→h2.get? b=some o)) E) F.called_set.init.plain F.entry_set_init (check_set_init_1 c9 ?_)) fun r2 st2 hr2=>?_
  ·obtain⟨k1,k2,k3,k4⟩:=o
   dsimp only at hc hdat
   subst hc hdat
   have d1:=F.sub_list_set;have d2:=F.sub_list_frozenset;have d3:(Value.type "list"==Value.type "dict")=false:=by decide
   have hl1:hp1.IsList l items.toArray:=⟨_,ho1,rfl,n,rfl⟩
   unfold Builtin.«set.__init__» noKeywords Builtin.Frozenset.updateFrom
   generalize hPI:pyIter=PI
   wp_walk
   subst hPI
   refine wpAny_pyIter_list hl1 (wpAny_bind (wpAny_runValue ?_))
   have hsz:s.heap.objs.size<hp1.objs.size:=Heap.lt_size hS0
   refine sX (l:=l) (items:=items) (A:=A.in1.in1) (by simpa using hh) (Nat.ne_of_lt hsz) (Nat.ne_of_lt (Heap.lt_size ho1)) hl0 ss 0 _ [] _ ⟨_,Heap.get?_push_size _ rfl,rfl,rfl⟩ (hl1.push _) (by rw[List.drop_zero];exact hp) ?_ (by simpa using(show ss.length<2000 by lia)) fun h3 tk3 k3' d3'=>?_
   ·have hg:(hp1.push {cls:= .type "list_iterator",data:= .fields #[.ref l,.int 0 0]}).get? s.heap.objs.size=some {cls:= .type "set",dict:=none,data:= .set #[] 0 (.fresh 0 0 led)}:=Heap.get?_push_of_some _ hS0
    exact SetOf_congr ((setObjOf_fresh (knd:=strKind prog w) led).setOf hg (by unfold scanBound;lia)) (fun _=>by simp) rfl
   ·show wpAny _ _ _ _ _ _
    refine wpAny_pure (show wpAny _ _ (ret Value.none) _ _ _ from wpAny_pure ⟨rfl,h3,tk3,rfl,d3',fun b ob e=>?_⟩)
    have e1:hp1.get? b=some ob:=by rw[←hP];exact Heap.get?_push_of_some _ e
    exact k3' b ob (Nat.ne_of_lt (Heap.lt_size e)) (Nat.ne_of_lt (Heap.lt_size e1)) (Heap.get?_push_of_some _ e1)
  ·match r2,hr2 with
   | .error _,hr2=>exact hr2
   | .ok .next,hr2=>exact hr2.elim
   | .ok .brk,hr2=>exact hr2.elim
   | .ok .cont,hr2=>exact hr2.elim
   | .ok (.ret r),hr2=>
    obtain⟨rfl,h2,tk2,rfl,hS2,hk2⟩:=hr2
    repeat(any_goals first|assumption|wp_step)
    exact h _ _ hS2 hk2
end
def dh (a:Addr)(n:Nat)(h:Heap):Prop:=∃o es ep t,h.get? a=some o∧o.ExactSet∧o.data= .set es ep t∧t.fits es.size=true∧es.size=n
theorem rK {P:Program}{w:World}{H:Hp}{h:Heap}{a:Addr}{n:Nat}(x:dh a n h):ObjOk P w H h a (.ext (dh a n)):=by
 obtain⟨o,es,ep,t,e,r⟩:=x
 exact⟨⟨o,es,ep,t,e,r⟩,⟨o,e⟩,fun h1 h2 ⟨o',es',ep',t',e',r'⟩ k=>⟨o',es',ep',t',k _ e',r'⟩⟩
theorem jr:∀{ss:List Str} {us:List Value},Vals (ss.map V.str) us→StrsAre us ss
 |[],_,.nil=> .nil
 |x::r,_,.cons h t=> .cons h (jr t)
section
variable {X:Cx}
def yz (K:PySem.W.Frag):List V→Hp→VK→Prop:=fun xs H Q=>∃(p:Addr) (ss:List Str),xs=[.ref p]∧SqL K H p (ss.map V.str)∧ss.length<1000∧∀l,H l=none→Q (.ref l) (p7 H l (.ext (dh l (iD ss).length)))
theorem rO (hc:X.calm=true):CallR X (.type "set") (yz X.K):=by
 intro pins s σ H xs us Q I r h
 obtain⟨p,ss,rfl,hq,hz,q⟩:=h
 obtain⟨u,rfl,ru⟩:=K6 r
 cases ru
 obtain⟨its,rv,⟨o,n,e,c,hd,dt⟩,_⟩:=I.list hq
 refine iy (I.ok.hd hc) e c dt hz (jr rv) fun h' tk hS k=>?_
 refine⟨.ref s.heap.objs.size,_,?_,rfl,q _ (I.hok.fresh (Nat.le_refl _))⟩
 obtain⟨o',es,ep,t,h1,h2,h3,_,_,_,h7,h8⟩:=hS
 exact I.laid (a:=s.heap.objs.size) (t':=tk) k (Nat.le_refl _) (rK ⟨o',es,ep,t,h1,h2,h3,h7,h8⟩)
def yG (K:PySem.W.Frag):List V→Hp→VK→Prop:=fun xs H Q=>qU K xs H Q∨∃p n,xs=[V.ref p]∧H p=some (.ext (dh p n))∧n≤1000∧Q (.int n) H
theorem call_lenS:CallR X (.builtin "len") (yG X.K):=by
 refine call_lenX.or ?_
 intro pins s σ H xs us Q I r h
 obtain⟨p,n,rfl,hp,hn,q⟩:=h
 obtain⟨u,rfl,ru⟩:=K6 r
 cases ru
 obtain⟨o,es,ep,t,h1,h2,h3,h4,h5⟩:=(I.hok p _ hp).1
 exact call_len_set h1 h2 h3 h4 (by lia) ⟨.int n,H,I.tok _,⟨_,by rw[h5]⟩,q⟩
theorem Ew (K:PySem.W.Frag)(hc:X.calm=true)(h:X.K=K:=by rfl):CallR X (.type "set") (yz K):=h▸rO hc
end
end L2
set_option Elab.async false
set_option linter.all false
set_option maxRecDepth 100000
set_option maxHeartbeats 4000000
namespace L2
open PySem PySem.Spec PyProof.Rows
open PySem.AutoSeq1 (wpAny_loadPart')
open PySem.MeetsSeq PySem.MeetsSeq2 PySem.MeetsSeq3
theorem lZ:plainId "list.__eq__.loop"=true:=plain_eq_loop
section
variable {P:Program} {w:World}
theorem lU (l m:Addr)(xs ys:Array Value)(n1 n2:Nat)(d1 d2:Option Addr)(s1 s2:Array (Option Value))(hz:xs.size=ys.size)(f:Nat→Bool)(md:Int)(hmd:md=2∨md=3):∀(k i:Nat),xs.size -i=k→
  MeetsIn P w (Builtin.«list.__eq__.loop» ⟨[.ref l,.ref m,rawInt i,rawInt md],[]⟩) (fun A R s=>
   s.heap.get? l=some {cls:= .type "list",dict:=d1,data:= .seq xs n1,slots:=s1}∧s.heap.get? m=some {cls:= .type "list",dict:=d2,data:= .seq ys n2,slots:=s2}∧
   (∀j (g1:j<xs.size) (g2:j<ys.size),EqP P w A.in1 s xs[j] ys[j] (f j))∧
   R (.ok (.ret (.bool (if md=2 then((List.range xs.size).drop i).all f else !((List.range xs.size).drop i).all f)))) s):=by
 intro k
 induction k with
 |zero=>
  intro i hk
  intro A R s hyp
  obtain⟨hp,gg,dr,tk,os⟩:=s
  obtain⟨e1,e2,he,fin⟩:=hyp
  have x1:xs[((i:Nat):Int).toNat]?=none:=by simp;lia
  have x2:ys[((i:Nat):Int).toNat]?=none:=by simp;lia
  have x3:(List.range xs.size).drop i=[]:=by simp;lia
  rw[x3] at fin
  rcases hmd with rfl|rfl
  ·wp_walk using wpAny_loadPart' e1,wpAny_loadPart' e2
   rw[x1,x2]
   wp_walk using wpAny_loadPart' e1,wpAny_loadPart' e2
   show R (.ok (.ret (.bool (xs.size==ys.size)))) _
   rw[hz];simpa using fin
  ·wp_walk using wpAny_loadPart' e1,wpAny_loadPart' e2
   rw[x1,x2]
   wp_walk using wpAny_loadPart' e1,wpAny_loadPart' e2
   show R (.ok (.ret (.bool (xs.size !=ys.size)))) _
   rw[hz];simpa using fin
 |succ k ih=>
  intro i hk
  intro A R s hyp
  have ih:=ih (i+1) (by lia)
  obtain⟨hp,gg,dr,tk,os⟩:=s
  obtain⟨e1,e2,he,fin⟩:=hyp
  have l1:i<xs.size:=by lia
  have l2:i<ys.size:=by lia
  have x1:xs[((i:Nat):Int).toNat]?=some xs[i]:=by simp [l1]
  have x2:ys[((i:Nat):Int).toNat]?=some ys[i]:=by simp [l2]
  have x3:(List.range xs.size).drop i=i::(List.range xs.size).drop (i+1):=by simp [List.drop_eq_getElem_cons,l1]
  have x4:((i:Int)+1)=((i+1:Nat):Int):=by push_cast;rfl
  rw[x3,List.all_cons] at fin
  rcases hmd with rfl|rfl
  ·wp_walk using wpAny_loadPart' e1,wpAny_loadPart' e2
   rw[x1,x2]
   refine wpAny_bind (he i l1 l2 _ _ ?_)
   cases hf:f i with
   |true=>
    rw[hf] at fin
    wp_walk
    rw[x4]
    refine⟨plainId_quiet lZ _,codeAny_builtin entry_eq_loop ?_⟩
    rw[Around.under_plainId lZ _]
    exact ih A R _ ⟨e1,e2,he,by simpa using fin⟩
   |false=>
    rw[hf] at fin
    wp_walk using wpAny_loadPart' e1,wpAny_loadPart' e2
    rw[x1,x2]
    wp_walk
    simpa using fin
  ·wp_walk using wpAny_loadPart' e1,wpAny_loadPart' e2
   rw[x1,x2]
   refine wpAny_bind (he i l1 l2 _ _ ?_)
   cases hf:f i with
   |true=>
    rw[hf] at fin
    wp_walk
    rw[x4]
    refine⟨plainId_quiet lZ _,codeAny_builtin entry_eq_loop ?_⟩
    rw[Around.under_plainId lZ _]
    exact ih A R _ ⟨e1,e2,he,by simpa using fin⟩
   |false=>
    rw[hf] at fin
    wp_walk using wpAny_loadPart' e1,wpAny_loadPart' e2
    rw[x1,x2]
    wp_walk
    simpa using fin
theorem Aj (l m:Addr)(xs ys:Array Value)(n1 n2:Nat)(d1 d2:Option Addr)(s1 s2:Array (Option Value))(hz:xs.size=ys.size)(f:Nat→Bool):
  MeetsIn P w (Builtin.«list.__eq__» ⟨[.ref l,.ref m],[]⟩) (fun A R s=>
   s.heap.get? l=some {cls:= .type "list",dict:=d1,data:= .seq xs n1,slots:=s1}∧s.heap.get? m=some {cls:= .type "list",dict:=d2,data:= .seq ys n2,slots:=s2}∧
   (∀j (g1:j<xs.size) (g2:j<ys.size),EqP P w A.in1 s xs[j] ys[j] (f j))∧R (.ok (.ret (.bool ((List.range xs.size).all f)))) s):=by
 intro A R s hyp
 obtain⟨hp,gg,dr,tk,os⟩:=s
 obtain⟨e1,e2,he,fin⟩:=hyp
 have q1:=AutoSeq1.sub_list_list;have q2:¬(xs.size !=ys.size)=true:=by simp [hz]
 wp_walk using wpAny_loadPart' e1,wpAny_loadPart' e2
 refine⟨plainId_quiet lZ _,codeAny_builtin entry_eq_loop ?_⟩
 rw[Around.under_plainId lZ _]
 exact lU l m xs ys n1 n2 d1 d2 s1 s2 hz f 2 (.inl rfl) _ 0 rfl A R _ ⟨e1,e2,he,by simpa using fin⟩
theorem yZ (l m:Addr)(xs ys:Array Value)(n1 n2:Nat)(d1 d2:Option Addr)(s1 s2:Array (Option Value))(hz:xs.size=ys.size)(f:Nat→Bool):
  MeetsIn P w (Builtin.«list.__ne__» ⟨[.ref l,.ref m],[]⟩) (fun A R s=>
   s.heap.get? l=some {cls:= .type "list",dict:=d1,data:= .seq xs n1,slots:=s1}∧s.heap.get? m=some {cls:= .type "list",dict:=d2,data:= .seq ys n2,slots:=s2}∧
   (∀j (g1:j<xs.size) (g2:j<ys.size),EqP P w A.in1 s xs[j] ys[j] (f j))∧R (.ok (.ret (.bool (!(List.range xs.size).all f)))) s):=by
 intro A R s hyp
 obtain⟨hp,gg,dr,tk,os⟩:=s
 obtain⟨e1,e2,he,fin⟩:=hyp
 have q1:=AutoSeq1.sub_list_list;have q2:¬(xs.size !=ys.size)=true:=by simp [hz]
 wp_walk using wpAny_loadPart' e1,wpAny_loadPart' e2
 refine⟨plainId_quiet lZ _,codeAny_builtin entry_eq_loop ?_⟩
 rw[Around.under_plainId lZ _]
 exact lU l m xs ys n1 n2 d1 d2 s1 s2 hz f 3 (.inr rfl) _ 0 rfl A R _ ⟨e1,e2,he,by simpa using fin⟩
theorem RcP.lst {A:Around}{s:Shared}{l m:Addr}{xs ys:Array Value}{f:Nat→Bool}(hl:s.heap.IsList l xs)(hm:s.heap.IsList m ys)(hz:xs.size=ys.size)(hu:A.units<cLine)
  (he:∀j (g1:j<xs.size) (g2:j<ys.size),EqP P w A.in1 s xs[j] ys[j] (f j)):RcP P w A s (.ref l) (.ref m) ((List.range xs.size).all f):=fun E Q q=>by
 obtain⟨⟨c1,d1,a1,s1⟩,o1,k1,n1,t1⟩:=id hl
 obtain⟨⟨c2,d2,a2,s2⟩,o2,k2,n2,t2⟩:=id hm
 simp only at k1 t1 k2 t2
 subst k1 t1 k2 t2
 refine wpAny_richCompare_same_room (op:= .Eq) ⟨_,o1,rfl⟩ ⟨_,o2,rfl⟩ PySem.F.slot_list_eq (call_meetsIn PySem.F.slot_list_eq ⟨_,o1,rfl⟩ PySem.F.entry_list_eq (PySem.F.args_list_eq_2 _ _) (Aj l m xs ys n1 n2 d1 d2 s1 s2 hz f) ⟨o1,o2,he,?_⟩) hu
 exact⟨(fun z=>nomatch z),q⟩
theorem NcP.lst {A:Around}{s:Shared}{l m:Addr}{xs ys:Array Value}{f:Nat→Bool}(hl:s.heap.IsList l xs)(hm:s.heap.IsList m ys)(hz:xs.size=ys.size)(hu:A.units<cLine)
  (he:∀j (g1:j<xs.size) (g2:j<ys.size),EqP P w A.in1 s xs[j] ys[j] (f j)):NcP P w A s (.ref l) (.ref m) (!(List.range xs.size).all f):=fun E Q q=>by
 obtain⟨⟨c1,d1,a1,s1⟩,o1,k1,n1,t1⟩:=id hl
 obtain⟨⟨c2,d2,a2,s2⟩,o2,k2,n2,t2⟩:=id hm
 simp only at k1 t1 k2 t2
 subst k1 t1 k2 t2
 refine wpAny_richCompare_same_room (op:= .NotEq) ⟨_,o1,rfl⟩ ⟨_,o2,rfl⟩ PySem.F.slot_list_ne (call_meetsIn PySem.F.slot_list_ne ⟨_,o1,rfl⟩ PySem.F.entry_list_ne (PySem.F.args_list_ne_2 _ _) (yZ l m xs ys n1 n2 d1 d2 s1 s2 hz f) ⟨o1,o2,he,?_⟩) hu
 exact⟨(fun z=>nomatch z),q⟩
end
def EqN (K:PySem.W.Frag)(H:Hp):Nat→V→V→Bool→Prop
 |0,x,y,b=>Eq1 K H x y b∨∃a c,x= .ref a∧y= .ref c∧EqD K H a c b
 |n+1,x,y,b=>EqN K H n x y b∨∃(a c:Addr) (xs ys:List V) (bs:List Bool),x= .ref a∧y= .ref c∧a≠c∧((SqT K H a xs∧SqT K H c ys)∨(SqL K H a xs∧SqL K H c ys))∧xs.length=ys.length∧bs.length=xs.length∧
   (∀(j:Nat) (x' y':V) (b':Bool),xs[j]?=some x'→ys[j]?=some y'→bs[j]?=some b'→EqN K H n x' y' b')∧b=bs.all id
theorem E3:∀(bs:List Bool),(List.range bs.length).all (fun j=>bs.getD j true)=bs.all id
 |[]=>rfl
 |b::r=>by
  rw[List.length_cons,List.range_succ_eq_map,List.all_cons,List.all_map]
  show(b&&(List.range r.length).all fun j=>r.getD j true)=(b&&r.all id)
  rw[E3 r]
section
variable {X:Cx} {pins:List (Addr×Obj)} {σ:St} {H:Hp} {s:Shared}
theorem de {n:Nat}{xs ys:List V}{bs:List Bool}{us vs:List Value}{A:Around}(r1:Vals xs us)(r2:Vals ys vs)(hl:xs.length=ys.length)(hb:bs.length=xs.length)
  (he:∀(j:Nat) (x' y':V) (b':Bool),xs[j]?=some x'→ys[j]?=some y'→bs[j]?=some b'→EqN X.K H n x' y' b')
  (at_:∀{x y:V} {u v:Value} {b:Bool},EqN X.K H n x y b→RelV x u→RelV y v→EqP X.prog X.w A.in1 s u v b):
  ∀j (g1:j<us.toArray.size) (g2:j<vs.toArray.size),EqP X.prog X.w A.in1 s us.toArray[j] vs.toArray[j] (bs.getD j true):=fun j g1 g2=>by
 have l1:=r1.length
 have l2:=r2.length
 have g1':j<us.length:=by simpa using g1
 have g2':j<vs.length:=by simpa using g2
 have x1:xs[j]?=some (xs[j]'(by lia)):=List.getElem?_eq_getElem _
 have y1:ys[j]?=some (ys[j]'(by lia)):=List.getElem?_eq_getElem _
 have b1:bs[j]?=some (bs[j]'(by lia)):=List.getElem?_eq_getElem _
 obtain⟨u1,hu1,ru1⟩:=r1.get x1
 obtain⟨u2,hu2,ru2⟩:=r2.get y1
 have e1:us.toArray[j]=u1:=by
  have:=List.getElem?_eq_getElem g1'
  rw[hu1] at this
  simpa using(Option.some.inj this).symm
 have e2:vs.toArray[j]=u2:=by
  have:=List.getElem?_eq_getElem g2'
  rw[hu2] at this
  simpa using(Option.some.inj this).symm
 rw[e1,e2,List.getD_eq_getElem?_getD,b1]
 exact at_ (he j _ _ _ x1 y1 b1) ru1 ru2
theorem EqN.at_ (I:Inv X pins σ H s):∀{n:Nat} {A:Around} {x y:V} {u v:Value} {b:Bool},EqN X.K H n x y b→RelV x u→RelV y v→A.units+32+n<cLine→EqP X.prog X.w A s u v b:=by
 intro n
 induction n with
 |zero=>
  intro A x y u v b h rx ry hu
  rcases h with h|⟨a,c,rfl,rfl,h⟩
  ·exact .of (h.at_ I rx ry (by lia))
  ·cases rx
   cases ry
   exact h.at_ I (by lia)
 |succ n ih=>
  intro A x y u v b h rx ry hu
  rcases h with h|⟨a,c,xs,ys,bs,rfl,rfl,hne,hh,hl,hb,he,rfl⟩
  ·exact ih h rx ry (by lia)
  ·cases rx
   cases ry
   have hin:A.in1.units=A.units+1:=rfl
   rcases hh with⟨h1,h2⟩|⟨h1,h2⟩
   ·obtain⟨us,r1,p1,z1⟩:=I.tuple h1
    obtain⟨vs,r2,p2,z2⟩:=I.tuple h2
    have l1:=r1.length
    have l2:=r2.length
    have q:=RcP.tup (P:=X.prog) (w:=X.w) (A:=A) (f:=fun j=>bs.getD j true) (show s.heap.IsTuple a us.toArray from p1) (show s.heap.IsTuple c vs.toArray from p2) (by lia) (de r1 r2 hl hb he fun z q1 q2=>ih z q1 q2 (by lia))
    have e3:min us.toArray.size vs.toArray.size=bs.length:=by simp;lia
    have e4:(us.toArray.size==vs.toArray.size)=true:=by simp;lia
    rw[e3,e4,E3,Bool.and_true] at q
    exact .refs hne q
   ·obtain⟨us,r1,p1,z1⟩:=I.list h1
    obtain⟨vs,r2,p2,z2⟩:=I.list h2
    have l1:=r1.length
    have l2:=r2.length
    have q:=RcP.lst (P:=X.prog) (w:=X.w) (A:=A) (f:=fun j=>bs.getD j true) p1.isList p2.isList (by simp;lia) (by lia) (de r1 r2 hl hb he fun z q1 q2=>ih z q1 q2 (by lia))
    have e3:us.toArray.size=bs.length:=by simp;lia
    rw[e3,E3] at q
    exact .refs hne q
end
def Dx (K:PySem.W.Frag)(H:Hp)(x y:V)(bs:List Bool):Prop:=∃(a c:Addr) (xs ys:List V),x= .ref a∧y= .ref c∧((SqT K H a xs∧SqT K H c ys)∨(SqL K H a xs∧SqL K H c ys))∧xs.length=ys.length∧bs.length=xs.length∧
 ∀(j:Nat) (x' y':V) (b':Bool),xs[j]?=some x'→ys[j]?=some y'→bs[j]?=some b'→EqN K H 8 x' y' b'
section
variable {X:Cx}
def Dj (K:PySem.W.Frag):R2:=fun x y H Q=>∃bs,Dx K H x y bs∧Q (.bl (bs.all id)) H
def By (K:PySem.W.Frag):R2:=fun x y H Q=>∃bs,Dx K H x y bs∧Q (.bl (!bs.all id)) H
theorem Bi (hu:X.A.units+64<cLine):OpR X (compareOp .Eq) (Dj X.K):=by
 intro pins s σ H x y v u Q I rx ry h
 obtain⟨bs,⟨a,c,xs,ys,rfl,rfl,hh,hl,hb,he⟩,k⟩:=h
 cases rx
 cases ry
 have hin:X.A.in1.units=X.A.units+1:=rfl
 rcases hh with⟨h1,h2⟩|⟨h1,h2⟩
 ·obtain⟨us,r1,p1,z1⟩:=I.tuple h1
  obtain⟨vs,r2,p2,z2⟩:=I.tuple h2
  have l1:=r1.length
  have l2:=r2.length
  have q:=RcP.tup (P:=X.prog) (w:=X.w) (A:=X.A) (f:=fun j=>bs.getD j true) (show s.heap.IsTuple a us.toArray from p1) (show s.heap.IsTuple c vs.toArray from p2) (by lia) (de r1 r2 hl hb he fun z q1 q2=>EqN.at_ I z q1 q2 (by lia))
  have e3:min us.toArray.size vs.toArray.size=bs.length:=by simp;lia
  have e4:(us.toArray.size==vs.toArray.size)=true:=by simp;lia
  rw[e3,e4,E3,Bool.and_true] at q
  exact q _ _ ⟨.bl _,H,I,rfl,k⟩
 ·obtain⟨us,r1,p1,z1⟩:=I.list h1
  obtain⟨vs,r2,p2,z2⟩:=I.list h2
  have l1:=r1.length
  have l2:=r2.length
  have q:=RcP.lst (P:=X.prog) (w:=X.w) (A:=X.A) (f:=fun j=>bs.getD j true) p1.isList p2.isList (by simp;lia) (by lia) (de r1 r2 hl hb he fun z q1 q2=>EqN.at_ I z q1 q2 (by lia))
  have e3:us.toArray.size=bs.length:=by simp;lia
  rw[e3,E3] at q
  exact q _ _ ⟨.bl _,H,I,rfl,k⟩
theorem zm (hu:X.A.units+64<cLine):OpR X (compareOp .NotEq) (By X.K):=by
 intro pins s σ H x y v u Q I rx ry h
 obtain⟨bs,⟨a,c,xs,ys,rfl,rfl,hh,hl,hb,he⟩,k⟩:=h
 cases rx
 cases ry
 have hin:X.A.in1.units=X.A.units+1:=rfl
 rcases hh with⟨h1,h2⟩|⟨h1,h2⟩
 ·obtain⟨us,r1,p1,z1⟩:=I.tuple h1
  obtain⟨vs,r2,p2,z2⟩:=I.tuple h2
  have l1:=r1.length
  have l2:=r2.length
  have q:=NcP.tup (P:=X.prog) (w:=X.w) (A:=X.A) (f:=fun j=>bs.getD j true) (show s.heap.IsTuple a us.toArray from p1) (show s.heap.IsTuple c vs.toArray from p2) (by lia) (de r1 r2 hl hb he fun z q1 q2=>EqN.at_ I z q1 q2 (by lia))
  have e3:min us.toArray.size vs.toArray.size=bs.length:=by simp;lia
  have e4:(us.toArray.size==vs.toArray.size)=true:=by simp;lia
  rw[e3,e4,E3,Bool.and_true] at q
  exact q _ _ ⟨.bl _,H,I,rfl,k⟩
 ·obtain⟨us,r1,p1,z1⟩:=I.list h1
  obtain⟨vs,r2,p2,z2⟩:=I.list h2
  have l1:=r1.length
  have l2:=r2.length
  have q:=NcP.lst (P:=X.prog) (w:=X.w) (A:=X.A) (f:=fun j=>bs.getD j true) p1.isList p2.isList (by simp;lia) (by lia) (de r1 r2 hl hb he fun z q1 q2=>EqN.at_ I z q1 q2 (by lia))
  have e3:us.toArray.size=bs.length:=by simp;lia
  rw[e3,E3] at q
  exact q _ _ ⟨.bl _,H,I,rfl,k⟩
def vR (K:PySem.W.Frag):R2:=fun x y H Q=>xa K x y H Q∨By K x y H Q
theorem jv (K:PySem.W.Frag){k:Nat}(hr:Room k X.A)(h:X.K=K:=by rfl):OpR X (compareOp .NotEq) (vR K):=(EH K hr h).or (h▸zm hr.units)
def fu (K:PySem.W.Frag):R2:=fun x y H Q=>zF K x y H Q∨Dj K x y H Q
theorem N7 (K:PySem.W.Frag){k:Nat}(hr:Room k X.A)(h:X.K=K:=by rfl):OpR X (compareOp .Eq) (fu K):=(DQ K hr h).or (h▸Bi hr.units)
end
end L2
set_option Elab.async false
set_option linter.all false
set_option maxRecDepth 100000
set_option maxHeartbeats 4000000
namespace L2
open PySem PySem.Spec PyProof.Rows
def kS (v d:Addr)(h:Heap):Prop:=h.IsValuesView v d
theorem ya {P:Program}{w:World}{H:Hp}{h:Heap}{v d:Addr}(x:kS v d h):ObjOk P w H h v (.ext (kS v d)):=by
 obtain⟨o,e,r⟩:=x
 exact⟨⟨o,e,r⟩,⟨o,e⟩,fun h1 h2 ⟨o',e',r'⟩ k=>⟨o',k _ e',r'⟩⟩
section
variable {X:Cx}
def xF:V→List V→Hp→VK→Prop:=fun x vs H Q=>∃d kvs,x= .ref d∧vs=[]∧Rd H d (.dK kvs)∧∀v,H v=none→Q (.ref v) (p7 H v (.ext (kS v d)))
theorem Z4:xR X "dict.values" xF:=by
 intro pins s σ H x vs v us Q I rx rv h
 obtain⟨d,kvs,rfl,rfl,hd,q⟩:=h
 cases rx
 have hus:=rv.zero
 subst hus
 obtain⟨z,hs,ws,rel,dd⟩:=E8 I.hok hd
 refine call_meetsIn PySem.F.slot_dict_values dd.typeIs PySem.F.entry_dict_values (PySem.F.args_dict_values_1 _) (meets_dict_values (k8 X.prog X.w) d hs) ⟨⟨ws,dd⟩,?_⟩
 refine⟨.ref s.heap.objs.size,_,?_,rfl,q _ (I.hok.fresh (Nat.le_refl _))⟩
 exact I.laid (a:=s.heap.objs.size) (t':=s.toks) (fun b u e=>Heap.get?_push_of_some _ e) (Nat.le_refl _) (ya ⟨_,Heap.get?_push_size _ rfl,rfl,rfl⟩)
def fc (K:PySem.W.Frag):List V→Hp→VK→Prop:=fun xs H Q=>qd K xs H Q∨∃(v d:Addr) (kvs:List (j8×V)),xs=[.ref v]∧H v=some (.ext (kS v d))∧Rd H d (.dK kvs)∧∀l,H l=none→Q (.ref l) (p7 H l (.lst (kvs.map (·.2))))
theorem gD (hc:X.calm=true):CallR X (.type "list") (fc X.K):=by
 refine(og hc).or ?_
 intro pins s σ H xs us Q I r h
 obtain⟨v,d,kvs,rfl,hv,hx,q⟩:=h
 obtain⟨u,rfl,ru⟩:=K6 r
 cases ru
 have hvv:kS v d s.heap:=(I.hok v _ hv).1
 obtain⟨hd,o,vs,ep,ho,D⟩:=W3 I.hok hx
 have hlv:=KV.length D.kv
 have hz:kvs.length≤sizeLine:=(E8 I.hok hx).1
 refine PySem.W.kdl_call (PySem.W.kdl_values (knd:=k8 X.prog X.w) (kvs:=vs) (ep:=ep)) (I.ok.hd hc) ⟨hvv,D.at_ _ ho⟩ (by lia) fun h' tk acc c hkp hS hacc=>?_
 refine⟨.ref s.heap.objs.size,_,I.newL (tk:=tk) hkp (Nat.le_refl _) hS (N6 (by have:=hacc.1;simp;lia) fun i x u e1 e2=>?_) (by rw[List.length_map];exact hz),rfl,q _ (I.hok.fresh (Nat.le_refl _))⟩
 obtain⟨k,hy⟩:=hacc.2 i u (by rw[←Array.getElem?_toList];exact e2)
 rw[List.getElem?_map] at e1
 obtain⟨kv,e4,rfl⟩:=Option.map_eq_some_iff.mp e1
 obtain⟨q1,hq1,q2,q3⟩:=F2 (show Paired _ kvs vs from D.kv) e4
 rw[hy] at hq1
 cases hq1
 exact q3
theorem oK (K:PySem.W.Frag)(hc:X.calm=true)(h:X.K=K:=by rfl):CallR X (.type "list") (fc K):=h▸gD hc
end
section
variable {K:PySem.W.Frag} {H:Hp} {Q:VK}
theorem zS {xs:List V}(h:qd K xs H Q):fc K xs H Q:= .inl h
theorem dF {v d:Addr}{kvs:List (j8×V)}(hv:H v=some (.ext (kS v d)))(hd:Rd H d (.dK kvs))(q:∀l,H l=none→Q (.ref l) (p7 H l (.lst (kvs.map (·.2))))):fc K [.ref v] H Q:= .inr ⟨v,d,kvs,rfl,hv,hd,q⟩
end
section
variable {prog:Program} {w:World} {A:Around} {E:Value→Shared→Prop}
theorem mq {s:Shared}{T:String}{r d:Addr}{n:Nat}{P:Nat→Value→Prop}{OK:Heap→Prop}{Q:List Value→Shared→Prop}(K:PySem.W.KdlSrc prog w T r d n P OK)(hh:A.handled=none)(hok:OK s.heap)(hn:n≤sizeLine)
  (hQ:∀h' tk (acc:Array Value),(∀b o,s.heap.get? b=some o→h'.get? b=some o)→ItemsOf P acc n→Q acc.toList {s with heap:=h',toks:=tk}):wpAny (model prog w) A (collect (.ref r)) Q E s:=by
 unfold collect
 refine wpAny_bind (wpAny_runValue (codeAny_builtin F.entry_proto_collect ?_))
 rw[Around.under_plainId F.plain_proto_collect _]
 refine(show wpAny _ A.in1 (newList []>>=fun l=>again (.builtin "list.__iadd__" ⟨[l,.ref r],[]⟩)) _ _ s from wpAny_bind (wpAny_newObj_type (wpAny_pure ⟨plainId_quiet F.plain_list_iadd _,codeAny_builtin F.entry_list_iadd ?_⟩)))
 rw[Around.under_plainId F.plain_list_iadd _]
 have hlt:=K.there _ hok
 have kp:∀b o,s.heap.get? b=some o→(s.heap.push {cls:= .type "list",data:= .seq ([]:List Value).toArray}).get? b=some o:=fun b o e=>Heap.get?_push_of_some _ e
 have fin:∀s',(∃h' tk acc c,s'={s with heap:=h',toks:=tk}∧(∀b o,s.heap.get? b=some o→h'.get? b=some o)∧h'.get? s.heap.objs.size=some {cls:= .type "list",dict:=none,data:= .seq acc c,slots:= #[]}∧ItemsOf P acc n)→wpAny (model prog w) A (match Value.ref s.heap.objs.size with
   |Value.ref a=>do
    match(←load a).data with
     |Data.seq xs _=>pure xs.toList
     |_=>unsupported "internal:collect"
   |_=>unsupported "internal:collect") Q E s':=by
  rintro s' ⟨h',tk,acc,c,rfl,hk,hS,hz⟩
  exact(show wpAny _ A (load s.heap.objs.size>>=_) _ _ _ from wpAny_bind (wpAny_load hS (wpAny_pure (hQ h' tk acc hk hz))))
 refine wpAny_mono (show wpAny _ A.in1 (Builtin.List.listExtendWith (.ref s.heap.objs.size) (.ref r) (.ref s.heap.objs.size)) _ _ _ from
  PySem.W.kdl_extend (A:=A) (R:=fun rr s'=>rr= .ok (.ret (.ref s.heap.objs.size))∧∃h' tk acc c,s'={s with heap:=h',toks:=tk}∧(∀b o,s.heap.get? b=some o→h'.get? b=some o)∧h'.get? s.heap.objs.size=some {cls:= .type "list",dict:=none,data:= .seq acc c,slots:= #[]}∧ItemsOf P acc n)
   (s:={s with heap:=s.heap.push {cls:= .type "list",data:= .seq ([]:List Value).toArray}}) K hh (K.keep _ _ hok fun b _ o e=>kp b o e) s.heap.objs.size (Nat.ne_of_gt hlt.1) (Nat.ne_of_gt hlt.2) (.ref s.heap.objs.size) 0 (Heap.get?_push_size _ rfl)
   (fun h' tk acc c hk hS hacc=>⟨rfl,h',tk,acc,c,rfl,fun b o e=>hk b o (Nat.ne_of_lt (Heap.lt_size e)) (kp b o e),hS,hacc⟩) hn) (fun fn s' hf=>?_) (fun e s' hf=>?_)
 ·cases fn with
  |done f=>
   obtain⟨e,hs⟩:=hf
   cases e
   exact fin s' hs
  |again c'=>exact⟨hf.1,codeAny_mono hf.2 fun rr s'' hr=>by obtain⟨rfl,hs⟩:=hr;exact fin s'' hs⟩
 ·exact absurd hf.1 (by simp)
theorem kh {s:Shared}{T:String}{r d:Addr}{n:Nat}{P:Nat→Value→Prop}{OK:Heap→Prop}{Q₁:Value→Shared→Prop}(K:PySem.W.KdlSrc prog w T r d n P OK)(hh:A.handled=none)(hok:OK s.heap)(hn:n≤sizeLine)
  (h:∀(h':Heap) (tk:Nat) (acc:Array Value),(∀b o,s.heap.get? b=some o→h'.get? b=some o)→ItemsOf P acc n→Q₁ (.ref h'.objs.size) {s with heap:=h'.push {cls:= .type "tuple",data:= .seq acc},toks:=tk}):
  codeAny (model prog w) A (.call (.builtin "tuple.__new__") ⟨[.type "tuple",.ref r],[]⟩) (wants Q₁ E) s:=by
 have f1:=sub_tuple_self;have f2:=init_tuple_lookup;have f3:=madeHere_tuple
 have hT:=K.type s hok
 have hne:=K.notTuple
 refine codeAny_of_tree (show wpAny _ A.in1 (do checkBuiltinCall "tuple.__new__" ⟨[.type "tuple",.ref r],[]⟩;again (.builtin "tuple.__new__" ⟨[.type "tuple",.ref r],[]⟩)) _ _ s from ?_)
 refine wpAny_bind (wpAny_of_eq (F.newCall_tuple_1 _) (wpAny_pure ⟨plainId_quiet (by decide+kernel) _,codeAny_builtin F.entry_tuple_new ?_⟩))
 rw[Around.under_plainId (by decide+kernel) _]
 unfold Builtin.«tuple.__new__»
 have hh1:A.in1.handled=none:=by simpa using hh
 wp_walk using wpAny_typeOf hT,mq K hh1 hok hn
 intro h' tk acc hk hz
 refine(show wpAny _ _ (Builtin.Tuple.tupleExact acc.toList.toArray>>=fun v=>ret v) _ _ _ from ?_)
 unfold Builtin.Tuple.tupleExact
 refine wpAny_bind (wpAny_newObj_type (wpAny_pure ?_) (by show acc.toList.toArray.size≤sizeLine;simp;rw[hz.1];exact hn))
 have e:acc.toList.toArray=acc:=by simp
 rw[e]
 exact h h' tk acc hk hz
theorem jO {s:Shared}{T:String}{r d:Addr}{n:Nat}{P:Nat→Value→Prop}{OK:Heap→Prop}{Q:Value→Shared→Prop}(K:PySem.W.KdlSrc prog w T r d n P OK)(hh:A.handled=none)(hok:OK s.heap)(hn:n≤sizeLine)
  (h:∀(h':Heap) (tk:Nat) (acc:Array Value),(∀b o,s.heap.get? b=some o→h'.get? b=some o)→ItemsOf P acc n→Q (.ref h'.objs.size) {s with heap:=h'.push {cls:= .type "tuple",data:= .seq acc},toks:=tk}):
  wpAny (model prog w) A (call (.type "tuple") [.ref r]) Q E s:=by
 refine callType_codes (Q₁:=fun obj s₁=>s₁.TypeIs obj "tuple"∧Q obj s₁) F.called_tuple (F.typeCall_tuple_1 _) F.entry_object_init (kh K (by simpa using hh) hok hn fun h' tk acc hk hz=>⟨⟨_,Heap.get?_push_size _ rfl,rfl⟩,h h' tk acc hk hz⟩) fun obj st h1=>?_
 exact⟨h1.1,F.args_object_init_2 obj _,object_init_meets F.called_tuple.init.lookup F.called_tuple.made (by decide) prog w A.in1 _ st ⟨h1.1,rfl,h1.2⟩⟩
end
section
variable {X:Cx}
def yM (K:PySem.W.Frag):List V→Hp→VK→Prop:=fun xs H Q=>(∃p ys,xs=[.ref p]∧((SqL K H p ys∧∀l,H l=none→Q (.ref l) (p7 H l (.tup ys)))∨(SqT K H p ys∧Q (.ref p) H)))∨
 ∃(d:Addr) (kvs:List (j8×V)),xs=[.ref d]∧Rd H d (.dK kvs)∧∀l,H l=none→Q (.ref l) (p7 H l (.tup (kvs.map fun kv=>kV kv.1)))
theorem qv (hc:X.calm=true):CallR X (.type "tuple") (yM X.K):=by
 refine call_tuple_of.or ?_
 intro pins s σ H xs us Q I r h
 obtain⟨d,kvs,rfl,hx,q⟩:=h
 obtain⟨u,rfl,ru⟩:=K6 r
 cases ru
 obtain⟨hd,o,vs,ep,ho,D⟩:=W3 I.hok hx
 have hlv:=KV.length D.kv
 have hz:kvs.length≤sizeLine:=(E8 I.hok hx).1
 refine jO (PySem.W.kdl_dict (knd:=k8 X.prog X.w) (kvs:=vs) (ep:=ep) hd) (I.ok.hd hc) (D.at_ _ ho) (by lia) fun h' tk acc hk hacc=>?_
 have I1:Inv X pins σ H {s with heap:=h',toks:=tk}:=I.kept (t':=tk) hk
 have rv:Vals (kvs.map fun kv=>kV kv.1) acc.toList:=N6 (by have:=hacc.1;simp;lia) fun i x u e1 e2=>by
  obtain⟨k,y,hy,hky⟩:=hacc.2 i u (by rw[←Array.getElem?_toList];exact e2)
  rw[List.getElem?_map] at e1
  obtain⟨kv,e4,rfl⟩:=Option.map_eq_some_iff.mp e1
  obtain⟨q1,hq1,q2,q3⟩:=F2 (show Paired _ kvs vs from D.kv) e4
  rw[hy] at hq1
  cases hq1
  rw[q2]
  exact W7 hky
 have I2:Inv X pins σ (p7 H h'.objs.size (.tup (kvs.map fun kv=>kV kv.1))) {s with heap:=h'.push {cls:= .type "tuple",data:= .seq acc.toList.toArray},toks:=tk}:=
  I1.laid (t':=tk) (fun b o e=>Heap.get?_push_of_some _ e) (Nat.le_refl _) (show ObjOk X.prog X.w _ _ _ (.tup (kvs.map fun kv=>kV kv.1)) from⟨by rw[List.length_map];exact hz,acc.toList,rv,IsTup.new _ _⟩)
 rw[show acc.toList.toArray=acc by simp] at I2
 exact⟨.ref h'.objs.size,_,I2,rfl,q _ (I1.hok.fresh (Nat.le_refl _))⟩
theorem CN (K:PySem.W.Frag)(hc:X.calm=true)(h:X.K=K:=by rfl):CallR X (.type "tuple") (yM K):=h▸qv hc
end
end L2
set_option Elab.async false
set_option linter.all false
set_option maxRecDepth 100000
set_option maxHeartbeats 4000000
namespace L2
open PySem PySem.Spec PyProof.Rows
section
variable {prog:Program} {w:World} {A:Around} {E:Value→Shared→Prop} {s:Shared}
theorem rz {Q:Int→Shared→Prop}(h:Q 0xFCA86420 {s with toks:=s.toks+1}):wpAny (model prog w) A (pyHash .none) Q E s:=by
 have hT:s.TypeIs Value.none "NoneType":=rfl
 unfold pyHash pyHashByItsType
 refine wpAny_bind ?_
 rw[cRoomFor,if_neg (show ¬([Value.none].any Value.onHeap)=true by decide)]
 refine wpAny_pure (wpAny_bind (wpAny_specialOf hT PySem.F.slot_NoneType_hash.lookup ?_))
 refine(show wpAny _ _ (if(some (Value.builtin "NoneType.__hash__")==some Value.none)=true then _ else _) Q E s from ?_)
 rw[if_neg (by decide)]
 refine wpAny_bind (wpAny_specialOf hT PySem.F.slot_NoneType_hash.lookup ?_)
 refine(show wpAny _ _ (callSpecialIfBoundUnlessNone? Value.none "__hash__" _>>=_) Q E s from ?_)
 refine wpAny_bind (wpAny_callSpecialIfBoundUnlessNone?_slot hT PySem.F.slot_NoneType_hash (wpAny_call_entry PySem.F.slot_NoneType_hash hT PySem.F.entry_NoneType_hash (show wpAny _ _ (do ret (←mkInt 0xFCA86420)) _ _ s from wpAny_ret_mkInt ?_) (PySem.F.args_NoneType_hash_1 _)))
 refine(show wpAny _ _ (if(decide (-(2:Int) ^ 63≤0xFCA86420)&&decide ((0xFCA86420:Int)<2 ^ 63))=true then _ else _) Q E _ from ?_)
 rw[if_pos (by decide)]
 exact wpAny_pure h
end
abbrev iw:=Option j8
def EY:iw→Value→Bool
 |none,.none=>true
 |none,_=>false
 |some k,v=>bq k v
theorem M9:∀{k:iw} {v:Value},EY k v=true→(k=none∧v=Value.none)∨(∃i t,k=some (Sum.inl i)∧v=Value.int i t)∨(∃x t,k=some (Sum.inr x)∧v=Value.str x t)
 |none,v,h=>by cases v<;>first|exact .inl ⟨rfl,rfl⟩|cases h
 |some k,v,h=>by
  rcases z4 (show bq k v=true from h) with⟨i,t,rfl,rfl⟩|⟨x,t,rfl,rfl⟩
  ·exact .inr (.inl ⟨i,t,rfl,rfl⟩)
  ·exact .inr (.inr ⟨x,t,rfl,rfl⟩)
def Cf (w:World):iw→Int
 |none=>0xFCA86420
 |some k=>CZ w k
def cx (prog:Program)(w:World):PySem.KeyKind prog w iw where
 is:=EY
 hash:=Cf w
 inj:=fun v a b ha hb=>by
  rcases M9 ha with⟨rfl,rfl⟩|⟨i,t,rfl,rfl⟩|⟨x,t,rfl,rfl⟩<;>rcases M9 hb with⟨rfl,e⟩|⟨j,u,rfl,e⟩|⟨y,u,rfl,e⟩<;>first|rfl|(cases e<;>rfl)
 byValue:=fun k v h=>by
  rcases M9 h with⟨rfl,rfl⟩|⟨i,t,rfl,rfl⟩|⟨x,t,rfl,rfl⟩<;>rfl
 pyHash:=fun hv h=>by
  rcases M9 hv with⟨rfl,rfl⟩|⟨i,t,rfl,rfl⟩|⟨x,t,rfl,rfl⟩
  ·exact rz h
  ·exact wpAny_pyHash_int h
  ·exact wpAny_pyHash_str h
 eqBool:=fun{A E s a b u v Q} hu hv h=>by
  have dk:∀{k k':j8},decide ((some k:iw)=some k')=decide (k=k'):=fun{k k'}=>by
   by_cases e:k=k'
   ·subst e;simp
   ·rw[decide_eq_false e,decide_eq_false fun z=>e (Option.some.inj z)]
  rcases M9 hu with⟨rfl,rfl⟩|⟨i,t,rfl,rfl⟩|⟨x,t,rfl,rfl⟩<;>rcases M9 hv with⟨rfl,rfl⟩|⟨j,t',rfl,rfl⟩|⟨y,t',rfl,rfl⟩
  ·exact SeqAt.EqAt.same _ _ _ _ _ (by simpa using h)
  ·exact SeqAt.EqAt.none_int j t' _ _ _ _ (by simpa using h)
  ·exact SeqAt.EqAt.none_str y t' _ _ _ _ (by simpa using h)
  ·exact SeqAt.EqAt.int_none i t _ _ _ _ (by simpa using h)
  ·rw[dk,uT] at h;exact wpAny_eqBool_int h
  ·rw[dk,vw] at h;exact SeqAt.EqAt.int_str i t y t' _ _ _ _ h
  ·exact SeqAt.EqAt.str_none x t _ _ _ _ (by simpa using h)
  ·rw[dk,tV] at h;exact SeqAt.EqAt.str_int x t j t' _ _ _ _ h
  ·rw[dk,vO] at h;exact wpAny_eqBool_str h
 «strs»:=fun k x t v h=>by
  rcases M9 h with⟨rfl,e⟩|⟨i,u,rfl,e⟩|⟨y,u,rfl,e⟩
  ·exact nomatch e
  ·exact nomatch e
  ·injection e with e1 _
   subst e1
   cases v<;>rfl
def ck (P:Program)(w:World)(a:Addr)(n:Nat)(h:Heap):Prop:=(a==sysModules)=false∧∃vs,h.DictOf (cx P w) a vs∧vs.length=n
theorem oU {P P':Program}{w w':World}{H:Hp}{h:Heap}{a:Addr}{n:Nat}(x:ck P w a n h):ObjOk P' w' H h a (.ext (ck P w a n)):=by
 obtain⟨hs,vs,⟨o,es,ep,e,r⟩,hl⟩:=x
 exact⟨⟨hs,vs,⟨o,es,ep,e,r⟩,hl⟩,⟨o,e⟩,fun h1 h2 ⟨hs',vs',⟨o',es',ep',e',r'⟩,hl'⟩ k=>⟨hs',vs',⟨o',es',ep',k _ e',r'⟩,hl'⟩⟩
theorem gX {P:Program}{w:World}:∀{es:List DictEntry} {vs:List (j8×Value)},Pairs (k8 P w) es vs→Pairs (cx P w) es (vs.map fun x=>(some x.1,x.2))
 |_,_,.nil=> .nil
 |_,_,.cons h e t=> .cons h e (gX t)
theorem xm {P:Program}{w:World}{h:Heap}{a:Addr}{vs:List (j8×Value)}(dd:h.DictOf (k8 P w) a vs):h.DictOf (cx P w) a (vs.map fun x=>(some x.1,x.2)):=by
 obtain⟨o,es,ep,h1,h2,h3,h4,h5,h6⟩:=dd
 refine⟨o,es,ep,h1,h2,h3,fun e he=>?_,gX h5,?_⟩
 ·obtain⟨k,q1,q2⟩:=h4 e he
  exact⟨some k,q1,q2⟩
 ·rw[List.map_map]
  have e:((fun x:iw×Value=>x.1)∘fun x:j8×Value=>((some x.1:iw),x.2))=(fun k:j8=>(some k:iw))∘fun x:j8×Value=>x.1:=rfl
  rw[e,←List.map_map]
  exact List.Pairwise.map _ (fun a b h z=>h (Option.some.inj z)) h6
theorem ni {vs:List (j8×Value)}{v:Value}:stored (vs.map fun x=>((some x.1:iw),x.2)) none v=(vs.map fun x=>((some x.1:iw),x.2))++[(none,v)]:=by
 unfold stored
 rw[if_neg]
 intro z
 obtain⟨x,hx,e⟩:=List.any_eq_true.mp z
 obtain⟨y,_,rfl⟩:=List.mem_map.mp hx
 cases of_decide_eq_true e
section
variable {X:Cx}
def vF (P:Program)(w:World):pf:=fun o i v H Q=>pQ o i v H Q∨∃a kvs,o= .ref a∧i= .non∧H a=some (.dK kvs)∧kvs.length<1000∧Q (p7 H a (.ext (ck P w a (kvs.length+1))))
theorem vq (hu:X.A.units+1<cLine):qQ X (vF X.prog X.w):=by
 intro pins s σ H o i v ov iv u Q I ro ri rv h
 rcases h with h|⟨a,kvs,rfl,rfl,hA,hl,q⟩
 ·exact wX hu pins s σ H o i v ov iv u Q I ro ri rv h
 ·cases ro
  cases ri
  obtain⟨z,hd,vs,rel,dd⟩:=pj I.hok hA
  have hlv:=rel.length
  refine wpAny_setItem_pairs (knd:=cx X.prog X.w) (k:=none) (hsz:=by rw[List.length_map];lia) rfl (xm dd) fun h' dd' hs=>?_
  rw[ni] at dd'
  have he:∃q,h'.get? a=some q:=let ⟨q,_,_,hq,_⟩:=dd';⟨q,hq⟩
  exact⟨_,cH I (by rw[hA];exact True.intro) hs he (oU ⟨hd,_,dd',by rw[List.length_append,List.length_map,hlv];rfl⟩),q⟩
def kH (K:PySem.W.Frag)(P:Program)(w:World):List V→Hp→VK→Prop:=fun xs H Q=>yG K xs H Q∨∃p n,xs=[V.ref p]∧H p=some (.ext (ck P w p n))∧n≤1000∧Q (.int n) H
theorem rZ:CallR X (.builtin "len") (kH X.K X.prog X.w):=by
 refine call_lenS.or ?_
 intro pins s σ H xs us Q I r h
 obtain⟨p,n,rfl,hp,hn,q⟩:=h
 obtain⟨u,rfl,ru⟩:=K6 r
 cases ru
 obtain⟨hs,vs,dd,hl⟩:=(I.hok p _ hp).1
 refine call_len_dict hs dd (by lia) ?_
 rw[hl]
 exact⟨.int n,H,I.tok _,⟨_,rfl⟩,q⟩
theorem BF (K:PySem.W.Frag)(h:X.K=K:=by rfl):CallR X (.builtin "len") (kH K X.prog X.w):=h▸rZ
def pT (K:PySem.W.Frag)(P:Program)(w:World):List V→Hp→VK→Prop:=fun xs H Q=>wx K xs H Q∨∃p n T,xs=[V.ref p,.ty T]∧H p=some (.ext (ck P w p n))∧(T="str"∨T="int"∨T="bool"∨T="list"∨T="tuple"∨T="dict")∧Q (.bl (du "dict" T)) H
theorem se:CallR X (.builtin "isinstance") (pT X.K X.prog X.w):=by
 refine call_isi.or ?_
 intro pins s σ H xs us Q I r h
 obtain⟨p,n,T,rfl,hp,hT,q⟩:=h
 obtain⟨u,c,rfl,rx,rc⟩:=dG r
 cases rx
 cases rc
 obtain⟨hs,vs,⟨o,es,ep,h1,h2,r⟩,hl⟩:=(I.hok p _ hp).1
 exact PySem.W.kia_one PySem.W.kitx_dict I.kIn ⟨o,h1,h2.1⟩ (R6 (by simp) hT) (fun z=>nomatch z) fun tk=>⟨.bl _,H,I.tok tk,rfl,q⟩
theorem Cq (K:PySem.W.Frag)(h:X.K=K:=by rfl):CallR X (.builtin "isinstance") (pT K X.prog X.w):=h▸se
end
section
variable {K:PySem.W.Frag} {P:Program} {w:World} {H:Hp} {Q:VK}
theorem E9 {xs:List V}(h:qU K xs H Q):kH K P w xs H Q:= .inl (.inl h)
theorem sh {p:Addr}{n:Nat}(h:H p=some (.ext (dh p n)))(hn:n≤1000)(q:Q (.int n) H):kH K P w [.ref p] H Q:= .inl (.inr ⟨p,n,rfl,h,hn,q⟩)
theorem iW {xs:List V}(h:wx K xs H Q):pT K P w xs H Q:= .inl h
theorem J0 {o i v:V}{Qh:Hp→Prop}(h:pQ o i v H Qh):vF P w o i v H Qh:= .inl h
theorem vI {x y:V}(h:oY K x y H Q):fu K x y H Q:= .inl (EI h)
theorem tF {i j:Int}(q:Q (.bl (decide (i=j))) H):fu K (.int i) (.int j) H Q:=vI (vc q)
theorem ml {i j:Str}(q:Q (.bl (decide (i=j))) H):fu K (.str i) (.str j) H Q:=vI (uP q)
theorem Ba {x y:V}(h:rM K x y H Q):vR K x y H Q:= .inl (Em h)
theorem tE {i j:Int}(q:Q (.bl (!decide (i=j))) H):vR K (.int i) (.int j) H Q:= .inl (uJ q)
end
theorem qi {X:Cx}(K:PySem.W.Frag)(P:Program)(w:World)(h:X.K=K:=by rfl)(hp:X.prog=P:=by rfl)(hw:X.w=w:=by rfl):CallR X (.builtin "isinstance") (pT K P w):=by subst hp hw;exact Cq K h
theorem K5 {X:Cx}(K:PySem.W.Frag)(P:Program)(w:World)(h:X.K=K:=by rfl)(hp:X.prog=P:=by rfl)(hw:X.w=w:=by rfl):CallR X (.builtin "len") (kH K P w):=by subst hp hw;exact BF K h
theorem x5 {X:Cx}(P:Program)(w:World)(hu:X.A.units+1<cLine)(hp:X.prog=P:=by rfl)(hw:X.w=w:=by rfl):qQ X (vF P w):=by subst hp hw;exact vq hu
end L2
set_option Elab.async false
set_option linter.all false
set_option maxRecDepth 100000
namespace L2
open PySem PySem.Spec PyProof.Rows
section
variable {X:Cx} {a b:Expr} {ta:TA} {x y:Str} {pos:Pos}
end
section
variable {σ:St} {H:Hp} {nx:St→Hp→Prop} {rt:VK} {bk ct:St→Hp→Prop} {ta:TA}
end
end L2
set_option Elab.async false
set_option linter.all false
set_option maxRecDepth 100000
set_option maxHeartbeats 4000000
namespace L2
open PySem PySem.Spec PyProof.Rows
section
variable {P:Program} {w:World}
end
section
variable {X:Cx} {tg:Expr}
end
end L2
set_option Elab.async false
set_option linter.all false
namespace L2
open PySem PySem.Spec PyProof.Rows
section
variable {J:It} {th:Hp→Hp} {n:Nat} {g:TG} {tb:TS} {nx:L2.St→Hp→Prop} {rt:VK} {σ:L2.St} {H:Hp}
theorem P2 (Pv:Nat→L2.St→Hp→Prop)(h0:Pv 0 σ H)(hgo:∀i σ H,i<n→Pv i σ H→J.go i H)
  (hs:∀(bk:L2.St→Hp→Prop) i x σ H H',i<n→Pv i σ H→J.yld i H x H'→g x σ H' fun σ2 H2=>tb ⟨Pv (i+1),fun v H=>rt v (th H),bk,Pv (i+1)⟩ σ2 H2)
  (hd:∀σ H,Pv n σ H→J.stop n H∧nx σ (th H)):yd J th g tb nx rt σ H:=jE Pv h0 hgo (hs fun σ H=>nx σ (th H)) hd
end
end L2
set_option Elab.async false
set_option linter.all false
set_option maxRecDepth 100000
set_option maxHeartbeats 4000000
namespace L2
open PySem PySem.Spec PyProof.Rows
section
variable {prog:Program} {w:World} {A:Around} {E:Value→Shared→Prop} {s:Shared}
end
end L2
set_option Elab.async false
set_option linter.all false
set_option maxRecDepth 100000
set_option maxHeartbeats 4000000
namespace L2
open PySem PySem.Spec PyProof.Rows
section
variable {X:Cx}
end
section
variable {K:PySem.W.Frag} {P:Program} {w:World} {H:Hp} {Q:VK} {σ:L2.St}
end
end L2
set_option Elab.async false
set_option linter.all false
set_option maxRecDepth 100000
set_option maxHeartbeats 4000000
namespace L2
open PySem PySem.Spec PyProof.Rows
def Fg:Value→V
 | .none=> .non
 | .bool b=> .bl b
 | .int i _=> .int i
 | .str x _=> .str x
 | .bytes b _=> .byt b
 | .float b _=> .flt b
 | .ref a=> .ref a
 | .type n=> .ty n
 |_=> .non
theorem tB {v:V}{u:Value}(r:RelV v u):Fg u=v:=by
 cases v with
 |non=>rw[show u=Value.none from r];rfl
 |bl b=>rw[show u=Value.bool b from r];rfl
 |int i=>obtain⟨t,rfl⟩:=r;rfl
 |str x=>obtain⟨t,rfl⟩:=r;rfl
 |byt x=>obtain⟨t,rfl⟩:=r;rfl
 |flt x=>obtain⟨t,rfl⟩:=r;rfl
 |ref a=>rw[show u=Value.ref a from r];rfl
 |ty n=>rw[show u=Value.type n from r];rfl
section
variable {X:Cx}
end
section
variable {X:Cx} {a:Expr} {t:TA} {p pos:Pos} {tg:Expr}
end
section
variable {K:PySem.W.Frag} {σ:L2.St} {H:Hp} {ta:TA} {R:It→(Hp→Hp)→Hp→Prop}
end
end L2
set_option Elab.async false
set_option linter.all false
set_option maxRecDepth 100000
set_option maxHeartbeats 4000000
namespace L2
open PySem PySem.Spec PyProof.Rows
abbrev Dh (h:Heap)(z TI TO:Addr)(f0:Value)(b:Bool):Prop:=h.get? z=some {cls:= .type "zip",dict:=none,data:= .fields #[f0,.bool b,.bool false,.ref TI,.ref TO],slots:= #[]}
section
variable {prog:Program} {w:World} {A:Around} {E:Value→Shared→Prop} {s:Shared}
end
section
variable {prog:Program} {w:World} {A:Around} {E:Value→Shared→Prop} {s:Shared}
end
end L2
set_option Elab.async false
set_option linter.all false
set_option maxRecDepth 100000
set_option maxHeartbeats 4000000
namespace L2
open PySem PySem.Spec PyProof.Rows
section
variable {prog:Program} {w:World} {A:Around} {E:Value→Shared→Prop} {s:Shared}
structure Fd (h:Heap) (d z TI TO i1 i2 l1 l2:Addr) (k:Nat) (xs ys:Array Value):Prop where
 ti:IsPair h TI (.ref i1) (.ref i2)
 a1:h.IsListIter i1 l1 k
 a2:h.IsListIter i2 l2 k
 b1:h.IsList l1 xs
 b2:h.IsList l2 ys
 st:(∃a b,IsZip h z TI TO .none∧IsPair h TO a b)∨∃(T:Addr) (b:Bool) (ot:Obj),Dh h z TI TO (rawInt T) b∧h.get? T=some ot∧T≠z∧T≠i1∧T≠i2∧T≠d
structure EO (d z TI TO i1 i2 l1 l2:Addr):Prop where
 z:z≠d
 TI:TI≠d
 TO:TO≠d
 i1:i1≠d
 i2:i2≠d
 l1:l1≠d
 l2:l2≠d
end
section
variable {prog:Program} {w:World} {KT:Type} [DecidableEq KT] {knd:KeyKind prog w KT} {A:Around} {E:Value→Shared→Prop}
end
end L2
set_option Elab.async false
set_option linter.all false
set_option maxRecDepth 100000
set_option maxHeartbeats 4000000
namespace L2
open PySem PySem.Spec PyProof.Rows
section
variable {prog:Program} {w:World} {KT:Type} [DecidableEq KT] {knd:KeyKind prog w KT} {A:Around} {E:Value→Shared→Prop}
end
section
variable {X:Cx} {a b:Expr} {t:TA} {p pos p2 pos2:Pos}
end
end L2
set_option Elab.async false
set_option linter.all false
set_option maxRecDepth 100000
set_option maxHeartbeats 4000000
namespace L2
open PySem PySem.Spec PyProof.Rows
open PySem.AutoSeq1 (wpAny_loadPart')
open PySem.MeetsSeq PySem.MeetsSeq2 PySem.MeetsSeq3
section
variable {X:Cx} {pins:List (Addr×Obj)} {σ:St} {H:Hp} {s:Shared} {A:Around}
end
section
variable {X:Cx}
end
section
variable {P:Program} {w:World}
end
section
variable {X:Cx}
end
section
variable {K:PySem.W.Frag} {H:Hp} {Q:VK} {x y:V}
end
end L2
set_option Elab.async false
set_option linter.all false
set_option maxRecDepth 100000
set_option maxHeartbeats 4000000
namespace PySem
section
variable {prog:Program} {w:World} {K:Type} [DecidableEq K] {A:Around} {E:Value→Shared→Prop} {s:Shared}
end
end PySem
namespace L2
open PySem PySem.Spec PyProof.Rows
section
variable {X:Cx}
end
section
variable {X:Cx}
end
structure Fq (K:PySem.W.Frag) (x qual:Str) (st:Stmt) (T:Addr) (f:Addr) (fd:FuncData):Prop where
 ex:∃(oc:Value) (od:Option Addr) (kV doc pm:Value) (an:Option Addr) (cdv ct:Value) (osl:Array (Option Value)),
  fd=PySem.W.fnOf x qual (R0 st) (N4 st) (b6 st) (.ref T) kV doc pm an cdv ct∧K.lookup f=some ⟨oc,od,.func fd,osl⟩∧PySem.W.codeIn K cdv qual=true
 kp:PySem.W.keepIn K (.ref f)=true
section
variable {P:Program} {w:World} {K:PySem.W.Frag} {mg:Str→Option Value} {base:Heap}
end
end L2
set_option Elab.async false
set_option linter.all false
set_option maxRecDepth 100000
set_option maxHeartbeats 4000000
namespace L2
open PySem PySem.Spec PyProof.Rows
open PySem.AutoSeq1 (wpAny_loadPart')
open PySem.MeetsSeq PySem.MeetsSeq2 PySem.MeetsSeq3
section
variable {P:Program} {w:World}
end
section
variable {X:Cx}
end
end L2
set_option Elab.async false
set_option linter.all false
set_option maxRecDepth 100000
set_option maxHeartbeats 4000000
namespace L2
open PySem PySem.Spec PyProof.Rows
section
variable {α β:Type}
theorem ua (g:α→β)(xs:Array α)(a b:Nat):(xs.swapIfInBounds a b).map g=(xs.map g).swapIfInBounds a b:=by
 by_cases h1:a<xs.size
 ·by_cases h2:b<xs.size
  ·refine Array.ext_getElem? fun k=>?_
   rw[Array.getElem?_map,getElem?_swapIB h1 h2,getElem?_swapIB (by simpa using h1) (by simpa using h2),Array.getElem?_map,Array.getElem?_map,Array.getElem?_map]
   repeat' split
   all_goals rfl
  ·rw[Array.swapIfInBounds_def,Array.swapIfInBounds_def,dif_pos h1,dif_neg h2,dif_pos (by simpa using h1),dif_neg (by simpa using h2)]
 ·rw[Array.swapIfInBounds_def,Array.swapIfInBounds_def,dif_neg h1,dif_neg (by simpa using h1)]
theorem cU (g:α→β)(u v:Nat→Nat):∀(l:List Nat) (xs:Array α),(l.foldl (fun z k=>z.swapIfInBounds (u k) (v k)) xs).map g=l.foldl (fun z k=>z.swapIfInBounds (u k) (v k)) (xs.map g)
 |[],_=>rfl
 |k::l,xs=>by
  rw[List.foldl_cons,List.foldl_cons,cU g u v l,ua]
theorem oB (g:α→β)(xs:Array α)(i j d:Nat):(mirror xs i j d).map g=mirror (xs.map g) i j d:=cU g _ _ _ _
theorem oG (g:α→β)(xs:Array α)(c d:Nat):(bubble xs c d).map g=bubble (xs.map g) c d:=cU g _ _ _ _
end
def EE (rk:Value→Int)(p:Keyed):Keyed:=(.int (rk p.1) 0,p.2)
def kA (rk:Value→Int)(st:SortSt)(i:Nat):Int:=K ((arrOf st).map (EE rk)) i
structure TB (kd:SortKind) (base:Array Keyed) (st:SortSt):Prop where
 pm:(arrOf st).Perm base
 kd:kindOf st=kd
 fl:failedOf st=none
 pe:pendingOf st= #[]
def fq (prog:Program)(w:World)(A:Around)(s:Shared)(rk:Value→Int)(kd:SortKind)(base:Array Keyed):Prop:=
 ∀(x y:Value) (E:Value→Shared→Prop) (Q:Bool→Shared→Prop),(∃p∈base.toList,p.1=x)→(∃p∈base.toList,p.1=y)→Q (decide (rk x<rk y)) s→wpAny (model prog w) A (keyLt' kd x y) Q E s
section
variable {prog:Program} {w:World} {A:Around} {E:Value→Shared→Prop} {s:Shared} {rk:Value→Int} {kd:SortKind} {base:Array Keyed} {st:SortSt}
theorem TB.sz (h:TB kd base st):(arrOf st).size=base.size:=h.pm.size_eq
theorem TB.put (h:TB kd base st){xs:Array Keyed}(p:xs.Perm (arrOf st)):TB kd base (setArr st xs):=⟨p.trans h.pm,h.kd,h.fl,h.pe⟩
theorem pR {i:Nat}(h:i<(arrOf st).size):kA rk st i=rk (arrOf st)[i].1:=by
 unfold kA K
 rw[Array.getElem?_map,Array.getElem?_eq_getElem h];rfl
theorem pd {i j:Nat}(h:j≤(arrOf st).size)(k:Nat):kA rk (setArr st (mirror (arrOf st) i j ((j -i)/2))) k=if i≤k∧k<j then kA rk st (i+j -1 -k) else kA rk st k:=by
 show K ((mirror (arrOf st) i j ((j -i)/2)).map (EE rk)) k=_
 rw[oB,K_mirror (by simpa using h)];rfl
theorem eS {i j:Nat}(h:j≤(arrOf st).size)(e:∀k,i≤k→k<j→kA rk st k=kA rk st (j -1))(k:Nat):kA rk (setArr st (mirror (arrOf st) i j ((j -i)/2))) k=kA rk st k:=by
 rw[pd h]
 split
 ·next z=>rw[e _ (by lia) (by lia),e k z.1 z.2]
 ·rfl
theorem uN {c d:Nat}(hc:c<(arrOf st).size)(hd:d≤c)(k:Nat):kA rk (setArr st (bubble (arrOf st) c d)) k=if k=c -d then kA rk st c else if c -d<k∧k≤c then kA rk st (k -1) else kA rk st k:=by
 show K ((bubble (arrOf st) c d).map (EE rk)) k=_
 rw[oG,K_bubble (by simpa using hc) hd];rfl
def Asc (rk:Value→Int)(st:SortSt)(n:Nat):Prop:=∀i j,i≤j→j<n→kA rk st i≤kA rk st j
def Dsc (rk:Value→Int)(st:SortSt)(n:Nat):Prop:=∀i j,i≤j→j<n→kA rk st j≤kA rk st i
theorem Asc.one:Asc rk st 1:=fun i j h1 h2=>by
 rw[show i=j by lia];exact Int.le_refl _
theorem Asc.next {n:Nat}(h:Asc rk st n)(h1:1≤n)(hx:¬kA rk st n<kA rk st (n -1)):Asc rk st (n+1):=fun i j hij hj=>by
 rcases Nat.lt_or_ge j n with z|z
 ·exact h i j hij z
 ·have e:j=n:=by lia
  subst e
  rcases Nat.lt_or_ge i j with y|y
  ·have:=h i (j -1) (by lia) (by lia)
   lia
  ·rw[show i=j by lia];exact Int.le_refl _
theorem Dsc.next {st2:SortSt}{n:Nat}(h:Dsc rk st n)(h1:1≤n)(hx:kA rk st n≤kA rk st (n -1))(e:∀k,kA rk st2 k=kA rk st k):Dsc rk st2 (n+1):=fun i j hij hj=>by
 rw[e,e]
 rcases Nat.lt_or_ge j n with z|z
 ·exact h i j hij z
 ·have e:j=n:=by lia
  subst e
  rcases Nat.lt_or_ge i j with y|y
  ·have:=h i (j -1) (by lia) (by lia)
   lia
  ·rw[show i=j by lia];exact Int.le_refl _
theorem lN (hL:fq prog w A s rk kd base)(hB:TB kd base st){i j:Nat}{Q:Option Bool→SortSt→Prop}(hi:i<base.size)(hj:j<base.size)(h:Q (some (decide (kA rk st i<kA rk st j))) st):wpS (model prog w) A E s (ltAt' i j) Q st:=by
 have z:=hB.sz
 have hi':i<(arrOf st).size:=by lia
 have hj':j<(arrOf st).size:=by lia
 have mem:∀k (hk:k<(arrOf st).size),∃p∈base.toList,p.1=(arrOf st)[k].1:=fun k hk=>⟨_,(Array.perm_iff_toList_perm.mp hB.pm).mem_iff.mp (by simp),rfl⟩
 rw[pR hi',pR hj'] at h
 rw[ltAt'_eq]
 refine wpS_bind (wpS_get ?_)
 show wpS _ _ _ _ (do let u←elem' (arrOf st) i;let v←elem' (arrOf st) j;lt' u v) Q st
 rw[elem'_eq,elem'_eq,Array.getElem?_eq_getElem hi',Array.getElem?_eq_getElem hj']
 refine wpS_bind (wpS_pure (wpS_bind (wpS_pure ?_)))
 rw[lt'_eq]
 refine wpS_bind (wpS_get ?_)
 rw[hB.kd]
 exact wpS_bind (wpS_lift (wpAny_attempt (hL _ _ _ _ (mem i hi') (mem j hj') ⟨rfl,wpS_pure h⟩)))
theorem vz (hL:fq prog w A s rk kd base)(hB:TB kd base st){a n:Nat}{Q:AscSt→SortSt→Prop}(ha:1≤a)(han:a≤n)(hn:n≤base.size)(hs:Asc rk st a)
  (h:∀m,a≤m→m≤n→Asc rk st m→(m=n∨kA rk st m<kA rk st (m -1))→Q (none,m) st):wpS (model prog w) A E s (ascLoop a n) Q st:=by
 unfold ascLoop
 refine wpS_forRange (I:=fun k c z=>z=st∧c=(none,k)∧Asc rk st k) (fun k c z h1 h2 h3=>?_) (fun c z h3=>?_) ⟨rfl,rfl,hs⟩
 ·obtain⟨rfl,rfl,h4⟩:=h3
  dsimp only
  refine wpS_bind (lN hL hB (by lia) (by lia) ?_)
  by_cases e:kA rk z k<kA rk z (k -1)
  ·rw[decide_eq_true e]
   exact wpS_pure (h k h1 (by lia) h4 (.inr e))
  ·rw[decide_eq_false e]
   exact wpS_pure ⟨rfl,rfl,h4.next (by lia) e⟩
 ·obtain⟨rfl,rfl,h4⟩:=h3
  have e:max a n=n:=by lia
  rw[e] at h4⊢
  exact h n han (Nat.le_refl _) h4 (.inl rfl)
theorem qf (hL:fq prog w A s rk kd base)(hB:TB kd base st){m n:Nat}{Q:Option Nat→SortSt→Prop}(h1:1≤m)(hmn:m≤n)(hn:n≤base.size)(hs:Dsc rk st m)
  (h:∀k st',TB kd base st'→1≤k→k≤n→Asc rk st' k→Q (some k) st'):wpS (model prog w) A E s (tail3 m n) Q st:=by
 unfold tail3
 have hz:m≤(arrOf st).size:=by rw[hB.sz];lia
 have hB2:=hB.put (mirror_perm (arrOf st) 0 m ((m -0)/2))
 refine wpS_bind (wpS_reverse (wpS_bind (vz hL hB2 h1 hmn hn (fun i j hij hj=>?_) fun k k1 k2 k3 _=>wpS_pure (h k _ hB2 (by lia) k2 k3))))
 rw[pd hz,pd hz,if_pos ⟨Nat.zero_le _,by lia⟩,if_pos ⟨Nat.zero_le _,hj⟩]
 exact hs _ _ (by lia) (by lia)
theorem wy (hL:fq prog w A s rk kd base)(hB:TB kd base st){m n:Nat}{Q:DescSt→SortSt→Prop}(h1:1≤m)(hmn:m≤n)(hn:n≤base.size)(hs:Dsc rk st m)
  (h:∀k q st',TB kd base st'→m≤k→k≤n→Dsc rk st' k→q+1≤k→(∀i,k -(q+1)≤i→i<k→kA rk st' i=kA rk st' (k -1))→Q (none,k,q) st'):wpS (model prog w) A E s (descLoop m n) Q st:=by
 unfold descLoop
 refine wpS_forRange (I:=fun k c z=>∃q,c=(none,k,q)∧TB kd base z∧Dsc rk z k∧q+1≤k∧∀i,k -(q+1)≤i→i<k→kA rk z i=kA rk z (k -1)) (fun k c z a1 a2 a3=>?_) (fun c z a3=>?_) ⟨0,rfl,hB,hs,h1,fun i b1 b2=>by rw[show i=m -1 by lia]⟩
 ·obtain⟨q,rfl,b1,b2,b3,b4⟩:=a3
  dsimp only
  have hz:k≤(arrOf z).size:=by rw[b1.sz];lia
  have one:∀z':SortSt,∀i,k+1 -(0+1)≤i→i<k+1→kA rk z' i=kA rk z' (k+1 -1):=fun z' i c1 c2=>by rw[show i=k+1 -1 by lia]
  refine wpS_bind (lN hL b1 (by lia) (by lia) ?_)
  by_cases e:kA rk z k<kA rk z (k -1)
  ·rw[decide_eq_true e]
   dsimp only
   rw[if_pos rfl]
   by_cases hq:q>0
   ·rw[if_pos hq]
    exact wpS_bind (wpS_reverse (wpS_pure ⟨0,rfl,b1.put (mirror_perm _ _ _ _),b2.next (by lia) (Int.le_of_lt e) (eS hz b4),by lia,one _⟩))
   ·rw[if_neg hq]
    exact wpS_pure ⟨0,rfl,b1,b2.next (by lia) (Int.le_of_lt e) (fun _=>rfl),by lia,one _⟩
  ·rw[decide_eq_false e]
   dsimp only
   rw[if_neg (by decide)]
   refine wpS_bind (lN hL b1 (by lia) (by lia) ?_)
   by_cases e2:kA rk z (k -1)<kA rk z k
   ·rw[decide_eq_true e2]
    exact wpS_pure (h k q z b1 a1 (by lia) b2 b3 b4)
   ·rw[decide_eq_false e2]
    have e3:kA rk z k=kA rk z (k -1):=by lia
    refine wpS_pure ⟨q+1,rfl,b1,b2.next (by lia) (by lia) (fun _=>rfl),by lia,fun i c1 c2=>?_⟩
    rw[show k+1 -1=k by lia]
    rcases Nat.lt_or_ge i k with y|y
    ·rw[e3];exact b4 i (by lia) y
    ·rw[show i=k by lia]
 ·obtain⟨q,rfl,b1,b2,b3,b4⟩:=a3
  have e:max m n=n:=by lia
  rw[e] at b2 b3 b4⊢
  exact h n q z b1 hmn (Nat.le_refl _) b2 b3 b4
theorem pq (hL:fq prog w A s rk kd base)(hB:TB kd base st){m n:Nat}{Q:Option Nat→SortSt→Prop}(hmn:m+1≤n)(hn:n≤base.size)(hs:Dsc rk st (m+1))
  (h:∀k st',TB kd base st'→1≤k→k≤n→Asc rk st' k→Q (some k) st'):wpS (model prog w) A E s (descPart m n) Q st:=by
 unfold descPart
 refine wpS_bind (wpS_lift (wpAny_rule ⟨rfl,wpS_bind (wy hL hB (by lia) hmn hn hs fun k q z b1 a1 a2 b2 b3 b4=>?_)⟩))
 dsimp only
 by_cases hq:q>0
 ·rw[if_pos hq]
  have hz:k≤(arrOf z).size:=by rw[b1.sz];lia
  refine wpS_bind (wpS_reverse (qf hL (b1.put (mirror_perm _ _ _ _)) (by lia) a2 hn (fun i j hij hj=>?_) h))
  rw[eS hz b4,eS hz b4]
  exact b2 i j hij hj
 ·rw[if_neg hq]
  exact qf hL b1 (by lia) a2 hn b2 h
theorem Bc (hL:fq prog w A s rk kd base)(hB:TB kd base st){n:Nat}{Q:Option Nat→SortSt→Prop}(h1:1≤n)(hn:n≤base.size)
  (h:∀k st',TB kd base st'→1≤k→k≤n→Asc rk st' k→Q (some k) st'):wpS (model prog w) A E s (countRun' 0 n) Q st:=by
 rw[countRun0_eq]
 refine wpS_bind (vz hL hB (Nat.le_refl 1) h1 hn Asc.one fun m m1 m2 hs hor=>?_)
 dsimp only
 by_cases e:m=n
 ·rw[if_pos (by simpa using e)]
  exact wpS_pure (h m st hB m1 m2 hs)
 ·rw[if_neg (by simpa using e)]
  have hlt:=hor.resolve_left e
  by_cases hg:m>1
  ·rw[if_pos hg]
   refine wpS_bind (lN hL hB (by lia) (by lia) ?_)
   by_cases r:kA rk st 0<kA rk st (m -1)
   ·rw[decide_eq_true r]
    exact wpS_pure (h m st hB m1 m2 hs)
   ·rw[decide_eq_false r]
    have hz:m≤(arrOf st).size:=by rw[hB.sz];lia
    have all:∀k,0≤k→k<m→kA rk st k=kA rk st (m -1):=fun k _ hk=>by
     have c1:=hs 0 k (by lia) hk
     have c2:=hs k (m -1) (by lia) (by lia)
     lia
    refine wpS_bind (wpS_reverse (pq hL (hB.put (mirror_perm _ _ _ _)) (by lia) hn ?_ h))
    refine Dsc.next (st:=st) (fun i j hij hj=>?_) (by lia) (Int.le_of_lt hlt) (eS hz all)
    rw[all i (Nat.zero_le _) (by lia),all j (Nat.zero_le _) hj];exact Int.le_refl _
  ·rw[if_neg hg]
   have e1:m=1:=by lia
   subst e1
   refine pq hL hB (by lia) hn (Dsc.next (st:=st) (fun i j hij hj=>?_) (Nat.le_refl 1) (Int.le_of_lt hlt) fun _=>rfl) h
   rw[show i=j by lia];exact Int.le_refl _
theorem Au (hL:fq prog w A s rk kd base)(hB:TB kd base st){n ok:Nat}{Q:Bool→SortSt→Prop}(hn:n≤base.size)(hok:ok≤n)(hs:Asc rk st ok)
  (h:∀st',TB kd base st'→Asc rk st' n→Q true st'):wpS (model prog w) A E s (binarySort' 0 n ok) Q st:=by
 rw[binarySort'_eq]
 simp only[Nat.zero_add]
 refine wpS_bind (wpS_mono (wpS_forRange (I:=fun k c z=>c=(none,())∧TB kd base z∧Asc rk z (min k n)) (Q:=fun c z=>c=(none,())∧TB kd base z∧Asc rk z n) (fun k c z a1 a2 a3=>?_) (fun c z a3=>?_) ⟨rfl,hB,fun i j hij hj=>?_⟩) fun c z a3=>?_)
 ·obtain⟨rfl,b1,b2⟩:=a3
  rw[show min k n=k by lia] at b2
  refine wpS_bind (wpS_mono (wpS_forRange (I:=fun x c y=>y=z∧∃l r,c=(none,l,r)∧l≤r∧r≤k∧r -l≤k -x∧(∀i,i<l→kA rk z i≤kA rk z k)∧(∀i,r≤i→i<k→kA rk z k<kA rk z i))
   (Q:=fun c y=>y=z∧∃l r,c=(none,l,r)∧l≤k∧(∀i,i<l→kA rk z i≤kA rk z k)∧(∀i,l≤i→i<k→kA rk z k<kA rk z i)) (fun x c y c1 c2 c3=>?_) (fun c y c3=>?_) ⟨rfl,0,k,rfl,Nat.zero_le _,Nat.le_refl _,by lia,fun i q=>absurd q (by lia),fun i q1 q2=>absurd q2 (by lia)⟩) fun c y c3=>?_)
  ·obtain⟨rfl,l,r,rfl,d1,d2,d3,d4,d5⟩:=c3
   dsimp only
   by_cases g:l≥r
   ·rw[if_pos g]
    have e:l=r:=by lia
    subst e
    exact wpS_pure ⟨rfl,l,l,rfl,d2,d4,d5⟩
   ·rw[if_neg g]
    refine wpS_bind (lN hL b1 (by lia) (by lia) ?_)
    by_cases e:kA rk y k<kA rk y ((l+r)/2)
    ·rw[decide_eq_true e]
     refine wpS_pure ⟨rfl,l,(l+r)/2,rfl,by lia,by lia,by lia,d4,fun i q1 q2=>?_⟩
     have:=b2 ((l+r)/2) i q1 q2
     lia
    ·rw[decide_eq_false e]
     refine wpS_pure ⟨rfl,(l+r)/2+1,r,rfl,by lia,by lia,by lia,fun i q1=>?_,d5⟩
     have:=b2 i ((l+r)/2) (by lia) (by lia)
     lia
  ·obtain⟨rfl,l,r,rfl,d1,d2,d3,d4,d5⟩:=c3
   have e:l=r:=by lia
   subst e
   exact⟨rfl,l,l,rfl,d2,d4,d5⟩
  ·obtain⟨rfl,l,r,rfl,d1,d4,d5⟩:=c3
   show wpS _ _ _ _ (do moveDown' k l;pure (ForInStep.yield (none,()))) _ y
   rw[moveDown'_eq]
   refine wpS_bind (wpS_modify (wpS_pure ⟨rfl,b1.put (bubble_perm _ _ _),fun i j hij hj=>?_⟩))
   have hk:k<(arrOf y).size:=by rw[b1.sz];lia
   rw[uN hk (by lia),uN hk (by lia),show k -(k -l)=l by lia]
   have f1:=fun i (q:i<l)=>d4 i q
   have f2:=fun i (q1:l≤i) (q2:i<k)=>d5 i q1 q2
   by_cases i1:i=l
   ·rw[if_pos i1]
    by_cases j1:j=l
    ·rw[if_pos j1];exact Int.le_refl _
    ·rw[if_neg j1,if_pos ⟨by lia,by lia⟩]
     exact Int.le_of_lt (d5 (j -1) (by lia) (by lia))
   ·rw[if_neg i1]
    by_cases i2:l<i∧i≤k
    ·rw[if_pos i2,if_neg (by lia),if_pos ⟨by lia,by lia⟩]
     exact b2 _ _ (by lia) (by lia)
    ·rw[if_neg i2]
     have il:i<l:=by lia
     by_cases j1:j=l
     ·rw[if_pos j1];exact d4 i il
     ·rw[if_neg j1]
      by_cases j2:l<j∧j≤k
      ·rw[if_pos j2];exact b2 _ _ (by lia) (by lia)
      ·rw[if_neg j2];exact b2 _ _ hij (by lia)
 ·obtain⟨hc,b1,b2⟩:=a3
  rw[show min (max (max ok 1) n) n=n by lia] at b2
  exact⟨hc,b1,b2⟩
 ·by_cases e:ok=0
  ·rw[show i=j by lia];exact Int.le_refl _
  ·exact hs i j hij (by lia)
 ·obtain⟨rfl,b1,b2⟩:=a3
  exact wpS_pure (h z b1 b2)
end
end L2
set_option Elab.async false
set_option linter.all false
set_option maxRecDepth 100000
set_option maxHeartbeats 4000000
namespace L2
open PySem PySem.Spec PyProof.Rows
section
variable {prog:Program} {w:World} {A:Around} {E:Value→Shared→Prop} {s:Shared} {rk:Value→Int} {kd:SortKind} {base:Array Keyed} {st:SortSt}
structure TD (rk:Value→Int) (base:Array Keyed) (st:SortSt):Prop where
 pm:(arrOf st).Perm base
 fl:failedOf st=none
 pe:pendingOf st= #[(0,base.size,0)]
 up:Asc rk st base.size
theorem TB.end_ (h:TB kd base st)(up:Asc rk st base.size):TD rk base (setPending st ((pendingOf st).push (0,base.size,0))):=⟨h.pm,h.fl,by show(pendingOf st).push _=_;rw[h.pe];rfl,up⟩
theorem AV (hL:fq prog w A s rk kd base)(hB:TB kd base st){Q:Unit→SortSt→Prop}(h2:2≤base.size)(h64:base.size<64)
  (h:∀st',(arrOf st').Perm base→failedOf st'=none→Asc rk st' base.size→Q () st'):wpS (model prog w) A E s sortRuns' Q st:=by
 rw[sortRuns'_eq]
 refine wpS_bind (wpS_get ?_)
 dsimp only
 have hm:minRun' base.size base.size 0=base.size:=by
  generalize hb:base.size=b at h2 h64
  match b,h2,h64 with
  |f+1,_,h64=>rw[minRun'_succ,if_pos h64]
 simp only[hB.sz,hm]
 refine wpS_bind (wpS_mono (wpS_forRange (I:=fun k c z=>(k=0∧c=(none,0)∧TB kd base z)∨(1≤k∧c=(none,base.size)∧TD rk base z)) (Q:=fun c z=>c=(none,base.size)∧TD rk base z) (fun k c z _ hk hI=>?_) (fun c z hI=>?_) (.inl ⟨rfl,rfl,hB⟩)) fun c z hI=>?_)
 ·rcases hI with⟨rfl,rfl,b1⟩|⟨_,rfl,b1⟩
  ·dsimp only
   rw[if_neg (by lia)]
   simp only[Nat.sub_zero,Nat.min_self,Nat.zero_add]
   refine wpS_bind (Bc hL b1 (by lia) (Nat.le_refl _) fun m z2 b2 m1 m2 u2=>?_)
   dsimp only
   have go:∀z3,TB kd base z3→Asc rk z3 base.size→wpS (model prog w) A E s (modify (fun q=>setPending q ((pendingOf q).push (0,base.size,0)))>>=fun _=>pure (ForInStep.yield ((none:Option Unit),base.size)))
     (fun r st'=>match r with| .done c'=>c'=(none,base.size)∧TD rk base st'| .yield c'=>(0+1=0∧c'=(none,0)∧TB kd base st')∨(1≤0+1∧c'=(none,base.size)∧TD rk base st')) z3:=fun z3 c1 c2=>
    wpS_bind (wpS_modify (wpS_pure (.inr ⟨Nat.le_refl 1,rfl,c1.end_ c2⟩)))
   by_cases e:m<base.size
   ·rw[if_pos e]
    refine wpS_bind (wpS_lift (wpAny_rule ⟨rfl,wpS_bind (Au hL b2 (Nat.le_refl _) m2 u2 fun z3 b3 u3=>?_)⟩))
    simp only[Bool.not_true,Bool.false_eq_true,if_false]
    refine wpS_bind (wpS_get ?_)
    rw[show(pendingOf z3).back?=none by rw[b3.pe];rfl]
    exact go z3 b3 u3
   ·rw[if_neg e]
    have e':m=base.size:=by lia
    subst e'
    refine wpS_bind (wpS_get ?_)
    rw[show(pendingOf z2).back?=none by rw[b2.pe];rfl]
    exact go z2 b2 u2
  ·dsimp only
   rw[if_pos (Nat.le_refl _)]
   exact wpS_pure ⟨rfl,b1⟩
 ·rcases hI with⟨e,_⟩|⟨_,hc,b1⟩
  ·lia
  ·exact⟨hc,b1⟩
 ·obtain⟨rfl,b1⟩:=hI
  dsimp only
  refine wpS_bind (wpS_mono (wpS_forRange (I:=fun _ c y=>y=z∧c=(none,())) (Q:=fun c y=>y=z∧c=(none,())) (fun k c y _ _ hI=>?_) (fun _ _ q=>q) ⟨rfl,rfl⟩) fun c y hI=>?_)
  ·obtain⟨rfl,rfl⟩:=hI
   refine wpS_bind (wpS_get ?_)
   rw[if_pos (by rw[b1.pe];exact Nat.le_refl 1)]
   exact wpS_pure ⟨rfl,rfl⟩
  ·obtain⟨rfl,rfl⟩:=hI
   exact wpS_pure (h _ b1.pm b1.fl b1.up)
end
def T6:V→List Nat
 | .str a=>a.cps.toList
 | .bl b=>[b.toNat]
 |_=>[]
abbrev D4 (xs:List V):List (List Nat):=xs.map T6
def SameT (x y:V):Prop:=(∃a b,x= .str a∧y= .str b)∨(∃a b,x= .bl a∧y= .bl b)
theorem cz {a b:Str}(h:a.cps.toList=b.cps.toList):a=b:=by
 cases a;cases b
 congr
 exact Array.toList_inj.mp h
theorem SameT.eq {x y:V}(h:SameT x y):bH x y=decide (T6 x=T6 y):=by
 rcases h with⟨a,b,rfl,rfl⟩|⟨a,b,rfl,rfl⟩
 ·show(a==b)=decide (a.cps.toList=b.cps.toList)
  rw[Bool.eq_iff_iff,beq_iff_eq,decide_eq_true_eq]
  exact⟨fun e=>by rw[e],cz⟩
 ·cases a<;>cases b<;>rfl
theorem SameT.flat {x y:V}(h:SameT x y):A0 x=true∧A0 y=true:=by
 rcases h with⟨a,b,rfl,rfl⟩|⟨a,b,rfl,rfl⟩<;>exact⟨rfl,rfl⟩
theorem iG (a b:Bool):Gives (Builtin.«int.__lt__» ⟨[.bool a,.bool b],[]⟩) (.val (.bool (decide (a.toNat<b.toNat)))):=by
 cases a<;>cases b<;>exact .of_eq rfl
section
variable {P:Program} {w:World} {A:Around} {E:Value→Shared→Prop} {s:Shared}
theorem xA {x y:V}{u v:Value}{fl:Bool}{Q:Bool→Shared→Prop}(h:SameT x y)(rx:RelV x u)(ry:RelV y v)(hf:fl=true→∃a,x= .str a)(q:Q (decide (T6 x<T6 y)) s):wpAny (model P w) A (oneLt' fl u v) Q E s:=by
 rcases h with⟨a,b,rfl,rfl⟩|⟨a,b,rfl,rfl⟩
 ·obtain⟨t1,rfl⟩:=(show ∃t,u=Value.str a t from rx)
  obtain⟨t2,rfl⟩:=(show ∃t,v=Value.str b t from ry)
  cases fl with
  |true=>exact oneLt_str q
  |false=>
   rw[oneLt'_eq]
   simp only[Bool.false_eq_true,if_false]
   exact wpAny_bind (richCompare_gives (op:= .Lt) (typeIs_str _ _ _) (typeIs_str _ _ _) F.slot_str_lt F.entry_str_lt (F.args_str_lt_2 _ _) (gives_str_lt _ _ _ _) (fun e=>nomatch e) (wpAny_truthy_bool q))
 ·cases fl with
  |true=>obtain⟨a',e⟩:=hf rfl;cases e
  |false=>
   cases rx
   cases ry
   rw[oneLt'_eq]
   simp only[Bool.false_eq_true,if_false]
   have e:decide (T6 (.bl a)<T6 (.bl b))=decide (a.toNat<b.toNat):=by cases a<;>cases b<;>decide
   rw[e] at q
   exact wpAny_bind (richCompare_gives (op:= .Lt) (PyProof.Rows.typeIs_bool _ _) (PyProof.Rows.typeIs_bool _ _) F.slot_bool_lt F.entry_int_lt (F.args_int_lt_2 _ _) (iG _ _) (fun e=>nomatch e) (wpAny_truthy_bool q))
def uR (b:Bool)(x:(Value×Value)×Nat)(_:Option Bool×Unit):Sem (ForInStep (Option Bool×Unit)):=do
 let e←eqBool x.1.1 x.1.2
 if(!e)=true then do
  let z←oneLt' (b&&x.2==0) x.1.1 x.1.2
  pure (ForInStep.done (some z,()))
 else pure (ForInStep.yield (none,()))
theorem oX (b:Bool)(x y:Value):keyLt' (tuples' b) x y=(do
  let xs←Builtin.List.listItems x
  let ys←Builtin.List.listItems y
  for ((p,q),i) in (xs.toList.zip ys.toList).zipIdx do
   if !(←eqBool p q) then return←oneLt' (b&&i==0) p q
  return xs.size<ys.size):=rfl
theorem rA (b:Bool)(x y:Value):keyLt' (tuples' b) x y=(do
  let xs←Builtin.List.listItems x
  let ys←Builtin.List.listItems y
  let r←forIn (xs.toList.zip ys.toList).zipIdx ((none:Option Bool),()) (uR b)
  match r.1 with
  |some a=>pure a
  |none=>pure (decide (xs.size<ys.size))):=by
 rw[oX]
 congr 1
 funext xs
 congr 1
 funext ys
 have e:(fun(x:(Value×Value)×Nat) (_:Option Bool×Unit)=>(match x with
   |((p,q),i)=>do
    let c←eqBool p q
    if(!c)=true then do
     let d←oneLt' (b&&i==0) p q
     pure (ForInStep.done (some d,()))
    else pure (ForInStep.yield (none,())):Sem (ForInStep (Option Bool×Unit))))=uR b:=by
  funext x r
  obtain⟨⟨p,q⟩,i⟩:=x
  rfl
 rw[←e]
 congr 1
 funext r
 obtain⟨r1,r2⟩:=r
 cases r1<;>rfl
theorem mf:∀{xs ys:List V} {us vs:List Value} (k:Nat) {Q:Option Bool×Unit→Shared→Prop},Paired SameT xs ys→Vals xs us→Vals ys vs→(k=0→∀x∈xs.head?,∃a,x=V.str a)→
  (D4 xs=D4 ys→Q (none,()) s)→(D4 xs≠D4 ys→Q (some (decide (D4 xs<D4 ys)),()) s)→wpAny (model P w) A (forIn ((us.zip vs).zipIdx k) ((none:Option Bool),()) (uR true)) Q E s
 |_,_,_,_,k,Q,.nil,.nil,.nil,_,h1,_=>by
  show wpAny (model P w) A (forIn [] _ _) Q E s
  rw[List.forIn_nil]
  exact wpAny_pure (h1 rfl)
 |_,_,_,_,k,Q,.cons (a:=x) (b:=y) (l₁:=xs) (l₂:=ys) st r,.cons (b:=u) rx t1,.cons (b:=v) ry t2,hk,h1,h2=>by
  rw[List.zip_cons_cons,List.zipIdx_cons,List.forIn_cons]
  refine wpAny_bind (wpAny_bind (EqP.of (aH rx ry st.flat.1 st.flat.2) _ _ ?_))
  rw[st.eq]
  by_cases e:T6 x=T6 y
  ·rw[decide_eq_true e]
   refine wpAny_pure ?_
   refine mf (k+1) r t1 t2 (fun z=>absurd z (by lia)) (fun z=>h1 (by show T6 x::D4 xs=T6 y::D4 ys;rw[e,z])) (fun z=>?_)
   have h3:=h2 (fun z2=>z (List.cons.inj (show T6 x::D4 xs=T6 y::D4 ys from z2)).2)
   have e3:decide (D4 (x::xs)<D4 (y::ys))=decide (D4 xs<D4 ys):=by
    rw[Bool.eq_iff_iff,decide_eq_true_eq,decide_eq_true_eq]
    show T6 x::D4 xs<T6 y::D4 ys↔_
    rw[List.cons_lt_cons_iff,e]
    exact⟨fun z=>z.elim (fun z=>absurd z (List.lt_irrefl _)) (fun z=>z.2),fun z=> .inr ⟨rfl,z⟩⟩
   rw[e3] at h3
   exact h3
  ·rw[decide_eq_false e]
   show wpAny _ _ (oneLt' (true&&k==0) u v>>=fun z=>pure (ForInStep.done (some z,()))) _ _ s
   refine wpAny_bind (xA st rx ry (fun z=>?_) (wpAny_pure (wpAny_pure ?_)))
   ·exact hk (by simpa using z) x rfl
   ·have h3:=h2 (fun z2=>e (List.cons.inj (show T6 x::D4 xs=T6 y::D4 ys from z2)).1)
    have e3:decide (D4 (x::xs)<D4 (y::ys))=decide (T6 x<T6 y):=by
     rw[Bool.eq_iff_iff,decide_eq_true_eq,decide_eq_true_eq]
     show T6 x::D4 xs<T6 y::D4 ys↔_
     rw[List.cons_lt_cons_iff]
     exact⟨fun z=>z.elim id (fun z=>absurd z.1 e),.inl⟩
    rw[e3] at h3
    exact h3
theorem yo {a b:Addr}{xs ys:List V}{us vs:List Value}{Q:Bool→Shared→Prop}(ha:s.heap.IsTuple a us.toArray)(hb:s.heap.IsTuple b vs.toArray)(rx:Vals xs us)(ry:Vals ys vs)(hp:Paired SameT xs ys)(hf:∀x∈xs.head?,∃a,x=V.str a)
  (q:Q (decide (D4 xs<D4 ys)) s):wpAny (model P w) A (keyLt' (tuples' true) (.ref a) (.ref b)) Q E s:=by
 rw[rA]
 obtain⟨o1,e1,_,n1,d1⟩:=id ha
 obtain⟨o2,e2,_,n2,d2⟩:=id hb
 refine wpAny_bind (listItems_at e1 d1 (wpAny_bind (listItems_at e2 d2 (wpAny_bind (mf 0 hp rx ry (fun _=>hf) (fun e=>?_) (fun e=>?_))))))
 ·have l1:=rx.length
  have l2:=ry.length
  have l3:=hp.length
  show wpAny _ _ (pure (decide (us.toArray.size<vs.toArray.size))) _ _ s
  rw[show decide (us.toArray.size<vs.toArray.size)=decide (D4 xs<D4 ys) by
   rw[e,decide_eq_false (List.lt_irrefl _),decide_eq_false (by simp;lia)]]
  exact wpAny_pure q
 ·exact wpAny_pure q
end
end L2
set_option Elab.async false
set_option linter.all false
set_option maxRecDepth 100000
set_option maxHeartbeats 4000000
namespace L2
open PySem PySem.Spec PyProof.Rows
abbrev sf:=List (List Nat)
def AZ (ks:List sf)(k:sf):Int:=(ks.countP (fun x=>decide (x<k)):Nat)
theorem vP {a b c:sf}(h1:a<b)(h2:b<c):a<c:=List.lt_trans h1 h2
theorem Bx {a b c:sf}(h1:a<b)(h2:¬c<b):a<c:=Decidable.byContradiction fun z=>h2 (List.lt_of_le_of_lt (List.not_lt.mp z) h1)
theorem zf (a:sf):¬a<a:=List.lt_irrefl a
theorem xj {a b:sf}(h1:¬a<b)(h2:¬b<a):a=b:=List.le_antisymm (List.not_lt.mp h2) (List.not_lt.mp h1)
theorem jw {α:Type}{p q:α→Bool}:∀{l:List α},(∀x∈l,p x=true→q x=true)→(∃x∈l,q x=true∧p x=false)→l.countP p<l.countP q
 |[],_,h=>by obtain⟨_,h,_⟩:=h;cases h
 |a::l,h1,h2=>by
  have le:l.countP p≤l.countP q:=List.countP_mono_left fun x hx=>h1 x (List.mem_cons_of_mem _ hx)
  by_cases e:q a=true∧p a=false
  ·rw[List.countP_cons_of_pos e.1,List.countP_cons_of_neg (by rw[e.2];decide)]
   lia
  ·have ih:l.countP p<l.countP q:=by
    refine jw (fun x hx=>h1 x (List.mem_cons_of_mem _ hx)) ?_
    obtain⟨x,hx,h3⟩:=h2
    rcases List.mem_cons.mp hx with rfl|hx
    ·exact absurd h3 e
    ·exact⟨x,hx,h3⟩
   have ha:=h1 a List.mem_cons_self
   cases hp:p a with
   |true=>rw[List.countP_cons_of_pos hp,List.countP_cons_of_pos (ha hp)];lia
   |false=>
    rw[List.countP_cons_of_neg (by rw[hp];decide)]
    have:l.countP q≤(a::l).countP q:=by rw[List.countP_cons];lia
    lia
theorem yP {ks:List sf}{a b:sf}(ha:a∈ks):decide (AZ ks a<AZ ks b)=decide (a<b):=by
 rw[Bool.eq_iff_iff,decide_eq_true_eq,decide_eq_true_eq]
 unfold AZ
 constructor
 ·intro h
  by_cases z:a<b
  ·exact z
  ·exfalso
   have le:ks.countP (fun x=>decide (x<b))≤ks.countP (fun x=>decide (x<a)):=List.countP_mono_left fun x _ hx=>by
    rw[decide_eq_true_eq] at hx⊢
    exact Bx hx z
   lia
 ·intro h
  have lt:ks.countP (fun x=>decide (x<a))<ks.countP (fun x=>decide (x<b)):=jw (fun x _ hx=>by
   rw[decide_eq_true_eq] at hx⊢
   exact vP hx h) ⟨a,ha,decide_eq_true h,decide_eq_false (zf a)⟩
  lia
theorem BC {ks:List sf}{a b:sf}(hb:b∈ks)(h:AZ ks a≤AZ ks b):¬b<a:=fun z=>by
 have e:=yP (ks:=ks) (b:=a) hb
 rw[decide_eq_true z] at e
 have:=of_decide_eq_true e
 lia
section
variable {P:Program} {w:World} {A:Around} {E:Value→Shared→Prop} {s:Shared}
theorem jC {β:Type}{f:Value→Sem β}{g:Value→β}:∀{l:List Value} {Q:List β→Shared→Prop},(∀v∈l,∀Q':β→Shared→Prop,Q' (g v) s→wpAny (model P w) A (f v) Q' E s)→Q (l.map g) s→wpAny (model P w) A (l.mapM f) Q E s
 |[],Q,_,q=>by rw[List.mapM_nil];exact wpAny_pure q
 |v::l,Q,h,q=>by
  rw[List.mapM_cons]
  exact wpAny_bind (h v List.mem_cons_self _ (wpAny_bind (jC (fun u hu=>h u (List.mem_cons_of_mem _ hu)) (wpAny_pure q))))
def ej (h:Heap):Value→Option Value
 | .ref a=>match h.get? a with
  |some o=>match o.data with
   | .seq xs _=>xs[0]?
   |_=>none
  |none=>none
 |_=>none
theorem uH {h:Heap}{a:Addr}{o:Obj}{xs:Array Value}{n:Nat}(e:h.get? a=some o)(d:o.data= .seq xs n):ej h (.ref a)=xs[0]?:=by
 simp only[ej,e,d]
theorem oh (v:Value):firstOfTuple' v=(do
  if(←typeOf v) != .type "tuple" then return none
  return (←Builtin.List.listItems v)[0]?):=rfl
theorem tq {a:Addr}{us:List Value}{Q:Option Value→Shared→Prop}(h:s.heap.IsTuple a us.toArray)(q:Q (ej s.heap (.ref a)) s):wpAny (model P w) A (firstOfTuple' (.ref a)) Q E s:=by
 rw[oh]
 obtain⟨o,e,hc,n,d⟩:=id h
 refine wpAny_bind (wpAny_typeOf (T:="tuple") ⟨o,e,hc⟩ ?_)
 rw[if_neg (by decide)]
 refine wpAny_bind (listItems_at e d (wpAny_pure ?_))
 rw[uH e d] at q
 exact q
theorem wJ {vs:List Value}{Q:SortKind→Shared→Prop}(hne:vs≠[])(h:∀v∈vs,∃(a:Addr) (us:List Value) (x:Str) (t:Tok),v= .ref a∧s.heap.IsTuple a us.toArray∧us[0]?=some (.str x t))(q:Q (tuples' true) s):wpAny (model P w) A (keyKind' vs.toArray) Q E s:=by
 have hf:∀v∈vs,∃(x:Str) (t:Tok),ej s.heap v=some (.str x t):=fun v hv=>by
  obtain⟨a,us,x,t,rfl,hi,hu⟩:=h v hv
  obtain⟨o,e,hc,n,d⟩:=id hi
  refine⟨x,t,?_⟩
  rw[uH e d]
  simpa using hu
 rw[keyKind'_eq,List.mapM_toArray]
 refine wpAny_bind (wpAny_map (jC (g:=ej s.heap) (fun v hv Q' q'=>?_) ?_))
 ·obtain⟨a,us,x,t,rfl,hi,_⟩:=h v hv
  exact tq hi q'
 rw[if_pos (by
  simp only[List.all_toArray,List.all_map,List.all_eq_true]
  intro v hv
  obtain⟨x,t,e⟩:=hf v hv
  show(ej s.heap v).isSome=true
  rw[e];rfl)]
 refine wpAny_bind (wpAny_rule ?_)
 obtain⟨fs,efs,hfs,hfn⟩:∃fs:List Value,((vs.map (ej s.heap)).toArray.filterMap id)=fs.toArray∧(∀v∈fs,∃(x:Str) (t:Tok),v= .str x t)∧fs≠[]:=by
  refine⟨(vs.map (ej s.heap)).filterMap id,by simp,fun v hv=>?_,?_⟩
  ·obtain⟨o,ho,e⟩:=List.mem_filterMap.mp hv
   obtain⟨u,hu,rfl⟩:=List.mem_map.mp ho
   obtain⟨x,t,e2⟩:=hf u hu
   rw[e2] at e
   exact⟨x,t,(Option.some.inj e).symm⟩
  ·obtain⟨v,r,rfl⟩:=List.exists_cons_of_ne_nil hne
   obtain⟨x,t,e⟩:=hf v List.mem_cons_self
   rw[List.map_cons,List.filterMap_cons_some (b:= .str x t) e]
   exact List.cons_ne_nil _ _
 rw[efs,oneTypeOnly'_eq,List.mapM_toArray]
 refine wpAny_bind (wpAny_bind (wpAny_map (jC (g:=fun _=>Value.type "str") (fun v hv Q' q'=>?_) ?_)))
 ·obtain⟨x,t,rfl⟩:=hfs v hv
  exact wpAny_typeOf (typeIs_str s x t) q'
 obtain⟨v,r,rfl⟩:=List.exists_cons_of_ne_nil hfn
 have h0:((v::r).map fun _=>Value.type "str").toArray[0]?=some (Value.type "str"):=by simp
 rw[h0]
 have ha:(((v::r).map fun _=>Value.type "str").toArray.all fun x=>x==Value.type "str")=true:=by
  simp only[List.all_toArray,List.all_map,List.all_eq_true]
  intro _ _
  rfl
 dsimp only
 rw[if_pos ha]
 exact wpAny_pure (wpAny_pure q)
structure Ei (h:Heap) (kf:Value→sf) (v:Value):Prop where
 at_:∃(a:Addr) (us:List Value) (xs:List V) (x:Str) (r:List V),v= .ref a∧h.IsTuple a us.toArray∧Vals xs us∧xs= .str x::r∧kf v=D4 xs
def zU (h:Heap)(v u:Value):Prop:=∀(a b:Addr) (us vs:List Value) (xs ys:List V),v= .ref a→u= .ref b→h.IsTuple a us.toArray→h.IsTuple b vs.toArray→Vals xs us→Vals ys vs→Paired SameT xs ys
theorem xn {vs:List Value}{kf:Value→sf}(h1:∀v∈vs,Ei s.heap kf v)(h2:∀v∈vs,∀u∈vs,zU s.heap v u):fq P w A s (fun v=>AZ (vs.map kf) (kf v)) (tuples' true) (pairsOf vs):=by
 intro x y E' Q hx hy q
 have mem:∀z,(∃p∈(pairsOf vs).toList,p.1=z)→z∈vs:=fun z hz=>by
  obtain⟨p,hp,rfl⟩:=hz
  rw[pairsOf_toList] at hp
  exact(mem_zip_self hp).2
 have mx:=mem x hx
 have my:=mem y hy
 rw[yP (List.mem_map.mpr ⟨x,mx,rfl⟩)] at q
 obtain⟨a,us,xs,n1,r1,rfl,i1,v1,e1,k1⟩:=(h1 x mx).at_
 obtain⟨b,vs',ys,n2,r2,rfl,i2,v2,e2,k2⟩:=(h1 y my).at_
 rw[k1,k2] at q
 exact yo i1 i2 v1 v2 (h2 _ mx _ my _ _ _ _ _ _ rfl rfl i1 i2 v1 v2) (fun x hx=>by rw[e1] at hx;exact⟨n1,(Option.some.inj hx).symm⟩) q
theorem wY {a : Addr} {vs : List Value} {n : Nat} {kd : SortKind} {rk : Value → Int} {Q : Fin → Shared → Prop} (ho : s.heap.get? a = some (seqObj "list" vs.toArray n)) (h64 : vs.length < 64)
    (hk : 2 ≤ vs.length → ∀ h6 : Heap, h6 = ((s.heap.update a (Obj.mapSeq fun _ => #[])).push (seqObj "tuple" vs.toArray 0)).push (seqObj "list" #[] 0) → (∀ Q' : SortKind → Shared → Prop, Q' kd { s with heap := h6 } → wpAny (model P w) A (keyKind' vs.toArray) Q' E { s with heap := h6 }) ∧ fq P w A { s with heap := h6 } rk kd (pairsOf vs))
    (h : ∀ out : Array Value, out.toList.Perm vs → (∀ (i j : Nat) (u v : Value), i ≤ j → out[i]? = some u → out[j]? = some v → rk u ≤ rk v) → Q (.done (.ret .none)) { s with heap := sortedHeap s.heap a vs out }) :
    wpAny (model P w) A (Builtin.«list.sort» ⟨[.ref a], []⟩) Q E s := by
  have hlt : a < s.heap.objs.size := Heap.lt_size ho
  have h64' : (64 : Nat) ≤ sizeLine := by decide
  have psz := pairsOf_size vs
  rw [list_sort_plain]
  refine wpAny_bind (listItems_at ho rfl (wpAny_bind (listUpdate_at ho rfl ?_)))
  obtain ⟨e1, o1⟩ : ∃ e1, (s.heap.update a (Obj.mapSeq fun _ => #[])).get? a = some (seqObj "list" #[] e1) := ⟨_, get?_update_seq ho (fun _ => #[])⟩
  refine wpAny_bind (seqEpoch_at o1 rfl (wpAny_bind (wpAny_newTuple (wpAny_bind (wpAny_newList (wpAny_holding ?_))))))
  obtain ⟨h6, e6⟩ : ∃ h6 : Heap, h6 = ((s.heap.update a (Obj.mapSeq fun _ => #[])).push (seqObj "tuple" vs.toArray 0)).push (seqObj "list" #[] 0) := ⟨_, rfl⟩
  have o6 : h6.get? a = some (seqObj "list" #[] e1) := by
    rw [e6]
    exact Heap.get?_push_of_some _ (Heap.get?_push_of_some _ o1)
  show wpAny (model P w) A _ Q E { s with heap := ((s.heap.update a (Obj.mapSeq fun _ => #[])).push (seqObj "tuple" vs.toArray 0)).push (seqObj "list" #[] 0) }
  rw [← e6]
  dsimp only
  have same : ∀ p ∈ (pairsOf vs).toList, p.1 = p.2 := fun p hp => by
    rw [pairsOf_toList] at hp
    exact (mem_zip_self hp).1
  have fin : ∀ st' : SortSt, (arrOf st').Perm (pairsOf vs) → Asc rk st' (pairsOf vs).size → Q (.done (.ret .none)) { s with heap := sortedHeap s.heap a vs ((arrOf st').map (·.2)) } := fun st' pm up => by
    have pl := Array.perm_iff_toList_perm.mp pm
    refine h _ ?_ fun i j u v hij hu hv => ?_
    · rw [Array.toList_map]
      refine (pl.map (·.2)).trans (List.Perm.of_eq ?_)
      rw [pairsOf_toList]
      exact List.map_snd_zip (Nat.le_refl _)
    · rw [Array.getElem?_map] at hu hv
      obtain ⟨p, hp, rfl⟩ := Option.map_eq_some_iff.mp hu
      obtain ⟨q, hq, rfl⟩ := Option.map_eq_some_iff.mp hv
      have li : i < (arrOf st').size := by
        rcases Nat.lt_or_ge i (arrOf st').size with z | z
        · exact z
        · rw [Array.getElem?_eq_none z] at hp; cases hp
      have lj : j < (arrOf st').size := by
        rcases Nat.lt_or_ge j (arrOf st').size with z | z
        · exact z
        · rw [Array.getElem?_eq_none z] at hq; cases hq
      have z := up i j hij (by rw [← pm.size_eq]; exact lj)
      rw [pR li, pR lj] at z
      rw [Array.getElem?_eq_getElem li] at hp
      rw [Array.getElem?_eq_getElem lj] at hq
      have m1 : p ∈ (pairsOf vs).toList := pl.mem_iff.mp (by rw [← Option.some.inj hp]; simp)
      have m2 : q ∈ (pairsOf vs).toList := pl.mem_iff.mp (by rw [← Option.some.inj hq]; simp)
      rw [← same p m1, ← same q m2, ← Option.some.inj hp, ← Option.some.inj hq]
      exact z
  by_cases h2 : vs.toArray.size < 2
  · rw [if_pos h2, if_pos h2]
    refine wpAny_bind (wpAny_pure ?_)
    rw [StateT.run_pure]
    refine wpAny_bind (wpAny_pure ?_)
    dsimp only
    refine wpAny_bind (seqEpoch_at o6 rfl ?_)
    refine wpAny_bind (listUpdate_at o6 rfl ?_ (hsz2 := by rw [Array.size_map]; show (pairsOf vs).size ≤ _; lia))
    simp only [bne_self_eq_false, Bool.false_eq_true, if_false]
    have z := fin (SortSt.mk' general' (vs.toArray.zip vs.toArray) #[] 7 none) (Array.Perm.refl _) (fun i j hij hj => by
      have : vs.toArray.size = vs.length := by simp
      rw [show i = j by lia]; exact Int.le_refl _)
    unfold sortedHeap at z
    rw [← e6] at z
    exact wpAny_pure z
  · rw [if_neg h2, if_neg h2]
    have hl2 : 2 ≤ vs.length := by have : vs.toArray.size = vs.length := by simp
                                   lia
    obtain ⟨hk1, hk2⟩ := hk hl2 h6 e6
    refine wpAny_bind (hk1 _ ?_)
    refine wpAny_bind (wpAny_mono (AV (base := pairsOf vs) (st := SortSt.mk' kd (vs.toArray.zip vs.toArray) #[] 7 none) (Q := fun _ st' => (arrOf st').Perm (pairsOf vs) ∧ failedOf st' = none ∧ Asc rk st' (pairsOf vs).size) hk2 ⟨Array.Perm.refl _, rfl, rfl, rfl⟩ (by lia) (by lia) fun st' a1 a2 a3 => ⟨a1, a2, a3⟩) ?_ fun _ _ e => e)
    rintro ⟨⟨⟩, st'⟩ s' ⟨rfl, pm, fl, up⟩
    dsimp only
    refine wpAny_bind (seqEpoch_at o6 rfl ?_)
    refine wpAny_bind (listUpdate_at o6 rfl ?_ (hsz2 := by rw [Array.size_map, pm.size_eq]; lia))
    rw [fl]
    simp only [bne_self_eq_false, Bool.false_eq_true, if_false]
    have z := fin st' pm up
    unfold sortedHeap at z
    rw [← e6] at z
    exact wpAny_pure z
end
end L2
set_option Elab.async false
set_option linter.all false
set_option maxRecDepth 100000
set_option maxHeartbeats 4000000
namespace L2
open PySem PySem.Spec PyProof.Rows
section
variable {P:Program} {w:World} {A:Around} {E:Value→Shared→Prop} {s:Shared}
theorem qR {l:Addr}{vs:List Value}{kd:SortKind}{rk:Value→Int}{Q:Value→Shared→Prop}(hl:s.heap.IsList l vs.toArray)(h64:vs.length<64)
  (hk:2≤vs.length→∀h6:Heap,(∀b o,s.heap.get? b=some o→h6.get? b=some o)→(∀(A':Around) (E':Value→Shared→Prop) (Q':SortKind→Shared→Prop),Q' kd {s with heap:=h6}→wpAny (model P w) A' (keyKind' vs.toArray) Q' E' {s with heap:=h6})∧∀A':Around,fq P w A' {s with heap:=h6} rk kd (pairsOf vs))
  (h:∀out:Array Value,out.toList.Perm vs→(∀(i j:Nat) (u v:Value),i≤j→out[i]?=some u→out[j]?=some v→rk u≤rk v)→Q (.ref (s.heap.objs.size+1)) {s with heap:=sortedAll s.heap vs out}):
  wpAny (model P w) A (call (.builtin "sorted") [.ref l]) Q E s:=by
 have h64':(64:Nat)≤sizeLine:=by decide
 refine Calls.call_function_entry kind_sorted plain_sorted entry_sorted (args_sorted1 _) ?_
 unfold Builtin.«sorted»
 refine wpAny_bind (m:=checkCount "sorted" 1 1 _) (wpAny_pure (wpAny_bind (collect_list hl ?_)))
 refine wpAny_bind (wpAny_newList ?_)
 obtain⟨h1,e1⟩:∃h1:Heap,h1=(s.heap.push (seqObj "list" #[] 0)).update s.heap.objs.size (Obj.mapSeq (·++vs.toArray)):=⟨_,rfl⟩
 have sz:h1.objs.size=s.heap.objs.size+1:=by rw[e1,Heap.size_update,size_push']
 have old:∀b o,s.heap.get? b=some o→h1.get? b=some o:=fun b o e=>by
  rw[e1,Heap.get?_update_ne _ _ _ _ (Nat.ne_of_lt (Heap.lt_size e))]
  exact Heap.get?_push_of_some _ e
 obtain⟨h2,e2⟩:∃h2:Heap,h2=h1.push (seqObj "list" vs.toArray 0):=⟨_,rfl⟩
 have o2:h2.get? (s.heap.objs.size+1)=some (seqObj "list" vs.toArray 0):=by rw[e2,←sz];exact Heap.get?_push_size _ rfl
 show wpAny _ _ _ _ _ {s with heap:=((s.heap.push (seqObj "list" #[] 0)).update s.heap.objs.size (Obj.mapSeq (·++vs.toArray))).push (seqObj "list" vs.toArray 0)}
 rw[←e1,sz]
 have h':∀out:Array Value,out.toList.Perm vs→(∀(i j:Nat) (u v:Value),i≤j→out[i]?=some u→out[j]?=some v→rk u≤rk v)→Q (.ref (s.heap.objs.size+1)) {s with heap:=sortedHeap h2 (s.heap.objs.size+1) vs out}:=fun out p1 p2=>by
  have z:=h out p1 p2
  unfold sortedAll at z
  rw[←e1,←e2] at z
  exact z
 rw[←e2]
 refine wpAny_bind (wpAny_holding (wpAny_call_entry slot_list_sort ⟨_,o2,rfl⟩ entry_list_sort (wY (s:={s with heap:=h2}) (kd:=kd) (rk:=rk) o2 h64 (fun g2 h6 e6=>?_) fun out p1 p2=>⟨_,rfl,?_⟩) (args_list_sort _)))
 ·have keep:∀b o,s.heap.get? b=some o→h6.get? b=some o:=fun b o e=>by
   have lt:=Heap.lt_size e
   rw[e6]
   refine Heap.get?_push_of_some _ (Heap.get?_push_of_some _ ?_)
   show(h2.update (s.heap.objs.size+1) _).get? b=some o
   rw[Heap.get?_update_ne _ _ _ _ (Nat.ne_of_lt (Nat.lt_succ_of_lt lt)),e2]
   exact Heap.get?_push_of_some _ (old b o e)
  exact⟨(hk g2 h6 keep).1 _ _,(hk g2 h6 keep).2 _⟩
 ·exact wpAny_pure ⟨_,rfl,h' out p1 p2⟩
end
theorem kM {α β:Type}(f:α→β):∀{l m:List β},l.Perm m→∀ts:List α,m=ts.map f→∃ts':List α,l=ts'.map f∧ts'.Perm ts:=by
 intro l m p
 induction p with
 |nil=>intro ts e;exact⟨ts,e,.refl _⟩
 |cons x p ih=>
  intro ts e
  match ts,e with
  |t::r,e=>
   obtain⟨r',e1,p1⟩:=ih r (List.cons.inj e).2
   exact⟨t::r',by rw[e1,(List.cons.inj e).1];rfl,p1.cons t⟩
 |swap x y l=>
  intro ts e
  match ts,e with
  |t::u::r,e=>
   have e1:=(List.cons.inj e).1
   have e2:=(List.cons.inj (List.cons.inj e).2).1
   have e3:=(List.cons.inj (List.cons.inj e).2).2
   exact⟨u::t::r,by rw[e1,e2,e3];rfl,.swap t u r⟩
 |trans p1 p2 ih1 ih2=>
  intro ts e
  obtain⟨t2,e2,q2⟩:=ih2 ts e
  obtain⟨t1,e1,q1⟩:=ih1 t2 e2
  exact⟨t1,e1,q1.trans q2⟩
theorem rW {ts:List (Addr×List V)}:∀{us:List Value},Vals (ts.map fun t=>V.ref t.1) us→us=ts.map fun t=>Value.ref t.1:=by
 induction ts with
 |nil=>intro us h;cases h;rfl
 |cons t r ih=>
  intro us h
  cases h with
  |cons rx t2=>
   have e:_=Value.ref t.1:=rx
   rw[e,ih t2];rfl
theorem sj {x y:V}{u:Value}(h1:RelV x u)(h2:RelV y u):x=y:=by rw[←tB h1,←tB h2]
theorem dn:∀{xs ys:List V} {us:List Value},Vals xs us→Vals ys us→xs=ys
 |_,_,_,.nil,.nil=>rfl
 |_,_,_,.cons r1 t1,.cons r2 t2=>by rw[sj r1 r2,dn t1 t2]
theorem iU:∀ts:List (Addr×List V),Vals (ts.map fun t=>V.ref t.1) (ts.map fun t=>Value.ref t.1)
 |[]=> .nil
 |t::r=> .cons rfl (iU r)
section
variable {X:Cx}
def kW (K:PySem.W.Frag):List V→Hp→VK→Prop:=fun xs H Q=>∃(p:Addr) (ts:List (Addr×List V)),xs=[.ref p]∧SqL K H p (ts.map fun t=>V.ref t.1)∧(∀t∈ts,SqT K H t.1 t.2∧∃x r,t.2=V.str x::r)∧(∀t∈ts,∀t'∈ts,Paired SameT t.2 t'.2)∧ts.length<64∧
 ∀ts':List (Addr×List V),ts'.Perm ts→ts'.Pairwise (fun a b=>¬D4 b.2<D4 a.2)→∀l,H l=none→Q (.ref l) (p7 H l (.lst (ts'.map fun t=>V.ref t.1)))
theorem jY:CallR X (.builtin "sorted") (kW X.K):=by
 intro pins s σ H xs us Q I r h
 obtain⟨p,ts,rfl,hx,htup,hsh,h64,q⟩:=h
 obtain⟨u,rfl,ru⟩:=K6 r
 cases ru
 have h64':(64:Nat)≤sizeLine:=by decide
 obtain⟨its,rv,ht,hz⟩:=I.list hx
 have ei:=rW rv
 subst ei
 let kf:Value→sf:=fun v=>match v with
  | .ref a=>match ts.find? (fun t=>t.1==a) with
   |some t=>D4 t.2
   |none=>[]
  |_=>[]
 have kfa:∀t∈ts,kf (.ref t.1)=D4 t.2:=fun t hm=>by
  show(match ts.find? (fun t'=>t'.1==t.1) with|some t=>D4 t.2|none=>[])=_
  cases e:ts.find? (fun t'=>t'.1==t.1) with
  |none=>exact absurd (List.find?_eq_none.mp e t hm) (by simp)
  |some t'=>
   have e1:t'.1=t.1:=by simpa using List.find?_some e
   have m':=List.mem_of_find?_eq_some e
   have z:=(htup t' m').1
   rw[e1] at z
   show D4 t'.2=D4 t.2
   rw[I.tuple_inj z (htup t hm).1]
 have key:∀h6:Heap,(∀b o,s.heap.get? b=some o→h6.get? b=some o)→∀v∈ts.map (fun t=>Value.ref t.1),∃(t:Addr×List V) (us:List Value),t∈ts∧v= .ref t.1∧h6.IsTuple t.1 us.toArray∧Vals t.2 us:=fun h6 keep v hv=>by
  obtain⟨t,hm,rfl⟩:=List.mem_map.mp hv
  obtain⟨us,r1,p1,z1⟩:=I.tuple (htup t hm).1
  obtain⟨o,e,hc,n,d⟩:=(show s.heap.IsTuple t.1 us.toArray from p1)
  exact⟨t,us,hm,rfl,⟨o,keep _ _ e,hc,n,d⟩,r1⟩
 have tinj:∀(h6:Heap) (a:Addr) (us vs:List Value),h6.IsTuple a us.toArray→h6.IsTuple a vs.toArray→us=vs:=fun h6 a us vs h1 h2=>by
  obtain⟨o,e,hc,n,d⟩:=h1
  obtain⟨o',e',hc',n',d'⟩:=h2
  rw[e] at e'
  cases e'
  rw[d] at d'
  cases d'
  rfl
 refine qR (s:=s) (kd:=tuples' true) (rk:=fun v=>AZ ((ts.map fun t=>Value.ref t.1).map kf) (kf v)) ht.isList (by rw[List.length_map];exact h64) (fun h2 h6 keep=>⟨fun A' E' Q' q'=>wJ (s:={s with heap:=h6}) (by intro z;rw[z] at h2;exact absurd h2 (by decide)) (fun v hv=>?_) q',fun A'=>xn (s:={s with heap:=h6}) (fun v hv=>⟨?_⟩) (fun v hv u hu a b us vs ys zs ea eb i1 i2 v1 v2=>?_)⟩) fun out pm up=>?_
 ·obtain⟨t,us,hm,rfl,i1,v1⟩:=key h6 keep v hv
  obtain⟨x,r,e⟩:=(htup t hm).2
  rw[e] at v1
  cases v1 with
  |cons rx t2=>
   obtain⟨tk,rfl⟩:=(show ∃tk,_=Value.str x tk from rx)
   exact⟨t.1,_,x,tk,rfl,i1,rfl⟩
 ·obtain⟨t,us,hm,rfl,i1,v1⟩:=key h6 keep v hv
  obtain⟨x,r,e⟩:=(htup t hm).2
  exact⟨t.1,us,t.2,x,r,rfl,i1,v1,e,kfa t hm⟩
 ·obtain⟨t,us1,hm,e1,j1,w1⟩:=key h6 keep v hv
  obtain⟨t',us2,hm',e2,j2,w2⟩:=key h6 keep u hu
  rw[ea] at e1
  rw[eb] at e2
  cases e1
  cases e2
  have q1:=tinj h6 _ _ _ i1 j1
  have q2:=tinj h6 _ _ _ i2 j2
  subst q1 q2
  have x1:ys=t.2:=by exact dn v1 w1
  have x2:zs=t'.2:=by exact dn v2 w2
  rw[x1,x2]
  exact hsh t hm t' hm'
 ·obtain⟨ts',e',p'⟩:=kM (fun t:Addr×List V=>Value.ref t.1) pm ts rfl
  obtain⟨e,he⟩:=sortedAll_at s.heap (ts.map fun t=>Value.ref t.1) out
  have hl':=p'.length_eq
  refine⟨.ref (s.heap.objs.size+1),_,I.newL (tk:=s.toks) (fun _ _=>sortedAll_old) (Nat.le_succ _) he (by rw[e'];exact iU ts') (by rw[List.length_map];lia),rfl,q ts' p' ?_ _ (I.hok.fresh (Nat.le_succ _))⟩
  refine List.pairwise_iff_getElem.mpr fun i j hi hj hij=>?_
  have g:∀(k:Nat) (hk:k<ts'.length),out[k]?=some (Value.ref ts'[k].1):=fun k hk=>by
   rw[←Array.getElem?_toList,e',List.getElem?_map,List.getElem?_eq_getElem hk];rfl
  have z:=up i j _ _ (Nat.le_of_lt hij) (g i hi) (g j hj)
  have mi:ts'[i]∈ts:=p'.mem_iff.mp (List.getElem_mem hi)
  have mj:ts'[j]∈ts:=p'.mem_iff.mp (List.getElem_mem hj)
  have z2:=BC (List.mem_map.mpr ⟨_,List.mem_map.mpr ⟨_,mj,rfl⟩,rfl⟩) z
  rw[kfa _ mi,kfa _ mj] at z2
  exact z2
end
end L2
set_option Elab.async false
set_option linter.all false
set_option maxRecDepth 100000
set_option maxHeartbeats 4000000
namespace L2
open PySem PySem.Spec PyProof.Rows
abbrev Lk:=Str×Bool×Bool
def Fy (c:Lk):List V:=[.str c.1,.bl c.2.1,.bl c.2.2]
def CF (K:PySem.W.Frag)(H:Hp)(xs:List V)(cs:List Lk):Prop:=Paired (fun v c=>∃t,v=V.ref t∧SqT K H t (Fy c)) xs cs
structure FG (K:PySem.W.Frag) (H:Hp) (u:V) (kd:Str) (cs:List Lk):Prop where
 ex:∃(a l:Addr) (xs:List V),u= .ref a∧SqT K H a [.str kd,.ref l]∧SqL K H l xs∧CF K H xs cs
section
variable {X:Cx} {pins:List (Addr×Obj)} {σ:St} {H:Hp} {s:Shared}
end
section
variable {X:Cx}
theorem lT (K:PySem.W.Frag)(h:X.K=K:=by rfl):CallR X (.builtin "sorted") (kW K):=h▸jY
end
end L2
set_option Elab.async false
set_option linter.all false
set_option maxRecDepth 100000
set_option maxHeartbeats 4000000
namespace L2
open PySem PySem.Spec PyProof.Rows
open PySem.AutoSeq1 (wpAny_loadPart')
open PySem.MeetsSeq PySem.MeetsSeq2 PySem.MeetsSeq3
section
variable {P:Program} {w:World}
end
section
variable {X:Cx}
end
end L2
set_option Elab.async false
set_option linter.all false
set_option maxRecDepth 100000
set_option maxHeartbeats 4000000
namespace L2
open PySem PySem.Spec PyProof.Rows
structure FnIn (K:PySem.W.Frag) (n:Str) (st:Stmt) (f:Addr):Prop where
 a:PySem.W.nsIn K mainGlobals n=some (some (.ref f))
 F:∃fd,Fun K n n st f fd
theorem FnIn.mk' {K:PySem.W.Frag}{n:Str}{st:Stmt}{f:Addr}{oc:Value}{od an:Option Addr}{osl:Array (Option Value)}{kV doc pm cdv ct:Value}(a:PySem.W.nsIn K mainGlobals n=some (some (.ref f)))(l:K.lookup f=some ⟨oc,od,.func (PySem.W.fnOf n n (R0 st) (N4 st) (b6 st) .none kV doc pm an cdv ct),osl⟩)
  (c:PySem.W.codeIn K cdv n=true) (k:PySem.W.keepIn K (.ref f)=true):FnIn K n st f:=⟨a,_,Aa l c k⟩
theorem j9 {P:Program}{w:World}{K:PySem.W.Frag}{mg:Str→Option Value}{base h:Heap}{CX:kD}{k:Nat}{n:Str}{st:Stmt}{ps:List Str}{sp:Sp}{f:Addr}(X:K.In h)(G:h.Ns mainGlobals mg)(a:FnIn K n st f)(ok:∀{f fd},Fun K n n st f fd→p0 P w K mg base CX k f fd ps sp)
  (b:∀(kV doc pm:Value) (an:Option Addr) (cdv ct:Value) (us:List Value),us.length=ps.length→bindArgs (PySem.W.fnOf n n (R0 st) (N4 st) (b6 st) .none kV doc pm an cdv ct) ⟨us,[]⟩=pure (ps.zip us)):F0 P w K mg base CX k n ps [] sp:=by
 obtain⟨fd,F⟩:=a.F
 exact⟨f,_,[],ok F,PySem.W.mg_of X G a.a,F.kp,F.binds b,.nil⟩
theorem Af {P:Program}{w:World}{K:PySem.W.Frag}{mg:Str→Option Value}{h:Heap}{CX:kD}{k:Nat}{st:Stmt}{p:Str}{sp:Sp}{f fa:Addr}(X:K.In h)(G:h.Ns mainGlobals mg)(hfa:mg "law"=some (.ref fa))(a:FnIn K "law" st f)(ok:∀{base f fd},Fun K "law" "law" st f fd→p0 P w K mg base CX k f fd [p] sp)
  (b:∀(kV doc pm:Value) (an:Option Addr) (cdv ct:Value) (s:Shared) (v:Value),BindsTo s (PySem.W.fnOf "law" "law" (R0 st) (N4 st) (b6 st) .none kV doc pm an cdv ct) ⟨[v],[]⟩ [(p,v)]):
  ∃fd:FuncData,(∀(s:Shared) (v:Value),BindsTo s fd ⟨[v],[]⟩ [(p,v)])∧∀base:Heap,K.In base→base.Ns mainGlobals mg→p0 P w K mg base CX k fa fd [p] sp:=by
 obtain⟨fd,F⟩:=a.F
 have e:=hfa.symm.trans (PySem.W.mg_of X G a.a)
 cases e
 obtain⟨oc,od,kV,doc,pm,an,cdv,ct,osl,rfl,lk,hcd⟩:=id F.ex
 exact⟨_,fun s v=>b _ _ _ _ _ _ s v,fun base _ _=>ok F⟩
section
variable {fd:FuncData} {ps:List Str} {us:List Value}
theorem uc {us:List Value}{n:Nat}(h:us.length=n+1):∃a r,us=a::r∧r.length=n:=by
 cases us with
 |nil=>cases h
 |cons a r=>exact⟨a,r,rfl,Nat.succ.inj h⟩
theorem FE (h:us.length=1)(g:∀a:Value,bindArgs fd ⟨[a],[]⟩=pure (ps.zip [a])):bindArgs fd ⟨us,[]⟩=pure (ps.zip us):=by
 obtain⟨a,us,rfl,h1⟩:=uc h;cases us with
 |nil=>exact g a
 |cons _ _=>cases h1
theorem FC (h:us.length=2)(g:∀a b:Value,bindArgs fd ⟨[a,b],[]⟩=pure (ps.zip [a,b])):bindArgs fd ⟨us,[]⟩=pure (ps.zip us):=by
 obtain⟨a,us,rfl,h1⟩:=uc h;obtain⟨b,us,rfl,h2⟩:=uc h1;cases us with
 |nil=>exact g a b
 |cons _ _=>cases h2
theorem FD (h:us.length=3)(g:∀a b c:Value,bindArgs fd ⟨[a,b,c],[]⟩=pure (ps.zip [a,b,c])):bindArgs fd ⟨us,[]⟩=pure (ps.zip us):=by
 obtain⟨a,us,rfl,h1⟩:=uc h;obtain⟨b,us,rfl,h2⟩:=uc h1;obtain⟨c,us,rfl,h3⟩:=uc h2;cases us with
 |nil=>exact g a b c
 |cons _ _=>cases h3
theorem Fw (h:us.length=4)(g:∀a b c d:Value,bindArgs fd ⟨[a,b,c,d],[]⟩=pure (ps.zip [a,b,c,d])):bindArgs fd ⟨us,[]⟩=pure (ps.zip us):=by
 obtain⟨a,us,rfl,h1⟩:=uc h;obtain⟨b,us,rfl,h2⟩:=uc h1;obtain⟨c,us,rfl,h3⟩:=uc h2;obtain⟨d,us,rfl,h4⟩:=uc h3;cases us with
 |nil=>exact g a b c d
 |cons _ _=>cases h4
theorem Fn (h:us.length=5)(g:∀a b c d e:Value,bindArgs fd ⟨[a,b,c,d,e],[]⟩=pure (ps.zip [a,b,c,d,e])):bindArgs fd ⟨us,[]⟩=pure (ps.zip us):=by
 obtain⟨a,us,rfl,h1⟩:=uc h;obtain⟨b,us,rfl,h2⟩:=uc h1;obtain⟨c,us,rfl,h3⟩:=uc h2;obtain⟨d,us,rfl,h4⟩:=uc h3;obtain⟨e,us,rfl,h5⟩:=uc h4;cases us with
 |nil=>exact g a b c d e
 |cons _ _=>cases h5
theorem Fx (h:us.length=6)(g:∀a b c d e f:Value,bindArgs fd ⟨[a,b,c,d,e,f],[]⟩=pure (ps.zip [a,b,c,d,e,f])):bindArgs fd ⟨us,[]⟩=pure (ps.zip us):=by
 obtain⟨a,us,rfl,h1⟩:=uc h;obtain⟨b,us,rfl,h2⟩:=uc h1;obtain⟨c,us,rfl,h3⟩:=uc h2;obtain⟨d,us,rfl,h4⟩:=uc h3;obtain⟨e,us,rfl,h5⟩:=uc h4;obtain⟨f,us,rfl,h6⟩:=uc h5;cases us with
 |nil=>exact g a b c d e f
 |cons _ _=>cases h6
end
section
variable {J:It} {th:Hp→Hp} {g:V→St→Hp→(St→Hp→Prop)→Prop} {tb:TS} {nx:St→Hp→Prop} {rt:V→Hp→Prop} {σ:St} {H:Hp} {n:Nat}
end
end L2
set_option Elab.async false
set_option linter.all false
set_option maxRecDepth 100000
set_option maxHeartbeats 4000000
namespace L2
open PySem PySem.Spec PyProof.Rows
section
variable {X:Cx} {x:Str} {T:Addr} {np hpos pos:Pos} {b₀:Stmt} {body suite:List Stmt} {tb:(St→XK)→TS} {ts:TS}
end
section
variable {X:Cx} {e:Expr} {te:TE} {pos p2 p3 p4:Pos} {j:Nat}
end
def sg (v d:Addr)(h:Heap):Prop:=h.IsItemsView v d
theorem xQ {P:Program}{w:World}{H:Hp}{h:Heap}{v d:Addr}(x:sg v d h):ObjOk P w H h v (.ext (sg v d)):=by
 obtain⟨o,e,r⟩:=x
 exact⟨⟨o,e,r⟩,⟨o,e⟩,fun h1 h2 ⟨o',e',r'⟩ k=>⟨o',k _ e',r'⟩⟩
def AW (H:Hp)(f:Addr→Option HO):Hp:=fun a=>(f a).or (H a)
theorem gY {H:Hp}{f:Addr→Option HO}{a:Addr}{o:HO}(h:f a=some o):AW H f a=some o:=by unfold AW;rw[h];rfl
theorem N8 {H:Hp}{f:Addr→Option HO}{a:Addr}(h:f a=none):AW H f a=H a:=by unfold AW;rw[h];rfl
section
variable {X:Cx} {pins:List (Addr×Obj)} {σ:St} {H:Hp} {s:Shared} {h':Heap}
theorem Inv.laidF {f:Addr→Option HO}{t':Nat}(I:Inv X pins σ H s)(k:∀b u,s.heap.get? b=some u→h'.get? b=some u)(hp:∀a o,f a=some o→s.heap.objs.size≤a)(new:∀a o,f a=some o→ObjOk X.prog X.w (AW H f) h' a o):
  Inv X pins σ (AW H f) {s with heap:=h',toks:=t'}:=by
 have old:∀b u,s.heap.get? b=some u→f b=none:=fun b u e=>by
  cases z:f b with
  |none=>rfl
  |some o=>exact absurd (Heap.lt_size e) (Nat.not_lt.mpr (hp b o z))
 have old2:∀b u,H b=some u→f b=none:=fun b u e=>by
  cases z:f b with
  |none=>rfl
  |some o=>rw[I.hok.fresh (hp b o z)] at e;cases e
 refine I.un ⟨fun b u q _ _ _=>k b u q,fun b u q _ _ _=>⟨u.slots,k b u q⟩,fun b u q n _=>by rw[N8 (old b u q)];exact n,fun b u q _=>⟨u,k b u q⟩,fun b xs q=>by rw[N8 (old2 _ _ q)];exact q,fun b u xs q=>by rw[N8 (old2 _ _ q)];exact q,fun b ps q=>⟨#[],by rw[N8 (old2 _ _ q),q];simp⟩⟩ fun b u e=>?_
 cases z:f b with
 |some o=>
  rw[gY z] at e;cases e
  exact new b _ z
 |none=>
  rw[N8 z] at e
  exact(I.hok b u e).stay (fun c v _ q=>k c v q) (fun c q=>by rw[N8 (old2 _ _ q)];exact q) fun c xs q=>by rw[N8 (old2 _ _ q)];exact q
end
def yB (l:Addr)(as:List Addr)(kvs:List (j8×V)):Addr→Option HO:=fun a=>if a=l then some (.lst (as.map V.ref)) else((as.zip kvs).find? fun p=>decide (p.1=a)).map fun p=> .tup [kV p.2.1,p.2.2]
section
variable {X:Cx}
def xv:V→List V→Hp→VK→Prop:=fun x vs H Q=>∃d kvs,x= .ref d∧vs=[]∧Rd H d (.dK kvs)∧∀v,H v=none→Q (.ref v) (p7 H v (.ext (sg v d)))
theorem fT:xR X "dict.items" xv:=by
 intro pins s σ H x vs v us Q I rx rv h
 obtain⟨d,kvs,rfl,rfl,hd,q⟩:=h
 cases rx
 have hus:=rv.zero
 subst hus
 obtain⟨z,hs,ws,rel,dd⟩:=E8 I.hok hd
 refine call_meetsIn PySem.F.slot_dict_items dd.typeIs PySem.F.entry_dict_items (PySem.F.args_dict_items_1 _) (meets_dict_items (k8 X.prog X.w) d hs) ⟨⟨ws,dd⟩,?_⟩
 refine⟨.ref s.heap.objs.size,_,?_,rfl,q _ (I.hok.fresh (Nat.le_refl _))⟩
 exact I.laid (a:=s.heap.objs.size) (t':=s.toks) (fun b u e=>Heap.get?_push_of_some _ e) (Nat.le_refl _) (xQ ⟨_,Heap.get?_push_size _ rfl,rfl,rfl⟩)
def oi (K:PySem.W.Frag):List V→Hp→VK→Prop:=fun xs H Q=>fc K xs H Q∨∃(v d:Addr) (kvs:List (j8×V)),xs=[.ref v]∧H v=some (.ext (sg v d))∧Rd H d (.dK kvs)∧
 ∀(l:Addr) (as:List Addr) (H':Hp),H l=none→Same H H'→H' l=some (.lst (as.map V.ref))→as.length=kvs.length→(∀(j:Nat) (a:Addr) (kv:j8×V),as[j]?=some a→kvs[j]?=some kv→H' a=some (.tup [kV kv.1,kv.2]))→Q (.ref l) H'
theorem oO (hc:X.calm=true):CallR X (.type "list") (oi X.K):=by
 refine(gD hc).or ?_
 intro pins s σ H xs us Q I r h
 obtain⟨v,d,kvs,rfl,hv,hx,q⟩:=h
 obtain⟨u,rfl,ru⟩:=K6 r
 cases ru
 have hvv:s.heap.IsItemsView v d:=(I.hok v _ hv).1
 obtain⟨hd,o,vs,ep,ho,D⟩:=W3 I.hok hx
 have hlv:=KV.length D.kv
 have hz:kvs.length≤sizeLine:=(E8 I.hok hx).1
 refine PySem.W.kdx_call (knd:=k8 X.prog X.w) (kvs:=vs) (ep:=ep) (I.ok.hd hc) hvv (D.at_ _ ho) (by lia) fun h' tk acc c as hkp hS hal hG hacc=>?_
 have hal':as.length=kvs.length:=by lia
 have nl:s.heap.objs.size∉as:=fun m=>Nat.lt_irrefl _ (hG.above _ m)
 have nda:as.Nodup:=hG.rise.imp fun h=>Nat.ne_of_lt h
 have getF:∀(j:Nat) (a:Addr) (kv:j8×V),as[j]?=some a→kvs[j]?=some kv→yB s.heap.objs.size as kvs a=some (.tup [kV kv.1,kv.2]):=fun j a kv e1 e2=>by
  unfold yB
  have hm:a∈as:=List.mem_of_getElem? e1
  rw[if_neg (show ¬a=s.heap.objs.size from fun z=>nl (by rw[←z];exact hm))]
  have e3:(as.zip kvs)[j]?=some (a,kv):=by rw[List.getElem?_zip_eq_some];exact⟨e1,e2⟩
  cases z:(as.zip kvs).find? (fun p=>decide (p.1=a)) with
  |none=>exact absurd (List.find?_eq_none.mp z (a,kv) (List.mem_of_getElem? e3)) (by simp)
  |some p=>
   have z1:p.1=a:=by simpa using List.find?_some z
   obtain⟨i,hi⟩:=List.getElem?_of_mem (List.mem_of_find?_eq_some z)
   obtain⟨p1,p2⟩:=p
   obtain⟨f1,f2⟩:=List.getElem?_zip_eq_some.mp hi
   have z1':p1=a:=z1
   subst z1'
   have li:i<as.length:=by
    rcases Nat.lt_or_ge i as.length with y|y
    ·exact y
    ·rw[List.getElem?_eq_none y] at f1;cases f1
   have eij:=(List.getElem?_inj li nda).mp (f1.trans e1.symm)
   rw[eij,e2] at f2
   cases f2
   rfl
 have hok:∀a o,yB s.heap.objs.size as kvs a=some o→s.heap.objs.size≤a∧ObjOk X.prog X.w (AW H (yB s.heap.objs.size as kvs)) h' a o:=fun a o e=>by
  unfold yB at e
  by_cases ea:a=s.heap.objs.size
  ·rw[if_pos ea] at e
   cases e
   refine⟨Nat.le_of_eq ea.symm,by rw[List.length_map];lia,as.map Value.ref,c,?_,?_⟩
   ·clear hG hacc hal hal' nl nda getF
    induction as with
    |nil=>exact .nil
    |cons b r ih=>exact .cons rfl ih
   ·rw[ea,hS,←hacc]
  ·rw[if_neg ea] at e
   obtain⟨p,hp,rfl⟩:=Option.map_eq_some_iff.mp e
   have z1:p.1=a:=by simpa using List.find?_some hp
   obtain⟨i,hi⟩:=List.getElem?_of_mem (List.mem_of_find?_eq_some hp)
   obtain⟨p1,p2⟩:=p
   obtain⟨f1,f2⟩:=List.getElem?_zip_eq_some.mp hi
   have z1':p1=a:=z1
   subst z1'
   obtain⟨key,k,y,g1,g2,g3⟩:=hG.pairs i p1 f1
   obtain⟨q1,hq1,q2,q3⟩:=F2 (show Paired _ kvs vs from D.kv) f2
   rw[g1] at hq1
   cases hq1
   refine⟨Nat.le_of_lt (hG.above _ (List.mem_of_getElem? f1)),by simp [sizeLine],[key,y],.cons ?_ (.cons q3 .nil),⟨_,g3,rfl,_,rfl⟩⟩
   rw[q2];exact W7 g2
 have old2:∀b u,H b=some u→yB s.heap.objs.size as kvs b=none:=fun b u e=>by
  cases z:yB s.heap.objs.size as kvs b with
  |none=>rfl
  |some o=>rw[I.hok.fresh (hok b o z).1] at e;cases e
 refine⟨.ref s.heap.objs.size,_,I.laidF (t':=tk) hkp (fun a o e=>(hok a o e).1) (fun a o e=>(hok a o e).2),rfl,q _ as _ (I.hok.fresh (Nat.le_refl _)) (fun b u e=>by rw[N8 (old2 _ _ e)];exact e) (gY (by unfold yB;rw[if_pos rfl])) hal' fun j a kv e1 e2=>gY (getF j a kv e1 e2)⟩
theorem zu (K:PySem.W.Frag)(hc:X.calm=true)(h:X.K=K:=by rfl):CallR X (.type "list") (oi K):=h▸oO hc
end
section
variable {K:PySem.W.Frag} {H:Hp} {Q:VK}
theorem kn {v d:Addr}{kvs:List (j8×V)}(hv:H v=some (.ext (sg v d)))(hd:Rd H d (.dK kvs))(q:∀(l:Addr) (as:List Addr) (H':Hp),H l=none→Same H H'→H' l=some (.lst (as.map V.ref))→as.length=kvs.length→(∀(j:Nat) (a:Addr) (kv:j8×V),as[j]?=some a→kvs[j]?=some kv→H' a=some (.tup [kV kv.1,kv.2]))→Q (.ref l) H'):oi K [.ref v] H Q:= .inr ⟨v,d,kvs,rfl,hv,hd,q⟩
end
end L2
set_option Elab.async false
set_option linter.all false
set_option maxRecDepth 100000
set_option maxHeartbeats 4000000
namespace L2
open PySem PySem.Spec PyProof.Rows PySem.W
section
open PySem.Calls PySem.Builtin PySem.Builtin.ObjectAttr PySem.Builtin.Getset_descriptor
theorem qY {K:Frag}{M:Model}{h:Heap}{x C:Addr}{n:Str}{a g:Value}(X:K.In h)(h1:findIn K (.ref C) n=some (some a))(h2:specialIn K a "__get__"=some (some g))(h3:takesIn K a=some true):Looks M h (find (.ref x) (.ref C) n) (.bind g a):=
 (looks_findIn X h1).andThen ((looks_specialIn X h2).andThen ((show Looks M h (dataDescriptor? (some a) (some g)) (some (g,a)) from(looks_takesIn X h3).andThen .now).andThen (Looks.tag .now)))
structure ExN (K:Frag) (C:Addr):Prop where
 g:findIn K (.ref C) "__getattribute__"=some (some (.builtin "BaseException.__getattribute__"))
 h:findIn K (.ref C) "__getattr__"=some none
 a:findIn K (.ref C) "__class__"=some (some (.builtin "object.__class__"))
 n:specialIn K (.builtin "object.__class__") "__get__"=some (some (.builtin "getset_descriptor.__get__"))
 t:takesIn K (.builtin "object.__class__")=some true
 m:mroIn K C (.type "object")=some true
 e:mroIn K C (.type "BaseException")=some true
section
variable {P:Program} {w:World} {A:Around} {E:Value→Shared→Prop} {s:Shared} {K:Frag} {a C:Addr}
theorem IsExc.ty {M:Model}{h:Heap}(x:IsExc a C h):Looks M h (typeOf (.ref a)) (.ref C):=by
 obtain⟨o,vs,e,c,d⟩:=x
 exact c▸(Looks.ld e).andThen .now
theorem ye {R:Result→Shared→Prop}{tp:Value}(N:ExN K C)(X:K.In s.heap)(x:IsExc a C s.heap)(k:R (.ok (.ret (.ref C))) s):codeAny (model P w) A (.call (.builtin "getset_descriptor.__get__") ⟨[.builtin "object.__class__",.ref a,tp],[]⟩) R s:=by
 obtain⟨h0,g0,d0,t0,o0⟩:=s
 have l0:=IsExc.ty (M:=model P w) x;have l1:=looks_mroIn (M:=model P w) X N.m
 refine codeAny_call_builtin KF.slot_gs.plain KF.entry_gs (KF.slot_gs.check _ _ _ _ _ _ _ _ KF.type_class (KF.args_gs _ _ _) ?_)
 unfold Builtin.«getset_descriptor.__get__» descrGet;rw[dga_obj];refine wpAny_bind (wpAny_pure ?_)
 unfold descrGetter descrCheckInstance descrNameAndClass isInstance;simp only[KF.owner_class];repeat lk
 refine⟨Code.quiet_builtin _ (by decide+kernel),codeAny_builtin KF.entry_class ?_⟩;unfold Builtin.«object.__class__» shownTypeOf;repeat lk
 exact k
theorem xE {tk:Tok}{Q:Fin→Shared→Prop}(N:ExN K C)(X:K.In s.heap)(x:IsExc a C s.heap)(k:Q (.done (.ret (.ref C))) s):wpAny (model P w) A (Builtin.«object.__getattribute__» ⟨[.ref a,.str "__class__" tk],[]⟩) Q E s:=by
 obtain⟨h0,g0,d0,t0,o0⟩:=s
 have l0:=IsExc.ty (M:=model P w) x;have l1:=qY (M:=model P w) (x:=a) X N.a N.n N.t
 unfold Builtin.«object.__getattribute__»
 repeat(first|with_reducible refine Looks.at (by assumption) ?_|with_reducible refine wpAny_bind ?_|with_reducible refine wpAny_holding ?_|with_reducible refine wpAny_call ?_|k_node)
 exact ye N X x (wpAny_pure k)
theorem yt {M:Model}{v:Value}{Q:Unit→Shared→Prop}(N:ExN K C)(X:K.In s.heap)(x:IsExc a C s.heap)(k:Q () s):wpAny M A (checkBuiltinCall "BaseException.__getattribute__" ⟨[.ref a,v],[]⟩) Q E s:=by
 obtain⟨h0,g0,d0,t0,o0⟩:=s
 have l0:=IsExc.ty (M:=M) x;have l1:=looks_mroIn (M:=M) X N.e
 have z1:builtinKind "BaseException.__getattribute__"=some .slot:=by decide+kernel
 have z2:splitId "BaseException.__getattribute__"=some ("BaseException","__getattribute__"):=by decide+kernel
 have z3:=PySem.F.args_bexc_ga (.ref a) v
 simp only[checkBuiltinCall,z1,z2];refine wpAny_bind ?_;unfold isInstance;repeat lk
 exact k
theorem wG {Q:Option Value→Shared→Prop}(N:ExN K C)(X:K.In s.heap)(x:IsExc a C s.heap)(k:Q (some (.ref C)) {s with toks:=s.toks+1}):wpAny (model P w) A (getAttr? (.ref a) "__class__") Q E s:=by
 obtain⟨h0,g0,d0,t0,o0⟩:=s
 have l0:=IsExc.ty (M:=model P w) x;have l1:=looks_findIn (M:=model P w) X N.g;have l2:=looks_findIn (M:=model P w) X N.h
 have f3:=PySem.F.excAttr_ValueError.ga.bind (.ref a)
 unfold getAttr? getAttrBy? getAttrBy;refine wpAny_bind (wpAny_mkText (wpAny_bind (wpAny_attempt (wpAny_holding (wpAny_bind (l0.at (wpAny_bind (l1.at ?_))))))));show wpAny _ _ (getAttrByItsOwn _ _ _ _ _ _) _ _ _
 unfold getAttrByItsOwn hookBefore callGetattribute boundAndCalled
 refine wpAny_bind (l2.at (wpAny_bind (wpAny_attempt (wpAny_holding ?_))))
 rw[if_neg (by decide),f3]
 refine wpAny_bind (wpAny_pure (wpAny_call (codeAny_call_builtin PySem.F.excAttr_ValueError.ga.plain PySem.F.entry_bexc_ga (yt N X x (xE (s:=⟨h0,g0,d0,t0+1,o0⟩) N X x ?_)))))
 exact handed_on rfl (wpAny_pure k)
theorem wD (N:ExN K C):KitX K (.ref a) (.ref C) (IsExc a C):=by
 obtain⟨cd,hc,_⟩:=Option.bind_eq_some_iff.mp N.m
 refine⟨fun _ _ _ x=>IsExc.ty x,fun M h X _=>?_,fun h tp dd its n sl X htp=>?_,fun X x k=>wG N X x k⟩
 ·unfold clsIn at hc
  split at hc
  ·rename_i ho;intro A' Q' E' s' k q;unfold isType loadHead
   exact wpAny_bind (wpAny_loadPart (k _ _ (X _ _ ho)) (wpAny_pure q))
  ·cases hc
 ·refine Bool.eq_false_iff.mpr fun q=>?_
  cases Value.ref.inj (beq_iff_eq.mp q)
  unfold clsIn at hc
  split at hc
  ·rename_i ho;rw[X _ _ ho] at htp;cases htp
  ·cases hc
end
end
def yW (K:Frag):List V→Hp→VK→Prop:=fun xs H Q=>∃(a C:Addr) (c:Value) (v:V) (b:Bool),xs=[.ref a,v]∧cV c v∧H a=some (.ext (IsExc a C))∧ExN K C∧kitOne K (.ref C) c=some b∧Q (.bl b) H
theorem qN {X:Cx}:CallR X (.builtin "isinstance") (yW X.K):=by
 intro pins s σ H xs us Q I r h
 obtain⟨a,C,c,v,b,rfl,hc,hH,N,hk,q⟩:=h
 obtain⟨u,c',rfl,rx,rc⟩:=dG r
 cases (show u=Value.ref a from rx)
 have he:IsExc a C s.heap:=(I.hok a _ hH).1
 have ec:c'=c:=by
  cases c with
  |ref T=>cases (show v= .ref T from hc);exact rc
  |type n=>cases (show v= .ty n from hc);exact rc
  |_=>exact hc.elim
 subst ec
 exact kia_one (wD N) I.kIn he hk (fun z=>nomatch z) fun tk=>⟨.bl b,H,I.tok tk,rfl,q⟩
theorem uM (K:Frag){X:Cx}(h:X.K=K:=by rfl):CallR X (.builtin "isinstance") (yW K):=h▸qN
end L2
set_option Elab.async false
set_option linter.all false
set_option maxRecDepth 100000
set_option maxHeartbeats 1000000
namespace K46
open PySem PySem.Spec PyProof.Rows L2
def F9 (i:Nat):Stmt:=PySem.Challenge.pw_gluework_k46_split_steps.main.body.getD i (.Pass ⟨0,0,0,0⟩)
abbrev W6:Stmt:=F9 12
theorem ij:d9 ["thing","signs","most"] ["thing","signs","most"] (b6 W6):=⟨rfl,rfl,rfl,by decide+kernel,rfl,by decide+kernel,by decide+kernel⟩
abbrev di:Stmt:=F9 13
theorem nJ:d9 ["thing"] ["thing"] (b6 di):=⟨rfl,rfl,rfl,by decide+kernel,rfl,by decide+kernel,by decide+kernel⟩
abbrev bM:Stmt:=F9 14
theorem sc_in_order:d9 ["named"] ["named"] (b6 bM):=⟨rfl,rfl,rfl,by decide+kernel,rfl,by decide+kernel,by decide+kernel⟩
abbrev gM:Stmt:=F9 15
theorem sc_copied:d9 ["web"] ["web"] (b6 gM):=⟨rfl,rfl,rfl,by decide+kernel,rfl,by decide+kernel,by decide+kernel⟩
abbrev fP:Stmt:=F9 16
theorem sc_things:d9 ["web"] ["web"] (b6 fP):=⟨rfl,rfl,rfl,by decide+kernel,rfl,by decide+kernel,by decide+kernel⟩
abbrev dv:Stmt:=F9 17
theorem nT:d9 ["web","names","points","ties","name"] ["web","names"] (b6 dv):=⟨rfl,rfl,rfl,by decide+kernel,rfl,by decide+kernel,by decide+kernel⟩
abbrev gK:Stmt:=F9 18
theorem sc_united:d9 ["web","more","points","ties"] ["web","more"] (b6 gK):=⟨rfl,rfl,rfl,by decide+kernel,rfl,by decide+kernel,by decide+kernel⟩
abbrev T5:Stmt:=F9 19
theorem sc_tie_renamed:d9 ["tie","names"] ["tie","names"] (b6 T5):=⟨rfl,rfl,rfl,by decide+kernel,rfl,by decide+kernel,by decide+kernel⟩
abbrev dA:Stmt:=F9 20
theorem sc_renamed:d9 ["web","names","points","ties"] ["web","names"] (b6 dA):=⟨rfl,rfl,rfl,by decide+kernel,rfl,by decide+kernel,by decide+kernel⟩
abbrev bQ:Stmt:=F9 22
theorem lJ:d9 ["piece","web","match","names"] ["piece","web","match"] (b6 bQ):=⟨rfl,rfl,rfl,by decide+kernel,rfl,by decide+kernel,by decide+kernel⟩
abbrev oC:Stmt:=F9 23
theorem yw:d9 ["piece","match"] ["piece","match"] (b6 oC):=⟨rfl,rfl,rfl,by decide+kernel,rfl,by decide+kernel,by decide+kernel⟩
abbrev S9:Stmt:=F9 24
theorem fI:d9 ["piece","web","fixed"] ["piece","web","fixed"] (b6 S9):=⟨rfl,rfl,rfl,by decide+kernel,rfl,by decide+kernel,by decide+kernel⟩
abbrev U1:Stmt:=F9 25
theorem fW:d9 ["piece","web","piece_looks","web_looks","fixed","told"] ["piece","web","piece_looks","web_looks","fixed"] (b6 U1):=⟨rfl,rfl,rfl,by decide+kernel,rfl,by decide+kernel,by decide+kernel⟩
abbrev jD:Stmt:=F9 26
theorem sP:d9 ["piece","web","piece_looks","web_looks","fixed","most","told","choices","places","names"] ["piece","web","piece_looks","web_looks","fixed","most"] (b6 jD):=⟨rfl,rfl,rfl,by decide+kernel,rfl,by decide+kernel,by decide+kernel⟩
abbrev gJ:Stmt:=F9 27
theorem qk:d9 ["name","image","fixed"] ["name","image","fixed"] (b6 gJ):=⟨rfl,rfl,rfl,by decide+kernel,rfl,by decide+kernel,by decide+kernel⟩
abbrev O2:Stmt:=F9 28
theorem dz:d9 ["piece_looks","web_looks","fixed","choices","name","look","alike"] ["piece_looks","web_looks","fixed"] (b6 O2):=⟨rfl,rfl,rfl,by decide+kernel,rfl,by decide+kernel,by decide+kernel⟩
abbrev W5:Stmt:=F9 29
theorem ix:d9 ["piece","web","fixed","places","name","tie","there","image","other"] ["piece","web","fixed"] (b6 W5):=⟨rfl,rfl,rfl,by decide+kernel,rfl,by decide+kernel,by decide+kernel⟩
abbrev gf:Stmt:=F9 30
theorem qO:d9 ["lists"] ["lists"] (b6 gf):=⟨rfl,rfl,rfl,by decide+kernel,rfl,by decide+kernel,by decide+kernel⟩
abbrev jS:Stmt:=F9 31
theorem vN:d9 ["piece","choices","places","most","names","told","waiting","begun","image"] ["piece","choices","places","most"] (b6 jS):=⟨rfl,rfl,rfl,by decide+kernel,rfl,by decide+kernel,by decide+kernel⟩
abbrev gy:Stmt:=F9 32
theorem rX:d9 ["piece","choices","places","begun","names","name","put","unlike"] ["piece","choices","places","begun"] (b6 gy):=⟨rfl,rfl,rfl,by decide+kernel,rfl,by decide+kernel,by decide+kernel⟩
abbrev S6:Stmt:=F9 33
theorem fe:d9 ["piece","places","put","name","ends"] ["piece","places","put","name"] (b6 S6):=⟨rfl,rfl,rfl,by decide+kernel,rfl,by decide+kernel,by decide+kernel⟩
abbrev bO:Stmt:=F9 34
theorem mQ:d9 ["piece","places","put","name","image","longer","due"] ["piece","places","put","name","image"] (b6 bO):=⟨rfl,rfl,rfl,by decide+kernel,rfl,by decide+kernel,by decide+kernel⟩
abbrev nF:Stmt:=F9 36
theorem wO:d9 ["web","other"] ["web","other"] (b6 nF):=⟨rfl,rfl,rfl,by decide+kernel,rfl,by decide+kernel,by decide+kernel⟩
abbrev ku:Stmt:=F9 37
theorem sc_alone:d9 ["web","other"] ["web","other"] (b6 ku):=⟨rfl,rfl,rfl,by decide+kernel,rfl,by decide+kernel,by decide+kernel⟩
abbrev nI:Stmt:=F9 38
theorem yg:d9 ["rule"] ["rule"] (b6 nI):=⟨rfl,rfl,rfl,by decide+kernel,rfl,by decide+kernel,by decide+kernel⟩
abbrev jK:Stmt:=F9 39
theorem sQ:d9 ["rule"] ["rule"] (b6 jK):=⟨rfl,rfl,rfl,by decide+kernel,rfl,by decide+kernel,by decide+kernel⟩
abbrev bR:Stmt:=F9 40
theorem sc_fresh_of:d9 ["rule"] ["rule"] (b6 bR):=⟨rfl,rfl,rfl,by decide+kernel,rfl,by decide+kernel,by decide+kernel⟩
abbrev T1:Stmt:=F9 41
theorem sc_rule_copied:d9 ["rule"] ["rule"] (b6 T1):=⟨rfl,rfl,rfl,by decide+kernel,rfl,by decide+kernel,by decide+kernel⟩
abbrev gm:Stmt:=F9 43
theorem rY:d9 ["put","names"] ["put","names"] (b6 gm):=⟨rfl,rfl,rfl,by decide+kernel,rfl,by decide+kernel,by decide+kernel⟩
abbrev gv:Stmt:=F9 44
theorem sd:d9 ["web","rule","match","number","bar","told"] ["web","rule","match"] (b6 gv):=⟨rfl,rfl,rfl,by decide+kernel,rfl,by decide+kernel,by decide+kernel⟩
abbrev aL:Stmt:=F9 45
theorem jN:d9 ["step"] ["step"] (b6 aL):=⟨rfl,rfl,rfl,by decide+kernel,rfl,by decide+kernel,by decide+kernel⟩
abbrev U0:Stmt:=F9 46
theorem fQ:d9 ["web","rule","fresh","names"] ["web","rule","fresh"] (b6 U0):=⟨rfl,rfl,rfl,by decide+kernel,rfl,by decide+kernel,by decide+kernel⟩
abbrev dy:Stmt:=F9 47
theorem nV:d9 ["web","step","rule","rest"] ["web","step"] (b6 dy):=⟨rfl,rfl,rfl,by decide+kernel,rfl,by decide+kernel,by decide+kernel⟩
abbrev oV:Stmt:=F9 48
theorem xB:d9 ["web","step","rule","rest"] ["web","step"] (b6 oV):=⟨rfl,rfl,rfl,by decide+kernel,rfl,by decide+kernel,by decide+kernel⟩
abbrev fH:Stmt:=F9 49
theorem rB:d9 ["step","rule","put"] ["step"] (b6 fH):=⟨rfl,rfl,rfl,by decide+kernel,rfl,by decide+kernel,by decide+kernel⟩
abbrev Y0:Stmt:=F9 50
theorem sc_named_step:d9 ["rule","match","mark"] ["rule","match","mark"] (b6 Y0):=⟨rfl,rfl,rfl,by decide+kernel,rfl,by decide+kernel,by decide+kernel⟩
abbrev fV:Stmt:=F9 52
theorem qZ:d9 ["one","other","images"] ["one","other"] (b6 fV):=⟨rfl,rfl,rfl,by decide+kernel,rfl,by decide+kernel,by decide+kernel⟩
abbrev jI:Stmt:=F9 53
theorem vQ:d9 ["web","one","other","behind_one","behind_other","names","out","gone"] ["web","one","other"] (b6 jI):=⟨rfl,rfl,rfl,by decide+kernel,rfl,by decide+kernel,by decide+kernel⟩
abbrev Y4:Stmt:=F9 55
theorem sc_tie_paired:d9 ["tie","paired"] ["tie","paired"] (b6 Y4):=⟨rfl,rfl,rfl,by decide+kernel,rfl,by decide+kernel,by decide+kernel⟩
abbrev bS:Stmt:=F9 56
theorem kJ:d9 ["named","thing"] ["named","thing"] (b6 bS):=⟨rfl,rfl,rfl,by decide+kernel,rfl,by decide+kernel,by decide+kernel⟩
abbrev L6:Stmt:=F9 57
theorem cv:d9 ["piece","other"] ["piece","other"] (b6 L6):=⟨rfl,rfl,rfl,by decide+kernel,rfl,by decide+kernel,by decide+kernel⟩
abbrev P5:Stmt:=F9 58
theorem eI:d9 ["piece","other","paired"] ["piece","other","paired"] (b6 P5):=⟨rfl,rfl,rfl,by decide+kernel,rfl,by decide+kernel,by decide+kernel⟩
abbrev bX:Stmt:=F9 59
theorem lB:d9 ["partners","rows","name","longer","row","used"] ["partners"] (b6 bX):=⟨rfl,rfl,rfl,by decide+kernel,rfl,by decide+kernel,by decide+kernel⟩
abbrev bF:Stmt:=F9 60
theorem kR:d9 ["piece","other","told","points","ties"] ["piece","other"] (b6 bF):=⟨rfl,rfl,rfl,by decide+kernel,rfl,by decide+kernel,by decide+kernel⟩
abbrev dc:Stmt:=F9 61
theorem sc_is_pair:d9 ["thing"] ["thing"] (b6 dc):=⟨rfl,rfl,rfl,by decide+kernel,rfl,by decide+kernel,by decide+kernel⟩
abbrev M0:Stmt:=F9 62
theorem sc_is_well_paired:d9 ["piece","other","paired","name"] ["piece","other","paired","name"] (b6 M0):=⟨rfl,rfl,rfl,by decide+kernel,rfl,by decide+kernel,by decide+kernel⟩
abbrev V8:Stmt:=F9 63
theorem sc_is_overlap:d9 ["piece","other","pairs","paired"] ["piece","other","pairs"] (b6 V8):=⟨rfl,rfl,rfl,by decide+kernel,rfl,by decide+kernel,by decide+kernel⟩
abbrev ia:Stmt:=F9 64
theorem sc_marked:d9 ["web","mark"] ["web","mark"] (b6 ia):=⟨rfl,rfl,rfl,by decide+kernel,rfl,by decide+kernel,by decide+kernel⟩
abbrev U3:Stmt:=F9 65
theorem sc_overlap_web:d9 ["piece","other","pairs","match","other_match","pair"] ["piece","other","pairs"] (b6 U3):=⟨rfl,rfl,rfl,by decide+kernel,rfl,by decide+kernel,by decide+kernel⟩
abbrev T3:Stmt:=F9 67
theorem sc_refuse_bars:d9 ["rules"] ["rules"] (b6 T3):=⟨rfl,rfl,rfl,by decide+kernel,rfl,by decide+kernel,by decide+kernel⟩
abbrev T2:Stmt:=F9 68
theorem sc_split_steps:d9 ["rule","other","pairs","told","one"] ["rule","other","pairs"] (b6 T2):=⟨rfl,rfl,rfl,by decide+kernel,rfl,by decide+kernel,by decide+kernel⟩
abbrev bJ:Stmt:=F9 69
theorem me:d9 ["rule","other","pairs","told","why"] ["rule","other","pairs"] (b6 bJ):=⟨rfl,rfl,rfl,by decide+kernel,rfl,by decide+kernel,by decide+kernel⟩
abbrev gR:Stmt:=F9 70
theorem sc_splits:d9 ["rule","other"] ["rule","other"] (b6 gR):=⟨rfl,rfl,rfl,by decide+kernel,rfl,by decide+kernel,by decide+kernel⟩
abbrev P9:Stmt:=F9 72
theorem sc__law_cell_at:d9 ["_law_script","_law_k"] ["_law_script","_law_k"] (b6 P9):=⟨rfl,rfl,rfl,by decide+kernel,rfl,by decide+kernel,by decide+kernel⟩
abbrev bV:Stmt:=F9 73
theorem sc__law_mix:d9 ["_law_cell","_law_k"] ["_law_cell","_law_k"] (b6 bV):=⟨rfl,rfl,rfl,by decide+kernel,rfl,by decide+kernel,by decide+kernel⟩
abbrev X1:Stmt:=F9 74
theorem sc__law_names:d9 ["_law_mixed","_law_many","_law_letters","_law_size","_law_at","_law_names_here","_law_k","_law_name","_law_j","_law_place"] ["_law_mixed","_law_many"] (b6 X1):=⟨rfl,rfl,rfl,by decide+kernel,rfl,by decide+kernel,by decide+kernel⟩
abbrev W9:Stmt:=F9 75
theorem sc__law_piece:d9 ["_law_cells","_law_names_here","_law_points_most","_law_ties_most","_law_kinds","_law_points","_law_ties","_law_k","_law_mixed","_law_some","_law_full","_law_start","_law_end"] ["_law_cells","_law_names_here","_law_points_most","_law_ties_most","_law_kinds"] (b6 W9):=⟨rfl,rfl,rfl,by decide+kernel,rfl,by decide+kernel,by decide+kernel⟩
abbrev aQ:Stmt:=F9 76
theorem sc__law_fits:d9 ["_law_piece_here","_law_other","_law_there","_law_name","_law_to","_law_kind","_law_start","_law_end"] ["_law_piece_here","_law_other","_law_there","_law_name"] (b6 aQ):=⟨rfl,rfl,rfl,by decide+kernel,rfl,by decide+kernel,by decide+kernel⟩
abbrev bW:Stmt:=F9 77
theorem sc__law_may:d9 ["_law_piece_here","_law_other","_law_there","_law_name","_law_to","_law_more"] ["_law_piece_here","_law_other","_law_there","_law_name","_law_to"] (b6 bW):=⟨rfl,rfl,rfl,by decide+kernel,rfl,by decide+kernel,by decide+kernel⟩
abbrev bG:Stmt:=F9 78
theorem sc__law_all:d9 ["_law_web"] ["_law_web"] (b6 bG):=⟨rfl,rfl,rfl,by decide+kernel,rfl,by decide+kernel,by decide+kernel⟩
abbrev ak:Stmt:=F9 79
theorem sc__law_over:d9 ["_law_piece_here","_law_other","_law_pairs","_law_first","_law_second","_law_points","_law_ties","_law_name","_law_to","_law_web","_law_names_here","_law_kind","_law_tie"] ["_law_piece_here","_law_other","_law_pairs"] (b6 ak):=⟨rfl,rfl,rfl,by decide+kernel,rfl,by decide+kernel,by decide+kernel⟩
abbrev Y7:Stmt:=F9 80
theorem sc__law_right:d9 ["_law_left","_law_names_here","_law_bits","_law_kinds","_law_points","_law_ties","_law_k","_law_name","_law_tie","_law_some"] ["_law_left","_law_names_here","_law_bits","_law_kinds"] (b6 Y7):=⟨rfl,rfl,rfl,by decide+kernel,rfl,by decide+kernel,by decide+kernel⟩
abbrev aE:Stmt:=F9 81
theorem sc__law_rule:d9 ["_law_cells","_law_kinds","_law_mixed","_law_names_here","_law_left"] ["_law_cells","_law_kinds"] (b6 aE):=⟨rfl,rfl,rfl,by decide+kernel,rfl,by decide+kernel,by decide+kernel⟩
abbrev X8:Stmt:=F9 82
theorem sc__law_drawn:d9 ["_law_piece_here","_law_other","_law_mixed","_law_there","_law_name","_law_some","_law_at"] ["_law_piece_here","_law_other","_law_mixed"] (b6 X8):=⟨rfl,rfl,rfl,by decide+kernel,rfl,by decide+kernel,by decide+kernel⟩
abbrev X7:Stmt:=F9 83
theorem sc__law_fresh:d9 ["_law_rule_here","_law_mark","_law_fresh_here","_law_name"] ["_law_rule_here","_law_mark"] (b6 X7):=⟨rfl,rfl,rfl,by decide+kernel,rfl,by decide+kernel,by decide+kernel⟩
abbrev U2:Stmt:=F9 84
theorem sc__law_barred:d9 ["_law_rule_here","_law_more"] ["_law_rule_here"] (b6 U2):=⟨rfl,rfl,rfl,by decide+kernel,rfl,by decide+kernel,by decide+kernel⟩
abbrev Q0:Stmt:=F9 85
theorem sc__law_refused:d9 ["_law_rule_here","_law_other","_law_pairs","_law_asked","_law_told","e"] ["_law_rule_here","_law_other","_law_pairs","_law_asked"] (b6 Q0):=⟨rfl,rfl,rfl,by decide+kernel,rfl,by decide+kernel,by decide+kernel⟩
abbrev uA:Stmt:=F9 86
theorem sc_law:d9 ["_law_script","_law_first","_law_kinds","_law_rule_here","_law_other","_law_pairs","_law_odd","_law_some","_law_found","_law_web","_law_match","_law_other_match","_law_due"] ["_law_script"] (b6 uA):=⟨rfl,rfl,rfl,by decide+kernel,rfl,by decide+kernel,by decide+kernel⟩
structure Txt (K:PySem.W.Frag) (mg:Str→Option Value):Prop where
 r_HasBars:ExC K mg "HasBars" (cA K "HasBars")
 r_NoOverlap:ExC K mg "NoOverlap" (cA K "NoOverlap")
 t_GlueError:EN K mg "GlueError" (cA K "GlueError")
 g_HasBars:DJ mg "HasBars" (.ref (cA K "HasBars"))
 g_NoOverlap:DJ mg "NoOverlap" (.ref (cA K "NoOverlap"))
 s_HasBars_GlueError:PySem.W.subIn K (.ref (cA K "HasBars")) (.ref (cA K "GlueError"))=some true
 s_HasBars_HasBars:PySem.W.subIn K (.ref (cA K "HasBars")) (.ref (cA K "HasBars"))=some true
 s_HasBars_NoOverlap:PySem.W.subIn K (.ref (cA K "HasBars")) (.ref (cA K "NoOverlap"))=some false
 e_HasBars:ExN K (cA K "HasBars")
 i_HasBars_HasBars:PySem.W.kitOne K (.ref (cA K "HasBars")) (.ref (cA K "HasBars"))=some true
 i_HasBars_NoOverlap:PySem.W.kitOne K (.ref (cA K "HasBars")) (.ref (cA K "NoOverlap"))=some false
 i_HasBars_ValueError:PySem.W.kitOne K (.ref (cA K "HasBars")) (.type "ValueError")=some true
 s_NoOverlap_GlueError:PySem.W.subIn K (.ref (cA K "NoOverlap")) (.ref (cA K "GlueError"))=some true
 s_NoOverlap_HasBars:PySem.W.subIn K (.ref (cA K "NoOverlap")) (.ref (cA K "HasBars"))=some false
 s_NoOverlap_NoOverlap:PySem.W.subIn K (.ref (cA K "NoOverlap")) (.ref (cA K "NoOverlap"))=some true
 e_NoOverlap:ExN K (cA K "NoOverlap")
 i_NoOverlap_HasBars:PySem.W.kitOne K (.ref (cA K "NoOverlap")) (.ref (cA K "HasBars"))=some false
 i_NoOverlap_NoOverlap:PySem.W.kitOne K (.ref (cA K "NoOverlap")) (.ref (cA K "NoOverlap"))=some true
 i_NoOverlap_ValueError:PySem.W.kitOne K (.ref (cA K "NoOverlap")) (.type "ValueError")=some true
 b_ValueError:mg "ValueError"=none
 b_all:mg "all"=none
 b_any:mg "any"=none
 b_dict:mg "dict"=none
 b_enumerate:mg "enumerate"=none
 b_isinstance:mg "isinstance"=none
 b_len:mg "len"=none
 b_list:mg "list"=none
 b_range:mg "range"=none
 b_set:mg "set"=none
 b_sorted:mg "sorted"=none
 b_str:mg "str"=none
 b_sum:mg "sum"=none
 b_tuple:mg "tuple"=none
def ET (H:Hp)(Q:VK)(P:List Str→Prop):Prop:=∀(p:Addr) (H':Hp) (ss:List Str),H p=none→Same H H'→H' p=some (.lst (ss.map V.str))→P ss→Q (.ref p) H'
def k7 (W:E7):List Str:=W.pts.map (·.1)++W.ts.map (·.1)
structure WebIs (n:Nat) (K:PySem.W.Frag) (H:Hp) (a p q:Addr) (kvs:List (j8×V)) (W:E7):Prop where
 at_:WebAt K H a p q kvs W
 hp:H p=some (.dK (r6 W.pts))
 hq:H q=some (.dK kvs)
 ne:p≠q
 nd:(k7 W).Nodup
 len:(k7 W).length≤n
 ends:∀x∈W.ts,x.2.2.1∈W.pts.map (·.1)∧x.2.2.2∈W.pts.map (·.1)
 nl:∀x∈k7 W,x.length≤100
 qm:("?":Str)∉k7 W
theorem WebIs.same {n:Nat}{K:PySem.W.Frag}{H H':Hp}{a p q:Addr}{kvs:List (j8×V)}{W:E7}(h:WebIs n K H a p q kvs W)(s:Same H H'):WebIs n K H' a p q kvs W:=⟨h.at_.mono s.le,s _ _ h.hp,s _ _ h.hq,h.ne,h.nd,h.len,h.ends,h.nl,h.qm⟩
def Z2 (K:PySem.W.Frag):Sp:=fun vs H Q _=>∃(a:Addr) (ns:List Int) (k:Int),vs=[.ref a,.int k]∧SqL K H a (ns.map V.int)∧ns.length≤63∧0≤k∧∀m:Int,Q (.int m) H
def eh (K:PySem.W.Frag):Sp:=fun vs H Q _=>∃c k:Int,vs=[.int c,.int k]∧0≤k∧k≤1000∧∀m:Int,0≤m→Q (.int m) H
def bo (K:PySem.W.Frag):Sp:=fun vs H Q _=>∃c:Int,vs=[.int c,.int 8]∧0≤c∧ET H Q fun ss=>ss.length=8∧ss.Nodup∧(∀s∈ss,s.length≤8)∧("?":Str)∉ss
def bf (K:PySem.W.Frag):Sp:=fun vs H Q _=>False
def gH (K:PySem.W.Frag):Sp:=fun vs H Q _=>False
def gP (K:PySem.W.Frag):Sp:=fun vs H Q _=>False
def dO (K:PySem.W.Frag):Sp:=fun vs H Q _=>False
def pP (K:PySem.W.Frag):Sp:=fun vs H Q _=>False
def aM (K:PySem.W.Frag):Sp:=fun vs H Q _=>False
def ay (K:PySem.W.Frag):Sp:=fun vs H Q _=>False
def mI (K:PySem.W.Frag):Sp:=fun vs H Q _=>False
def ja (K:PySem.W.Frag):Sp:=fun vs H Q _=>False
def V0 (K:PySem.W.Frag):Sp:=fun vs H Q _=>False
def bg (K:PySem.W.Frag):Sp:=fun vs H Q _=>False
def jm (K:PySem.W.Frag):Sp:=fun vs H Q _=>False
def kT (K:PySem.W.Frag):Sp:=fun vs H Q _=>False
def jk (K:PySem.W.Frag):Sp:=fun vs H Q _=>False
def aq (K:PySem.W.Frag):Sp:=fun vs H Q _=>False
def dE (K:PySem.W.Frag):Sp:=fun vs H Q _=>False
def pA (K:PySem.W.Frag):Sp:=fun vs H Q _=>False
def pO (K:PySem.W.Frag):Sp:=fun vs H Q _=>False
def ma (K:PySem.W.Frag):Sp:=fun vs H Q _=>False
def iN (K:PySem.W.Frag):Sp:=fun vs H Q _=>False
def iP (K:PySem.W.Frag):Sp:=fun vs H Q _=>False
def cK (K:PySem.W.Frag):Sp:=fun vs H Q _=>False
def aJ (K:PySem.W.Frag):Sp:=fun vs H Q _=>False
def hZ (K:PySem.W.Frag):Sp:=fun vs H Q _=>False
def pX (K:PySem.W.Frag):Sp:=fun vs H Q _=>False
def iO (K:PySem.W.Frag):Sp:=fun vs H Q _=>False
def jj (K:PySem.W.Frag):Sp:=fun vs H Q _=>False
def lu (K:PySem.W.Frag):Sp:=fun vs H Q _=>False
def dW (K:PySem.W.Frag):Sp:=fun vs H Q _=>False
def Q9 (K:PySem.W.Frag):Sp:=fun vs H Q _=>False
def Z9 (K:PySem.W.Frag):Sp:=fun vs H Q _=>False
def dR (K:PySem.W.Frag):Sp:=fun vs H Q _=>False
def dS (K:PySem.W.Frag):Sp:=fun vs H Q _=>False
def dN (K:PySem.W.Frag):Sp:=fun vs H Q _=>False
local macro_rules| `(tactic|walk_at "b")=> `(tactic|(intro _ _ _ _ _ _ us hl;first|exact bn0 hl rfl|exact FE hl fun _=>rfl|exact FC hl fun _ _=>rfl|exact FD hl fun _ _ _=>rfl|exact Fw hl fun _ _ _ _=>rfl|exact Fn hl fun _ _ _ _ _=>rfl|exact Fx hl fun _ _ _ _ _ _=>rfl))
local macro_rules| `(tactic|walk_at "E")=> `(tactic|first
 |(with_reducible (first|refine r_par ?_|refine yj ?_|refine r_fs ?_|refine xC ?_|refine Cz ?_|refine zO ?_|refine Fp ?_|refine Ep ?_|refine Dl ?_|refine Cp ?_|refine zI ?_|refine Ap ?_|refine CT ?_|refine Av ?_|refine Ec ?_|refine wq ?_|refine r_valuesI ?_|refine r_rev ?_|refine r_dz ?_|refine zA ?_|refine CS ?_|refine CY ?_|refine zg ?_|refine Eh ?_|refine Dq ?_|refine BE ?_|refine De ?_|refine Eg ?_|refine zk ?_|refine r_orV ?_|refine r_notV ?_|refine r_if ?_|refine Cn ?_|refine zj ?_|refine zX ?_|refine Eo ?_|refine Ed ?_|refine uK ?_|refine AY ?_|refine CH ?_|refine r_chain ?_|refine rS ?_|refine Er ?_|refine uw ?_|refine r_lt_str ?_|refine lC ?_|refine r_eq_bl ?_|refine mL ?_|refine r_in_sgn ?_|refine r_notIn_sgn ?_|refine r_is ?_|refine tF ?_|refine w_eq_bl ?_|refine ml ?_|refine lD ?_|refine tE ?_|refine w_ne_bl ?_|refine w_ne_str ?_|refine lg ?_|refine n_ne_bl ?_|refine n_ne_str ?_|refine Cw ?_|refine yv ?_|refine AR ?_|refine r_enum ?_|refine r_zip ?_|refine xk ?_|refine AI ?_|refine DR ?_|refine BK ?_|refine EM ?_|refine Cd ?_|refine r_isN ?_|refine r_it_str ?_|refine BX ?_|refine Dn ?_|refine DO ?_|refine Ey ?_|refine BM ?_|refine BR ?_))
 |((with_reducible refine' Ct ?h ?_);(case h=>rfl))
 |with_reducible refine zr _ ?_
 |((with_reducible refine' sk ?c ?_);(case c=>(unfold CMul;omega)))
 |((with_reducible refine' Fh ?c ?_);(case c=>(first|omega|(dsimp only<;>omega)|(unfold CMul;omega)|(unfold Cs;omega)|(unfold EG;decide)|exact Int.pow_pos (by decide)))))
local macro_rules| `(tactic|walk_at "R")=> `(tactic|first|with_reducible refine Ci ?_|with_reducible refine CD ?_|walk_at "E")
local macro_rules| `(tactic|walk_at "r")=> `(tactic|repeat walk_at "R")
local macro_rules| `(tactic|walk_at "e")=> `(tactic|repeat walk_at "E")
local macro_rules| `(tactic|walk_at "l")=> `(tactic|first|exact Or.inl rfl|exact Or.inr rfl)
section
variable {P:Program} {w:World} {K:PySem.W.Frag} {mg:Str→Option Value} {base:Heap}
def gj (i:Int):Nat:=("abcdefghijklmnopqrstuvwxyz":Str).cps.toList.getD i.toNat 0
theorem sV (i:Int)(h0:0≤i)(h1:i<26):mS ("abcdefghijklmnopqrstuvwxyz":Str).cps.toList i=some (gj i):=by
 have hl:("abcdefghijklmnopqrstuvwxyz":Str).cps.toList.length=26:=by decide+kernel
 obtain⟨v,hv,hv2⟩:=nN (xs:=("abcdefghijklmnopqrstuvwxyz":Str).cps.toList) h0 (by rw[hl];exact h1)
 rw[hv]
 unfold gj
 rw[List.getD_eq_getElem?_getD,hv2];rfl
theorem uU:∀i j:Nat,i<26→j<26→gj i=gj j→i=j:=by
 have h:∀i,i<26→∀j,j<26→gj (i:Nat)=gj (j:Nat)→i=j:=by decide+kernel
 exact fun i j hi hj=>h i hi j hj
theorem kZ {f:Nat→Str}:∀{n:Nat},(∀i j,i<n→j<n→f i=f j→i=j)→((List.range n).map f).Nodup
 |0,_=>List.nodup_nil
 |n+1,h=>by
  rw[List.range_succ,List.map_append]
  refine F6 (kZ fun i j hi hj=>h i j (by omega) (by omega)) fun m=>?_
  obtain⟨i,hi,e⟩:=List.mem_map.mp m
  have hi':=List.mem_range.mp hi
  have z:=h i n (by omega) (by omega) e
  omega
theorem jq:("abcdefghijklmnopqrstuvwxyz":Str).length≤sizeLine:=by decide+kernel
abbrev Fb:Str:="abcdefghijklmnopqrstuvwxyz"
theorem vv (ss:List Str):(ss.map V.str).all A0=true:=by
 rw[List.all_map,List.all_eq_true];intro _ _;rfl
theorem Q6 {K:PySem.W.Frag}{H:Hp}{d:Addr}{k1 k2 kv:_}{x:Str×N9}(h:H d=some (.dK k1))(t:TieAt K H kv x):TieAt K (p7 H d (.dK k2)) kv x:=by
 obtain⟨e,a,ea,s⟩:=t
 refine⟨e,a,ea,?_⟩
 rcases s with s|s
 ·refine .inl ?_
  by_cases z:a=d
  ·subst z
   rcases s with s|⟨_,s⟩<;>(rw[h] at s;cases s)
  ·unfold Rd
   rw[d7 z];exact s
 ·exact .inr s
theorem C8 {H H1:Hp}{d:Addr}{o:HO}(s:Same H H1)(h:H d=none):Same H (p7 H1 d o):=fun b u e=>by
 rw[d7 (d8 e h)];exact s _ _ e
theorem E1 {ss:List Str}{i:Int}(h0:0≤i)(h1:i<ss.length):∃x,mS (ss.map V.str) i=some (.str x)∧x∈ss:=by
 obtain⟨v,hv,hv2⟩:=nN (xs:=ss.map V.str) h0 (by rw[List.length_map];exact h1)
 rw[List.getElem?_map] at hv2
 obtain⟨x,hx,e⟩:=Option.map_eq_some_iff.mp hv2
 exact⟨x,by rw[hv,e],List.mem_of_getElem? hx⟩
theorem z5 {α:Type}(l:List (Str×α)):(l.map (·.1)).map (Sum.inr:Str→j8)=l.map fun x=>Sum.inr x.1:=by rw[List.map_map];rfl
theorem N0 {l:List Str}{n:Str}(h:(Sum.inr n:j8)∈l.map (Sum.inr:Str→j8)):n∈l:=by
 obtain⟨x,hx,e⟩:=List.mem_map.mp h
 rw[←Sum.inr.inj e];exact hx
theorem D3 {kvs:List (j8×V)}{k:j8}(h:k∉kvs.map (·.1)):z6 kvs k=none:=by
 cases e:z6 kvs k with
 |none=>rfl
 |some v=>exact absurd (pY e) h
theorem ng {a:List (Str×Str)}{b:List (Str×N9)}{n s:Str}(h:(a.map (·.1)++b.map (·.1)).Nodup)(f:n∉a.map (·.1)++b.map (·.1)):((a++[(n,s)]).map (·.1)++b.map (·.1)).Nodup:=by
 have z:=F6 h f
 refine(List.Perm.nodup_iff ?_).mpr z
 rw[List.map_append,List.append_assoc,List.append_assoc]
 exact List.Perm.append_left _ List.perm_append_comm
theorem jX {a:List (Str×Str)}{b:List (Str×N9)}{n s:Str}{l:List Str}(h:∀x∈a.map (·.1)++b.map (·.1),x∈l)(f:n∈l):∀x∈(a++[(n,s)]).map (·.1)++b.map (·.1),x∈l:=by
 intro x hx
 rw[List.map_append,List.append_assoc] at hx
 rcases List.mem_append.mp hx with h'|h'
 ·exact h x (List.mem_append_left _ h')
 ·rcases List.mem_append.mp h' with h2|h2
  ·have:x=n:=by simpa using h2
   rw[this];exact f
  ·exact h x (List.mem_append_right _ h2)
theorem z9 {α β:Type}{F:α→β→Prop}:∀{l:List α} {m:List β} {a:α} {b:β},Paired F l m→F a b→Paired F (l++[a]) (m++[b])
 |_,_,_,_,.nil,h=> .cons h .nil
 |_,_,_,_,.cons r t,h=> .cons r (z9 t h)
theorem eQ:∀{kvs:List (j8×V)} {kv:j8×V},(kvs.map (·.1)).Nodup→kv∈kvs→z6 kvs kv.1=some kv.2
 |p::r,kv,nd,h=>by
  have nd':=List.nodup_cons.mp (show(p.1::r.map (·.1)).Nodup from nd)
  rcases List.mem_cons.mp h with z|z
  ·rw[z];exact V2 rfl
  ·rw[V3 fun e=>nd'.1 (by rw[e];exact List.mem_map.mpr ⟨kv,z,rfl⟩)]
   exact eQ nd'.2 z
theorem zv {kvs:List (j8×V)}{ss:List Str}(hk:kvs.map (·.1)=ss.map Sum.inr)(nd:(kvs.map (·.1)).Nodup):kvs=ss.map fun s=>(Sum.inr s,(z6 kvs (Sum.inr s:j8)).getD .non):=by
 have h1:kvs=kvs.map fun kv=>(kv.1,(z6 kvs kv.1).getD .non):=by
  have:∀kv∈kvs,kv=(kv.1,(z6 kvs kv.1).getD .non):=fun kv h=>by rw[eQ nd h];rfl
  exact(List.map_id' kvs).symm.trans (List.map_congr_left this)
 have h2:(kvs.map fun kv=>(kv.1,(z6 kvs kv.1).getD V.non))=(kvs.map (·.1)).map fun k=>(k,(z6 kvs k).getD .non):=by rw[List.map_map];rfl
 rw[hk,List.map_map] at h2
 exact h1.trans h2
theorem lW:∀{r a:List (j8×V)},((a++r).map (·.1)).Nodup→r.foldl (fun a x=>D0 a x.1 x.2) a=a++r
 |[],a,_=>by simp
 |p::r,a,nd=>by
  rw[List.foldl_cons]
  have nd':((a++[p]++r).map (·.1)).Nodup:=by rw[List.append_assoc];exact nd
  have hf:p.1∉a.map (·.1):=fun m=>by
   rw[List.map_append] at nd
   exact(List.nodup_append.mp nd).2.2 p.1 m p.1 (by simp) rfl
  rw[K9 p.2 (D3 hf),lW (r:=r) (a:=a++[(p.1,p.2)]) nd',List.append_assoc];rfl
theorem U9 {kvs:List (j8×V)}(nd:(kvs.map (·.1)).Nodup):dZ kvs=kvs:=by
 unfold dZ
 rw[lW (by simpa using nd)];rfl
theorem PrV.mono {K:PySem.W.Frag}{H H':Hp}{x:V}{kv:j8×V}(l:Le H H')(h:PrV K H x kv):PrV K H' x kv:=let ⟨t,e,s⟩:=h;⟨t,e,l.tup s⟩
theorem eg {α β:Type}{F:α→β→Prop}{l2 m:List α}(h:l2.Perm m):∀{r:List β},Paired F m r→∃r',Paired F l2 r'∧r'.Perm r:=by
 induction h with
 |nil=>intro r p;cases p;exact⟨[],.nil,.nil⟩
 |cons x _ ih=>
  intro r p
  cases p with
  |cons a b=>
   obtain⟨r',h1,h2⟩:=ih b
   exact⟨_::r',.cons a h1,h2.cons _⟩
 |swap x y l=>
  intro r p
  cases p with
  |cons a b=>
   cases b with
   |cons c d=>exact⟨_::_::_,.cons c (.cons a d),.swap _ _ _⟩
 |trans _ _ ih1 ih2=>
  intro r p
  obtain⟨r',h1,h2⟩:=ih2 p
  obtain⟨r'',h3,h4⟩:=ih1 h1
  exact⟨r'',h3,h4.trans h2⟩
theorem gA:∀pts:List (Str×Str),Paired (fun(kv:j8×V) (x:Str×Str)=>kv=(Sum.inr x.1,.str x.2)) (r6 pts) pts
 |[]=> .nil
 |x::r=> .cons rfl (gA r)
theorem gd:∀{kvs:List (j8×V)} {pts:List (Str×Str)},Paired (fun(kv:j8×V) (x:Str×Str)=>kv=(Sum.inr x.1,.str x.2)) kvs pts→kvs=r6 pts
 |_,_,.nil=>rfl
 |_,_,.cons e t=>by rw[e,gd t];rfl
theorem um {kvs:List (j8×V)}{pts:List (Str×Str)}(h:kvs.Perm (r6 pts)):∃pts',kvs=r6 pts'∧pts'.Perm pts:=by
 obtain⟨r,h1,h2⟩:=eg h (gA pts)
 exact⟨r,gd h1,h2⟩
theorem o5 (pts:List (Str×Str)):(r6 pts).length=pts.length:=by unfold r6;rw[List.length_map]
theorem kC {pts:List (Str×Str)}{i:Nat}{kv:j8×V}(h:(r6 pts)[i]?=some kv):∃x,pts[i]?=some x∧kv=(Sum.inr x.1,.str x.2):=by
 unfold r6 at h
 rw[List.getElem?_map] at h
 obtain⟨x,hx,e⟩:=Option.map_eq_some_iff.mp h
 exact⟨x,hx,e.symm⟩
theorem gQ {D d:Addr}{kvs:List (j8×V)}{o:Obj}{u:HO}{H H1:Hp}(h:H d=some (.dK kvs))(s:Same (K0 d o kvs H) H1)(hD:H1 D=none):Same H (thaw d (p7 H1 D u)):=
 Same.thaw h fun b v z=>by rw[d7 (d8 (s _ _ z) hD)];exact s _ _ z
theorem ou {D d:Addr}{kvs:List (j8×V)}{o:Obj}{u:HO}{H H1:Hp}(s:Same (K0 d o kvs H) H1)(hD:H1 D=none):(thaw d (p7 H1 D u)) D=some u:=by
 have hDq:D≠d:=fun z=>by rw[z,s _ _ j7] at hD;cases hD
 rw[O8 hDq,j7]
theorem sJ {D d:Addr}{u:HO}{H1:Hp}(hD:H1 D=none):Le H1 (thaw d (p7 H1 D u)):=by
 have s:Same H1 (p7 H1 D u):=fun b v z=>by rw[d7 (d8 z hD)];exact z
 exact s.le.trans jW
theorem cM {pts:List (Str×Str)}(h:(pts.map (·.1)).Nodup):((r6 pts).map (·.1)).Nodup:=by
 rw[C5,←z5]
 refine List.Pairwise.map _ ?_ h
 exact fun a b h z=>h (Sum.inr.inj z)
theorem t7 {α:Type}:∀{l:List (Str×α)} {n:Str} {x y:α},(l.map (·.1)).Nodup→(n,x)∈l→(n,y)∈l→x=y
 |p::r,n,x,y,nd,hx,hy=>by
  have nd':=List.nodup_cons.mp (show(p.1::r.map (·.1)).Nodup from nd)
  rcases List.mem_cons.mp hx with zx|zx
  ·rcases List.mem_cons.mp hy with zy|zy
   ·have:=zx.trans zy.symm
    exact(Prod.mk.inj this).2
   ·exact absurd (List.mem_map.mpr ⟨(n,y),zy,by rw[←zx]⟩) nd'.1
  ·rcases List.mem_cons.mp hy with zy|zy
   ·exact absurd (List.mem_map.mpr ⟨(n,x),zx,by rw[←zy]⟩) nd'.1
   ·exact t7 nd'.2 zx zy
theorem yl {K:PySem.W.Frag}{H:Hp}{kvs:List (j8×V)}{ts:List (Str×N9)}{n:Str}{t:N9}(w:TiesIs K H kvs ts)(nd:(ts.map (·.1)).Nodup)(h:(n,t)∈ts):∃a,z6 kvs (Sum.inr n:j8)=some (.ref a)∧SqT K H a (aP t):=by
 obtain⟨a,x,h1,h2,h3⟩:=TiesIs.val (ts:=ts) w (List.mem_map.mpr ⟨(n,t),h,rfl⟩)
 rw[t7 nd h h2];exact⟨a,h1,h3⟩
theorem M6 {pts:List (Str×Str)}{n k:Str}(nd:(pts.map (·.1)).Nodup)(h:(n,k)∈pts):z6 (r6 pts) (Sum.inr n:j8)=some (.str k):=
 eQ (kv:=(Sum.inr n,.str k)) (cM nd) (List.mem_map.mpr ⟨(n,k),h,rfl⟩)
theorem mE {n:Str}:∀{gs:List Str},DH (.str n) (gs.map V.str)=decide (n∈gs)
 |[]=>rfl
 |g::r=>by
  show(bH (.str g) (.str n)||DH (.str n) (r.map V.str))=_
  rw[mE (gs:=r),show bH (.str g) (.str n)=decide (g=n) by unfold bH;rw[Bool.eq_iff_iff];simp]
  rw[Bool.eq_iff_iff]
  simp
  constructor
  ·rintro(h|h)
   ·exact .inl h.symm
   ·exact .inr h
  ·rintro(h|h)
   ·exact .inl h.symm
   ·exact .inr h
theorem oo {K:PySem.W.Frag}{H:Hp}{Q:VK}{l:Addr}{gs:List Str}{n:Str}(h:SqL K H l (gs.map V.str))(q:Q (.bl (!decide (n∈gs))) H):eY K (.str n) (.ref l) H Q:=
 .inr (.inl ⟨l,_,rfl,.inl h,rfl,vv _,by rw[if_pos rfl,mE];exact q⟩)
theorem fO {α β:Type}{F:α→β→Prop}:∀{l1 l2:List α} {m1 m2:List β},Paired F l1 m1→Paired F l2 m2→Paired F (l1++l2) (m1++m2)
 |_,_,_,_,.nil,h=>h
 |_,_,_,_,.cons r t,h=> .cons r (fO t h)
theorem U7 {K:PySem.W.Frag}{H:Hp}{d:Addr}{k1 k2:List (j8×V)}{kvs:List (j8×V)}{ts:List (Str×N9)}(h:H d=some (.dK k1))(w:TiesIs K H kvs ts):TiesIs K (p7 H d (.dK k2)) kvs ts:=Paired.imp' (fun _ _ z=>Q6 h z) w
theorem M8 {pts:List (Str×Str)}{n:Str}:(z6 (r6 pts) (Sum.inr n:j8)).isSome=decide (n∈pts.map (·.1)):=by
 rw[←az,Bool.eq_iff_iff,List.any_eq_true,decide_eq_true_eq]
 constructor
 ·rintro⟨kv,hkv,e⟩
  obtain⟨x,hx,rfl⟩:=List.mem_map.mp hkv
  exact List.mem_map.mpr ⟨x,hx,Sum.inr.inj (of_decide_eq_true e)⟩
 ·intro m
  obtain⟨x,hx,rfl⟩:=List.mem_map.mp m
  exact⟨_,List.mem_map.mpr ⟨x,hx,rfl⟩,decide_eq_true rfl⟩
theorem aW {K:PySem.W.Frag}{H:Hp}{kvs:List (j8×V)}{ts:List (Str×N9)}{n:Str}(w:TiesIs K H kvs ts):(z6 kvs (Sum.inr n:j8)).isSome=decide (n∈ts.map (·.1)):=by
 by_cases hn:n∈ts.map (·.1)
 ·obtain⟨a,x,h1,_⟩:=TiesIs.val (ts:=ts) w hn
  rw[h1,decide_eq_true hn];rfl
 ·cases e:z6 kvs (Sum.inr n:j8) with
  |none=>simp [hn]
  |some v=>
   have z:=pY e
   rw[w.keys,←z5] at z
   exact absurd (N0 z) hn
theorem tw {α:Type}{xs:List α}(h:0<xs.length):∃v,mS xs (-1)=some v∧v∈xs:=by
 have e:xh xs.length (-1)=some (xs.length -1):=by
  unfold xh
  rw[if_neg (by omega),if_pos (by omega)]
  congr 1
  omega
 refine⟨xs[xs.length -1],?_,List.getElem_mem _⟩
 unfold mS
 rw[e]
 show xs[xs.length -1]?=_
 exact List.getElem?_eq_getElem (by omega)
theorem oM {K:PySem.W.Frag}{H:Hp}{kb:List (j8×V)}:∀{ka:List (j8×V)},(∀kv∈ka,∃y,z6 kb kv.1=some y∧Eq1 K H kv.2 y true)→EqH K H kb ka true
 |[],_=> .nil
 |kv::r,h=>by
  obtain⟨y,h1,h2⟩:=h kv List.mem_cons_self
  exact EqH.hit (e:=true) (b:=true) h1 h2 (oM fun x hx=>h x (List.mem_cons_of_mem _ hx))
theorem xD {K:PySem.W.Frag}{H:Hp}(s:Str):Eq1 K H (.str s) (.str s) true:=by
 have z:=Eq1.flat (K:=K) (H:=H) (x:= .str s) (y:= .str s) rfl rfl
 rw[lF rfl] at z;exact z
theorem tO {K:PySem.W.Frag}{H:Hp}{a b:Addr}{t:N9}(h:SqT K H a (aP t))(h':SqT K H b (aP t)):Eq1 K H (.ref a) (.ref b) true:=by
 have z:=Eq1.tup h h' rfl rfl
 rw[dB rfl] at z;exact z
theorem xY {K:PySem.W.Frag}{H:Hp}{p p':Addr}{pts pts':List (Str×Str)}(hne:p≠p')(h1:Rd H p (.dK (r6 pts)))(h2:Rd H p' (.dK (r6 pts')))(pm:pts.Perm pts')(nd:(pts'.map (·.1)).Nodup):EqD K H p p' true:=
 .inr ⟨hne,_,_,true,h1,h2,oM fun kv hkv=>by
  obtain⟨x,hx,rfl⟩:=List.mem_map.mp hkv
  exact⟨_,M6 nd (pm.mem_iff.mp hx),xD _⟩,by rw[o5,o5,pm.length_eq];simp⟩
theorem sU {K:PySem.W.Frag}{H:Hp}{q q':Addr}{kvs kvs':List (j8×V)}{ts ts':List (Str×N9)}(hne:q≠q')(h1:Rd H q (.dK kvs))(h2:Rd H q' (.dK kvs'))(w:TiesIs K H kvs ts)(w':TiesIs K H kvs' ts')(pm:ts.Perm ts')(nd:(ts'.map (·.1)).Nodup):EqD K H q q' true:=
 .inr ⟨hne,_,_,true,h1,h2,oM fun kv hkv=>by
  obtain⟨i,hi⟩:=List.getElem?_of_mem hkv
  obtain⟨x,hx,ex,b,eb,sb⟩:=w.get hi
  obtain⟨c,e1,e2⟩:=yl w' nd (pm.mem_iff.mp (List.mem_of_getElem? hx))
  refine⟨.ref c,by rw[ex];exact e1,?_⟩
  rw[eb];exact tO sb e2,by rw[w.length,w'.length,pm.length_eq];simp⟩
theorem N3 {K:PySem.W.Frag}{H:Hp}{a d:Addr}{k1:List (j8×V)}{u:HO}{xs:List V}(h:H d=some (.dK k1))(s:SqT K H a xs):SqT K (p7 H d u) a xs:=by
 rcases s with s|s
 ·refine .inl ?_
  by_cases z:a=d
  ·subst z
   rcases s with s|⟨_,s⟩<;>(rw[h] at s;cases s)
  ·unfold Rd
   rw[d7 z];exact s
 ·exact .inr s
abbrev aw (P:Program)(w:World)(K:PySem.W.Frag)(mg:Str→Option Value)(base:Heap):Prop:=F0 P w K mg base x9 1 "_law_cell_at" ["_law_script","_law_k"] [] (Z2 K)
theorem eO {f:Addr}{fd:FuncData}(T:Txt K mg)(F:Fun K "_law_cell_at" "_law_cell_at" P9 f fd):p0 P w K mg base x9 1 f fd ["_law_script","_law_k"] (Z2 K):=by
 refine F.ok sc__law_cell_at (fun vs H Q E h=>?_) (fun cdv A outer s H vs Q E hr h=>?_)
 ·obtain⟨a,ns,k,rfl,_⟩:=h
  rfl
 ·obtain⟨a,ns,k,rfl,hA,hl,h0,q⟩:=h
  have hN:=sc__law_cell_at.nd
  have hu:=A1 hr
  refine⟨_,QSs.r (C6 (fb (C7 oH (qV 1) (qB (K5 K P w) T.b_len Boot.«len» (i9 (qV 0) o3)) (z0 _)) (E6 (C9 (x6 (x8 K hu) (qV 0) (qV 1) (fun _ _=>rfl)))) ie)
   (E6 (C9 j0))),?_⟩
  walk_at "r"
  refine E9 (p9 hA ?_)
  rw[List.length_map]
  walk_at "r"
  refine K4 (fun h1=>?_) (fun h1=>?_)
  ·walk_at "r"
   obtain⟨v,hv,hv'⟩:=nN (xs:=ns.map V.int) (i:=k) h0 (by rw[List.length_map];exact h1)
   rw[List.getElem?_map] at hv'
   obtain⟨m,_,rfl⟩:=Option.map_eq_some_iff.mp hv'
   refine k9 hA hv ?_
   exact q m
  ·walk_at "r"
   exact q 0
abbrev Y8 (P:Program)(w:World)(K:PySem.W.Frag)(mg:Str→Option Value)(base:Heap):Prop:=F0 P w K mg base x9 1 "_law_mix" ["_law_cell","_law_k"] [] (eh K)
theorem kK {f:Addr}{fd:FuncData}(T:Txt K mg)(F:Fun K "_law_mix" "_law_mix" bV f fd):p0 P w K mg base x9 1 f fd ["_law_cell","_law_k"] (eh K):=by
 refine F.ok sc__law_mix (fun vs H Q E h=>?_) (fun cdv A outer s H vs Q E hr h=>?_)
 ·obtain⟨c,k,rfl,_⟩:=h
  rfl
 ·obtain⟨c,k,rfl,h0,h1,q⟩:=h
  have hN:=sc__law_mix.nd
  have hu:=A1 hr
  refine⟨_,QSs.r (E6 (C9 (F7 D6 (F7 (V7 K) (F7 (V7 K) (F7 (V7 K) (F7 bc (qV 0) j0) (F7 bc (F7 bc (qV 1) (qV 1)) j0)) (F7 bc j0 (qV 1))) j0) j0))),?_⟩
  walk_at "r"
  exact q _ (Int.emod_nonneg _ (by decide))
def jG (l:List Nat):Str:=⟨l.toArray⟩
theorem ji (l:List Nat)(c:Nat):jG l++(⟨#[c]⟩:Str)=jG (l++[c]):=by
 unfold jG
 show(⟨l.toArray++ #[c]⟩:Str)=_
 congr 1
 simp
theorem uD {l m:List Nat}(h:jG l=jG m):l=m:=by
 have:=congrArg (fun s:Str=>s.cps.toList) h
 simpa [jG] using this
theorem lS (l:List Nat):(jG l).length=l.length:=by
 show l.toArray.size=_
 simp
def jP (c at_:Int)(k j:Nat):Int:=(c/64+(j:Int)*(j:Int)+if(j:Int)=at_ then 3*(k:Int) else 0) % 26
def av (c at_:Int)(k i:Nat):List Nat:=(List.range i).map fun j:Nat=>gj (jP c at_ k j)
theorem gZ (c at_:Int)(k i:Nat):av c at_ k (i+1)=av c at_ k i++[gj (jP c at_ k i)]:=by
 unfold av
 rw[List.range_succ,List.map_append];rfl
theorem iV (c at_:Int)(k i:Nat):(av c at_ k i).length=i:=by
 unfold av;rw[List.length_map,List.length_range]
def pE (c at_:Int)(n k:Nat):Str:=jG (av c at_ k n)
theorem yf {c at_:Int}{n m:Nat}(h0:0≤at_)(h1:at_<n)(hm:m≤26):((List.range m).map (pE c at_ n)).Nodup:=kZ fun i j hi hj e=>by
 have z:=uD e
 have z2:=congrArg (fun l=>l[at_.toNat]?) z
 unfold av at z2
 simp only[List.getElem?_map,List.getElem?_range (show at_.toNat<n by omega),Option.map_some,Option.some.injEq] at z2
 unfold jP at z2
 rw[if_pos (by omega),if_pos (by omega)] at z2
 generalize (at_.toNat:Int)*(at_.toNat:Int)=w at z2
 generalize c/64=b at z2
 have e1:(b+w+3*(i:Int)) % 26=(((b+w+3*(i:Int)) % 26).toNat:Int):=by omega
 have e2:(b+w+3*(j:Int)) % 26=(((b+w+3*(j:Int)) % 26).toNat:Int):=by omega
 rw[e1,e2] at z2
 have z3:=uU _ _ (by omega) (by omega) z2
 omega
theorem wo:∀i:Nat,i<26→gj i≠63:=by decide+kernel
theorem wN {c at_:Int}{n k:Nat}(hn:0<n):pE c at_ n k≠"?":=fun e=>by
 have e1:("?":Str).cps.toList=[63]:=by decide+kernel
 have e2:=congrArg (fun s:Str=>s.cps.toList) e
 have e3:av c at_ k n=[63]:=by rw[←e1,←e2];rfl
 have e4:=congrArg (fun l=>l[0]?) e3
 unfold av at e4
 simp only[List.getElem?_map,List.getElem?_range hn,Option.map_some,List.getElem?_cons_zero,Option.some.injEq] at e4
 have h0:0≤jP c at_ k 0:=Int.emod_nonneg _ (by decide)
 have h1:jP c at_ k 0<26:=Int.emod_lt_of_pos _ (by decide)
 rw[show jP c at_ k 0=((jP c at_ k 0).toNat:Int) by omega] at e4
 exact wo _ (by omega) e4
abbrev bY (P:Program)(w:World)(K:PySem.W.Frag)(mg:Str→Option Value)(base:Heap):Prop:=F0 P w K mg base x9 1 "_law_names" ["_law_mixed","_law_many"] [] (bo K)
theorem ir {f:Addr}{fd:FuncData}(T:Txt K mg)(F:Fun K "_law_names" "_law_names" X1 f fd):p0 P w K mg base x9 1 f fd ["_law_mixed","_law_many"] (bo K):=by
 refine F.ok sc__law_names (fun vs H Q E h=>?_) (fun cdv A outer s H vs Q E hr h=>?_)
 ·obtain⟨c,rfl,_⟩:=h
  rfl
 ·obtain⟨c,rfl,h0,k⟩:=h
  have hN:=sc__law_names.nd
  have hu:=A1 hr
  refine⟨_,QSs.r (C6 (z8 (i:=2) hN rfl (by walk_at "l") P8)
   (C6 (z8 (i:=3) hN rfl (by walk_at "l") (F7 (V7 K) j0 (F7 D6 (qV 0) j0)))
   (C6 (z8 (i:=4) hN rfl (by walk_at "l") (F7 D6 (F7 D5 (qV 0) j0) (qV 3)))
   (C6 (z8 (i:=5) hN rfl (by walk_at "l") (S7 o3))
   (C6 (cP PassesOwn.never rfl (xI T.b_range (i9 (qV 1) o3)) (U6 (i:=6) hN rfl (by walk_at "l"))
    (C6 (z8 (i:=7) hN rfl (by walk_at "l") P8)
   (C6 (cP PassesOwn.never rfl (xI T.b_range (i9 (qV 3) o3)) (U6 (i:=8) hN rfl (by walk_at "l"))
    (C6 (z8 (i:=9) hN rfl (by walk_at "l") (F7 (V7 K) (F7 D5 (qV 0) j0) (F7 bc (qV 8) (qV 8))))
   (C6 (fb (C7 (N7 K hr) (qV 8) (qV 4) (z0 _)) (E6 (z8 (i:=9) hN rfl (by walk_at "l") (F7 (V7 K) (qV 9) (F7 bc j0 (qV 6))))) ie)
   (E6 (z8 (i:=7) hN rfl (by walk_at "l") (F7 (V7 K) (qV 7) (x6 (x8 K hu) (qV 2) (F7 D6 (qV 9) j0) (fun _ _=>rfl))))))))
   (E6 (wa (qM PySem.F.plainAttrs_list PySem.F.slot_list_append PySem.F.type_list_append Z7 K (qV 5) (i9 (qV 7) o3)))))))
   (E6 (C9 (qV 5)))))))),?_⟩
  walk_at "r"
  have hat0:0≤c/8 % (1+c % 8):=Int.emod_nonneg _ (by omega)
  have hat1:c/8 % (1+c % 8)<1+c % 8:=Int.emod_lt_of_pos _ (by omega)
  generalize hat:c/8 % (1+c % 8)=at_ at hat0 hat1⊢
  refine⟨h9 (by simp),fun lo no=>?_⟩
  obtain⟨H1,e1,f1,m1,_⟩:=d6 (o:= .lst _) no
  rw[e1]
  walk_at "r"
  refine eV (by omega) (by omega) ?_
  refine P2 (n:=8) (fun i σ H'=>(∃v1 v2 v3 v4,σ=[some (.int c),some (.int 8),some (.str Fb),some (.int (1+c % 8)),some (.int at_),some (.ref lo),v1,v2,v3,v4])∧Same H H'∧H' lo=some (.lst (((List.range i).map (pE c at_ (1+c % 8).toNat)).map V.str)))
   ⟨⟨_,_,_,_,rfl⟩,m1,f1⟩ (fun i σ H' hi _=>by exact hi) ?_ ?_
  ·rintro bk i v σ H2' H2 hi ⟨⟨v1,v2,v3,v4,rfl⟩,s2,g2⟩ ⟨rfl,rfl⟩
   walk_at "r"
   refine eV (by omega) (by omega) ?_
   refine P2 (n:=(1+c % 8).toNat) (fun j σ H'=>(∃v3 v4,σ=[some (.int c),some (.int 8),some (.str Fb),some (.int (1+c % 8)),some (.int at_),some (.ref lo),some (.int (0+(i:Int))),some (.str (jG (av c at_ i j))),v3,v4])∧H'=H2)
    ⟨⟨_,_,rfl⟩,rfl⟩ (fun i σ H' hi _=>by exact hi) ?_ ?_
   ·rintro bk2 j v σ H3 H4 hj ⟨⟨v3,v4,rfl⟩,rfl⟩ ⟨rfl,rfl⟩
    have hnl:=lS (av c at_ i j)
    rw[iV] at hnl
    walk_at "r"
    refine K4 (fun hb=>?_) (fun hb=>?_)
    ·walk_at "r"
     have e:(c/64+(0+(j:Int))*(0+(j:Int))+3*(0+(i:Int))) % 26=jP c at_ i j:=by unfold jP;rw[if_pos (by omega),Int.zero_add,Int.zero_add]
     rw[e]
     have q0:0≤jP c at_ i j:=Int.emod_nonneg _ (by decide)
     have q1:jP c at_ i j<26:=Int.emod_lt_of_pos _ (by decide)
     refine kN jq (sV (jP c at_ i j) q0 q1) ?_
     refine K3 (j:=⟨#[gj (jP c at_ i j)]⟩) (h9 (by rw[pF];omega)) ?_
     walk_at "r"
     refine⟨⟨some (.int (0+(j:Int))),some (.int (c/64+(0+(j:Int))*(0+(j:Int))+3*(0+(i:Int)))),?_⟩,rfl⟩
     rw[gZ,←ji];rfl
    ·walk_at "r"
     have e:(c/64+(0+(j:Int))*(0+(j:Int))) % 26=jP c at_ i j:=by unfold jP;rw[if_neg (by omega),Int.zero_add,Int.add_zero]
     rw[e]
     have q0:0≤jP c at_ i j:=Int.emod_nonneg _ (by decide)
     have q1:jP c at_ i j<26:=Int.emod_lt_of_pos _ (by decide)
     refine kN jq (sV (jP c at_ i j) q0 q1) ?_
     refine K3 (j:=⟨#[gj (jP c at_ i j)]⟩) (h9 (by rw[pF];omega)) ?_
     walk_at "r"
     refine⟨⟨some (.int (0+(j:Int))),some (.int (c/64+(0+(j:Int))*(0+(j:Int)))),?_⟩,rfl⟩
     rw[gZ,←ji];rfl
   ·rintro σ H3 ⟨⟨v3,v4,rfl⟩,rfl⟩
    refine⟨Nat.le_refl _,?_⟩
    walk_at "r"
    refine⟨.inl ⟨rfl,_,SqL.of g2⟩,?_⟩
    walk_at "r"
    refine⟨lo,_,_,rfl,rfl,g2,qT (by rw[List.length_map,List.length_map,List.length_range];omega),?_⟩
    refine⟨⟨_,_,_,_,rfl⟩,C8 s2 no,?_⟩
    rw[j7,List.range_succ,List.map_append,List.map_append];rfl
  ·rintro σ H2 ⟨⟨v1,v2,v3,v4,rfl⟩,s2,g2⟩
   refine⟨Nat.le_refl _,?_⟩
   walk_at "r"
   refine k lo H2 _ no s2 g2 ⟨by rw[List.length_map,List.length_range],yf hat0 (by omega) (by omega),fun s hs=>?_,fun hs=>?_⟩
   ·obtain⟨i,_,rfl⟩:=List.mem_map.mp hs
    unfold pE
    rw[lS,iV];omega
   ·obtain⟨i,_,e⟩:=List.mem_map.mp hs
    exact wN (by omega) e
def br (K:PySem.W.Frag):Sp:=fun vs H Q _=>∃(a b c:Addr) (cs:List Int) (ss ks:List Str),vs=[.ref a,.ref b,.int 3,.int 2,.ref c]∧SqL K H a (cs.map V.int)∧SqL K H b (ss.map V.str)∧SqL K H c (ks.map V.str)∧cs.length≤5∧ss.length=8∧0<ks.length∧ks.length≤2∧ss.Nodup∧(∀s∈ss,s.length≤100)∧("?":Str)∉ss∧∀(a p q:Addr) (kvs:List (j8×V)) (W:E7) (H':Hp),Same H H'→WebIs 13 K H' a p q kvs W→(∀n∈k7 W,n∈ss.take 5)→(k7 W).length≤5→Q (.ref a) H'
abbrev cb (P:Program)(w:World)(K:PySem.W.Frag)(mg:Str→Option Value)(base:Heap):Prop:=F0 P w K mg base x9 2 "_law_piece" ["_law_cells","_law_names_here","_law_points_most","_law_ties_most","_law_kinds"] [] (br K)
theorem iA {f:Addr}{fd:FuncData}(T:Txt K mg)(A6:Y8 P w K mg base)(F:Fun K "_law_piece" "_law_piece" W9 f fd):p0 P w K mg base x9 2 f fd ["_law_cells","_law_names_here","_law_points_most","_law_ties_most","_law_kinds"] (br K):=by
 refine F.ok sc__law_piece (fun vs H Q E h=>?_) (fun cdv A outer s H vs Q E hr h=>?_)
 ·obtain⟨a,b,c,cs,ss,ks,rfl,_⟩:=h
  rfl
 ·obtain⟨a,b,c,cs,ss,ks,rfl,hA,hB,hC,hcl,hsl,hk0,hk2,hkl,hs1,hqm,k⟩:=h
  have hN:=sc__law_piece.nd
  have hu:=A1 hr
  refine⟨_,QSs.r (C6 (z8 (i:=5) hN rfl (by walk_at "l") wd)
   (C6 (z8 (i:=6) hN rfl (by walk_at "l") wd)
   (C6 (cP PassesOwn.never rfl (xI T.b_range (i9 (qB (K5 K P w) T.b_len Boot.«len» (i9 (qV 0) o3)) o3)) (U6 (i:=7) hN rfl (by walk_at "l"))
    (C6 (z8 (i:=8) hN rfl (by walk_at "l") (qC A6 (hr.mono (by decide)) o9 (i9 (x6 (x8 K hu) (qV 0) (qV 7) (fun _ _=>rfl)) (i9 (qV 7) o3))))
   (C6 (z8 (i:=9) hN rfl (by walk_at "l") (qB (O6 K rfl) T.b_sorted Boot.«sorted» (i9 (qV 5) o3)))
   (C6 (z8 (i:=10) hN rfl (by walk_at "l") (iH (N7 K hr) (qB (K5 K P w) T.b_len Boot.«len» (i9 (qV 9) o3)) (qV 2) (z0 _)))
   (E6 (fb (vX (dY (C7 tJ (qB (K5 K P w) T.b_len Boot.«len» (i9 (qV 9) o3)) j0 (z0 _)) (dY (C7 oH (qB (K5 K P w) T.b_len Boot.«len» (i9 (qV 6) o3)) (qV 3) (z0 _)) (df (vX (wI (bB K (qV 10)) (pK (C7 (N7 K hr) (F7 D6 (qV 8) j0) j0 (z0 _))))))))) (C6 (z8 (i:=11) hN rfl (by walk_at "l") (x6 (x8 K hu) (qV 9) (F7 D6 (F7 D5 (qV 8) j0) (qB (K5 K P w) T.b_len Boot.«len» (i9 (qV 9) o3))) (fun _ _=>rfl)))
   (C6 (z8 (i:=12) hN rfl (by walk_at "l") (x6 (x8 K hu) (qV 9) (F7 D6 (F7 D5 (qV 8) j0) (qB (K5 K P w) T.b_len Boot.«len» (i9 (qV 9) o3))) (fun _ _=>rfl)))
   (E6 (Y9 (K1 (i9 (x6 (x8 K hu) (qV 4) (F7 D6 (F7 D5 (qV 8) j0) (qB (K5 K P w) T.b_len Boot.«len» (i9 (qV 4) o3))) (fun _ _=>rfl)) (i9 (qV 11) (i9 (qV 12) o3)))) (lE (qV 6) (x6 (x8 K hu) (qV 1) (qV 7) (fun _ _=>rfl)) (x5 P w hu)))))) (E6 (fb (mW (bB K (qV 10))) (E6 (Y9 (x6 (x8 K hu) (qV 4) (F7 D6 (F7 D5 (qV 8) j0) (qB (K5 K P w) T.b_len Boot.«len» (i9 (qV 4) o3))) (fun _ _=>rfl)) (lE (qV 5) (x6 (x8 K hu) (qV 1) (qV 7) (fun _ _=>rfl)) (x5 P w hu)))) ie))))))))
   (E6 (C9 (K1 (i9 (qV 5) (i9 (qV 6) o3)))))))),?_⟩
  walk_at "r"
  intro p np
  obtain⟨H1,e1,f1,m1,_⟩:=d6 (o:= .dK []) np
  rw[e1]
  walk_at "r"
  intro q nq
  obtain⟨H2,e2,f2,m2,_⟩:=d6 (o:= .dK []) nq
  rw[e2]
  have hpq:p≠q:=d8 f1 nq
  have nq0:H q=none:=m1.free nq
  have m12:=m1.trans m2
  walk_at "r"
  refine E9 (p9 (m12.seq hA) ?_)
  walk_at "r"
  rw[List.length_map]
  refine eV (by omega) (by omega) ?_
  refine P2 (n:=cs.length) (fun i σ H'=>∃(pts:List (Str×Str)) (kvs:List (j8×V)) (ts:List (Str×N9)) (v1 v2 v3 v4 v5 v6:Option V),σ=[some (.ref a),some (.ref b),some (.int 3),some (.int 2),some (.ref c),some (.ref p),some (.ref q),v1,v2,v3,v4,v5,v6]∧Same H H'∧H' p=some (.dK (r6 pts))∧H' q=some (.dK kvs)∧TiesIs K H' kvs ts∧(pts.map (·.1)++ts.map (·.1)).Nodup∧(∀x∈pts.map (·.1)++ts.map (·.1),x∈ss.take i)∧(pts.length+ts.length≤i)∧∀x∈ts,x.2.2.1∈pts.map (·.1)∧x.2.2.2∈pts.map (·.1))
   ⟨[],[],[],_,_,_,_,_,_,rfl,m12,m2 _ _ f1,f2,.nil,List.nodup_nil,(fun _ h=>nomatch h),Nat.le_refl _,fun _ h=>nomatch h⟩ (fun i σ H' hi _=>by show i<_;omega) ?_ ?_
  ·rintro bk i v σ H3' H3 hi ⟨pts,kvs,ts,v1,v2,v3,v4,v5,v6,rfl,s3,g3,t3,w3,d1,d2,l1,l2⟩ ⟨rfl,rfl⟩
   obtain⟨nm,hnm,hnm'⟩:∃nm,(ss.map V.str)[i]?=some (.str nm)∧ss[i]?=some nm:=⟨ss[i],by rw[List.getElem?_map,List.getElem?_eq_getElem (by omega)];rfl,List.getElem?_eq_getElem (by omega)⟩
   have hci:(cs.map V.int)[i]?=some (.int cs[i]):=by rw[List.getElem?_map,List.getElem?_eq_getElem hi];rfl
   have e7:ss.take (i+1)=ss.take i++[nm]:=by rw[List.take_succ,hnm'];rfl
   have nin:nm∉ss.take i:=fun m=>by
    have z:(ss.take (i+1)).Nodup:=hkl.sublist (List.take_sublist _ _)
    rw[e7] at z
    exact(List.nodup_append.mp z).2.2 nm m nm (by simp) rfl
   have fresh:nm∉pts.map (·.1)++ts.map (·.1):=fun m=>nin (d2 nm m)
   have sub1:∀x∈pts.map (·.1)++ts.map (·.1),x∈ss.take (i+1):=fun x hx=>by rw[e7];exact List.mem_append_left _ (d2 x hx)
   have hwl:=w3.length
   walk_at "r"
   refine k9 (xs:=cs.map V.int) (s3.seq hA) (i:=0+(i:Int)) (by rw[Int.zero_add];exact b5 (j:=i) hci) ?_
   walk_at "r"
   refine⟨cs[i],0+(i:Int),rfl,by omega,by omega,fun mx hmx=>?_⟩
   walk_at "r"
   refine C0 (ss:=pts.map (·.1)) (.inl g3) (by rw[C5,z5]) (by rw[List.length_map];omega) (fun s1 a1 a2 l1' n1=>?_)
   obtain⟨H6,e6,f6,m6,_⟩:=d6 (o:= .lst _) n1
   rw[e6]
   have s6:=s3.trans m6
   have g6:=m6 _ _ g3
   have t6:=m6 _ _ t3
   have w6:=w3.mono m6.le
   have ha1l:=a1.length_eq
   rw[List.length_map] at ha1l
   walk_at "r"
   refine E9 (p9 (SqL.of f6) ?_)
   rw[List.length_map,ha1l]
   walk_at "r"
   refine E9 (p9 (SqL.of f6) ?_)
   rw[List.length_map,ha1l]
   walk_at "r"
   refine K4 (fun hz=>?_) (fun hz=>?_)
   ·walk_at "r"
    refine E9 (rV (.inl t6) ?_)
    walk_at "r"
    refine K4 (fun h3=>?_) (fun h3=>?_)
    ·walk_at "r"
     refine K4 (fun h4=>?_) (fun h4=>?_)
     ·have hpos:0<pts.length:=by omega
      walk_at "r"
      refine E9 (p9 (SqL.of f6) ?_)
      rw[List.length_map,ha1l]
      walk_at "r"
      obtain⟨o1,ho1,hm1⟩:=E1 (ss:=s1) (i:=mx/2 % (pts.length:Int)) (Int.emod_nonneg _ (by omega)) (by rw[ha1l];exact Int.emod_lt_of_pos _ (by omega))
      refine k9 (SqL.of f6) ho1 ?_
      walk_at "r"
      refine E9 (p9 (SqL.of f6) ?_)
      rw[List.length_map,ha1l]
      walk_at "r"
      obtain⟨o2,ho2,hm2⟩:=E1 (ss:=s1) (i:=mx/14 % (pts.length:Int)) (Int.emod_nonneg _ (by omega)) (by rw[ha1l];exact Int.emod_lt_of_pos _ (by omega))
      refine k9 (SqL.of f6) ho2 ?_
      walk_at "r"
      refine E9 (p9 (s6.seq hC) ?_)
      rw[List.length_map]
      walk_at "r"
      obtain⟨kd,hkd,_⟩:=E1 (ss:=ks) (i:=mx/98 % (ks.length:Int)) (Int.emod_nonneg _ (by omega)) (Int.emod_lt_of_pos _ (by omega))
      refine k9 (s6.seq hC) hkd ?_
      walk_at "r"
      refine⟨h9 (by simp),fun l9 n9=>?_⟩
      obtain⟨H9,e9,f9,m9,_⟩:=d6 (o:= .tup _) n9
      rw[e9]
      have s9:=s6.trans m9
      walk_at "r"
      refine k9 (xs:=ss.map V.str) (s9.seq hB) (i:=0+(i:Int)) (by rw[Int.zero_add];exact b5 (j:=i) hnm) ?_
      refine J0 (u6 (k:=Sum.inr nm) (m9 _ _ t6) (h9 (by omega)) ?_)
      have w9:=w6.mono m9.le
      rw[K9 _ (D3 (by rw[w9.keys,←z5];exact fun m=>fresh (List.mem_append_right _ (N0 m))))]
      refine⟨pts,kvs++[(Sum.inr nm,.ref l9)],ts++[(nm,(kd,o1,o2))],_,_,_,_,_,_,rfl,C8 s9 nq0,by rw[d7 hpq];exact m9 _ _ g6,j7,z9 (Paired.imp' (fun _ _ z=>Q6 (m9 _ _ t6) z) w9) (Q6 (m9 _ _ t6) ⟨rfl,l9,rfl,SqT.of f9⟩),?_,?_,?_,?_⟩
      ·rw[List.map_append,←List.append_assoc]
       exact F6 d1 fresh
      ·intro x hx
       rw[List.map_append,←List.append_assoc] at hx
       rcases List.mem_append.mp hx with h'|h'
       ·exact sub1 x h'
       ·rw[e7,show x=nm by simpa using h'];simp
      ·rw[List.length_append,List.length_singleton];omega
      ·intro x hx
       rcases List.mem_append.mp hx with h'|h'
       ·exact l2 x h'
       ·rw[List.mem_singleton.mp h'];exact⟨a1.mem_iff.mp hm1,a1.mem_iff.mp hm2⟩
     ·walk_at "r"
      refine K4 (fun h5=>?_) (fun h5=>?_)
      ·have hpos:0<pts.length:=by omega
       walk_at "r"
       refine E9 (p9 (SqL.of f6) ?_)
       rw[List.length_map,ha1l]
       walk_at "r"
       obtain⟨o1,ho1,hm1⟩:=E1 (ss:=s1) (i:=mx/2 % (pts.length:Int)) (Int.emod_nonneg _ (by omega)) (by rw[ha1l];exact Int.emod_lt_of_pos _ (by omega))
       refine k9 (SqL.of f6) ho1 ?_
       walk_at "r"
       refine E9 (p9 (SqL.of f6) ?_)
       rw[List.length_map,ha1l]
       walk_at "r"
       obtain⟨o2,ho2,hm2⟩:=E1 (ss:=s1) (i:=mx/14 % (pts.length:Int)) (Int.emod_nonneg _ (by omega)) (by rw[ha1l];exact Int.emod_lt_of_pos _ (by omega))
       refine k9 (SqL.of f6) ho2 ?_
       walk_at "r"
       refine E9 (p9 (s6.seq hC) ?_)
       rw[List.length_map]
       walk_at "r"
       obtain⟨kd,hkd,_⟩:=E1 (ss:=ks) (i:=mx/98 % (ks.length:Int)) (Int.emod_nonneg _ (by omega)) (Int.emod_lt_of_pos _ (by omega))
       refine k9 (s6.seq hC) hkd ?_
       walk_at "r"
       refine⟨h9 (by simp),fun l9 n9=>?_⟩
       obtain⟨H9,e9,f9,m9,_⟩:=d6 (o:= .tup _) n9
       rw[e9]
       have s9:=s6.trans m9
       walk_at "r"
       refine k9 (xs:=ss.map V.str) (s9.seq hB) (i:=0+(i:Int)) (by rw[Int.zero_add];exact b5 (j:=i) hnm) ?_
       refine J0 (u6 (k:=Sum.inr nm) (m9 _ _ t6) (h9 (by omega)) ?_)
       have w9:=w6.mono m9.le
       rw[K9 _ (D3 (by rw[w9.keys,←z5];exact fun m=>fresh (List.mem_append_right _ (N0 m))))]
       refine⟨pts,kvs++[(Sum.inr nm,.ref l9)],ts++[(nm,(kd,o1,o2))],_,_,_,_,_,_,rfl,C8 s9 nq0,by rw[d7 hpq];exact m9 _ _ g6,j7,z9 (Paired.imp' (fun _ _ z=>Q6 (m9 _ _ t6) z) w9) (Q6 (m9 _ _ t6) ⟨rfl,l9,rfl,SqT.of f9⟩),?_,?_,?_,?_⟩
       ·rw[List.map_append,←List.append_assoc]
        exact F6 d1 fresh
       ·intro x hx
        rw[List.map_append,←List.append_assoc] at hx
        rcases List.mem_append.mp hx with h'|h'
        ·exact sub1 x h'
        ·rw[e7,show x=nm by simpa using h'];simp
       ·rw[List.length_append,List.length_singleton];omega
       ·intro x hx
        rcases List.mem_append.mp hx with h'|h'
        ·exact l2 x h'
        ·rw[List.mem_singleton.mp h'];exact⟨a1.mem_iff.mp hm1,a1.mem_iff.mp hm2⟩
      ·have h5':=h5
       walk_at "r"
       refine Y5 (fun hf=>?_) (fun hf=>?_)
       ·have hf1:=hf
        walk_at "r"
        refine E9 (p9 (s6.seq hC) ?_)
        rw[List.length_map]
        walk_at "r"
        obtain⟨kd,hkd,_⟩:=E1 (ss:=ks) (i:=mx/2 % (ks.length:Int)) (Int.emod_nonneg _ (by omega)) (Int.emod_lt_of_pos _ (by omega))
        refine k9 (s6.seq hC) hkd ?_
        walk_at "r"
        refine k9 (xs:=ss.map V.str) (s6.seq hB) (i:=0+(i:Int)) (by rw[Int.zero_add];exact b5 (j:=i) hnm) ?_
        refine J0 (u6 (k:=Sum.inr nm) g6 (h9 (by rw[o5];omega)) ?_)
        have ep:D0 (r6 pts) (Sum.inr nm:j8) (.str kd)=r6 (pts++[(nm,kd)]):=by
         rw[K9 _ (D3 (by rw[C5,←z5];exact fun m=>fresh (List.mem_append_left _ (N0 m))))]
         unfold r6;rw[List.map_append];rfl
        refine⟨pts++[(nm,kd)],kvs,ts,_,_,_,_,_,_,rfl,C8 s6 np,by rw[j7,ep],by rw[d7 (Ne.symm hpq)];exact t6,Paired.imp' (fun _ _ z=>Q6 g6 z) w6,?_,?_,?_,?_⟩
        ·exact ng d1 fresh
        ·exact jX sub1 (by rw[e7];simp)
        ·rw[List.length_append,List.length_singleton];omega
        ·intro x hx
         rw[List.map_append]
         exact⟨List.mem_append_left _ (l2 x hx).1,List.mem_append_left _ (l2 x hx).2⟩
       ·have hf2:=hf
        walk_at "r"
        exact⟨pts,kvs,ts,_,_,_,_,_,_,rfl,s6,g6,t6,w6,d1,sub1,by omega,l2⟩
    ·have h3':=h3
     walk_at "r"
     refine Y5 (fun hf=>?_) (fun hf=>?_)
     ·have hf1:=hf
      walk_at "r"
      refine E9 (p9 (s6.seq hC) ?_)
      rw[List.length_map]
      walk_at "r"
      obtain⟨kd,hkd,_⟩:=E1 (ss:=ks) (i:=mx/2 % (ks.length:Int)) (Int.emod_nonneg _ (by omega)) (Int.emod_lt_of_pos _ (by omega))
      refine k9 (s6.seq hC) hkd ?_
      walk_at "r"
      refine k9 (xs:=ss.map V.str) (s6.seq hB) (i:=0+(i:Int)) (by rw[Int.zero_add];exact b5 (j:=i) hnm) ?_
      refine J0 (u6 (k:=Sum.inr nm) g6 (h9 (by rw[o5];omega)) ?_)
      have ep:D0 (r6 pts) (Sum.inr nm:j8) (.str kd)=r6 (pts++[(nm,kd)]):=by
       rw[K9 _ (D3 (by rw[C5,←z5];exact fun m=>fresh (List.mem_append_left _ (N0 m))))]
       unfold r6;rw[List.map_append];rfl
      refine⟨pts++[(nm,kd)],kvs,ts,_,_,_,_,_,_,rfl,C8 s6 np,by rw[j7,ep],by rw[d7 (Ne.symm hpq)];exact t6,Paired.imp' (fun _ _ z=>Q6 g6 z) w6,?_,?_,?_,?_⟩
      ·exact ng d1 fresh
      ·exact jX sub1 (by rw[e7];simp)
      ·rw[List.length_append,List.length_singleton];omega
      ·intro x hx
       rw[List.map_append]
       exact⟨List.mem_append_left _ (l2 x hx).1,List.mem_append_left _ (l2 x hx).2⟩
     ·have hf2:=hf
      walk_at "r"
      exact⟨pts,kvs,ts,_,_,_,_,_,_,rfl,s6,g6,t6,w6,d1,sub1,by omega,l2⟩
   ·have hz':=hz
    walk_at "r"
    refine Y5 (fun hf=>?_) (fun hf=>?_)
    ·have hf1:=hf
     walk_at "r"
     refine E9 (p9 (s6.seq hC) ?_)
     rw[List.length_map]
     walk_at "r"
     obtain⟨kd,hkd,_⟩:=E1 (ss:=ks) (i:=mx/2 % (ks.length:Int)) (Int.emod_nonneg _ (by omega)) (Int.emod_lt_of_pos _ (by omega))
     refine k9 (s6.seq hC) hkd ?_
     walk_at "r"
     refine k9 (xs:=ss.map V.str) (s6.seq hB) (i:=0+(i:Int)) (by rw[Int.zero_add];exact b5 (j:=i) hnm) ?_
     refine J0 (u6 (k:=Sum.inr nm) g6 (h9 (by rw[o5];omega)) ?_)
     have ep:D0 (r6 pts) (Sum.inr nm:j8) (.str kd)=r6 (pts++[(nm,kd)]):=by
      rw[K9 _ (D3 (by rw[C5,←z5];exact fun m=>fresh (List.mem_append_left _ (N0 m))))]
      unfold r6;rw[List.map_append];rfl
     refine⟨pts++[(nm,kd)],kvs,ts,_,_,_,_,_,_,rfl,C8 s6 np,by rw[j7,ep],by rw[d7 (Ne.symm hpq)];exact t6,Paired.imp' (fun _ _ z=>Q6 g6 z) w6,?_,?_,?_,?_⟩
     ·exact ng d1 fresh
     ·exact jX sub1 (by rw[e7];simp)
     ·rw[List.length_append,List.length_singleton];omega
     ·intro x hx
      rw[List.map_append]
      exact⟨List.mem_append_left _ (l2 x hx).1,List.mem_append_left _ (l2 x hx).2⟩
    ·have hf2:=hf
     walk_at "r"
     exact⟨pts,kvs,ts,_,_,_,_,_,_,rfl,s6,g6,t6,w6,d1,sub1,by omega,l2⟩
  ·rintro σ H3 ⟨pts,kvs,ts,v1,v2,v3,v4,v5,v6,rfl,s3,g3,t3,w3,d1,d2,l1,l2⟩
   refine⟨by show cs.length≤_;omega,?_⟩
   walk_at "r"
   refine⟨h9 (by simp),fun l9 n9=>?_⟩
   obtain⟨H9,e9,f9,m9,_⟩:=d6 (o:= .tup _) n9
   rw[e9]
   exact k l9 p q kvs ⟨pts,ts⟩ H9 (s3.trans m9) ⟨⟨SqT.of f9,.inl (m9 _ _ g3),.inl (m9 _ _ t3),w3.mono m9.le⟩,m9 _ _ g3,m9 _ _ t3,hpq,d1,by show(pts.map (·.1)++ts.map (·.1)).length≤13;rw[List.length_append,List.length_map,List.length_map];omega,l2,fun x hx=>hs1 x (List.mem_of_mem_take (d2 x hx)),fun hx=>hqm (List.mem_of_mem_take (d2 _ hx))⟩ (fun x hx=>(List.take_sublist_take_left (show cs.length≤5 by omega)).subset (d2 x hx)) (by show(pts.map (·.1)++ts.map (·.1)).length≤5;rw[List.length_append,List.length_map,List.length_map];omega)
structure Ordr (W:E7) (s1 s2:List Str):Prop where
 p1:s1.Perm (W.pts.map (·.1))
 p2:s2.Perm (W.ts.map (·.1))
 o1:sortedS s1=true
 o2:sortedS s2=true
theorem Ordr.mem {W:E7}{s1 s2:List Str}(h:Ordr W s1 s2){n:Str}:n∈s1++s2↔n∈k7 W:=by
 unfold k7
 rw[List.mem_append,List.mem_append,h.p1.mem_iff,h.p2.mem_iff]
theorem Ordr.perm {W:E7}{s1 s2:List Str}(h:Ordr W s1 s2):(s1++s2).Perm (k7 W):=h.p1.append h.p2
theorem Ordr.len {W:E7}{s1 s2:List Str}(h:Ordr W s1 s2):(s1++s2).length=(k7 W).length:=h.perm.length_eq
def jZ (kvm:List (j8×V))(n:Str):Str:=match z6 kvm (Sum.inr n:j8) with
 |some (.str s)=>s
 |_=>""
theorem qc {kvm:List (j8×V)}{n s:Str}(h:z6 kvm (Sum.inr n:j8)=some (.str s)):jZ kvm n=s:=by unfold jZ;rw[h]
def TxtAt (kvm:List (j8×V))(n:Str):Prop:=∃s,z6 kvm (Sum.inr n:j8)=some (.str s)
theorem TxtAt.at_ {kvm:List (j8×V)}{n:Str}(h:TxtAt kvm n):z6 kvm (Sum.inr n:j8)=some (.str (jZ kvm n)):=by
 obtain⟨s,hs⟩:=h
 rw[qc hs];exact hs
theorem yD {H:Hp}{Q:VK}{d:Addr}{kvm:List (j8×V)}{n:Str}(hD:Rd H d (.dK kvm))(h:TxtAt kvm n)(q:Q (.str (jZ kvm n)) H):nZ K (.ref d) (.str n) H Q:=
 E4 (by have z:=L0 (k:=Sum.inr n) hD;rw[h.at_] at z;exact z) q
def dg (K:PySem.W.Frag):Sp:=fun vs H Q _=>∃(a p q:Addr) (kvs:List (j8×V)) (W:E7),vs=[.ref a]∧WebAt K H a p q kvs W∧(k7 W).length≤60∧∀(l:Addr) (H':Hp) (s1 s2:List Str),H l=none→Same H H'→H' l=some (.lst ((s1++s2).map V.str))→Ordr W s1 s2→Q (.ref l) H'
theorem K8 (W:E7):(k7 W).length=W.pts.length+W.ts.length:=by unfold k7;rw[List.length_append,List.length_map,List.length_map]
abbrev dD (K:PySem.W.Frag):Sp:=dg K
abbrev gb (P:Program)(w:World)(K:PySem.W.Frag)(mg:Str→Option Value)(base:Heap):Prop:=F0 P w K mg base x9 1 "things" ["web"] [] (dg K)
theorem rN {f:Addr}{fd:FuncData}(T:Txt K mg)(F:Fun K "things" "things" fP f fd):p0 P w K mg base x9 1 f fd ["web"] (dg K):=by
 refine F.ok sc_things (fun vs H Q E h=>?_) (fun cdv A outer s H vs Q E hr h=>?_)
 ·obtain⟨a,p,q,kvs,W,rfl,_⟩:=h
  rfl
 ·obtain⟨a,p,q,kvs,W,rfl,hW,h1,k⟩:=h
  rw[K8] at h1
  have hN:=sc_things.nd
  have hu:=A1 hr
  refine⟨_,QSs.r (E6 (C9 (F7 (V7 K) (qB (O6 K rfl) T.b_sorted Boot.«sorted» (i9 (x6 (x8 K hu) (qV 0) j0 (fun _ _=>rfl)) o3)) (qB (O6 K rfl) T.b_sorted Boot.«sorted» (i9 (x6 (x8 K hu) (qV 0) j0 (fun _ _=>rfl)) o3))))),?_⟩
  walk_at "r"
  refine b7 hW.tup (b5 (j:=0) rfl) ?_
  walk_at "r"
  refine C0 (ss:=W.pts.map (·.1)) hW.pts (by rw[C5,z5]) (by rw[List.length_map];omega) (fun s1 a1 a2 l1 n1=>?_)
  obtain⟨H1,e1,f1,m1,_⟩:=d6 (o:= .lst _) n1
  rw[e1]
  have W1:=hW.mono m1.le
  walk_at "r"
  refine b7 W1.tup (b5 (j:=1) rfl) ?_
  walk_at "r"
  refine C0 (ss:=W.ts.map (·.1)) W1.ties (by rw[W1.ts.keys,z5]) (by rw[List.length_map];omega) (fun s2 b1 b2 l2 n2=>?_)
  obtain⟨H2,e2,f2,m2,_⟩:=d6 (o:= .lst _) n2
  rw[e2]
  have g1:=a1.length_eq
  have g2:=b1.length_eq
  rw[List.length_map] at g1 g2
  refine vK (m2 _ _ f1) f2 (h9 (by rw[List.length_map,List.length_map];omega)) (fun l3 n3=>?_)
  obtain⟨H3,e3,f3,m3,_⟩:=d6 (o:= .lst _) n3
  rw[e3]
  refine k l3 H3 s1 s2 (m1.free (m2.free n3)) (m1.trans (m2.trans m3)) ?_ ⟨a1,b1,a2,b2⟩
  rw[f3,List.map_append]
abbrev X4 (P:Program)(w:World)(K:PySem.W.Frag)(mg:Str→Option Value)(base:Heap):Prop:=F0 P w K mg base x9 1 "_law_all" ["_law_web"] [] (dD K)
theorem lR {f:Addr}{fd:FuncData}(T:Txt K mg)(F:Fun K "_law_all" "_law_all" bG f fd):p0 P w K mg base x9 1 f fd ["_law_web"] (dD K):=by
 refine F.ok sc__law_all (fun vs H Q E h=>?_) (fun cdv A outer s H vs Q E hr h=>?_)
 ·obtain⟨a,p,q,kvs,W,rfl,_⟩:=h
  rfl
 ·obtain⟨a,p,q,kvs,W,rfl,hW,h1,k⟩:=h
  rw[K8] at h1
  have hN:=sc__law_all.nd
  have hu:=A1 hr
  refine⟨_,QSs.r (E6 (C9 (F7 (V7 K) (qB (O6 K rfl) T.b_sorted Boot.«sorted» (i9 (x6 (x8 K hu) (qV 0) j0 (fun _ _=>rfl)) o3)) (qB (O6 K rfl) T.b_sorted Boot.«sorted» (i9 (x6 (x8 K hu) (qV 0) j0 (fun _ _=>rfl)) o3))))),?_⟩
  walk_at "r"
  refine b7 hW.tup (b5 (j:=0) rfl) ?_
  walk_at "r"
  refine C0 (ss:=W.pts.map (·.1)) hW.pts (by rw[C5,z5]) (by rw[List.length_map];omega) (fun s1 a1 a2 l1 n1=>?_)
  obtain⟨H1,e1,f1,m1,_⟩:=d6 (o:= .lst _) n1
  rw[e1]
  have W1:=hW.mono m1.le
  walk_at "r"
  refine b7 W1.tup (b5 (j:=1) rfl) ?_
  walk_at "r"
  refine C0 (ss:=W.ts.map (·.1)) W1.ties (by rw[W1.ts.keys,z5]) (by rw[List.length_map];omega) (fun s2 b1 b2 l2 n2=>?_)
  obtain⟨H2,e2,f2,m2,_⟩:=d6 (o:= .lst _) n2
  rw[e2]
  have g1:=a1.length_eq
  have g2:=b1.length_eq
  rw[List.length_map] at g1 g2
  refine vK (m2 _ _ f1) f2 (h9 (by rw[List.length_map,List.length_map];omega)) (fun l3 n3=>?_)
  obtain⟨H3,e3,f3,m3,_⟩:=d6 (o:= .lst _) n3
  rw[e3]
  refine k l3 H3 s1 s2 (m1.free (m2.free n3)) (m1.trans (m2.trans m3)) ?_ ⟨a1,b1,a2,b2⟩
  rw[f3,List.map_append]
theorem pL:∀{kvs:List (j8×V)} {k:j8} {v:V},z6 kvs k=some v→(k,v)∈kvs
 |p::r,k,v,h=>by
  by_cases e:p.1=k
  ·rw[V2 e] at h
   rw[←e,←Option.some.inj h];exact List.mem_cons_self
  ·rw[V3 e] at h
   exact List.mem_cons_of_mem _ (pL h)
theorem pS {pts:List (Str×Str)}{n:Str}{v:V}(h:z6 (r6 pts) (Sum.inr n:j8)=some v):∃k,v= .str k∧(n,k)∈pts:=by
 obtain⟨x,hx,e⟩:=List.mem_map.mp (pL h)
 obtain⟨x1,x2⟩:=x
 have e1:=(Prod.mk.inj e).1
 have e2:=(Prod.mk.inj e).2
 exact⟨x2,e2.symm,by rw[←Sum.inr.inj e1];exact hx⟩
theorem L9 {W:E7}(h:(k7 W).Nodup):(W.pts.map (·.1)).Nodup:=(List.nodup_append.mp h).1
theorem cw {W:E7}(h:(k7 W).Nodup):(W.ts.map (·.1)).Nodup:=(List.nodup_append.mp h).2.1
theorem O9 {pts:List (Str×Str)}{n s:Str}(h:n∉pts.map (·.1)):D0 (r6 pts) (Sum.inr n:j8) (.str s)=r6 (pts++[(n,s)]):=by
 rw[K9 _ (D3 (by rw[C5,←z5];exact fun m=>h (N0 m)))]
 unfold r6;rw[List.map_append];rfl
theorem cn {ms:List (Str×Str)}{n m:Str}(nd:(ms.map (·.1)).Nodup)(h:(n,m)∈ms):jZ (r6 ms) n=m:=qc (M6 nd h)
theorem bL {p b:Addr}{o:Obj}{kvs:List (j8×V)}{H:Hp}(h:b≠p):K0 p o kvs H b=H b:=d7 h
theorem Bs {p:Addr}{o:Obj}{kvs:List (j8×V)}{H:Hp}:K0 p o kvs H p=some (.frz o (.dK kvs)):=j7
theorem kP {p:Addr}{o:Obj}{kvs:List (j8×V)}{H H1:Hp}(s:Same H H1):Same (K0 p o kvs H) (K0 p o kvs H1):=fun b u hb=>by
 by_cases z:b=p
 ·rw[z,Bs] at hb⊢;exact hb
 ·rw[bL z] at hb⊢;exact s _ _ hb
theorem X3 {l:List Str}{x:Str}{i:Nat}(nd:l.Nodup)(h:l[i]?=some x):x∉l.take i:=fun m=>by
 have e7:l.take (i+1)=l.take i++[x]:=by rw[List.take_succ,h];rfl
 have z:(l.take (i+1)).Nodup:=nd.sublist (List.take_sublist _ _)
 rw[e7] at z
 exact(List.nodup_append.mp z).2.2 x m x (by simp) rfl
def dU (K:PySem.W.Frag):Sp:=fun vs H Q _=>∃(d:Addr) (kvs:List (j8×V)) (ss:List Str),vs=[.ref d]∧Rd H d (.dK kvs)∧kvs.map (·.1)=ss.map Sum.inr∧ss.Nodup∧ss.length≤60∧∀(l:Addr) (H':Hp) (kvs':List (j8×V)),H l=none→Same H H'→H' l=some (.dK kvs')→kvs'.Perm kvs→Q (.ref l) H'
def aA (K:PySem.W.Frag):Sp:=fun vs H Q _=>∃(t d:Addr) (x:N9) (nm:List (j8×V)) (u v:Str),vs=[.ref t,.ref d]∧SqT K H t (aP x)∧Rd H d (.dK nm)∧z6 nm (Sum.inr x.2.1:j8)=some (.str u)∧z6 nm (Sum.inr x.2.2:j8)=some (.str v)∧∀(t':Addr) (H':Hp),H t'=none→Same H H'→H' t'=some (.tup (aP (x.1,u,v)))→Q (.ref t') H'
def Cm (K:PySem.W.Frag)(H:Hp)(Q:VK)(W:E7):Prop:=∀(a p q:Addr) (kvs:List (j8×V)) (W':E7) (H':Hp),Same H H'→WebAt K H' a p q kvs W'→H' p=some (.dK (r6 W'.pts))→H' q=some (.dK kvs)→p≠q→H p=none→H q=none→W'.pts.Perm W.pts→W'.ts.Perm W.ts→Q (.ref a) H'
def je (K:PySem.W.Frag):Sp:=fun vs H Q _=>∃(a p q:Addr) (kvs:List (j8×V)) (W:E7),vs=[.ref a]∧WebAt K H a p q kvs W∧(W.pts.map (·.1)).Nodup∧(W.ts.map (·.1)).Nodup∧W.pts.length≤60∧W.ts.length≤60∧Cm K H Q W
def E2 (f:Str→Str)(W:E7):E7:=⟨W.pts.map fun x=>(f x.1,x.2),W.ts.map fun x=>(f x.1,(x.2.1,f x.2.2.1,f x.2.2.2))⟩
def fh (K:PySem.W.Frag):Sp:=fun vs H Q _=>∃(a d p q:Addr) (kvs nm:List (j8×V)) (W:E7) (f:Str→Str),vs=[.ref a,.ref d]∧WebAt K H a p q kvs W∧H p=some (.dK (r6 W.pts))∧H q=some (.dK kvs)∧Rd H d (.dK nm)∧(∀n∈k7 W,z6 nm (Sum.inr n:j8)=some (.str (f n)))∧((k7 W).map f).Nodup∧(k7 W).length≤60∧
 (∀x∈W.ts,x.2.2.1∈W.pts.map (·.1)∧x.2.2.2∈W.pts.map (·.1))∧Cm K H Q (E2 f W)
abbrev fj (P:Program)(w:World)(K:PySem.W.Frag)(mg:Str→Option Value)(base:Heap):Prop:=F0 P w K mg base x9 1 "in_order" ["named"] [] (dU K)
theorem mH {f:Addr}{fd:FuncData}(T:Txt K mg)(F:Fun K "in_order" "in_order" bM f fd):p0 P w K mg base x9 1 f fd ["named"] (dU K):=by
 refine F.ok sc_in_order (fun vs H Q E h=>?_) (fun cdv A outer s H vs Q E hr h=>?_)
 ·obtain⟨d,kvs,ss,rfl,_⟩:=h
  rfl
 ·obtain⟨d,kvs,ss,rfl,hd,hk,hnd,hl,k⟩:=h
  have nd:(kvs.map (·.1)).Nodup:=by
   rw[hk]
   refine List.Pairwise.map _ ?_ hnd
   exact fun a b h z=>h (Sum.inr.inj z)
  have hN:=sc_in_order.nd
  have hu:=A1 hr
  refine⟨_,QSs.r (E6 (C9 (kI (aU K rfl) T.b_dict Boot.«dict» (i9 (V4 (own:=["name"]) (js:=[0]) (by kernel_rfl) rfl (af K (qB (O6 K rfl) T.b_sorted Boot.«sorted» (i9 (qV 0) o3))) (fun _ _ _ _=>(U6 (i:=0) (show List.Nodup (["name","named"]:List Str) by decide+kernel) rfl (by walk_at "l"))) (fun _ _ _ _=>gn) (fun _ _ _ _=>(K1 (i9 (qV 0) (i9 (x6 (x8 K hu) (qV 1) (qV 0) (fun _ _=>rfl)) o3))))) o3)))),?_⟩
  walk_at "r"
  refine C0 (ss:=ss) hd hk (by omega) (fun s1 a1 a2 l1 n1=>?_)
  obtain⟨H1,e1,f1,m1,_⟩:=d6 (o:= .lst _) n1
  rw[e1]
  have hd1:=m1.rd hd
  have hl1:=a1.length_eq
  refine C4 (SqL.of f1) ?_
  refine F8 (n:=s1.length) (fun i out H'=>Same H1 H'∧Paired (PrV K H') out ((s1.take i).map fun s=>(Sum.inr s,(z6 kvs (Sum.inr s:j8)).getD .non))) ⟨Same.refl _,.nil⟩ (fun i out H' hi hp=>⟨_,.str (s1[i]),SqL.of (hp.1 _ _ f1),by rw[List.getElem?_map,List.getElem?_eq_getElem hi];rfl⟩) ?_ ?_
  ·rintro N i v out H2 H3 hi ⟨s2,pr⟩ y hN'
   obtain⟨rfl,hx⟩:=Itl.get y (SqL.of (s2 _ _ f1))
   rw[List.getElem?_map] at hx
   obtain⟨x,hx',rfl⟩:=Option.map_eq_some_iff.mp hx
   have hxk:(Sum.inr x:j8)∈kvs.map (·.1):=by
    rw[hk];exact List.mem_map.mpr ⟨x,a1.mem_iff.mp (List.mem_of_getElem? hx'),rfl⟩
   obtain⟨kv,hkv,ekv⟩:=List.mem_map.mp hxk
   have ev:=eQ nd hkv
   rw[ekv] at ev
   have e7:s1.take (i+1)=s1.take i++[x]:=by rw[List.take_succ,hx'];rfl
   walk_at "r"
   refine⟨rfl,?_⟩
   walk_at "r"
   refine E4 (v:=kv.2) (by have z':=L0 (k:=Sum.inr x) (s2.rd hd1);rw[ev] at z';exact z') ?_
   walk_at "r"
   refine⟨h9 (by simp),fun t nt=>?_⟩
   obtain⟨H4,e4,f4,m4,_⟩:=d6 (o:= .tup _) nt
   rw[e4]
   have hol:=Paired.length pr
   rw[List.length_map,List.length_take] at hol
   refine⟨h9 (by omega),hN' _ _ ⟨s2.trans m4,?_⟩⟩
   rw[e7,List.map_append]
   refine z9 (Paired.imp' (fun _ _ z=>PrV.mono m4.le z) pr) ⟨t,rfl,?_⟩
   show SqT K _ t [V.str x,(z6 kvs (Sum.inr x:j8)).getD V.non]
   rw[ev]
   exact SqT.of f4
  ·rintro out H2 ⟨s2,pr⟩
   have hol:=Paired.length pr
   rw[List.length_map,List.length_take] at hol
   refine⟨⟨_,SqL.of (s2 _ _ f1),by rw[List.length_map];exact Nat.le_refl _⟩,fun D hD=>⟨h9 (by omega),?_⟩⟩
   obtain⟨H5,e5,f5,m5,_⟩:=d6 (o:= .lst out) hD
   show tN _ (p7 _ D _) _
   rw[e5]
   walk_at "r"
   rw[List.take_of_length_le (Nat.le_refl _)] at pr
   refine M4 (SqL.of f5) (Paired.imp' (fun _ _ z=>PrV.mono m5.le z) pr) (h9 (by rw[List.length_map];omega)) (fun l nl=>?_)
   obtain⟨H6,e6,f6,m6,_⟩:=d6 (o:= .dK _) nl
   rw[e6]
   have mA:=m1.trans (s2.trans (m5.trans m6))
   have hperm:(s1.map fun s=>((Sum.inr s:j8),(z6 kvs (Sum.inr s:j8)).getD V.non)).Perm kvs:=by
    refine List.Perm.trans (a1.map _) ?_
    rw[←zv hk nd]
   rw[U9 ((hperm.map _).nodup_iff.mpr nd)] at f6
   exact k l H6 _ ((m1.trans (s2.trans m5)).free nl) mA f6 hperm
abbrev bp (P:Program)(w:World)(K:PySem.W.Frag)(mg:Str→Option Value)(base:Heap):Prop:=F0 P w K mg base x9 1 "tie_renamed" ["tie","names"] [] (aA K)
theorem fL {f:Addr}{fd:FuncData}(T:Txt K mg)(F:Fun K "tie_renamed" "tie_renamed" T5 f fd):p0 P w K mg base x9 1 f fd ["tie","names"] (aA K):=by
 refine F.ok sc_tie_renamed (fun vs H Q E h=>?_) (fun cdv A outer s H vs Q E hr h=>?_)
 ·obtain⟨t,d,x,nm,u,v,rfl,_⟩:=h
  rfl
 ·obtain⟨t,d,x,nm,u,v,rfl,ht,hd,hu1,hv1,k⟩:=h
  have hN:=sc_tie_renamed.nd
  have hu:=A1 hr
  refine⟨_,QSs.r (E6 (C9 (K1 (i9 (x6 (x8 K hu) (qV 0) j0 (fun _ _=>rfl)) (i9 (x6 (x8 K hu) (qV 1) (x6 (x8 K hu) (qV 0) j0 (fun _ _=>rfl)) (fun _ _=>rfl)) (i9 (x6 (x8 K hu) (qV 1) (x6 (x8 K hu) (qV 0) j0 (fun _ _=>rfl)) (fun _ _=>rfl)) o3)))))),?_⟩
  walk_at "r"
  refine b7 ht (b5 (j:=0) rfl) ?_
  walk_at "r"
  refine b7 ht (b5 (j:=1) rfl) ?_
  refine E4 (v:= .str u) (by have z':=L0 (k:=Sum.inr x.2.1) hd;rw[hu1] at z';exact z') ?_
  walk_at "r"
  refine b7 ht (b5 (j:=2) rfl) ?_
  refine E4 (v:= .str v) (by have z':=L0 (k:=Sum.inr x.2.2) hd;rw[hv1] at z';exact z') ?_
  walk_at "r"
  refine⟨h9 (by simp),fun l9 n9=>?_⟩
  obtain⟨H9,e9,f9,m9,_⟩:=d6 (o:= .tup _) n9
  rw[e9]
  exact k l9 H9 n9 m9 f9
abbrev cF (P:Program)(w:World)(K:PySem.W.Frag)(mg:Str→Option Value)(base:Heap):Prop:=F0 P w K mg base x9 2 "copied" ["web"] [] (je K)
theorem qX {f:Addr}{fd:FuncData}(T:Txt K mg)(Z1:fj P w K mg base)(F:Fun K "copied" "copied" gM f fd):p0 P w K mg base x9 2 f fd ["web"] (je K):=by
 refine F.ok sc_copied (fun vs H Q E h=>?_) (fun cdv A outer s H vs Q E hr h=>?_)
 ·obtain⟨a,p,q,kvs,W,rfl,_⟩:=h
  rfl
 ·obtain⟨a,p,q,kvs,W,rfl,hW,d1,d2,l1,l2,k⟩:=h
  have hN:=sc_copied.nd
  have hu:=A1 hr
  refine⟨_,QSs.r (E6 (C9 (K1 (i9 (qC Z1 (hr.mono (by decide)) o9 (i9 (x6 (x8 K hu) (qV 0) j0 (fun _ _=>rfl)) o3)) (i9 (qC Z1 (hr.mono (by decide)) o9 (i9 (x6 (x8 K hu) (qV 0) j0 (fun _ _=>rfl)) o3)) o3))))),?_⟩
  walk_at "r"
  refine b7 hW.tup (b5 (j:=0) rfl) ?_
  walk_at "r"
  refine⟨p,r6 W.pts,W.pts.map (·.1),rfl,hW.pts,by rw[C5,z5],d1,by rw[List.length_map];exact l1,fun p' H1 kp np' m1 f1 pm1=>?_⟩
  have W1:=hW.mono m1.le
  walk_at "r"
  refine b7 W1.tup (b5 (j:=1) rfl) ?_
  walk_at "r"
  refine⟨q,kvs,W.ts.map (·.1),rfl,W1.ties,by rw[W1.ts.keys,z5],d2,by rw[List.length_map];exact l2,fun q' H2 kq nq' m2 f2 pm2=>?_⟩
  walk_at "r"
  refine⟨h9 (by simp),fun l9 n9=>?_⟩
  obtain⟨H9,e9,f9,m9,_⟩:=d6 (o:= .tup _) n9
  rw[e9]
  obtain⟨pts',rfl,pp⟩:=um pm1
  have W2:=hW.mono (m1.trans (m2.trans m9)).le
  obtain⟨ts',w',pt⟩:=eg pm2 W2.ts
  have g1:=m9 _ _ (m2 _ _ f1)
  have g2:=m9 _ _ f2
  exact k l9 p' q' kq ⟨pts',ts'⟩ H9 (m1.trans (m2.trans m9)) ⟨SqT.of f9,.inl g1,.inl g2,w'⟩ g1 g2 (d8 f1 nq') np' (m1.free nq') pp pt
abbrev jl (P:Program)(w:World)(K:PySem.W.Frag)(mg:Str→Option Value)(base:Heap):Prop:=F0 P w K mg base x9 3 "renamed" ["web","names"] [] (fh K)
theorem nu {f:Addr}{fd:FuncData}(T:Txt K mg)(S0:bp P w K mg base)(F4:cF P w K mg base)(F:Fun K "renamed" "renamed" dA f fd):p0 P w K mg base x9 3 f fd ["web","names"] (fh K):=by
 refine F.ok sc_renamed (fun vs H Q E h=>?_) (fun cdv A outer s H vs Q E hr h=>?_)
 ·obtain⟨a,d,p,q,kvs,nm,W,f,rfl,_⟩:=h
  rfl
 ·obtain⟨a,d,p,q,kvs,nm,W,f,rfl,hW,hp,hq,hd,hf,hnd,hl,hE,k⟩:=h
  have hln:W.pts.length+W.ts.length≤60:=by unfold k7 at hl;rw[List.length_append,List.length_map,List.length_map] at hl;exact hl
  have hf1:∀x∈W.pts,z6 nm (Sum.inr x.1:j8)=some (.str (f x.1)):=fun x hx=>hf _ (List.mem_append_left _ (List.mem_map.mpr ⟨x,hx,rfl⟩))
  have hf2:∀x∈W.ts,z6 nm (Sum.inr x.1:j8)=some (.str (f x.1)):=fun x hx=>hf _ (List.mem_append_right _ (List.mem_map.mpr ⟨x,hx,rfl⟩))
  have nd1:((E2 f W).pts.map (·.1)).Nodup:=by
   unfold k7 at hnd
   rw[List.map_append] at hnd
   have z:=(List.nodup_append.mp hnd).1
   unfold E2
   rw[List.map_map] at z⊢;exact z
  have nd2:((E2 f W).ts.map (·.1)).Nodup:=by
   unfold k7 at hnd
   rw[List.map_append] at hnd
   have z:=(List.nodup_append.mp hnd).2.1
   unfold E2
   rw[List.map_map] at z⊢;exact z
  have hpl:=o5 W.pts
  have hkl:=hW.ts.length
  have hN:=sc_renamed.nd
  have hu:=A1 hr
  refine⟨_,QSs.r (C6 (z8 (i:=2) hN rfl (by walk_at "l") (kI (aU K rfl) T.b_dict Boot.«dict» (i9 (V4 (own:=["name","kind"]) (js:=[1]) (by kernel_rfl) rfl (eU (x6 (x8 K hu) (qV 0) j0 (fun _ _=>rfl))) (fun _ _ _ _=>(wb K rfl (ic (U6 (i:=0) (show List.Nodup (["name","kind","names"]:List Str) by decide+kernel) rfl (by walk_at "l")) (ic (U6 (i:=1) (show List.Nodup (["name","kind","names"]:List Str) by decide+kernel) rfl (by walk_at "l")) we)))) (fun _ _ _ _=>gn) (fun _ _ _ _=>(K1 (i9 (x6 (x8 K hu) (qV 2) (qV 0) (fun _ _=>rfl)) (i9 (qV 1) o3))))) o3)))
   (C6 (z8 (i:=3) hN rfl (by walk_at "l") (kI (aU K rfl) T.b_dict Boot.«dict» (i9 (V4 (own:=["name","tie"]) (js:=[1]) (by kernel_rfl) rfl (eU (x6 (x8 K hu) (qV 0) j0 (fun _ _=>rfl))) (fun _ _ _ _=>(wb K rfl (ic (U6 (i:=0) (show List.Nodup (["name","tie","names"]:List Str) by decide+kernel) rfl (by walk_at "l")) (ic (U6 (i:=1) (show List.Nodup (["name","tie","names"]:List Str) by decide+kernel) rfl (by walk_at "l")) we)))) (fun _ _ _ _=>gn) (fun _ _ _ _=>(K1 (i9 (x6 (x8 K hu) (qV 2) (qV 0) (fun _ _=>rfl)) (i9 (qC S0 (hr.mono (by decide)) o9 (i9 (qV 1) (i9 (qV 2) o3))) o3))))) o3)))
   (E6 (C9 (qC F4 (hr.mono (by decide)) o9 (i9 (K1 (i9 (qV 2) (i9 (qV 3) o3))) o3)))))),?_⟩
  walk_at "r"
  refine b7 hW.tup (b5 (j:=0) rfl) ?_
  refine R7 hp (fun ndp o1=>?_)
  refine F8 (n:=(r6 W.pts).length) (fun i out H'=>Same (K0 p o1 (r6 W.pts) H) H'∧Paired (PrV K H') out (r6 ((W.pts.take i).map fun x=>(f x.1,x.2)))) ⟨Same.refl _,.nil⟩ (fun i out H' hi hp=>⟨hp.1 _ _ j7,hi⟩) ?_ ?_
  ·rintro N i v out H1 H2 hi ⟨s1,pr⟩ ⟨t,kv,hkv,nt,rfl,rfl⟩ hN'
   obtain⟨x,hx,rfl⟩:=kC hkv
   obtain⟨H3,e3,f3,m3,_⟩:=d6 (o:= .tup _) nt
   rw[e3]
   have d3:=((bP (o:=o1) hp).trans (s1.trans m3).le).dic hd
   have e7:W.pts.take (i+1)=W.pts.take i++[x]:=by rw[List.take_succ,hx];rfl
   refine T4 (SqT.of f3) rfl ?_
   walk_at "r"
   refine⟨rfl,?_⟩
   walk_at "r"
   refine E4 (v:= .str (f x.1)) (by have z':=L0 (k:=Sum.inr x.1) d3;rw[hf1 x (List.mem_of_getElem? hx)] at z';exact z') ?_
   walk_at "r"
   refine⟨h9 (by simp),fun t4 n4=>?_⟩
   obtain⟨H4,e4,f4,m4,_⟩:=d6 (o:= .tup _) n4
   rw[e4]
   have hol:=Paired.length pr
   rw[o5,List.length_map,List.length_take] at hol
   refine⟨h9 (by omega),hN' _ _ ⟨s1.trans (m3.trans m4),?_⟩⟩
   rw[e7,List.map_append]
   unfold r6 at pr⊢
   rw[List.map_append]
   exact z9 (Paired.imp' (fun _ _ z=>PrV.mono (m3.trans m4).le z) pr) ⟨t4,rfl,SqT.of f4⟩
  ·rintro out H1 ⟨s1,pr⟩
   have hol:=Paired.length pr
   rw[o5,List.length_map,List.length_take] at hol
   refine⟨⟨s1 _ _ j7,Nat.le_refl _⟩,fun D hD=>⟨h9 (by omega),?_⟩⟩
   have sM:=gQ hp s1 hD (u:= .lst out)
   have fM:=ou s1 hD (u:= .lst out)
   have prM:=Paired.imp' (fun _ _ z=>PrV.mono (sJ (d:=p) (u:= .lst out) hD) z) pr
   generalize thaw p (p7 H1 D (.lst out))=HM at sM fM prM⊢
   rw[List.take_of_length_le (by omega)] at prM
   walk_at "r"
   refine M4 (SqL.of fM) prM (h9 (by rw[o5,List.length_map];omega)) (fun pp npp=>?_)
   have eP:dZ (r6 (W.pts.map fun x=>(f x.1,x.2)))=r6 (E2 f W).pts:=U9 (cM nd1)
   rw[eP]
   obtain⟨H2,e2,f2,m2,_⟩:=d6 (o:= .dK (r6 (E2 f W).pts)) npp
   show ai _ _ _ (p7 HM pp (.dK (r6 (E2 f W).pts))) _
   rw[e2]
   have s2:=sM.trans m2
   have W2:=hW.mono s2.le
   have hq2:=s2 _ _ hq
   walk_at "r"
   refine b7 W2.tup (b5 (j:=1) rfl) ?_
   refine R7 hq2 (fun ndq o2=>?_)
   refine F8 (n:=kvs.length) (fun i out H'=>Same (K0 q o2 kvs H2) H'∧∃ks2,Paired (PrV K H') out ks2∧TiesIs K H' ks2 ((W.ts.take i).map fun x=>(f x.1,(x.2.1,f x.2.2.1,f x.2.2.2)))) ⟨Same.refl _,[],.nil,.nil⟩ (fun i out H' hi hp=>⟨hp.1 _ _ j7,hi⟩) ?_ ?_
   ·rintro N i v out H3 H3' hi ⟨s3,ks2,pr3,ti3⟩ ⟨t,kv,hkv,nt,rfl,rfl⟩ hN'
    obtain⟨H4,e4,f4,m4,_⟩:=d6 (o:= .tup _) nt
    rw[e4]
    have le4:=(bP (o:=o2) hq2).trans (s3.trans m4).le
    have d4:=le4.dic (s2.rd hd)
    obtain⟨x,hx,ex,b,eb,sb⟩:=(W2.ts.mono le4).get hkv
    have hxm:x∈W.ts:=List.mem_of_getElem? hx
    have e7:W.ts.take (i+1)=W.ts.take i++[x]:=by rw[List.take_succ,hx];rfl
    refine T4 (SqT.of f4) rfl ?_
    rw[ex,eb]
    walk_at "r"
    refine⟨rfl,?_⟩
    walk_at "r"
    refine E4 (v:= .str (f x.1)) (by have z':=L0 (k:=Sum.inr x.1) d4;rw[hf2 x hxm] at z';exact z') ?_
    walk_at "r"
    refine⟨b,d,x.2,nm,f x.2.2.1,f x.2.2.2,rfl,sb,d4,hf _ (List.mem_append_left _ (hE x hxm).1),hf _ (List.mem_append_left _ (hE x hxm).2),fun t5 H5 n5 m5 f5=>?_⟩
    walk_at "r"
    refine⟨h9 (by simp),fun t6 n6=>?_⟩
    obtain⟨H6,e6,f6,m6,_⟩:=d6 (o:= .tup _) n6
    rw[e6]
    have hol:=Paired.length pr3
    have hol2:=ti3.length
    rw[List.length_map,List.length_take] at hol2
    have mA:=m4.trans (m5.trans m6)
    refine⟨h9 (by omega),hN' _ _ ⟨s3.trans mA,ks2++[((Sum.inr (f x.1):j8),V.ref t5)],z9 (Paired.imp' (fun _ _ z=>PrV.mono mA.le z) pr3) (show PrV K H6 (.ref t6) ((Sum.inr (f x.1):j8),V.ref t5) from⟨t6,rfl,SqT.of f6⟩),?_⟩⟩
    rw[e7,List.map_append]
    exact z9 (ti3.mono mA.le) ⟨rfl,t5,rfl,SqT.of (m6 _ _ f5)⟩
   ·rintro out H3 ⟨s3,ks2,pr3,ti3⟩
    have hol:=Paired.length pr3
    have hol2:=ti3.length
    rw[List.length_map,List.length_take] at hol2
    refine⟨⟨s3 _ _ j7,Nat.le_refl _⟩,fun D' hD'=>⟨h9 (by omega),?_⟩⟩
    have sN:=gQ hq2 s3 hD' (u:= .lst out)
    have fN:=ou s3 hD' (u:= .lst out)
    have leN:=sJ (d:=q) (u:= .lst out) hD'
    have prN:=Paired.imp' (fun _ _ z=>PrV.mono leN z) pr3
    have tiN:=ti3.mono leN
    generalize thaw q (p7 H3 D' (.lst out))=HN at sN fN prN tiN⊢
    rw[List.take_of_length_le (by omega)] at tiN
    have ndk:(ks2.map (·.1)).Nodup:=by
     rw[tiN.keys,←z5]
     refine List.Pairwise.map _ ?_ nd2
     exact fun a b h z=>h (Sum.inr.inj z)
    walk_at "r"
    refine M4 (SqL.of fN) prN (h9 (by omega)) (fun qq nqq=>?_)
    rw[U9 ndk]
    obtain⟨H5,e5,f5,m5,_⟩:=d6 (o:= .dK ks2) nqq
    show ai _ _ _ (p7 HN qq (.dK ks2)) _
    rw[e5]
    walk_at "r"
    refine⟨h9 (by simp),fun t9 n9=>?_⟩
    obtain⟨H9,e9,f9,m9,_⟩:=d6 (o:= .tup _) n9
    rw[e9]
    walk_at "r"
    have sA:=s2.trans (sN.trans (m5.trans m9))
    have gp:=m9 _ _ (m5 _ _ (sN _ _ f2))
    have gq:=m9 _ _ f5
    refine⟨t9,pp,qq,ks2,E2 f W,rfl,⟨SqT.of f9,.inl gp,.inl gq,tiN.mono (m5.trans m9).le⟩,nd1,nd2,by unfold E2;rw[List.length_map];omega,by unfold E2;rw[List.length_map];omega,fun a' p' q' kvs' W' H' sH hW' h1 h2 h3 h4 h5 h6 h7=>k a' p' q' kvs' W' H' (sA.trans sH) hW' h1 h2 h3 (sA.free h4) (sA.free h5) h6 h7⟩
theorem uo {H:Hp}{a:Addr}{xs:List V}{R:It→(Hp→Hp)→Hp→Prop}(h:SqT K H a xs)(q:R (Dt K a) id H):uG K (.ref a) H R:= .inl (.inr (.inl ⟨a,rfl,⟨xs,h⟩,q⟩))
theorem wF {a:Addr}{xs:List V}{i:Nat}{H H':Hp}{v:V}(h:(Dt K a).yld i H v H')(hx:SqT K H a xs):H'=H∧xs[i]?=some v:=⟨h.1,h.2 xs hx⟩
def PrsAt (K:PySem.W.Frag)(H:Hp)(xs:List V)(ps:List (Str×Str)):Prop:=Paired (fun v (x:Str×Str)=>∃t,v=V.ref t∧SqT K H t [.str x.1,.str x.2]) xs ps
theorem PrsAt.mono {H H':Hp}{xs:List V}{ps:List (Str×Str)}(l:Le H H')(h:PrsAt K H xs ps):PrsAt K H' xs ps:=Paired.imp' (fun _ _ ⟨t,e,z⟩=>⟨t,e,l.tup z⟩) h
def pV (x:Str×Str):List V:=[.str x.1,.str x.2]
def Di (a b:Str×Str):Prop:=¬D4 (pV b)<D4 (pV a)
theorem tP {a b:Str×Str}(h1:Di a b)(h2:Di b a):a=b:=by
 have e:D4 (pV a)=D4 (pV b):=xj h2 h1
 have e1:a.1.cps.toList=b.1.cps.toList:=(List.cons.inj e).1
 have e2:a.2.cps.toList=b.2.cps.toList:=(List.cons.inj (List.cons.inj e).2).1
 exact Prod.ext (cz e1) (cz e2)
theorem jb {α:Type}{r:α→α→Prop}(anti:∀a b,r a b→r b a→a=b):∀{l m:List α},l.Perm m→l.Pairwise r→m.Pairwise r→l=m
 |[],m,p,_,_=>(List.nil_perm.mp p).symm
 |a::l,[],p,_,_=>absurd p.length_eq (by simp)
 |a::l,b::m,p,h1,h2=>by
  have g1:=List.pairwise_cons.mp h1
  have g2:=List.pairwise_cons.mp h2
  have e:a=b:=by
   rcases List.mem_cons.mp (p.mem_iff.mp List.mem_cons_self) with e|ha
   ·exact e
   ·rcases List.mem_cons.mp (p.mem_iff.mpr (List.mem_cons_self (a:=b))) with e|hb
    ·exact e.symm
    ·exact anti a b (g1.1 b hb) (g2.1 a ha)
  subst e
  rw[jb anti (List.Perm.cons_inv p) g1.2 g2.2]
theorem vT (a:N9):(aP a).all A0=true:=rfl
def jf (K:PySem.W.Frag):Sp:=fun vs H Q _=>∃(a p q:Addr) (kvs:List (j8×V)) (W:E7) (mk:Str),vs=[.ref a,.str mk]∧mk.length≤10∧WebAt K H a p q kvs W∧(k7 W).Nodup∧(k7 W).length≤60∧(∀n∈k7 W,n.length≤100)∧
 ∀(d:Addr) (H':Hp) (ns:List Str),H d=none→Same H H'→ns.Perm (k7 W)→H' d=some (.dK (r6 (ns.map fun n=>(n,mk++n))))→Q (.ref d) H'
theorem lX (ms:List (Str×Str)):(r6 ms).map (·.2)=(ms.map (·.2)).map V.str:=by unfold r6;rw[List.map_map,List.map_map];rfl
theorem wC {H:Hp}{xs:List V}{ps:List (Str×Str)}(h:PrsAt K H xs ps):Paired (PrV K H) xs (r6 ps):=by
 unfold PrsAt at h
 induction h with
 |nil=>exact .nil
 |cons a t ih=>exact .cons a ih
theorem dX {α β γ:Type}{R:β→γ→Prop}{f:α→β}{g:α→γ}:∀{l:List α},(∀u∈l,R (f u) (g u))→Paired R (l.map f) (l.map g)
 |[],_=> .nil
 |a::l,h=> .cons (h a List.mem_cons_self) (dX fun u hu=>h u (List.mem_cons_of_mem _ hu))
theorem mv {H:Hp}{xs:List V}{ps:List (Str×Str)}(h:PrsAt K H xs ps):∃us:List (Addr×List V),xs=us.map (fun u=>V.ref u.1)∧us.map (·.2)=ps.map pV∧∀u∈us,SqT K H u.1 u.2:=by
 unfold PrsAt at h
 induction h with
 |nil=>exact⟨[],rfl,rfl,fun _ h=>nomatch h⟩
 | @cons v x _ _ a t ih=>
  obtain⟨us,e1,e2,e3⟩:=ih
  obtain⟨t,rfl,ht⟩:=a
  refine⟨(t,pV x)::us,by rw[e1];rfl,by rw[List.map_cons,e2];rfl,fun u hu=>?_⟩
  rcases List.mem_cons.mp hu with z|z
  ·rw[z];exact ht
  ·exact e3 u z
theorem EqN.of0 {H:Hp}{x y:V}{b:Bool}(h:EqN K H 0 x y b):∀n,EqN K H n x y b
 |0=>h
 |n+1=> .inl (EqN.of0 h n)
def cD:List V→Str×Str
 |[.str a,.str b]=>(a,b)
 |_=>("","")
theorem pJ (x:Str×Str):cD (pV x)=x:=rfl
abbrev mB (P:Program)(w:World)(K:PySem.W.Frag)(mg:Str→Option Value)(base:Heap):Prop:=F0 P w K mg base x9 2 "marked" ["web","mark"] [] (jf K)
theorem ql {f:Addr}{fd:FuncData}(T:Txt K mg)(U8:gb P w K mg base)(F:Fun K "marked" "marked" ia f fd):p0 P w K mg base x9 2 f fd ["web","mark"] (jf K):=by
 refine F.ok sc_marked (fun vs H Q E h=>?_) (fun cdv A outer s H vs Q E hr h=>?_)
 ·obtain⟨a,p,q,kvs,W,mk,rfl,_⟩:=h
  rfl
 ·obtain⟨a,p,q,kvs,W,mk,rfl,hmk,hW,nd,hl,hn,k⟩:=h
  have hN:=sc_marked.nd
  have hu:=A1 hr
  refine⟨_,QSs.r (E6 (C9 (kI (aU K rfl) T.b_dict Boot.«dict» (i9 (V4 (own:=["name"]) (js:=[1]) (by kernel_rfl) rfl (af K (qC U8 (hr.mono (by decide)) o9 (i9 (qV 0) o3))) (fun _ _ _ _=>(U6 (i:=0) (show List.Nodup (["name","mark"]:List Str) by decide+kernel) rfl (by walk_at "l"))) (fun _ _ _ _=>gn) (fun _ _ _ _=>(K1 (i9 (qV 0) (i9 (F7 (V7 K) (qV 1) (qV 0)) o3))))) o3)))),?_⟩
  walk_at "r"
  refine⟨a,p,q,kvs,W,rfl,hW,hl,fun l1 H1 s1 s2 n1 m1 f1 or=>?_⟩
  have hol:=or.len
  have hnd:(s1++s2).Nodup:=or.perm.nodup_iff.mpr nd
  have hmem:∀n∈s1++s2,n.length≤100:=fun n hm=>hn n (or.mem.mp hm)
  have hpm:=or.perm
  generalize s1++s2=s at f1 hol hnd hmem hpm
  refine C4 (SqL.of f1) ?_
  refine F8 (n:=s.length) (fun i out H'=>Same H1 H'∧Paired (PrV K H') out (r6 ((s.take i).map fun n=>(n,mk++n)))) ⟨Same.refl _,.nil⟩ (fun i out H' hi hp=>⟨_,.str (s[i]),SqL.of (hp.1 _ _ f1),by rw[List.getElem?_map,List.getElem?_eq_getElem hi];rfl⟩) ?_ ?_
  ·rintro N i v out H2' H2 hi ⟨s2',pr⟩ y hN'
   obtain⟨rfl,hy⟩:=Itl.get y (SqL.of (s2' _ _ f1))
   rw[List.getElem?_map,List.getElem?_eq_getElem hi] at hy
   cases hy
   have hln:=hmem _ (List.getElem_mem hi)
   have hpl:=Paired.length pr
   rw[o5,List.length_map,List.length_take] at hpl
   walk_at "r"
   refine⟨rfl,?_⟩
   walk_at "r"
   refine K3 (h9 (by omega)) ?_
   walk_at "r"
   refine⟨h9 (by simp),fun l3 n3=>?_⟩
   obtain⟨H3,e3,f3,m3,_⟩:=d6 (o:= .tup _) n3
   rw[e3]
   refine⟨h9 (by omega),hN' _ _ ⟨s2'.trans m3,?_⟩⟩
   rw[List.take_succ,List.getElem?_eq_getElem hi,List.map_append]
   unfold r6 at pr⊢
   rw[List.map_append]
   exact z9 (Paired.imp' (fun _ _ z=>PrV.mono m3.le z) pr) ⟨l3,rfl,SqT.of f3⟩
  ·rintro out H2 ⟨s2',pr⟩
   have hpl:=Paired.length pr
   rw[o5,List.length_map,List.length_take] at hpl
   rw[List.take_of_length_le (Nat.le_refl _)] at pr
   refine⟨⟨_,SqL.of (s2' _ _ f1),by rw[List.length_map];exact Nat.le_refl _⟩,fun D hD=>⟨h9 (by omega),?_⟩⟩
   obtain⟨H3,e3,f3,m3,_⟩:=d6 (H:=H2) (o:= .lst out) hD
   walk_at "r"
   change fB K _ (p7 H2 D _) _
   rw[e3]
   refine M4 (SqL.of f3) (Paired.imp' (fun _ _ z=>PrV.mono m3.le z) pr) (h9 (by rw[o5,List.length_map];omega)) (fun d nd2=>?_)
   have ndk:((s.map fun n=>(n,mk++n)).map (·.1)).Nodup:=by
    rw[List.map_map,show((·.1)∘fun n:Str=>(n,mk++n))=id from rfl,List.map_id];exact hnd
   rw[U9 (cM ndk)]
   obtain⟨H4,e4,f4,m4,_⟩:=d6 (o:= .dK (r6 (s.map fun n=>(n,mk++n)))) nd2
   rw[e4]
   exact k d H4 s (m1.free (s2'.free (m3.free nd2))) (m1.trans (s2'.trans (m3.trans m4))) hpm f4
theorem aY {kvs:List (j8×V)}{k:j8}{v:V}(h:k∈kvs.map (·.1)):D0 kvs k v=kvs.map (fun kv=>if kv.1=k then(kv.1,v) else kv):=by
 unfold D0
 rw[if_pos]
 obtain⟨x,hx,e⟩:=List.mem_map.mp h
 exact List.any_eq_true.mpr ⟨x,hx,by simpa using e⟩
theorem lY {α:Type}{f:α→α}:∀{l:List α},(∀x∈l,f x=x)→l.map f=l
 |[],_=>rfl
 |a::l,h=>by rw[List.map_cons,h a List.mem_cons_self,lY fun x hx=>h x (List.mem_cons_of_mem _ hx)]
theorem BG {A:List (Str×Str)}{n s:Str}(nd:(A.map (·.1)).Nodup)(hc:∀s',(n,s')∈A→s'=s):∃C:List (Str×Str),D0 (r6 A) (Sum.inr n:j8) (.str s)=r6 C∧(C.map (·.1)).Nodup∧(∀x,x∈C↔x∈A∨x=(n,s))∧C.length≤A.length+1:=by
 by_cases h:n∈A.map (·.1)
 ·obtain⟨y,hy,ey⟩:=List.mem_map.mp h
  have hy':(n,s)∈A:=by
   have e:y.2=s:=hc y.2 (by rw[←ey];exact hy)
   rw[←e,←ey];exact hy
  refine⟨A,?_,nd,fun x=>⟨.inl,fun z=>z.elim id fun e=>by rw[e];exact hy'⟩,Nat.le_succ _⟩
  rw[aY (by rw[C5];exact List.mem_map.mpr ⟨y,hy,by rw[ey]⟩)]
  refine lY fun kv hkv=>?_
  obtain⟨x,hx,rfl⟩:=List.mem_map.mp hkv
  by_cases e:x.1=n
  ·rw[if_pos (by rw[e]),hc x.2 (by rw[←e];exact hx)]
  ·rw[if_neg fun z=>e (Sum.inr.inj z)]
 ·refine⟨A++[(n,s)],O9 h,?_,fun x=>by simp,by simp⟩
  rw[List.map_append]
  exact F6 nd h
theorem lH:∀{B A:List (Str×Str)},(A.map (·.1)).Nodup→(B.map (·.1)).Nodup→(∀n s s',(n,s)∈A→(n,s')∈B→s=s')→∃C:List (Str×Str),M7 (r6 A) (r6 B)=r6 C∧(C.map (·.1)).Nodup∧(∀x,x∈C↔x∈A∨x∈B)∧C.length≤A.length+B.length
 |[],A,nd,_,_=>⟨A,rfl,nd,fun x=>by simp,Nat.le_refl _⟩
 |b::B,A,nd,nd2,hc=>by
  have nd2':=List.nodup_cons.mp (show(b.1::B.map (·.1)).Nodup from nd2)
  obtain⟨C,e1,n1,m1,l1⟩:=BG (A:=A) (n:=b.1) (s:=b.2) nd fun s' h=>hc b.1 s' b.2 h List.mem_cons_self
  obtain⟨D,e2,n2,m2,l2⟩:=lH (B:=B) (A:=C) n1 nd2'.2 fun n s s' h h'=>by
   rcases(m1 _).mp h with z|z
   ·exact hc n s s' z (List.mem_cons_of_mem _ h')
   ·cases z
    exact absurd (List.mem_map.mpr ⟨_,h',rfl⟩) nd2'.1
  refine⟨D,?_,n2,fun x=>?_,by rw[List.length_cons];omega⟩
  ·show M7 (D0 (r6 A) (Sum.inr b.1:j8) (.str b.2)) (r6 B)=_
   rw[e1,e2]
  ·rw[m2,m1,List.mem_cons,or_assoc]
theorem yC {H:Hp}{kA:List (j8×V)}{A:List (Str×N9)}{b:Str×N9}{l:Addr}(h:TiesIs K H kA A)(nd:(A.map (·.1)).Nodup)(hc:∀s,(b.1,s)∈A→s=b.2)(hl:SqT K H l (aP b.2)):∃C:List (Str×N9),TiesIs K H (D0 kA (Sum.inr b.1:j8) (.ref l)) C∧(C.map (·.1)).Nodup∧(∀x,x∈C↔x∈A∨x=b)∧C.length≤A.length+1:=by
 by_cases hm:b.1∈A.map (·.1)
 ·obtain⟨y,hy,ey⟩:=List.mem_map.mp hm
  have hyb:b∈A:=by
   have e:y.2=b.2:=hc y.2 (by rw[←ey];exact hy)
   rw[show b=y from Prod.ext ey.symm e.symm];exact hy
  refine⟨A,?_,nd,fun x=>⟨.inl,fun z=>z.elim id fun e=>by rw[e];exact hyb⟩,Nat.le_succ _⟩
  rw[aY (by rw[h.keys];exact List.mem_map.mpr ⟨y,hy,by rw[ey]⟩)]
  have gen:∀{kX:List (j8×V)} {X:List (Str×N9)},TiesIs K H kX X→(∀x∈X,x.1=b.1→x.2=b.2)→TiesIs K H (kX.map fun kv=>if kv.1=(Sum.inr b.1:j8) then(kv.1,.ref l) else kv) X:=by
   intro kX X hX
   induction hX with
   |nil=>intro _;exact .nil
   | @cons kv x _ _ zz rr ih=>
    intro hq
    refine .cons ?_ (ih fun x hx=>hq x (List.mem_cons_of_mem _ hx))
    show TieAt K H (if kv.1=(Sum.inr b.1:j8) then(kv.1,.ref l) else kv) x
    by_cases e:x.1=b.1
    ·rw[if_pos (by rw[zz.1,e])]
     exact⟨zz.1,l,rfl,by rw[hq x List.mem_cons_self e];exact hl⟩
    ·rw[if_neg (by rw[zz.1];exact fun y=>e (Sum.inr.inj y))]
     exact zz
  exact gen h fun x hx e=>hc x.2 (by rw[←e];exact hx)
 ·refine⟨A++[b],?_,?_,fun x=>by simp,by simp⟩
  ·rw[K9 _ (D3 (by rw[h.keys,←z5];exact fun m=>hm (N0 m)))]
   exact z9 h ⟨rfl,l,rfl,hl⟩
  ·rw[List.map_append]
   exact F6 nd hm
theorem pD {H:Hp}:∀{kB:List (j8×V)} {B:List (Str×N9)} {kA:List (j8×V)} {A:List (Str×N9)},TiesIs K H kA A→TiesIs K H kB B→(A.map (·.1)).Nodup→(B.map (·.1)).Nodup→(∀n s s',(n,s)∈A→(n,s')∈B→s=s')→∃C:List (Str×N9),TiesIs K H (M7 kA kB) C∧(C.map (·.1)).Nodup∧(∀x,x∈C↔x∈A∨x∈B)∧C.length≤A.length+B.length
 |_,_,kA,A,h,.nil,nd,_,_=>⟨A,h,nd,fun x=>by simp,Nat.le_refl _⟩
 |kv::kB,b::B,kA,A,h,.cons z r,nd,nd2,hc=>by
  have nd2':=List.nodup_cons.mp (show(b.1::B.map (·.1)).Nodup from nd2)
  obtain⟨kk,kvv⟩:=kv
  obtain⟨ek,l,el,hl⟩:=z
  have ek':kk=Sum.inr b.1:=ek
  have el':kvv= .ref l:=el
  subst ek' el'
  obtain⟨C,t1,n1,m1,l1⟩:=yC h nd (fun s hs=>hc b.1 s b.2 hs List.mem_cons_self) hl
  obtain⟨D,t2,n2,m2,l2⟩:=pD t1 r n1 nd2'.2 fun n s s' h h'=>by
   rcases(m1 _).mp h with z|z
   ·exact hc n s s' z (List.mem_cons_of_mem _ h')
   ·have e:n=b.1:=by rw[←z]
    exact absurd (List.mem_map.mpr ⟨_,h',e⟩) nd2'.1
  refine⟨D,t2,n2,fun x=>?_,by rw[List.length_cons];omega⟩
  rw[m2,m1,List.mem_cons,or_assoc]
def Eb (K:PySem.W.Frag)(H:Hp)(Q:VK)(X Y:E7):Prop:=∀(a p q:Addr) (kvs:List (j8×V)) (Z:E7) (H':Hp),Same H H'→WebAt K H' a p q kvs Z→H' p=some (.dK (r6 Z.pts))→H' q=some (.dK kvs)→p≠q→H p=none→H q=none→(Z.pts.map (·.1)).Nodup→(Z.ts.map (·.1)).Nodup→(∀x,x∈Z.pts↔x∈X.pts∨x∈Y.pts)→(∀x,x∈Z.ts↔x∈X.ts∨x∈Y.ts)→Z.pts.length≤X.pts.length+Y.pts.length→Z.ts.length≤X.ts.length+Y.ts.length→Q (.ref a) H'
structure pW (X Y:E7):Prop where
 x1:(X.pts.map (·.1)).Nodup
 x2:(X.ts.map (·.1)).Nodup
 y1:(Y.pts.map (·.1)).Nodup
 y2:(Y.ts.map (·.1)).Nodup
 cp:∀n s s',(n,s)∈X.pts→(n,s')∈Y.pts→s=s'
 ct:∀n s s',(n,s)∈X.ts→(n,s')∈Y.ts→s=s'
 l1:X.pts.length+Y.pts.length≤60
 l2:X.ts.length+Y.ts.length≤60
def iM (K:PySem.W.Frag):Sp:=fun vs H Q _=>∃(a p q b p2 q2:Addr) (kvs kvs2:List (j8×V)) (X Y:E7),vs=[.ref a,.ref b]∧WebAt K H a p q kvs X∧WebAt K H b p2 q2 kvs2 Y∧pW X Y∧Eb K H Q X Y
abbrev mh (P:Program)(w:World)(K:PySem.W.Frag)(mg:Str→Option Value)(base:Heap):Prop:=F0 P w K mg base x9 3 "united" ["web","more"] [] (iM K)
theorem qI {f:Addr}{fd:FuncData}(T:Txt K mg)(F4:cF P w K mg base)(F:Fun K "united" "united" gK f fd):p0 P w K mg base x9 3 f fd ["web","more"] (iM K):=by
 refine F.ok sc_united (fun vs H Q E h=>?_) (fun cdv A outer s H vs Q E hr h=>?_)
 ·obtain⟨a,p,q,b,p2,q2,kvs,kvs2,X,Y,rfl,_⟩:=h
  rfl
 ·obtain⟨a,p,q,b,p2,q2,kvs,kvs2,X,Y,rfl,hX,hY,ag,k⟩:=h
  have g1:=ag.l1
  have g2:=ag.l2
  have hkl:=hX.ts.length
  have hkl2:=hY.ts.length
  have hN:=sc_united.nd
  have hu:=A1 hr
  refine⟨_,QSs.r (C6 (z8 (i:=2) hN rfl (by walk_at "l") (kI (aU K rfl) T.b_dict Boot.«dict» (i9 (x6 (x8 K hu) (qV 0) j0 (fun _ _=>rfl)) o3)))
   (C6 (wa (qM PySem.F.plainAttrs_dict PySem.F.slot_dict_update PySem.F.type_dict_update Z5 K (qV 2) (i9 (x6 (x8 K hu) (qV 1) j0 (fun _ _=>rfl)) o3)))
   (C6 (z8 (i:=3) hN rfl (by walk_at "l") (kI (aU K rfl) T.b_dict Boot.«dict» (i9 (x6 (x8 K hu) (qV 0) j0 (fun _ _=>rfl)) o3)))
   (C6 (wa (qM PySem.F.plainAttrs_dict PySem.F.slot_dict_update PySem.F.type_dict_update Z5 K (qV 3) (i9 (x6 (x8 K hu) (qV 1) j0 (fun _ _=>rfl)) o3)))
   (E6 (C9 (qC F4 (hr.mono (by decide)) o9 (i9 (K1 (i9 (qV 2) (i9 (qV 3) o3))) o3)))))))),?_⟩
  walk_at "r"
  refine b7 hX.tup (b5 (j:=0) rfl) ?_
  walk_at "r"
  refine P6 hX.pts (fun pp npp=>?_)
  obtain⟨H1,e1,f1,m1,_⟩:=d6 (o:= .dK _) npp
  rw[e1]
  have Y1:=hY.mono m1.le
  walk_at "r"
  refine⟨.inr (.inr (.inl ⟨rfl,.inl ⟨_,f1⟩⟩)),?_⟩
  walk_at "r"
  refine b7 Y1.tup (b5 (j:=0) rfl) ?_
  walk_at "r"
  have nep:pp≠p2:=fun z=>by
   have z2:=hY.pts
   rw[←z] at z2
   rcases z2 with z2|⟨_,z2⟩<;>(rw[npp] at z2;cases z2)
  refine⟨pp,p2,r6 X.pts,r6 Y.pts,rfl,rfl,f1,Y1.pts,nep,by rw[o5,o5];omega,?_⟩
  obtain⟨zp,ez,nz,mz,lz⟩:=lH ag.x1 ag.y1 ag.cp
  rw[ez]
  have s2:Same H (p7 H1 pp (.dK (r6 zp))):=C8 m1 npp
  have f2:(p7 H1 pp (.dK (r6 zp))) pp=some (.dK (r6 zp)):=j7
  generalize p7 H1 pp (.dK (r6 zp))=H2 at s2 f2⊢
  have X2:=hX.mono s2.le
  walk_at "r"
  refine b7 X2.tup (b5 (j:=1) rfl) ?_
  walk_at "r"
  refine P6 X2.ties (fun qq nqq=>?_)
  obtain⟨H3,e3,f3,m3,_⟩:=d6 (o:= .dK _) nqq
  rw[e3]
  have s3:=s2.trans m3
  have Y3:=hY.mono s3.le
  have Y2:=hY.mono s2.le
  walk_at "r"
  refine⟨.inr (.inr (.inl ⟨rfl,.inl ⟨_,f3⟩⟩)),?_⟩
  walk_at "r"
  refine b7 Y3.tup (b5 (j:=1) rfl) ?_
  walk_at "r"
  have neq:qq≠q2:=fun z=>by
   have z2:=Y2.ties
   rw[←z] at z2
   rcases z2 with z2|⟨_,z2⟩<;>(rw[nqq] at z2;cases z2)
  refine⟨qq,q2,kvs,kvs2,rfl,rfl,f3,Y3.ties,neq,by omega,?_⟩
  obtain⟨zt,tz,nzt,mzt,lzt⟩:=pD (hX.mono s3.le).ts Y3.ts ag.x2 ag.y2 ag.ct
  have s4:Same H2 (p7 H3 qq (.dK (M7 kvs kvs2))):=C8 m3 nqq
  have f4:(p7 H3 qq (.dK (M7 kvs kvs2))) qq=some (.dK (M7 kvs kvs2)):=j7
  have t4:TiesIs K (p7 H3 qq (.dK (M7 kvs kvs2))) (M7 kvs kvs2) zt:=U7 f3 tz
  generalize p7 H3 qq (.dK (M7 kvs kvs2))=H4 at s4 f4 t4⊢
  walk_at "r"
  refine⟨h9 (by simp),fun t9 n9=>?_⟩
  obtain⟨H9,e9,f9,m9,_⟩:=d6 (o:= .tup _) n9
  rw[e9]
  walk_at "r"
  have s9:=s2.trans (s4.trans m9)
  refine⟨t9,pp,qq,_,⟨zp,zt⟩,rfl,⟨SqT.of f9,.inl (m9 _ _ (s4 _ _ f2)),.inl (m9 _ _ f4),t4.mono m9.le⟩,nz,nzt,Nat.le_trans lz g1,Nat.le_trans lzt g2,fun a' p' q' kvs' Z H' s' w1 w2 w3 w4 w5 w6 w7 w8=>?_⟩
  have w7':Z.pts.Perm zp:=w7
  have w8':Z.ts.Perm zt:=w8
  refine k a' p' q' kvs' Z H' (s9.trans s') w1 w2 w3 w4 (s9.free w5) (s9.free w6) ((w7'.map _).nodup_iff.mpr nz) ((w8'.map _).nodup_iff.mpr nzt) (fun x=>by rw[w7'.mem_iff,mz]) (fun x=>by rw[w8'.mem_iff,mzt]) (by rw[w7'.length_eq];exact lz) (by rw[w8'.length_eq];exact lzt)
def gO (ps:List (Str×Str))(n:Str):V:=(z6 (r6 ps) (Sum.inr n:j8)).getD .non
theorem Dc {ps:List (Str×Str)}{n s:Str}(nd:(ps.map (·.1)).Nodup)(h:(n,s)∈ps):gO ps n= .str s:=by
 unfold gO
 rw[M6 nd h];rfl
theorem wg {ps:List (Str×Str)}{n:Str}(h:n∉ps.map (·.1)):z6 (r6 ps) (Sum.inr n:j8)=none:=D3 (by rw[C5,←z5];exact fun m=>h (N0 m))
theorem zC {ps:List (Str×Str)}{n:Str}(h:n∉ps.map (·.1)):gO ps n= .non:=by
 unfold gO
 rw[wg h];rfl
theorem qh (ps:List (Str×Str))(n:Str):A0 (gO ps n)=true:=by
 unfold gO
 cases e:z6 (r6 ps) (Sum.inr n:j8) with
 |none=>rfl
 |some v=>
  obtain⟨k,rfl,_⟩:=pS e
  rfl
theorem yU {ps:List (Str×Str)}(nd:(ps.map (·.1)).Nodup)(s n:Str):bH (.str s) (gO ps n)=true↔(n,s)∈ps:=by
 by_cases h:n∈ps.map (·.1)
 ·obtain⟨⟨y1,y2⟩,hy,rfl⟩:=List.mem_map.mp h
  rw[Dc nd hy]
  show(s==y2)=true↔_
  rw[beq_iff_eq]
  exact⟨fun e=>e▸hy,fun z=>t7 nd z hy⟩
 ·rw[zC h]
  exact⟨fun z=>(nomatch z),fun z=>absurd (List.mem_map.mpr ⟨_,z,rfl⟩) h⟩
def kU (ps:List (Str×Str))(x:N9):List V:=[.str x.1,gO ps x.2.1,gO ps x.2.2]
theorem rJ (ps:List (Str×Str))(x:N9):(kU ps x).all A0=true:=by
 show(true&&(A0 (gO ps x.2.1)&&(A0 (gO ps x.2.2)&&true)))=true
 rw[qh,qh];rfl
theorem xU {ps:List (Str×Str)}(nd:(ps.map (·.1)).Nodup)(z x:N9):S8 (aP z) (kU ps x)=true↔z.1=x.1∧(x.2.1,z.2.1)∈ps∧(x.2.2,z.2.2)∈ps:=by
 show((z.1==x.1)&&(bH (.str z.2.1) (gO ps x.2.1)&&(bH (.str z.2.2) (gO ps x.2.2)&&true)))=true↔_
 rw[Bool.and_true,Bool.and_eq_true,Bool.and_eq_true,yU nd,yU nd,beq_iff_eq]
def WP (P R:E7)(ps:List (Str×Str))(x:Str×Str):Prop:=(∃kd,(x.1,kd)∈P.pts∧(x.2,kd)∈R.pts)∨∃(t:N9) (s e:Str),(x.1,t)∈P.ts∧(t.2.1,s)∈ps∧(t.2.2,e)∈ps∧(x.2,(t.1,s,e))∈R.ts
theorem WP.mono {P R:E7}{ps qs:List (Str×Str)}{x:Str×Str}(h:WP P R ps x)(s:∀y∈ps,y∈qs):WP P R qs x:=h.imp id fun⟨t,a,e,h1,h2,h3,h4⟩=>⟨t,a,e,h1,s _ h2,s _ h3,h4⟩
theorem mem_nms {W:E7}{n:Str}:n∈k7 W↔(∃k,(n,k)∈W.pts)∨∃t,(n,t)∈W.ts:=by
 unfold k7
 rw[List.mem_append]
 constructor
 ·rintro(h|h)
  ·obtain⟨x,hx,rfl⟩:=List.mem_map.mp h
   exact .inl ⟨x.2,hx⟩
  ·obtain⟨x,hx,rfl⟩:=List.mem_map.mp h
   exact .inr ⟨x.2,hx⟩
 ·rintro(⟨k,h⟩|⟨t,h⟩)
  ·exact .inl (List.mem_map.mpr ⟨_,h,rfl⟩)
  ·exact .inr (List.mem_map.mpr ⟨_,h,rfl⟩)
theorem pB {W:E7}(nd:(k7 W).Nodup){n k:Str}{t:N9}(h:(n,k)∈W.pts)(h':(n,t)∈W.ts):False:=(List.nodup_append.mp nd).2.2 n (List.mem_map.mpr ⟨_,h,rfl⟩) n (List.mem_map.mpr ⟨_,h',rfl⟩) rfl
section
variable {P0 R:E7} {ps:List (Str×Str)} {n t:Str}
theorem uX (nd:(k7 P0).Nodup){k:Str}(hk:(n,k)∈P0.pts):WP P0 R ps (n,t)↔(t,k)∈R.pts:=by
 constructor
 ·rintro(⟨kd,h1,h2⟩|⟨y,s,e,h1,_⟩)
  ·rw[t7 (L9 nd) hk h1];exact h2
  ·exact(pB nd hk h1).elim
 ·exact fun h=> .inl ⟨k,hk,h⟩
theorem uY (nd:(k7 P0).Nodup){y:N9}(hy:(n,y)∈P0.ts):WP P0 R ps (n,t)↔∃s e,(y.2.1,s)∈ps∧(y.2.2,e)∈ps∧(t,(y.1,s,e))∈R.ts:=by
 constructor
 ·rintro(⟨kd,h1,h2⟩|⟨y',s,e,h1,h2,h3,h4⟩)
  ·exact(pB nd h1 hy).elim
  ·have z:y'=y:=t7 (cw nd) h1 hy
   subst z
   exact⟨s,e,h2,h3,h4⟩
 ·rintro⟨s,e,h2,h3,h4⟩
  exact .inr ⟨y,s,e,hy,h2,h3,h4⟩
theorem WP.inP (h:WP P0 R ps (n,t)):n∈k7 P0:=by
 rcases h with⟨kd,h1,h2⟩|⟨y,s,e,h1,_⟩
 ·exact mem_nms.mpr (.inl ⟨_,h1⟩)
 ·exact mem_nms.mpr (.inr ⟨_,h1⟩)
theorem WP.inR (h:WP P0 R ps (n,t)):t∈k7 R:=by
 rcases h with⟨kd,h1,h2⟩|⟨y,s,e,_,_,_,h1⟩
 ·exact mem_nms.mpr (.inl ⟨_,h2⟩)
 ·exact mem_nms.mpr (.inr ⟨_,h1⟩)
theorem yF {H:Hp}{Q:VK}{k:Str}(ndP:(k7 P0).Nodup)(ndR:(k7 R).Nodup)(hk:(n,k)∈P0.pts)(q:∀b,(b=true↔WP P0 R ps (n,t))→Q (.bl b) H):fu K ((z6 (r6 R.pts) (Sum.inr t:j8)).getD .non) (.str k) H Q:=by
 cases e:z6 (r6 R.pts) (Sum.inr t:j8) with
 |none=>
  refine vI (.inl ⟨rfl,?_⟩)
  rw[show decide ((none:Option V).getD V.non=V.str k)=false by simp]
  refine q false ⟨fun z=>(nomatch z),fun z=>?_⟩
  rw[M6 (L9 ndR) ((uX ndP hk).mp z)] at e
  cases e
 |some v=>
  obtain⟨k',rfl,hk'⟩:=pS e
  refine ml (q _ ?_)
  rw[uX ndP hk,decide_eq_true_iff]
  exact⟨fun z=>z▸hk',fun z=>t7 (L9 ndR) hk' z⟩
theorem yO {H:Hp}{Q:VK}{y:N9}{kvs':List (j8×V)}{l:Addr}(ndP:(k7 P0).Nodup)(ndR:(k7 R).Nodup)(nk:(ps.map (·.1)).Nodup)(hR:TiesIs K H kvs' R.ts)(hy:(n,y)∈P0.ts)(hl:SqT K H l (kU ps y))(q:∀b,(b=true↔WP P0 R ps (n,t))→Q (.bl b) H):fu K ((z6 kvs' (Sum.inr t:j8)).getD .non) (.ref l) H Q:=by
 by_cases ht:t∈R.ts.map (·.1)
 ·obtain⟨bb,z,h1,h2,h3⟩:=TiesIs.val (ts:=R.ts) hR ht
  rw[h1]
  refine vI (tU h3 hl (vT _) (rJ _ _) (q _ ?_))
  rw[xU nk,uY ndP hy]
  constructor
  ·rintro⟨e1,e2,e3⟩
   refine⟨_,_,e2,e3,?_⟩
   rw[←e1];exact h2
  ·rintro⟨s,e,e2,e3,e4⟩
   have z':=t7 (cw ndR) h2 e4
   rw[z']
   exact⟨rfl,e2,e3⟩
 ·have e:z6 kvs' (Sum.inr t:j8)=none:=by
   cases e:z6 kvs' (Sum.inr t:j8) with
   |none=>rfl
   |some v=>
    have z:=aW (n:=t) hR
    rw[e,decide_eq_false ht] at z
    cases z
  rw[e]
  refine vI (.inr (.inr (.inl (.inr ⟨l,_,rfl,rfl,hl,q false ⟨fun z=>(nomatch z),fun z=>?_⟩⟩))))
  obtain⟨s,e',_,_,h4⟩:=(uY ndP hy).mp z
  exact absurd (List.mem_map.mpr ⟨_,h4,rfl⟩) ht
end
def bu (K:PySem.W.Frag):Sp:=fun vs H Q _=>∃(t d:Addr) (x:N9) (ps:List (Str×Str)),vs=[.ref t,.ref d]∧SqT K H t (aP x)∧Rd H d (.dK (r6 ps))∧∀(l:Addr) (H':Hp),H l=none→Same H H'→H' l=some (.tup (kU ps x))→Q (.ref l) H'
abbrev cG (P:Program)(w:World)(K:PySem.W.Frag)(mg:Str→Option Value)(base:Heap):Prop:=F0 P w K mg base x9 1 "tie_paired" ["tie","paired"] [] (bu K)
theorem iL {f:Addr}{fd:FuncData}(T:Txt K mg)(F:Fun K "tie_paired" "tie_paired" Y4 f fd):p0 P w K mg base x9 1 f fd ["tie","paired"] (bu K):=by
 refine F.ok sc_tie_paired (fun vs H Q E h=>?_) (fun cdv A outer s H vs Q E hr h=>?_)
 ·obtain⟨t,d,x,ps,rfl,_⟩:=h
  rfl
 ·obtain⟨t,d,⟨x1,x2,x3⟩,ps,rfl,hT,hD,k⟩:=h
  have hN:=sc_tie_paired.nd
  have hu:=A1 hr
  refine⟨_,QSs.r (E6 (C9 (K1 (i9 (x6 (x8 K hu) (qV 0) j0 (fun _ _=>rfl)) (i9 (dJ hu (qV 1) (x6 (x8 K hu) (qV 0) j0 (fun _ _=>rfl))) (i9 (dJ hu (qV 1) (x6 (x8 K hu) (qV 0) j0 (fun _ _=>rfl))) o3)))))),?_⟩
  walk_at "r"
  refine b7 hT (b5 (j:=0) rfl) ?_
  walk_at "r"
  refine⟨d,rfl,.inl ⟨_,hD⟩,?_⟩
  walk_at "r"
  refine b7 hT (b5 (j:=1) rfl) ?_
  refine⟨_,L0 (k:=Sum.inr x2) hD,?_⟩
  walk_at "r"
  refine⟨d,rfl,.inl ⟨_,hD⟩,?_⟩
  walk_at "r"
  refine b7 hT (b5 (j:=2) rfl) ?_
  refine⟨_,L0 (k:=Sum.inr x3) hD,?_⟩
  walk_at "r"
  refine⟨h9 (by simp),fun l9 n9=>?_⟩
  obtain⟨H9,e9,f9,m9,_⟩:=d6 (o:= .tup (kU ps (x1,x2,x3))) n9
  change Q _ (p7 H l9 (.tup (kU ps (x1,x2,x3))))
  rw[e9]
  exact k l9 H9 n9 m9 f9
def PairB (K:PySem.W.Frag)(H:Hp)(v:V)(b:Bool):Prop:=(b=true∧∃(t:Addr) (n m:Str),v= .ref t∧SqT K H t [.str n,.str m])∨(b=false∧∃t,TyB K H v t∧du t "tuple"=false)
def gN (K:PySem.W.Frag):Sp:=fun vs H Q _=>∃v b,vs=[v]∧PairB K H v b∧∀H',Same H H'→Q (.bl b) H'
abbrev jd (P:Program)(w:World)(K:PySem.W.Frag)(mg:Str→Option Value)(base:Heap):Prop:=F0 P w K mg base x9 1 "is_pair" ["thing"] [] (gN K)
theorem nM {f:Addr}{fd:FuncData}(T:Txt K mg)(F:Fun K "is_pair" "is_pair" dc f fd):p0 P w K mg base x9 1 f fd ["thing"] (gN K):=by
 refine F.ok sc_is_pair (fun vs H Q E h=>?_) (fun cdv A outer s H vs Q E hr h=>?_)
 ·obtain⟨v,b,rfl,_⟩:=h
  rfl
 ·obtain⟨v,b,rfl,hb,k⟩:=h
  have hN:=sc_is_pair.nd
  have hu:=A1 hr
  refine⟨_,QSs.r (E6 (C9 (AO (qB (qi K P w) T.b_isinstance Boot.«isinstance» (i9 (qV 0) (i9 (Ds "tuple" T.b_tuple Boot.«tuple») o3))) (AO (iH (N7 K hr) (qB (K5 K P w) T.b_len Boot.«len» (i9 (qV 0) o3)) j0 (z0 _)) (BJ (qB (zG K rfl) T.b_all Boot.«all» (i9 (V4 (own:=["name"]) (js:=[]) (by kernel_rfl) rfl (af K (qV 0)) (fun _ _ _ _=>(U6 (i:=0) (show List.Nodup (["name"]:List Str) by decide+kernel) rfl (by walk_at "l"))) (fun _ _ _ _=>gn) (fun _ _ _ _=>(qB (qi K P w) T.b_isinstance Boot.«isinstance» (i9 (qV 0) (i9 (Ds "str" T.b_str Boot.«str») o3))))) o3))))))),?_⟩
  walk_at "r"
  rcases hb with⟨rfl,t,n,m,rfl,hT⟩|⟨rfl,t,hv,hn⟩
  ·refine iW (iY (t:="tuple") (.inr (.inl ⟨rfl,_,hT⟩)) (by simp) ?_)
   rw[show du "tuple" "tuple"=true from rfl]
   walk_at "r"
   refine E9 (qw hT ?_)
   walk_at "r"
   rw[if_pos (by rfl)]
   walk_at "r"
   refine uo hT ?_
   refine F8 (n:=2) (fun i out H'=>H'=H∧out=List.replicate i (V.bl true)) ⟨rfl,rfl⟩ (fun i out H' hi hp=>⟨_,[V.str n,.str m][i],by rw[hp.1];exact hT,List.getElem?_eq_getElem hi⟩) ?_ ?_
   ·rintro N i v out H1' H1 hi ⟨rfl,rfl⟩ yy hN'
    obtain⟨rfl,hy'⟩:=wF yy hT
    obtain⟨x,rfl⟩:∃x,v= .str x:=by
     match i,hi,hy' with
     |0,_,hy'=>cases hy';exact⟨n,rfl⟩
     |1,_,hy'=>cases hy';exact⟨m,rfl⟩
    walk_at "r"
    refine⟨rfl,?_⟩
    walk_at "r"
    refine iW (iY (t:="str") rfl (by simp) ?_)
    rw[show du "str" "str"=true from rfl]
    refine⟨h9 (by rw[List.length_replicate];omega),hN' _ _ ⟨rfl,?_⟩⟩
    rw[List.replicate_succ']
   ·rintro out H1 ⟨rfl,rfl⟩
    refine⟨⟨_,hT,Nat.le_refl _⟩,fun D hD=>⟨h9 (by simp),?_⟩⟩
    obtain⟨H2,e2,f2,m2,_⟩:=d6 (H:=H1) (o:= .lst (List.replicate 2 (V.bl true))) hD
    walk_at "r"
    change vL K _ (p7 H1 D _) _
    rw[e2]
    refine tG (bs:=[true,true]) (SqL.of f2) ?_
    exact k H2 m2
  ·refine iW (iY hv (by simp) ?_)
   rw[hn]
   walk_at "r"
   exact k H (Same.refl H)
def R9 (K:PySem.W.Frag):Sp:=fun vs H Q _=>∃(a p q a' p' q' d:Addr) (kvs kvs':List (j8×V)) (P R:E7) (ps:List (Str×Str)) (x:Str×Str),vs=[.ref a,.ref a',.ref d,.str x.1]∧WebAt K H a p q kvs P∧(k7 P).Nodup∧WebAt K H a' p' q' kvs' R∧(k7 R).Nodup∧Rd H d (.dK (r6 ps))∧(ps.map (·.1)).Nodup∧x∈ps∧∀H' b,Same H H'→(b=true↔WP P R ps x)→Q (.bl b) H'
def cc (K:PySem.W.Frag):Sp:=fun vs H Q _=>∃(a p q a' p' q' d:Addr) (kvs kvs':List (j8×V)) (P R:E7) (ps:List (Str×Str)) (x:Str×Str),vs=[.ref a,.ref a',.ref d,.str x.1]∧WebAt K H a p q kvs P∧(k7 P).Nodup∧WebAt K H a' p' q' kvs' R∧(k7 R).Nodup∧Rd H d (.dK (r6 ps))∧(ps.map (·.1)).Nodup∧x∈ps∧x.1∈k7 P∧∀H' b,Same H H'→(b=true↔WP P R ps x)→Q (.bl b) H'
abbrev V1 (P:Program)(w:World)(K:PySem.W.Frag)(mg:Str→Option Value)(base:Heap):Prop:=F0 P w K mg base x9 2 "is_well_paired" ["piece","other","paired","name"] [] (R9 K)
theorem cj {f:Addr}{fd:FuncData}(T:Txt K mg)(Z0:cG P w K mg base)(F:Fun K "is_well_paired" "is_well_paired" M0 f fd):p0 P w K mg base x9 2 f fd ["piece","other","paired","name"] (R9 K):=by
 refine F.ok sc_is_well_paired (fun vs H Q E h=>?_) (fun cdv A outer s H vs Q E hr h=>?_)
 ·obtain⟨a,p,q,a',p',q',d,kvs,kvs',P0,R,ps,x,rfl,_⟩:=h
  rfl
 ·obtain⟨a,p,q,a',p',q',d,kvs,kvs',P0,R,ps,⟨n,t⟩,rfl,hP,ndP,hR,ndR,hd,nk,hx,k⟩:=h
  have tx:TxtAt (r6 ps) n:=⟨t,M6 nk hx⟩
  have gx:jZ (r6 ps) n=t:=cn nk hx
  have hN:=sc_is_well_paired.nd
  have hu:=A1 hr
  refine⟨_,QSs.r (C6 (fb (C7 (kIn K hu) (qV 3) (x6 (x8 K hu) (qV 0) j0 (fun _ _=>rfl)) (by rfl)) (E6 (C9 (iH (N7 K hr) (dJ hu (x6 (x8 K hu) (qV 1) j0 (fun _ _=>rfl)) (x6 (x8 K hu) (qV 2) (qV 3) (fun _ _=>rfl))) (x6 (x8 K hu) (x6 (x8 K hu) (qV 0) j0 (fun _ _=>rfl)) (qV 3) (fun _ _=>rfl)) (z0 _)))) ie)
   (C6 (fb (C7 (kIn K hu) (qV 3) (x6 (x8 K hu) (qV 0) j0 (fun _ _=>rfl)) (by rfl)) (E6 (C9 (iH (N7 K hr) (dJ hu (x6 (x8 K hu) (qV 1) j0 (fun _ _=>rfl)) (x6 (x8 K hu) (qV 2) (qV 3) (fun _ _=>rfl))) (qC Z0 (hr.mono (by decide)) o9 (i9 (x6 (x8 K hu) (x6 (x8 K hu) (qV 0) j0 (fun _ _=>rfl)) (qV 3) (fun _ _=>rfl)) (i9 (qV 2) o3))) (z0 _)))) ie)
   (E6 (C9 kE)))),?_⟩
  walk_at "r"
  refine b7 hP.tup (b5 (j:=0) rfl) ?_
  refine aK (L0 (k:=Sum.inr n) hP.pts) ?_
  rw[M8]
  walk_at "r"
  refine K4 (fun b1=>?_) (fun b1=>?_)
  ·obtain⟨⟨y1,y2⟩,hy,ey⟩:=List.mem_map.mp b1
   have ey':y1=n:=ey
   subst ey'
   walk_at "r"
   refine b7 hR.tup (b5 (j:=0) rfl) ?_
   refine⟨p',rfl,.inl ⟨_,hR.pts⟩,?_⟩
   walk_at "r"
   refine yD hd tx ?_
   rw[gx]
   refine⟨_,L0 (k:=Sum.inr t) hR.pts,?_⟩
   walk_at "r"
   refine b7 hP.tup (b5 (j:=0) rfl) ?_
   walk_at "r"
   refine E4 (v:= .str y2) (by have z:=L0 (k:=Sum.inr y1) hP.pts;rw[M6 (L9 ndP) hy] at z;exact z) ?_
   exact yF ndP ndR hy fun b hb=>k H b (Same.refl H) hb
  ·walk_at "r"
   refine b7 hP.tup (b5 (j:=1) rfl) ?_
   refine aK (L0 (k:=Sum.inr n) hP.ties) ?_
   rw[aW hP.ts]
   walk_at "r"
   refine K4 (fun b2=>?_) (fun b2=>?_)
   ·obtain⟨aa,y,g1,g2,g3⟩:=TiesIs.val (ts:=P0.ts) hP.ts b2
    walk_at "r"
    refine b7 hR.tup (b5 (j:=1) rfl) ?_
    refine⟨q',rfl,.inl ⟨_,hR.ties⟩,?_⟩
    walk_at "r"
    refine yD hd tx ?_
    rw[gx]
    refine⟨_,L0 (k:=Sum.inr t) hR.ties,?_⟩
    walk_at "r"
    refine b7 hP.tup (b5 (j:=1) rfl) ?_
    walk_at "r"
    refine E4 (v:= .ref aa) (by have z:=L0 (k:=Sum.inr n) hP.ties;rw[g1] at z;exact z) ?_
    walk_at "r"
    refine⟨aa,d,y,ps,rfl,g3,hd,fun l H1 n1 m1 f1=>?_⟩
    exact yO ndP ndR nk (hR.mono m1.le).ts g2 (SqT.of f1) fun b hb=>k H1 b m1 hb
   ·walk_at "r"
    refine k H false (Same.refl H) ⟨fun z=>(nomatch z),fun z=>?_⟩
    exact((List.mem_append.mp (show n∈P0.pts.map (·.1)++P0.ts.map (·.1) from z.inP)).elim b1 b2).elim
abbrev dQ (P:Program)(w:World)(K:PySem.W.Frag)(mg:Str→Option Value)(base:Heap):Prop:=F0 P w K mg base x9 1 "_law_fits" ["_law_piece_here","_law_other","_law_there","_law_name"] [] (cc K)
theorem jR {f:Addr}{fd:FuncData}(T:Txt K mg)(F:Fun K "_law_fits" "_law_fits" aQ f fd):p0 P w K mg base x9 1 f fd ["_law_piece_here","_law_other","_law_there","_law_name"] (cc K):=by
 refine F.ok sc__law_fits (fun vs H Q E h=>?_) (fun cdv A outer s H vs Q E hr h=>?_)
 ·obtain⟨a,p,q,a',p',q',d,kvs,kvs',P0,R,ps,x,rfl,_⟩:=h
  rfl
 ·obtain⟨a,p,q,a',p',q',d,kvs,kvs',P0,R,ps,⟨n,t⟩,rfl,hP,ndP,hR,ndR,hd,nk,hx,hin,k⟩:=h
  have tx:TxtAt (r6 ps) n:=⟨t,M6 nk hx⟩
  have gx:jZ (r6 ps) n=t:=cn nk hx
  have hN:=sc__law_fits.nd
  have hu:=A1 hr
  refine⟨_,QSs.r (C6 (z8 (i:=4) hN rfl (by walk_at "l") (x6 (x8 K hu) (qV 2) (qV 3) (fun _ _=>rfl)))
   (C6 (fb (C7 (kIn K hu) (qV 3) (x6 (x8 K hu) (qV 0) j0 (fun _ _=>rfl)) (by rfl)) (E6 (C9 (iH (N7 K hr) (dJ hu (x6 (x8 K hu) (qV 1) j0 (fun _ _=>rfl)) (qV 4)) (x6 (x8 K hu) (x6 (x8 K hu) (qV 0) j0 (fun _ _=>rfl)) (qV 3) (fun _ _=>rfl)) (z0 _)))) ie)
   (C6 (Y9 (x6 (x8 K hu) (x6 (x8 K hu) (qV 0) j0 (fun _ _=>rfl)) (qV 3) (fun _ _=>rfl)) (wb K rfl (ic (U6 (i:=5) hN rfl (by walk_at "l")) (ic (U6 (i:=6) hN rfl (by walk_at "l")) (ic (U6 (i:=7) hN rfl (by walk_at "l")) we)))))
   (E6 (C9 (iH (N7 K hr) (dJ hu (x6 (x8 K hu) (qV 1) j0 (fun _ _=>rfl)) (qV 4)) (K1 (i9 (qV 5) (i9 (dJ hu (qV 2) (qV 6)) (i9 (dJ hu (qV 2) (qV 7)) o3)))) (z0 _))))))),?_⟩
  walk_at "r"
  refine yD hd tx ?_
  rw[gx]
  walk_at "r"
  refine b7 hP.tup (b5 (j:=0) rfl) ?_
  refine aK (L0 (k:=Sum.inr n) hP.pts) ?_
  rw[M8]
  walk_at "r"
  refine K4 (fun b1=>?_) (fun b1=>?_)
  ·obtain⟨⟨y1,y2⟩,hy,ey⟩:=List.mem_map.mp b1
   have ey':y1=n:=ey
   subst ey'
   walk_at "r"
   refine b7 hR.tup (b5 (j:=0) rfl) ?_
   refine⟨p',rfl,.inl ⟨_,hR.pts⟩,?_⟩
   walk_at "r"
   refine⟨_,L0 (k:=Sum.inr t) hR.pts,?_⟩
   walk_at "r"
   refine b7 hP.tup (b5 (j:=0) rfl) ?_
   walk_at "r"
   refine E4 (v:= .str y2) (by have z:=L0 (k:=Sum.inr y1) hP.pts;rw[M6 (L9 ndP) hy] at z;exact z) ?_
   exact yF ndP ndR hy fun b hb=>k H b (Same.refl H) hb
  ·have ht:n∈P0.ts.map (·.1):=(List.mem_append.mp hin).resolve_left b1
   obtain⟨aa,⟨y1,y2,y3⟩,g1,g2,g3⟩:=TiesIs.val (ts:=P0.ts) hP.ts ht
   walk_at "r"
   refine b7 hP.tup (b5 (j:=1) rfl) ?_
   walk_at "r"
   refine E4 (v:= .ref aa) (by have z:=L0 (k:=Sum.inr n) hP.ties;rw[g1] at z;exact z) ?_
   refine T4 (show SqT K H aa [.str y1,.str y2,.str y3] from g3) rfl ?_
   walk_at "r"
   refine b7 hR.tup (b5 (j:=1) rfl) ?_
   refine⟨q',rfl,.inl ⟨_,hR.ties⟩,?_⟩
   walk_at "r"
   refine⟨_,L0 (k:=Sum.inr t) hR.ties,?_⟩
   walk_at "r"
   refine⟨d,rfl,.inl ⟨_,hd⟩,?_⟩
   walk_at "r"
   refine⟨_,L0 (k:=Sum.inr y2) hd,?_⟩
   walk_at "r"
   refine⟨d,rfl,.inl ⟨_,hd⟩,?_⟩
   walk_at "r"
   refine⟨_,L0 (k:=Sum.inr y3) hd,?_⟩
   walk_at "r"
   refine⟨h9 (by simp),fun l9 n9=>?_⟩
   obtain⟨H9,e9,f9,m9,_⟩:=d6 (o:= .tup (kU ps (y1,y2,y3))) n9
   change fu K _ _ (p7 H l9 (.tup (kU ps (y1,y2,y3)))) _
   rw[e9]
   exact yO ndP ndR nk (hR.mono m9.le).ts g2 (SqT.of f9) fun b hb=>k H9 b m9 hb
theorem TyB.same {H H':Hp}{v:V}{t:String}(s:Same H H')(h:TyB K H v t):TyB K H' v t:=by
 cases v with
 |ref a=>
  rcases h with⟨e,xs,z⟩|⟨e,xs,z⟩|⟨e,xs,z⟩
  ·exact .inl ⟨e,xs,s.seq z⟩
  ·exact .inr (.inl ⟨e,xs,s.tup z⟩)
  ·exact .inr (.inr ⟨e,xs,s.rd z⟩)
 |_=>exact h
theorem PairB.same {H H':Hp}{v:V}{b:Bool}(s:Same H H')(h:PairB K H v b):PairB K H' v b:=by
 rcases h with⟨e,t,n,m,e2,z⟩|⟨e,t,z,w⟩
 ·exact .inl ⟨e,t,n,m,e2,s.tup z⟩
 ·exact .inr ⟨e,t,TyB.same s z,w⟩
structure mZ (P R:E7) (ps:List (Str×Str)):Prop where
 nk:(ps.map (·.1)).Nodup
 nv:(ps.map (·.2)).Nodup
 so:ps.Pairwise Di
 wp:∀x∈ps,WP P R ps x
def BadV (K:PySem.W.Frag)(H:Hp)(P R:E7)(v:V):Prop:=(∃t,TyB K H v t∧t≠"list")∨∃l xs,v= .ref l∧H l=some (.lst xs)∧xs.length≤30∧((∃bs,Paired (PairB K H) xs bs∧false∈bs)∨∃ps,PrsAt K H xs ps∧¬mZ P R ps)
def GoodV (K:PySem.W.Frag)(H:Hp)(P R:E7)(v:V)(ps:List (Str×Str)):Prop:=∃l xs,v= .ref l∧H l=some (.lst xs)∧xs.length≤30∧PrsAt K H xs ps∧mZ P R ps
theorem BadV.same {H H':Hp}{P R:E7}{v:V}(s:Same H H')(h:BadV K H P R v):BadV K H' P R v:=by
 rcases h with⟨t,h1,h2⟩|⟨l,xs,h1,h2,h3,⟨bs,h4,h5⟩|⟨ps,h4,h5⟩⟩
 ·exact .inl ⟨t,TyB.same s h1,h2⟩
 ·exact .inr ⟨l,xs,h1,s _ _ h2,h3,.inl ⟨bs,Paired.imp' (fun _ _ z=>PairB.same s z) h4,h5⟩⟩
 ·exact .inr ⟨l,xs,h1,s _ _ h2,h3,.inr ⟨ps,h4.mono s.le,h5⟩⟩
theorem GoodV.same {H H':Hp}{P R:E7}{v:V}{ps:List (Str×Str)}(s:Same H H')(h:GoodV K H P R v ps):GoodV K H' P R v ps:=by
 obtain⟨l,xs,h1,h2,h3,h4,h5⟩:=h
 exact⟨l,xs,h1,s _ _ h2,h3,h4.mono s.le,h5⟩
def bD (K:PySem.W.Frag):Sp:=fun vs H Q _=>∃(a p q a' p' q':Addr) (kvs kvs':List (j8×V)) (P R:E7) (v:V) (b:Bool),vs=[.ref a,.ref a',v]∧WebAt K H a p q kvs P∧(k7 P).Nodup∧WebAt K H a' p' q' kvs' R∧(k7 R).Nodup∧((b=false∧BadV K H P R v)∨(b=true∧∃ps,GoodV K H P R v ps))∧∀H',Same H H'→Q (.bl b) H'
theorem uF {α:Type}[DecidableEq α]:∀{l m:List α},l.Nodup→(∀x∈l,x∈m)→m.length≤l.length→l.Perm m:=by
 intro l
 induction l with
 |nil=>
  intro m _ _ h
  rw[List.eq_nil_of_length_eq_zero (Nat.le_zero.mp h)]
 |cons x r ih=>
  intro m nd h hl
  have nd':=List.nodup_cons.mp nd
  have hx:=h x List.mem_cons_self
  have z:=ih (m:=m.erase x) nd'.2 (fun y hy=>(List.mem_erase_of_ne (fun e:y=x=>nd'.1 (by rw[←e];exact hy))).mpr (h y (List.mem_cons_of_mem _ hy))) (by rw[List.length_erase_of_mem hx];rw[List.length_cons] at hl;omega)
  exact(z.cons x).trans (List.perm_cons_erase hx).symm
theorem addS_le:∀(ss a:List Str),(ss.foldl Q5 a).length≤a.length+ss.length:=by
 intro ss
 induction ss with
 |nil=>intro a;exact Nat.le_refl _
 |cons x r ih=>
  intro a
  have z:=ih (Q5 a x)
  have:(Q5 a x).length≤a.length+1:=by
   unfold Q5
   split
   ·exact Nat.le_succ _
   ·rw[List.length_append];exact Nat.le_refl _
  rw[List.foldl_cons,List.length_cons];omega
theorem vf:∀(l A:List (Str×Str)),(A.map (·.1)).Nodup→∃C:List (Str×Str),(r6 l).foldl (fun a x=>D0 a x.1 x.2) (r6 A)=r6 C∧(C.map (·.1)).Nodup∧∀n∈C.map (·.1),n∈A.map (·.1)∨n∈l.map (·.1):=by
 intro l
 induction l with
 |nil=>intro A nd;exact⟨A,rfl,nd,fun n h=> .inl h⟩
 |cons b r ih=>
  intro A nd
  by_cases h:b.1∈A.map (·.1)
  ·have e1:D0 (r6 A) (Sum.inr b.1:j8) (.str b.2)=r6 (A.map fun x=>if x.1=b.1 then(x.1,b.2) else x):=by
    obtain⟨y,hy,ey⟩:=List.mem_map.mp h
    rw[aY (by rw[C5];exact List.mem_map.mpr ⟨y,hy,by rw[ey]⟩)]
    unfold r6
    rw[List.map_map,List.map_map]
    refine List.map_congr_left fun x _=>?_
    by_cases e:x.1=b.1
    ·show(if(Sum.inr x.1:j8)=Sum.inr b.1 then((Sum.inr x.1:j8),V.str b.2) else(Sum.inr x.1,V.str x.2))=_
     rw[if_pos (by rw[e])]
     simp [e]
    ·show(if(Sum.inr x.1:j8)=Sum.inr b.1 then((Sum.inr x.1:j8),V.str b.2) else(Sum.inr x.1,V.str x.2))=_
     rw[if_neg fun z=>e (Sum.inr.inj z)]
     simp [e]
   have e2:(A.map fun x=>if x.1=b.1 then(x.1,b.2) else x).map (·.1)=A.map (·.1):=by
    rw[List.map_map]
    refine List.map_congr_left fun x _=>?_
    show(if x.1=b.1 then(x.1,b.2) else x).1=x.1
    split<;>rfl
   obtain⟨C,h1,h2,h3⟩:=ih (A.map fun x=>if x.1=b.1 then(x.1,b.2) else x) (by rw[e2];exact nd)
   refine⟨C,?_,h2,fun n hn=>?_⟩
   ·show(r6 r).foldl (fun a x=>D0 a x.1 x.2) (D0 (r6 A) (Sum.inr b.1:j8) (.str b.2))=_
    rw[e1];exact h1
   ·rcases h3 n hn with z|z
    ·rw[e2] at z;exact .inl z
    ·exact .inr (List.mem_cons_of_mem _ z)
  ·obtain⟨C,h1,h2,h3⟩:=ih (A++[b]) (by rw[List.map_append];exact F6 nd h)
   refine⟨C,?_,h2,fun n hn=>?_⟩
   ·show(r6 r).foldl (fun a x=>D0 a x.1 x.2) (D0 (r6 A) (Sum.inr b.1:j8) (.str b.2))=_
    rw[O9 h];exact h1
   ·rcases h3 n hn with z|z
    ·rw[List.map_append] at z
     rcases List.mem_append.mp z with z|z
     ·exact .inl z
     ·rw[show n=b.1 by simpa using z];exact .inr List.mem_cons_self
    ·exact .inr (List.mem_cons_of_mem _ z)
theorem wL (ps:List (Str×Str)):∃qs:List (Str×Str),dZ (r6 ps)=r6 qs∧qs.length≤ps.length∧(((ps.map (·.1)).Nodup∧qs=ps)∨(¬(ps.map (·.1)).Nodup∧qs.length<ps.length)):=by
 by_cases nd:(ps.map (·.1)).Nodup
 ·exact⟨ps,U9 (cM nd),Nat.le_refl _,.inl ⟨nd,rfl⟩⟩
 ·obtain⟨C,h1,h2,h3⟩:=vf ps [] List.nodup_nil
  have sub:∀n∈C.map (·.1),n∈ps.map (·.1):=fun n hn=>(h3 n hn).resolve_left (by simp)
  have lt:C.length<ps.length:=Nat.lt_of_not_le fun z=>nd ((uF h2 sub (by rw[List.length_map,List.length_map];exact z)).nodup_iff.mp h2)
  exact⟨C,h1,Nat.le_of_lt lt,.inr ⟨nd,lt⟩⟩
theorem AU (x y:Str×Str):S8 (pV x) (pV y)=decide (x=y):=by
 obtain⟨x1,x2⟩:=x
 obtain⟨y1,y2⟩:=y
 show(x1==y1&&(x2==y2&&true))=_
 rw[Bool.eq_iff_iff]
 simp
theorem iX {H:Hp}{xs:List V}{ps:List (Str×Str)}(h:PrsAt K H xs ps):Paired (PairB K H) xs (ps.map fun _=>true):=by
 unfold PrsAt at h
 induction h with
 |nil=>exact .nil
 |cons a t ih=>
  obtain⟨t,e,z⟩:=a
  exact .cons (.inl ⟨rfl,t,_,_,e,z⟩) ih
theorem rH {bs:List Bool}(h:false∈bs):bs.all id=false:=by
 rw[Bool.eq_false_iff]
 intro z
 have:=List.all_eq_true.mp z _ h
 cases this
abbrev cf (P:Program)(w:World)(K:PySem.W.Frag)(mg:Str→Option Value)(base:Heap):Prop:=F0 P w K mg base x9 3 "is_overlap" ["piece","other","pairs"] [] (bD K)
theorem ik {f:Addr}{fd:FuncData}(T:Txt K mg)(cY:jd P w K mg base)(M5:V1 P w K mg base)(F:Fun K "is_overlap" "is_overlap" V8 f fd):p0 P w K mg base x9 3 f fd ["piece","other","pairs"] (bD K):=by
 refine F.ok sc_is_overlap (fun vs H Q E h=>?_) (fun cdv A outer s H vs Q E hr h=>?_)
 ·obtain⟨a,p,q,a',p',q',kvs,kvs',P0,R,v,b,rfl,_⟩:=h
  rfl
 ·obtain⟨a,p,q,a',p',q',kvs,kvs',P0,R,v,b,rfl,hP,ndP,hR,ndR,hv,k⟩:=h
  have three:(b=false∧∃t,TyB K H v t∧t≠"list")∨∃l xs bs,v= .ref l∧H l=some (.lst xs)∧xs.length≤30∧Paired (PairB K H) xs bs∧((bs.all id=false∧b=false)∨(bs.all id=true∧∃ps,PrsAt K H xs ps∧(b=true↔mZ P0 R ps))):=by
   rcases hv with⟨rfl,⟨t,h1,h2⟩|⟨l,xs,h1,h2,h3,⟨bs,h4,h5⟩|⟨ps,h4,h5⟩⟩⟩|⟨rfl,ps,l,xs,h1,h2,h3,h4,h5⟩
   ·exact .inl ⟨rfl,t,h1,h2⟩
   ·exact .inr ⟨l,xs,bs,h1,h2,h3,h4,.inl ⟨rH h5,rfl⟩⟩
   ·exact .inr ⟨l,xs,_,h1,h2,h3,iX h4,.inr ⟨by rw[List.all_map];exact List.all_eq_true.mpr fun _ _=>rfl,ps,h4,⟨fun z=>(nomatch z),fun z=>absurd z h5⟩⟩⟩
   ·exact .inr ⟨l,xs,_,h1,h2,h3,iX h4,.inr ⟨by rw[List.all_map];exact List.all_eq_true.mpr fun _ _=>rfl,ps,h4,⟨fun _=>h5,fun _=>rfl⟩⟩⟩
  clear hv
  have hN:=sc_is_overlap.nd
  have hu:=A1 hr
  refine⟨_,QSs.r (C6 (fb (vX (wI (mW (bB K (qB (qi K P w) T.b_isinstance Boot.«isinstance» (i9 (qV 2) (i9 (Ds "list" T.b_list Boot.«list») o3))))) (pK (mW (bB K (qB (zG K rfl) T.b_all Boot.«all» (i9 (V4 (own:=["pair"]) (js:=[]) (by kernel_rfl) rfl (af K (qV 2)) (fun _ _ _ _=>(U6 (i:=0) (show List.Nodup (["pair"]:List Str) by decide+kernel) rfl (by walk_at "l"))) (fun _ _ _ _=>gn) (fun _ _ _ _=>(qC cY (hr.mono (by decide)) o9 (i9 (qV 0) o3)))) o3))))))) (E6 (C9 kE)) ie)
   (C6 (z8 (i:=3) hN rfl (by walk_at "l") (kI (aU K rfl) T.b_dict Boot.«dict» (i9 (qV 2) o3)))
   (C6 (fb (vX (wI (C7 (jv K hr) (qB (K5 K P w) T.b_len Boot.«len» (i9 (kI (Ew K rfl) T.b_set Boot.«set» (i9 (kI (oK K rfl) T.b_list Boot.«list» (i9 (Cy PySem.F.plainAttrs_dict PySem.F.slot_dict_values PySem.F.type_dict_values Z4 K (qV 3)) o3)) o3)) o3)) (qB (K5 K P w) T.b_len Boot.«len» (i9 (qV 2) o3)) (z0 _)) (pK (C7 (jv K hr) (qV 2) (qB (lT K) T.b_sorted Boot.«sorted» (i9 (qV 2) o3)) (z0 _))))) (E6 (C9 kE)) ie)
   (E6 (C9 (qB (zG K rfl) T.b_all Boot.«all» (i9 (V4 (own:=["name"]) (js:=[0,1,3]) (by kernel_rfl) rfl (af K (qV 3)) (fun _ _ _ _=>(U6 (i:=0) (show List.Nodup (["name","piece","other","paired"]:List Str) by decide+kernel) rfl (by walk_at "l"))) (fun _ _ _ _=>gn) (fun _ _ _ _=>(qC M5 (hr.mono (by decide)) o9 (i9 (qV 1) (i9 (qV 2) (i9 (qV 3) (i9 (qV 0) o3))))))) o3))))))),?_⟩
  walk_at "r"
  rcases three with⟨rfl,t,ht,hn⟩|⟨l,xs,bs,rfl,hl,hx30,hbs,hb⟩
  ·refine iW (iY ht (by simp) ?_)
   rw[show du t "list"=false by unfold du;simp [hn]]
   walk_at "r"
   exact k H (Same.refl H)
  refine iW (iY (t:="list") (.inl ⟨rfl,_,SqL.of hl⟩) (by simp) ?_)
  rw[show du "list" "list"=true from rfl]
  have hbl:=Paired.length hbs
  walk_at "r"
  refine C4 (SqL.of hl) ?_
  refine F8 (n:=xs.length) (fun i out H'=>Same H H'∧out=(bs.take i).map V.bl) ⟨Same.refl _,rfl⟩ (fun i out H' hi hp=>⟨xs,xs[i],SqL.of (hp.1 _ _ hl),List.getElem?_eq_getElem hi⟩) ?_ ?_
  ·rintro N i v out H1' H1 hi ⟨s1,rfl⟩ y hN'
   obtain⟨rfl,hy⟩:=Itl.get y (SqL.of (s1 _ _ hl))
   obtain⟨x,hx,hpb⟩:=F2 hbs hy
   walk_at "r"
   refine⟨rfl,?_⟩
   walk_at "r"
   refine⟨_,x,rfl,hpb.same s1,fun H2 m2=>?_⟩
   refine⟨h9 (by rw[List.length_map,List.length_take];omega),hN' _ _ ⟨s1.trans m2,?_⟩⟩
   rw[List.take_succ,hx,List.map_append];rfl
  rintro out H1 ⟨s1,rfl⟩
  refine⟨⟨_,SqL.of (s1 _ _ hl),Nat.le_refl _⟩,fun D hD=>⟨h9 (by rw[List.length_map,List.length_take];omega),?_⟩⟩
  rw[List.take_of_length_le (by omega)]
  obtain⟨H2,e2,f2,m2,_⟩:=d6 (H:=H1) (o:= .lst (bs.map V.bl)) hD
  walk_at "r"
  change vL K _ (p7 H1 D _) _
  rw[e2]
  refine tG (SqL.of f2) ?_
  have s2:=s1.trans m2
  rcases hb with⟨e9,rfl⟩|⟨e9,ps,pr,hb⟩
  ·rw[e9]
   walk_at "r"
   exact k H2 s2
  rw[e9]
  clear hbs hbl e9 f2
  walk_at "r"
  have hxl:=Paired.length pr
  have pr2:=pr.mono s2.le
  refine M4 (SqL.of (s2 _ _ hl)) (wC pr2) (h9 (by rw[o5];omega)) (fun d nd=>?_)
  obtain⟨qs,eqs,lqs,hqs⟩:=wL ps
  rw[eqs]
  obtain⟨H3,e3,f3,m3,_⟩:=d6 (o:= .dK (r6 qs)) nd
  rw[e3]
  have s3:=s2.trans m3
  walk_at "r"
  refine⟨.inr (.inr (.inl ⟨rfl,.inl ⟨_,f3⟩⟩)),?_⟩
  refine⟨d,_,rfl,rfl,.inl f3,fun lv nv=>?_⟩
  obtain⟨H4,e4,f4,m4,_⟩:=d6 (o:= .ext (kS lv d)) nv
  rw[e4]
  walk_at "r"
  refine dF f4 (.inl (m4 _ _ f3)) (fun l5 n5=>?_)
  rw[lX]
  obtain⟨H5,e5,f5,m5,_⟩:=d6 (o:= .lst ((qs.map (·.2)).map V.str)) n5
  rw[e5]
  walk_at "r"
  refine⟨l5,_,rfl,SqL.of f5,by rw[List.length_map];omega,fun l6 n6=>?_⟩
  obtain⟨H6,e6,f6,m6,_⟩:=d6 (o:= .ext (dh l6 (iD (qs.map (·.2))).length)) n6
  rw[e6]
  have hded:(iD (qs.map (·.2))).length≤qs.length:=by
   have z:=addS_le (qs.map (·.2)) []
   rw[List.length_map] at z
   simpa [iD] using z
  have hdn:=sT (qs.map (·.2))
  rw[List.length_map] at hdn
  walk_at "r"
  refine sh f6 (by omega) ?_
  have s6:=s3.trans (m4.trans (m5.trans m6))
  walk_at "r"
  refine E9 (p9 (SqL.of (s6 _ _ hl)) ?_)
  walk_at "r"
  refine Y5 (fun z=>?_) (fun z=>?_)
  ·walk_at "r"
   have eb:b=false:=by
    rw[Bool.eq_false_iff]
    intro hbt
    have ov:=hb.mp hbt
    rcases hqs with⟨_,rfl⟩|⟨hn,_⟩
    ·exact z (by rw[hdn.mpr ov.nv,hxl])
    ·exact hn ov.nk
   rw[←eb]
   exact k _ s6
  have hqe:qs=ps:=by
   rcases hqs with⟨_,h⟩|⟨_,h⟩
   ·exact h
   ·omega
  have hnk:(ps.map (·.1)).Nodup:=by
   rcases hqs with⟨h,_⟩|⟨_,h⟩
   ·exact h
   ·omega
  subst hqe
  have hnv:=hdn.mp (by omega)
  clear hqs lqs hded hdn eqs z
  walk_at "r"
  obtain⟨us,e1,eu,ut⟩:=mv (pr.mono s6.le)
  have hus:us.length=qs.length:=by have z:=congrArg List.length eu;rwa [List.length_map,List.length_map] at z
  have uform:∀u∈us,∃x:Str×Str,u.2=pV x:=fun u hu=>by
   have z:u.2∈us.map (·.2):=List.mem_map.mpr ⟨u,hu,rfl⟩
   rw[eu] at z
   obtain⟨x,_,e⟩:=List.mem_map.mp z
   exact⟨x,e.symm⟩
  refine⟨l,us,rfl,by rw[←e1];exact SqL.of (s6 _ _ hl),fun u hu=>⟨ut u hu,?_⟩,fun u hu u' hu'=>?_,by omega,fun us' pm srt l7 n7=>?_⟩
  ·obtain⟨x,e⟩:=uform u hu
   exact⟨x.1,_,e⟩
  ·obtain⟨x,e⟩:=uform u hu
   obtain⟨x',e'⟩:=uform u' hu'
   rw[e,e']
   exact .cons (.inl ⟨_,_,rfl,rfl⟩) (.cons (.inl ⟨_,_,rfl,rfl⟩) .nil)
  obtain⟨H7,e7,f7,m7,_⟩:=d6 (o:= .lst (us'.map fun t=>V.ref t.1)) n7
  rw[e7]
  have hc:∀u∈us',u.2=pV (cD u.2):=fun u hu=>by
   obtain⟨x,e⟩:=uform u (pm.mem_iff.mp hu)
   rw[e,pJ]
  have p1:(us'.map fun u=>cD u.2).Perm qs:=by
   have p1:=pm.map fun u=>cD u.2
   have e9:us.map (fun u=>cD u.2)=qs:=by
    have z:(us.map (·.2)).map cD=(qs.map pV).map cD:=by rw[eu]
    rw[List.map_map,List.map_map] at z
    rw[show us.map (fun u=>cD u.2)=us.map (cD∘(·.2)) from rfl,z]
    exact(List.map_congr_left fun x _=>pJ x).trans (List.map_id qs)
   rwa [e9] at p1
  have so:(us'.map fun u=>cD u.2).Pairwise Di:=List.pairwise_map.mpr (List.Pairwise.imp_of_mem (fun{a b} ha hb z=>by
   show ¬D4 (pV (cD b.2))<D4 (pV (cD a.2))
   rw[←hc a ha,←hc b hb];exact z) srt)
  have hul:=pm.length_eq
  have s7:=s6.trans m7
  have hsq:Dx K H7 (.ref l) (.ref l7) ((qs.zip (us'.map fun u=>cD u.2)).map fun p=>decide (p.1=p.2)):=by
   refine⟨l,l7,us.map (fun t=>V.ref t.1),us'.map (fun t=>V.ref t.1),rfl,rfl,.inr ⟨SqL.of (by rw[←e1];exact s7 _ _ hl),SqL.of f7⟩,by rw[List.length_map,List.length_map];omega,by rw[List.length_map,List.length_zip,List.length_map,List.length_map];omega,fun j x y b hx hy hb=>?_⟩
   rw[List.getElem?_map] at hx hy hb
   obtain⟨u1,hu1,rfl⟩:=Option.map_eq_some_iff.mp hx
   obtain⟨u2,hu2,rfl⟩:=Option.map_eq_some_iff.mp hy
   obtain⟨⟨b1,b2⟩,hb',rfl⟩:=Option.map_eq_some_iff.mp hb
   obtain⟨g1,g2⟩:=List.getElem?_zip_eq_some.mp hb'
   have q1:(us.map (·.2))[j]?=some u1.2:=by rw[List.getElem?_map,hu1];rfl
   rw[List.getElem?_map,hu2] at g2
   rw[eu,List.getElem?_map,g1] at q1
   have q2:cD u2.2=b2:=Option.some.inj g2
   have q1':pV b1=u1.2:=Option.some.inj q1
   have t1:=m7.tup (ut u1 (List.mem_of_getElem? hu1))
   have t2:=m7.tup (ut u2 (pm.mem_iff.mp (List.mem_of_getElem? hu2)))
   rw[hc u2 (List.mem_of_getElem? hu2),q2] at t2
   rw[←q1'] at t1
   have z:=Eq1.tup t1 t2 (by rfl) (by rfl)
   rw[AU] at z
   exact EqN.of0 (.inl z) _
  walk_at "r"
  refine .inr ⟨_,hsq,?_⟩
  have hall:((qs.zip (us'.map fun u=>cD u.2)).map fun p=>decide (p.1=p.2)).all id=true↔qs=us'.map fun u=>cD u.2:=by
   rw[List.all_map,List.all_eq_true]
   constructor
   ·intro h
    refine List.ext_getElem (by rw[List.length_map];omega) fun j h1 h2=>?_
    have z:=h (qs[j],(us'.map fun u=>cD u.2)[j]) (by
     refine List.mem_of_getElem? (i:=j) ?_
     rw[List.getElem?_zip_eq_some]
     exact⟨List.getElem?_eq_getElem h1,List.getElem?_eq_getElem h2⟩)
    simpa using z
   ·intro h p hp
    rw[←h] at hp
    obtain⟨j,hj⟩:=List.getElem?_of_mem hp
    obtain⟨g1,g2⟩:=List.getElem?_zip_eq_some.mp hj
    rw[g1] at g2
    simpa using Option.some.inj g2
  cases e8:((qs.zip (us'.map fun u=>cD u.2)).map fun p=>decide (p.1=p.2)).all id with
  |false=>
   walk_at "r"
   have eb:b=false:=by
    rw[Bool.eq_false_iff]
    intro hbt
    have ov:=hb.mp hbt
    have z:=hall.mpr (jb (fun _ _=>tP) p1.symm ov.so so)
    rw[e8] at z
    cases z
   rw[←eb]
   exact k _ s7
  |true=>
  have hsp:qs.Pairwise Di:=by rw[hall.mp e8];exact so
  clear hall e8 hsq so p1 hc srt pm uform
  walk_at "r"
  have fd7:=(m4.trans (m5.trans (m6.trans m7))) _ _ f3
  refine sO fd7 (fun ndd o8=>?_)
  refine F8 (n:=(r6 qs).length) (fun i out H'=>Same (K0 d o8 (r6 qs) H7) H'∧∃bs:List Bool,out=bs.map V.bl∧bs.length=i∧∀(j:Nat) (x:Str×Str) (bb:Bool),qs[j]?=some x→bs[j]?=some bb→(bb=true↔WP P0 R qs x)) ⟨Same.refl _,[],rfl,rfl,fun j x bb _ h=>by simp at h⟩ (fun i out H' hi hp=>⟨hp.1 _ _ j7,hi⟩) ?_ ?_
  ·rintro N i v out H8' H8 hi ⟨s8,bs,rfl,hbl,hbw⟩ ⟨rfl,kv,hkv,rfl⟩ hN'
   obtain⟨x,hx,rfl⟩:=kC hkv
   have le8:=(bP (o:=o8) fd7).trans s8.le
   have leH:=s7.le.trans le8
   rw[o5] at hi
   walk_at "r"
   refine⟨rfl,?_⟩
   walk_at "r"
   refine⟨a,p,q,a',p',q',d,kvs,kvs',P0,R,qs,x,rfl,hP.mono leH,ndP,hR.mono leH,ndR,le8.dic (.inl fd7),hnk,List.mem_of_getElem? hx,fun H9 bb m9 hbb=>?_⟩
   refine⟨h9 (by rw[List.length_map];omega),hN' _ _ ⟨s8.trans m9,bs++[bb],by rw[List.map_append];rfl,by rw[List.length_append,hbl];rfl,fun j y b' hj hb'=>?_⟩⟩
   rcases Nat.lt_trichotomy j bs.length with z|z|z
   ·rw[List.getElem?_append_left z] at hb'
    exact hbw j y b' hj hb'
   ·rw[z,List.getElem?_append_right (Nat.le_refl _),Nat.sub_self] at hb'
    have e1:bb=b':=by simpa using hb'
    rw[z,hbl,hx] at hj
    cases hj
    rw[←e1];exact hbb
   ·rw[List.getElem?_eq_none (by rw[List.length_append];simp;omega)] at hb'
    cases hb'
  ·rintro out H8 ⟨s8,bs,rfl,hbl,hbw⟩
   rw[o5] at hbl
   refine⟨⟨s8 _ _ j7,Nat.le_refl _⟩,fun D2 hD2=>⟨h9 (by rw[List.length_map];omega),?_⟩⟩
   have sM:=gQ fd7 s8 hD2 (u:= .lst (bs.map V.bl))
   have fM:=ou s8 hD2 (u:= .lst (bs.map V.bl))
   generalize thaw d (p7 H8 D2 (.lst (bs.map V.bl)))=HM at sM fM⊢
   walk_at "r"
   refine tG (SqL.of fM) ?_
   have eb:bs.all id=b:=by
    rw[Bool.eq_iff_iff,hb,List.all_eq_true]
    constructor
    ·intro h
     refine⟨hnk,hnv,hsp,fun x hx=>?_⟩
     obtain⟨j,hj⟩:=List.getElem?_of_mem hx
     have lj:j<bs.length:=by
      rcases Nat.lt_or_ge j qs.length with z|z
      ·omega
      ·rw[List.getElem?_eq_none z] at hj;cases hj
     exact(hbw j x _ hj (List.getElem?_eq_getElem lj)).mp (h _ (List.getElem_mem lj))
    ·intro h bb hbb
     obtain⟨j,hj⟩:=List.getElem?_of_mem hbb
     have lj:j<qs.length:=by
      rcases Nat.lt_or_ge j bs.length with z|z
      ·omega
      ·rw[List.getElem?_eq_none z] at hj;cases hj
     exact(hbw j _ bb (List.getElem?_eq_getElem lj) hj).mpr (h.wp _ (List.getElem_mem lj))
   rw[eb]
   exact k HM (s7.trans sM)
def aN (n:Str):Str:=("a.":Str)++n
def bN (n:Str):Str:=("b.":Str)++n
theorem aX (x y:Str):(x++y).cps.toList=x.cps.toList++y.cps.toList:=by
 show(x.cps++y.cps).toList=_
 simp
theorem jV {n m:Str}(h:aN n=aN m):n=m:=by
 have z:(("a.":Str)++n).cps.toList=(("a.":Str)++m).cps.toList:=congrArg (fun s:Str=>s.cps.toList) h
 rw[aX,aX] at z
 exact cz (List.append_cancel_left z)
theorem za {n m:Str}(h:bN n=bN m):n=m:=by
 have z:(("b.":Str)++n).cps.toList=(("b.":Str)++m).cps.toList:=congrArg (fun s:Str=>s.cps.toList) h
 rw[aX,aX] at z
 exact cz (List.append_cancel_left z)
theorem yK {n m:Str}:aN n≠bN m:=fun h=>by
 have z:(("a.":Str)++n).cps.toList=(("b.":Str)++m).cps.toList:=congrArg (fun s:Str=>s.cps.toList) h
 rw[aX,aX] at z
 have e1:("a.":Str).cps.toList=[97,46]:=by decide+kernel
 have e2:("b.":Str).cps.toList=[98,46]:=by decide+kernel
 rw[e1,e2] at z
 exact absurd (List.cons.inj z).1 (by decide)
def Z8 (ps:List (Str×Str))(t:Str):Str:=match ps.find? (fun x=>decide (x.2=t)) with
 |some x=>aN x.1
 |none=>bN t
theorem cN (ps:List (Str×Str))(t:Str):(∃n,(n,t)∈ps∧Z8 ps t=aN n)∨(t∉ps.map (·.2)∧Z8 ps t=bN t):=by
 unfold Z8
 cases e:ps.find? (fun x=>decide (x.2=t)) with
 |none=>
  refine .inr ⟨fun z=>?_,rfl⟩
  obtain⟨x,hx,ex⟩:=List.mem_map.mp z
  exact absurd (List.find?_eq_none.mp e x hx) (by simpa using ex)
 |some x=>
  have z:x.2=t:=by simpa using List.find?_some e
  exact .inl ⟨x.1,by rw[←z];exact List.mem_of_find?_eq_some e,rfl⟩
theorem lP {l:List (Str×Str)}{n m s:Str}(nd:(l.map (·.2)).Nodup)(h1:(n,s)∈l)(h2:(m,s)∈l):n=m:=
 t7 (l:=l.map fun x=>(x.2,x.1)) (n:=s) (by rw[List.map_map];exact nd) (List.mem_map.mpr ⟨_,h1,rfl⟩) (List.mem_map.mpr ⟨_,h2,rfl⟩)
structure OV (P R:E7) (ps:List (Str×Str)):Prop where
 ov:mZ P R ps
 ndP:(k7 P).Nodup
 ndR:(k7 R).Nodup
 eP:∀x∈P.ts,x.2.2.1∈P.pts.map (·.1)∧x.2.2.2∈P.pts.map (·.1)
 eR:∀x∈R.ts,x.2.2.1∈R.pts.map (·.1)∧x.2.2.2∈R.pts.map (·.1)
section
variable {P R:E7} {ps:List (Str×Str)}
theorem OV.nk (o:OV P R ps):(ps.map (·.1)).Nodup:=o.ov.nk
theorem OV.nv (o:OV P R ps):(ps.map (·.2)).Nodup:=o.ov.nv
theorem OV.u1 (o:OV P R ps){n t t':Str}(h:(n,t)∈ps)(h':(n,t')∈ps):t=t':=t7 o.nk h h'
theorem OV.u2 (o:OV P R ps){n n' t:Str}(h:(n,t)∈ps)(h':(n',t)∈ps):n=n':=lP o.nv h h'
theorem OV.ptR (o:OV P R ps){n t kd:Str}(h:(n,t)∈ps)(hk:(n,kd)∈P.pts):(t,kd)∈R.pts:=(uX o.ndP hk).mp (o.ov.wp _ h)
theorem OV.tiR (o:OV P R ps){n t:Str}{x:N9}(h:(n,t)∈ps)(hk:(n,x)∈P.ts):∃s e,(x.2.1,s)∈ps∧(x.2.2,e)∈ps∧(t,(x.1,s,e))∈R.ts:=(uY o.ndP hk).mp (o.ov.wp _ h)
theorem OV.mem' (o:OV P R ps){n t:Str}(h:(n,t)∈ps):n∈k7 P∧t∈k7 R∧True:=⟨(o.ov.wp _ h).inP,(o.ov.wp _ h).inR,trivial⟩
theorem OV.fb_a (o:OV P R ps){n t:Str}(h:(n,t)∈ps):Z8 ps t=aN n:=by
 rcases cN ps t with⟨n',h',e⟩|⟨hn,_⟩
 ·rw[e,o.u2 h h']
 ·exact absurd (List.mem_map.mpr ⟨_,h,rfl⟩) hn
theorem OV.fb_back (o:OV P R ps){n t:Str}(h:aN n=Z8 ps t):(n,t)∈ps:=by
 rcases cN ps t with⟨n',h',e⟩|⟨_,e⟩
 ·rw[e] at h
  rw[jV h];exact h'
 ·rw[e] at h
  exact absurd h yK
theorem OV.fb_inj (o:OV P R ps){t t':Str}(h:Z8 ps t=Z8 ps t'):t=t':=by
 rcases cN ps t with⟨n,h1,e⟩|⟨h1,e⟩
 ·rw[e] at h
  exact o.u1 h1 (o.fb_back h)
 ·rcases cN ps t' with⟨n',h2,e2⟩|⟨_,e2⟩
  ·rw[e,e2] at h
   exact absurd h.symm yK
  ·rw[e,e2] at h
   exact za h
theorem OV.agree (o:OV P R ps){X Y:E7}(hx1:X.pts.Perm (E2 aN P).pts)(hx2:X.ts.Perm (E2 aN P).ts)(hy1:Y.pts.Perm (E2 (Z8 ps) R).pts)(hy2:Y.ts.Perm (E2 (Z8 ps) R).ts)(hl:(k7 P).length≤13)(hl':(k7 R).length≤13):pW X Y:=by
 have nl1:(k7 P).length=P.pts.length+P.ts.length:=K8 P
 have nl2:(k7 R).length=R.pts.length+R.ts.length:=K8 R
 have ndm:∀{l:List Str} {f:Str→Str},l.Nodup→(∀a b,f a=f b→a=b)→(l.map f).Nodup:=fun h hf=>List.pairwise_map.mpr (List.Pairwise.imp (fun hab e=>hab (hf _ _ e)) h)
 refine⟨?_,?_,?_,?_,fun n s s' h h'=>?_,fun n s s' h h'=>?_,?_,?_⟩
 ·refine(hx1.map _).nodup_iff.mpr ?_
  unfold E2
  rw[List.map_map]
  have z:=ndm (f:=aN) (L9 o.ndP) fun _ _=>jV
  rwa [List.map_map] at z
 ·refine(hx2.map _).nodup_iff.mpr ?_
  unfold E2
  rw[List.map_map]
  have z:=ndm (f:=aN) (cw o.ndP) fun _ _=>jV
  rwa [List.map_map] at z
 ·refine(hy1.map _).nodup_iff.mpr ?_
  unfold E2
  rw[List.map_map]
  have z:=ndm (f:=Z8 ps) (L9 o.ndR) fun _ _=>o.fb_inj
  rwa [List.map_map] at z
 ·refine(hy2.map _).nodup_iff.mpr ?_
  unfold E2
  rw[List.map_map]
  have z:=ndm (f:=Z8 ps) (cw o.ndR) fun _ _=>o.fb_inj
  rwa [List.map_map] at z
 ·obtain⟨x,hx,e⟩:=List.mem_map.mp (hx1.mem_iff.mp h)
  obtain⟨y,hy,e'⟩:=List.mem_map.mp (hy1.mem_iff.mp h')
  have e1:aN x.1=Z8 ps y.1:=(Prod.mk.inj e).1.trans (Prod.mk.inj e').1.symm
  have p:=o.fb_back e1
  have q:=o.ptR p (show(x.1,x.2)∈P.pts from hx)
  rw[←(Prod.mk.inj e).2,←(Prod.mk.inj e').2]
  exact t7 (L9 o.ndR) q hy
 ·obtain⟨x,hx,e⟩:=List.mem_map.mp (hx2.mem_iff.mp h)
  obtain⟨y,hy,e'⟩:=List.mem_map.mp (hy2.mem_iff.mp h')
  have e1:aN x.1=Z8 ps y.1:=(Prod.mk.inj e).1.trans (Prod.mk.inj e').1.symm
  have p:=o.fb_back e1
  obtain⟨s1,s2,h1,h2,h3⟩:=o.tiR p (show(x.1,x.2)∈P.ts from hx)
  have q:=t7 (cw o.ndR) h3 hy
  rw[←(Prod.mk.inj e).2,←(Prod.mk.inj e').2,←q,o.fb_a h1,o.fb_a h2]
 ·rw[hx1.length_eq,hy1.length_eq]
  unfold E2
  rw[List.length_map,List.length_map];omega
 ·rw[hx2.length_eq,hy2.length_eq]
  unfold E2
  rw[List.length_map,List.length_map];omega
end
theorem wZ {l:List (Str×Str)}{x:Str×Str}(h:x.2∉l.map (·.2))(t:Str):Z8 (l++[x]) t=if t=x.2 then aN x.1 else Z8 l t:=by
 unfold Z8
 rw[List.find?_append]
 by_cases e:t=x.2
 ·rw[if_pos e]
  have z:l.find? (fun y=>decide (y.2=t))=none:=List.find?_eq_none.mpr fun y hy=>by
   have:y.2≠t:=fun q=>h (by rw[←e,←q];exact List.mem_map.mpr ⟨y,hy,rfl⟩)
   simpa using this
  rw[z,List.find?_cons_of_pos (by simp [e])];rfl
 ·rw[if_neg e]
  have z:[x].find? (fun y=>decide (y.2=t))=none:=List.find?_eq_none.mpr fun y hy=>by
   have e2:y=x:=by simpa using hy
   have:y.2≠t:=fun q=>e (by rw[←q,e2])
   simpa using this
  rw[z]
  cases l.find? (fun y=>decide (y.2=t))<;>rfl
theorem vd {ns:List Str}{l:List (Str×Str)}{x:Str×Str}(hin:x.2∈ns)(h:x.2∉l.map (·.2)):D0 (r6 (ns.map fun t=>(t,Z8 l t))) (Sum.inr x.2:j8) (.str (aN x.1))=r6 (ns.map fun t=>(t,Z8 (l++[x]) t)):=by
 rw[aY (by rw[C5,List.map_map];exact List.mem_map.mpr ⟨x.2,hin,rfl⟩)]
 unfold r6
 rw[List.map_map,List.map_map,List.map_map]
 refine List.map_congr_left fun t _=>?_
 show(if(Sum.inr t:j8)=Sum.inr x.2 then((Sum.inr t:j8),V.str (aN x.1)) else(Sum.inr t,V.str (Z8 l t)))=(Sum.inr t,V.str (Z8 (l++[x]) t))
 rw[wZ h]
 by_cases e:t=x.2
 ·rw[if_pos (by rw[e]),if_pos e]
 ·rw[if_neg (fun z=>e (Sum.inr.inj z)),if_neg e]
structure OW (K:PySem.W.Frag) (H:Hp) (z p q d1 d2:Addr) (kvs:List (j8×V)) (Z P R:E7) (ps:List (Str×Str)) (ns ns':List Str):Prop where
 at_:WebAt K H z p q kvs Z
 hp:H p=some (.dK (r6 Z.pts))
 hq:H q=some (.dK kvs)
 ne:p≠q
 n1:(Z.pts.map (·.1)).Nodup
 n2:(Z.ts.map (·.1)).Nodup
 m1:∀x,x∈Z.pts↔x∈(E2 aN P).pts∨x∈(E2 (Z8 ps) R).pts
 m2:∀x,x∈Z.ts↔x∈(E2 aN P).ts∨x∈(E2 (Z8 ps) R).ts
 l1:Z.pts.length≤26
 l2:Z.ts.length≤26
 a1:ns.Perm (k7 P)
 a2:ns'.Perm (k7 R)
 h1:H d1=some (.dK (r6 (ns.map fun n=>(n,aN n))))
 h2:H d2=some (.dK (r6 (ns'.map fun t=>(t,Z8 ps t))))
def aj (K:PySem.W.Frag):Sp:=fun vs H Q E=>∃(a p q a' p' q':Addr) (kvs kvs':List (j8×V)) (P R:E7) (v:V),vs=[.ref a,.ref a',v]∧WebIs 13 K H a p q kvs P∧WebIs 13 K H a' p' q' kvs' R∧((BadV K H P R v∧∀H' e,Same H H'→H' e=none→E (.ref (cA K "NoOverlap")) (some e) H')∨∃ps,GoodV K H P R v ps∧
 ∀(t z pz qz d1 d2:Addr) (kz:List (j8×V)) (Z:E7) (ns ns':List Str) (H':Hp),Same H H'→H' t=some (.tup [.ref z,.ref d1,.ref d2])→OW K H' z pz qz d1 d2 kz Z P R ps ns ns'→H pz=none→H d1=none→H d2=none→Q (.ref t) H')
abbrev bA (P:Program)(w:World)(K:PySem.W.Frag)(mg:Str→Option Value)(base:Heap):Prop:=F0 P w K mg base (cS P w) 4 "overlap_web" ["piece","other","pairs"] [] (aj K)
theorem gw {f:Addr}{fd:FuncData}(T:Txt K mg)(X0:cf P w K mg base)(cm:mB P w K mg base)(fZ:mh P w K mg base)(aZ:jl P w K mg base)(F:Fun K "overlap_web" "overlap_web" U3 f fd):p0 P w K mg base (cS P w) 4 f fd ["piece","other","pairs"] (aj K):=by
 refine F.okE sc_overlap_web (fun vs H Q E h=>?_) (fun cdv A outer s H vs Q E hr h=>?_)
 ·obtain⟨a,p,q,a',p',q',kvs,kvs',P0,R,v,rfl,_⟩:=h
  rfl
 ·obtain⟨a,p,q,a',p',q',kvs,kvs',P0,R,v,rfl,hP,hR,hv⟩:=h
  have hPl:=hP.len
  have hRl:=hR.len
  have hN:=sc_overlap_web.nd
  have hu:=A1 hr
  refine⟨_,QSs.r (C6 (fb (mW (bB K (qC X0 (hr.mono (by decide)) o9 (i9 (qV 0) (i9 (qV 1) (i9 (qV 2) o3)))))) (E6 (sy pG T.r_NoOverlap rfl (i9 P8 o3))) ie)
   (C6 (z8 (i:=3) hN rfl (by walk_at "l") (qC cm (hr.mono (by decide)) o9 (i9 (qV 0) (i9 P8 o3))))
   (C6 (z8 (i:=4) hN rfl (by walk_at "l") (qC cm (hr.mono (by decide)) o9 (i9 (qV 1) (i9 P8 o3))))
   (C6 (cP PassesOwn.leaving rfl (af K (qV 2)) (U6 (i:=5) hN rfl (by walk_at "l"))
    (E6 (Y9 (x6 (x8 K hu) (qV 3) (x6 (x8 K hu) (qV 5) j0 (fun _ _=>rfl)) (fun _ _=>rfl)) (lE (qV 4) (x6 (x8 K hu) (qV 5) j0 (fun _ _=>rfl)) (x5 P w hu)))))
   (E6 (C9 (K1 (i9 (qC fZ (hr.mono (by decide)) o9 (i9 (qC aZ (hr.mono (by decide)) o9 (i9 (qV 0) (i9 (qV 3) o3))) (i9 (qC aZ (hr.mono (by decide)) o9 (i9 (qV 1) (i9 (qV 4) o3))) o3))) (i9 (qV 3) (i9 (qV 4) o3)))))))))),?_⟩
  walk_at "r"
  rcases hv with⟨bad,k⟩|⟨ps,good,k⟩
  ·refine⟨a,p,q,a',p',q',kvs,kvs',P0,R,v,false,rfl,hP.at_,hP.nd,hR.at_,hR.nd,.inl ⟨rfl,bad⟩,fun H1 m1=>?_⟩
   walk_at "r"
   exact⟨h9 (by simp),fun e he=>k H1 e m1 he⟩
  refine⟨a,p,q,a',p',q',kvs,kvs',P0,R,v,true,rfl,hP.at_,hP.nd,hR.at_,hR.nd,.inr ⟨rfl,ps,good⟩,fun H1 m1=>?_⟩
  obtain⟨l,xs,rfl,hl,hx30,pr,ov⟩:=good
  have o:OV P0 R ps:=⟨ov,hP.nd,hR.nd,hP.ends,hR.ends⟩
  have P1:=hP.same m1
  have R1:=hR.same m1
  walk_at "r"
  refine⟨a,p,q,kvs,P0,_,rfl,by decide+kernel,P1.at_,hP.nd,by omega,hP.nl,fun d1 H2 ns n2 m2 pn f2=>?_⟩
  have R2:=R1.same m2
  walk_at "r"
  refine⟨a',p',q',kvs',R,_,rfl,by decide+kernel,R2.at_,hR.nd,by omega,hR.nl,fun d2 H3 ns' n3 m3 pn' f3=>?_⟩
  have m13:=m1.trans (m2.trans m3)
  have l3:=m13 _ _ hl
  have ne12:d1≠d2:=d8 f2 n3
  have nel:l≠d2:=d8 ((m1.trans m2) _ _ hl) n3
  have hxl:=Paired.length pr
  walk_at "r"
  refine C4 (SqL.of l3) ?_
  refine P2 (n:=xs.length) (fun i σ H'=>(∃v5,σ=[some (.ref a),some (.ref a'),some (.ref l),some (.ref d1),some (.ref d2),v5])∧Same H H'∧H d2=none∧H' l=some (.lst xs)∧PrsAt K H' xs ps∧H' d1=some (.dK (r6 (ns.map fun n=>(n,aN n))))∧H' d2=some (.dK (r6 (ns'.map fun t=>(t,Z8 (ps.take i) t))))) ⟨⟨_,rfl⟩,m13,m1.free (m2.free n3),l3,pr.mono m13.le,m3 _ _ f2,f3⟩ (fun i σ H' hi hp=>⟨xs,xs[i],SqL.of hp.2.2.2.1,List.getElem?_eq_getElem hi⟩) ?_ ?_
  ·rintro bk i v σ H4' H4 hi ⟨⟨v5,rfl⟩,s4,nd2,fl4,pr4,g1,g2⟩ y
   obtain⟨rfl,hy⟩:=Itl.get y (SqL.of fl4)
   obtain⟨x,hx,t,rfl,ht⟩:=F2 pr4 hy
   have hxm:=List.mem_of_getElem? hx
   obtain⟨hn,htR,_⟩:=o.mem' (n:=x.1) (t:=x.2) hxm
   have hnew:x.2∉(ps.take i).map (·.2):=by
    rw[List.map_take]
    exact X3 o.nv (by rw[List.getElem?_map,hx];rfl)
   have ndn:((ns.map fun n=>(n,aN n)).map (·.1)).Nodup:=by
    rw[List.map_map,show((·.1)∘fun n:Str=>(n,aN n))=id from rfl,List.map_id]
    exact pn.nodup_iff.mpr hP.nd
   have hin:(x.1,aN x.1)∈ns.map fun n=>(n,aN n):=List.mem_map.mpr ⟨x.1,pn.mem_iff.mpr hn,rfl⟩
   have hnl:=pn'.length_eq
   walk_at "r"
   refine b7 ht (b5 (j:=0) rfl) ?_
   refine yD (.inl g1) ⟨_,M6 ndn hin⟩ ?_
   rw[cn ndn hin]
   walk_at "r"
   refine b7 ht (b5 (j:=1) rfl) ?_
   refine J0 (u6 (k:=Sum.inr x.2) g2 (h9 (by rw[o5,List.length_map];omega)) ?_)
   rw[vd (pn'.mem_iff.mpr htR) hnew]
   refine⟨⟨_,rfl⟩,C8 s4 nd2,nd2,by rw[d7 nel];exact fl4,?_,by rw[d7 ne12];exact g1,?_⟩
   ·exact pr.mono (C8 s4 nd2).le
   ·rw[j7,List.take_succ,hx];rfl
  rintro σ H4 ⟨⟨v5,rfl⟩,s4,nd2,fl4,pr4,g1,g2⟩
  refine⟨⟨_,SqL.of fl4,Nat.le_refl _⟩,?_⟩
  rw[List.take_of_length_le (by omega)] at g2
  have P4:=hP.same s4
  have R4:=hR.same s4
  have vn:∀n∈k7 P0,z6 (r6 (ns.map fun n=>(n,aN n))) (Sum.inr n:j8)=some (.str (aN n)):=fun n hn=>M6 (by
   rw[List.map_map,show((·.1)∘fun n:Str=>(n,aN n))=id from rfl,List.map_id]
   exact pn.nodup_iff.mpr hP.nd) (List.mem_map.mpr ⟨n,pn.mem_iff.mpr hn,rfl⟩)
  have vt:∀n∈k7 R,z6 (r6 (ns'.map fun t=>(t,Z8 ps t))) (Sum.inr n:j8)=some (.str (Z8 ps n)):=fun n hn=>M6 (by
   rw[List.map_map,show((·.1)∘fun t:Str=>(t,Z8 ps t))=id from rfl,List.map_id]
   exact pn'.nodup_iff.mpr hR.nd) (List.mem_map.mpr ⟨n,pn'.mem_iff.mpr hn,rfl⟩)
  have ndm:∀{l:List Str} {f:Str→Str},l.Nodup→(∀a b,f a=f b→a=b)→(l.map f).Nodup:=fun h hf=>List.pairwise_map.mpr (List.Pairwise.imp (fun hab e=>hab (hf _ _ e)) h)
  walk_at "r"
  refine⟨a,d1,p,q,kvs,_,P0,aN,rfl,P4.at_,P4.hp,P4.hq,.inl g1,vn,ndm hP.nd fun _ _=>jV,by omega,hP.ends,fun a5 p5 q5 k5 X H5 s5 X5 xp xq xne nx1 nx2 x1 x2=>?_⟩
  have R5:=R4.same s5
  walk_at "r"
  refine⟨a',d2,p',q',kvs',_,R,Z8 ps,rfl,R5.at_,R5.hp,R5.hq,.inl (s5 _ _ g2),vt,ndm hR.nd fun _ _=>o.fb_inj,by omega,hR.ends,fun a6 p6 q6 k6 Y H6 s6 Y6 yp yq yne ny1 ny2 y1 y2=>?_⟩
  have ag:=o.agree x1 x2 y1 y2 hPl hRl
  walk_at "r"
  refine⟨a5,p5,q5,a6,p6,q6,k5,k6,X,Y,rfl,X5.mono s6.le,Y6,ag,fun z pz qz kz Z H7 s7 wz zp zq zne nz1 nz2 nd1 nd2' mz1 mz2 lz1 lz2=>?_⟩
  walk_at "r"
  refine⟨h9 (by simp),fun t8 n8=>?_⟩
  obtain⟨H8,e8,f8,m8,_⟩:=d6 (o:= .tup _) n8
  rw[e8]
  have s48:=s5.trans (s6.trans (s7.trans m8))
  have c1:=x1.length_eq
  have c2:=x2.length_eq
  have c3:=y1.length_eq
  have c4:=y2.length_eq
  have q1:=K8 P0
  have q2:=K8 R
  unfold E2 at c1 c2 c3 c4
  rw[List.length_map] at c1 c2 c3 c4
  refine k t8 z pz qz d1 d2 kz Z ns ns' H8 (s4.trans s48) f8 ⟨wz.mono m8.le,m8 _ _ zp,m8 _ _ zq,zne,nd1,nd2',fun x=>?_,fun x=>?_,by omega,by omega,pn,pn',s48 _ _ g1,s48 _ _ g2⟩ (s4.free (s5.free (s6.free nz1))) (m1.free n2) nd2
  ·rw[mz1,x1.mem_iff,y1.mem_iff]
  ·rw[mz2,x2.mem_iff,y2.mem_iff]
def Q4 (H:Hp)(p q:Addr):Hp:=fun x=>if x=p then none else if x=q then none else H x
theorem B0 {H:Hp}{p q x:Addr}(h1:x≠p)(h2:x≠q):Q4 H p q x=H x:=by unfold Q4;rw[if_neg h1,if_neg h2]
theorem gG {H:Hp}{p q:Addr}:Q4 H p q p=none:=by unfold Q4;rw[if_pos rfl]
theorem vh {H:Hp}{p q:Addr}:Q4 H p q q=none:=by
 unfold Q4
 by_cases h:q=p
 ·rw[if_pos h]
 ·rw[if_neg h,if_pos rfl]
theorem dw {H:Hp}{p q:Addr}:Same (Q4 H p q) H:=fun b u e=>by
 by_cases h1:b=p
 ·rw[h1,gG] at e;cases e
 ·by_cases h2:b=q
  ·rw[h2,vh] at e;cases e
  ·rwa [B0 h1 h2] at e
theorem dC {H0 H:Hp}{p q:Addr}(s:Same H0 H)(n1:H0 p=none)(n2:H0 q=none):Same H0 (Q4 H p q):=fun b u e=>by
 rw[B0 (fun z=>by rw[z,n1] at e;cases e) (fun z=>by rw[z,n2] at e;cases e)]
 exact s _ _ e
def Mp (P R:E7)(ps:List (Str×Str))(i:Nat)(x:Str×Str):Prop:=(0<i∧x∈(E2 (Z8 ps) R).pts)∨(1<i∧x∈(E2 aN P).pts)
def Mt (P R:E7)(ps:List (Str×Str))(i:Nat)(x:Str×N9):Prop:=(0<i∧x∈(E2 (Z8 ps) R).ts)∨(1<i∧x∈(E2 aN P).ts)
section
variable {P R:E7} {ps:List (Str×Str)} {i j:Nat}
theorem Mp.u (ag:pW (E2 aN P) (E2 (Z8 ps) R)){n s s':Str}:Mp P R ps i (n,s)→Mp P R ps j (n,s')→s=s':=by
 rintro(⟨_,h⟩|⟨_,h⟩) (⟨_,h'⟩|⟨_,h'⟩)
 ·exact t7 ag.y1 h h'
 ·exact(ag.cp n s' s h' h).symm
 ·exact ag.cp n s s' h h'
 ·exact t7 ag.x1 h h'
theorem Mt.u (ag:pW (E2 aN P) (E2 (Z8 ps) R)){n:Str}{s s':N9}:Mt P R ps i (n,s)→Mt P R ps j (n,s')→s=s':=by
 rintro(⟨_,h⟩|⟨_,h⟩) (⟨_,h'⟩|⟨_,h'⟩)
 ·exact t7 ag.y2 h h'
 ·exact(ag.ct n s' s h' h).symm
 ·exact ag.ct n s s' h h'
 ·exact t7 ag.x2 h h'
end
def cR (K:PySem.W.Frag):Sp:=fun vs H Q _=>∃(a p q a' p' q' l:Addr) (kvs kvs':List (j8×V)) (P R:E7) (ps:List (Str×Str)) (xs:List V),vs=[.ref a,.ref a',.ref l]∧WebIs 13 K H a p q kvs P∧WebIs 13 K H a' p' q' kvs' R∧OV P R ps∧H l=some (.lst xs)∧PrsAt K H xs ps∧ps.length≤30∧
 ∀(t z pz qz d1 d2:Addr) (kz:List (j8×V)) (Z:E7) (ns ns':List Str) (H':Hp),Same H H'→H' t=some (.tup [.ref z,.ref d1,.ref d2])→OW K H' z pz qz d1 d2 kz Z P R ps ns ns'→H pz=none→H qz=none→H d1=none→H d2=none→Q (.ref t) H'
theorem sY {nx:List Str}{f:Str→Str}{n:Str}(nd:nx.Nodup)(h:n∈nx):TxtAt (r6 (nx.map fun n=>(n,f n))) n∧jZ (r6 (nx.map fun n=>(n,f n))) n=f n:=by
 have ndk:((nx.map fun n=>(n,f n)).map (·.1)).Nodup:=by
  rw[List.map_map,show((·.1)∘fun n:Str=>(n,f n))=id from rfl,List.map_id];exact nd
 have hm:(n,f n)∈nx.map fun n=>(n,f n):=List.mem_map.mpr ⟨n,h,rfl⟩
 exact⟨⟨_,M6 ndk hm⟩,cn ndk hm⟩
theorem uh {s:List Str}{i:Nat}{f:Str→Str}(nd:s.Nodup)(hi:i<s.length):s[i]∉((s.take i).map fun n=>(n,f n)).map (·.1):=by
 rw[List.map_map,show((·.1)∘fun n:Str=>(n,f n))=id from rfl,List.map_id]
 exact X3 nd (List.getElem?_eq_getElem hi)
abbrev ee (P:Program)(w:World)(K:PySem.W.Frag)(mg:Str→Option Value)(base:Heap):Prop:=F0 P w K mg base x9 2 "_law_over" ["_law_piece_here","_law_other","_law_pairs"] [] (cR K)
theorem jH {f:Addr}{fd:FuncData}(T:Txt K mg)(C3:X4 P w K mg base)(F:Fun K "_law_over" "_law_over" ak f fd):p0 P w K mg base x9 2 f fd ["_law_piece_here","_law_other","_law_pairs"] (cR K):=by
 refine F.ok sc__law_over (fun vs H Q E h=>?_) (fun cdv A outer s H vs Q E hr h=>?_)
 ·obtain⟨a,p,q,a',p',q',l,kvs,kvs',P0,R,ps,xs,rfl,_⟩:=h
  rfl
 ·obtain⟨a,p,q,a',p',q',l,kvs,kvs',P0,R,ps,xs,rfl,hP,hR,o,hl,pr,hpl,k⟩:=h
  have hPl:=hP.len
  have hRl:=hR.len
  have ag:=o.agree (List.Perm.refl (E2 aN P0).pts) (List.Perm.refl (E2 aN P0).ts) (List.Perm.refl (E2 (Z8 ps) R).pts) (List.Perm.refl (E2 (Z8 ps) R).ts) hPl hRl
  have hN:=sc__law_over.nd
  have hu:=A1 hr
  refine⟨_,QSs.r (C6 (z8 (i:=3) hN rfl (by walk_at "l") wd)
   (C6 (z8 (i:=4) hN rfl (by walk_at "l") wd)
   (C6 (z8 (i:=5) hN rfl (by walk_at "l") wd)
   (C6 (z8 (i:=6) hN rfl (by walk_at "l") wd)
   (C6 (cP PassesOwn.never rfl (af K (qC C3 (hr.mono (by decide)) o9 (i9 (qV 0) o3))) (U6 (i:=7) hN rfl (by walk_at "l"))
    (E6 (Y9 (F7 (V7 K) P8 (qV 7)) (lE (qV 3) (qV 7) (x5 P w hu)))))
   (C6 (cP PassesOwn.never rfl (af K (qC C3 (hr.mono (by decide)) o9 (i9 (qV 1) o3))) (U6 (i:=7) hN rfl (by walk_at "l"))
    (E6 (Y9 (F7 (V7 K) P8 (qV 7)) (lE (qV 4) (qV 7) (x5 P w hu)))))
   (C6 (cP PassesOwn.never rfl (af K (qV 2)) (wb K rfl (ic (U6 (i:=7) hN rfl (by walk_at "l")) (ic (U6 (i:=8) hN rfl (by walk_at "l")) we)))
    (E6 (Y9 (F7 (V7 K) P8 (qV 7)) (lE (qV 4) (qV 8) (x5 P w hu)))))
   (C6 (cP PassesOwn.never rfl (af K (S7 (i9 (K1 (i9 (qV 1) (i9 (qV 4) o3))) (i9 (K1 (i9 (qV 0) (i9 (qV 3) o3))) o3)))) (wb K rfl (ic (U6 (i:=9) hN rfl (by walk_at "l")) (ic (U6 (i:=10) hN rfl (by walk_at "l")) we)))
    (C6 (cP PassesOwn.never rfl (eU (x6 (x8 K hu) (qV 9) j0 (fun _ _=>rfl))) (wb K rfl (ic (U6 (i:=7) hN rfl (by walk_at "l")) (ic (U6 (i:=11) hN rfl (by walk_at "l")) we)))
    (E6 (Y9 (qV 11) (lE (qV 5) (x6 (x8 K hu) (qV 10) (qV 7) (fun _ _=>rfl)) (x5 P w hu)))))
   (E6 (cP PassesOwn.never rfl (eU (x6 (x8 K hu) (qV 9) j0 (fun _ _=>rfl))) (wb K rfl (ic (U6 (i:=7) hN rfl (by walk_at "l")) (ic (U6 (i:=12) hN rfl (by walk_at "l")) we)))
    (E6 (Y9 (K1 (i9 (x6 (x8 K hu) (qV 12) j0 (fun _ _=>rfl)) (i9 (x6 (x8 K hu) (qV 10) (x6 (x8 K hu) (qV 12) j0 (fun _ _=>rfl)) (fun _ _=>rfl)) (i9 (x6 (x8 K hu) (qV 10) (x6 (x8 K hu) (qV 12) j0 (fun _ _=>rfl)) (fun _ _=>rfl)) o3)))) (lE (qV 6) (x6 (x8 K hu) (qV 10) (qV 7) (fun _ _=>rfl)) (x5 P w hu))))))))
   (E6 (C9 (K1 (i9 (K1 (i9 (qV 5) (i9 (qV 6) o3))) (i9 (qV 3) (i9 (qV 4) o3)))))))))))))),?_⟩
  walk_at "r"
  intro d1 nd1
  obtain⟨H1,e1,f1,m1,_⟩:=d6 (o:= .dK []) nd1
  rw[e1]
  walk_at "r"
  intro d2 nd2
  obtain⟨H2,e2,f2,m2,_⟩:=d6 (o:= .dK []) nd2
  rw[e2]
  walk_at "r"
  intro pp npp
  obtain⟨H3,e3,f3,m3,_⟩:=d6 (o:= .dK []) npp
  rw[e3]
  walk_at "r"
  intro qq nqq
  obtain⟨H4,e4,f4,m4,_⟩:=d6 (o:= .dK []) nqq
  rw[e4]
  have s4:=m1.trans (m2.trans (m3.trans m4))
  have N1:H d1=none:=nd1
  have N2:H d2=none:=m1.free nd2
  have Np:H pp=none:=m1.free (m2.free npp)
  have Nq:H qq=none:=m1.free (m2.free (m3.free nqq))
  have ne12:d1≠d2:=d8 f1 nd2
  have ne1p:d1≠pp:=d8 (m2 _ _ f1) npp
  have ne1q:d1≠qq:=d8 (m3 _ _ (m2 _ _ f1)) nqq
  have ne2p:d2≠pp:=d8 f2 npp
  have ne2q:d2≠qq:=d8 (m3 _ _ f2) nqq
  have nepq:pp≠qq:=d8 f3 nqq
  have g1:H4 d1=some (.dK []):=m4 _ _ (m3 _ _ (m2 _ _ f1))
  have g2:H4 d2=some (.dK []):=m4 _ _ (m3 _ _ f2)
  have g3:H4 pp=some (.dK []):=m4 _ _ f3
  clear e1 e2 e3 e4 f1 f2 f3 m1 m2 m3 m4 nd1 nd2 npp nqq
  walk_at "r"
  refine⟨a,p,q,kvs,P0,rfl,hP.at_.mono s4.le,by omega,fun l5 H5 s1 s2 n5 m5 f5 or=>?_⟩
  have hol:=or.len
  have hnd:(s1++s2).Nodup:=or.perm.nodup_iff.mpr hP.nd
  have hmem:∀n∈s1++s2,n.length≤100:=fun n hm=>hP.nl n (or.mem.mp hm)
  have hpm:=or.perm
  generalize s1++s2=s at f5 hol hnd hmem hpm
  have ne5:l5≠d1:=(d8 g1 n5).symm
  refine C4 (SqL.of f5) ?_
  refine P2 (n:=s.length) (fun i σ H'=>(∃v7,σ=[some (.ref a),some (.ref a'),some (.ref l),some (.ref d1),some (.ref d2),some (.ref pp),some (.ref qq),v7,none,none,none,none,none])∧Same (Q4 H5 d1 d1) H'∧H' d1=some (.dK (r6 ((s.take i).map fun n=>(n,aN n))))) ⟨⟨_,rfl⟩,dw,m5 _ _ g1⟩ (fun i σ H' hi hp=>⟨_,.str (s[i]),SqL.of (hp.2.1 _ _ (by rw[B0 ne5 ne5];exact f5)),by rw[List.getElem?_map,List.getElem?_eq_getElem hi];rfl⟩) ?_ ?_
  ·rintro bk i v σ H6' H6 hi ⟨⟨v7,rfl⟩,s6,g6⟩ y
   obtain⟨rfl,hy⟩:=Itl.get y (SqL.of (s6 _ _ (by rw[B0 ne5 ne5];exact f5)))
   rw[List.getElem?_map,List.getElem?_eq_getElem hi] at hy
   cases hy
   have hln:=hmem _ (List.getElem_mem hi)
   have hab:("a.":Str).length=2:=by decide+kernel
   walk_at "r"
   refine K3 (h9 (by omega)) ?_
   walk_at "r"
   refine J0 (u6 (k:=Sum.inr s[i]) g6 (h9 (by rw[o5,List.length_map,List.length_take];omega)) ?_)
   rw[O9 (uh hnd hi)]
   refine⟨⟨_,rfl⟩,C8 s6 gG,?_⟩
   rw[j7,List.take_succ,List.getElem?_eq_getElem hi,List.map_append];rfl
  rintro σ H6 ⟨⟨v7,rfl⟩,s6,g6⟩
  refine⟨⟨_,SqL.of (s6 _ _ (by rw[B0 ne5 ne5];exact f5)),by rw[List.length_map];exact Nat.le_refl _⟩,?_⟩
  rw[List.take_of_length_le (Nat.le_refl _)] at g6
  have s06:Same H H6:=(dC (s4.trans m5) N1 N1).trans s6
  have k2:H6 d2=some (.dK []):=s6 _ _ (by rw[B0 ne12.symm ne12.symm];exact m5 _ _ g2)
  have k3:H6 pp=some (.dK []):=s6 _ _ (by rw[B0 ne1p.symm ne1p.symm];exact m5 _ _ g3)
  have k4:H6 qq=some (.dK []):=s6 _ _ (by rw[B0 ne1q.symm ne1q.symm];exact m5 _ _ f4)
  walk_at "r"
  refine⟨a',p',q',kvs',R,rfl,hR.at_.mono s06.le,by omega,fun l7 H7 s1' s2' n7 m7 f7 or'=>?_⟩
  have hol':=or'.len
  have hnd':(s1'++s2').Nodup:=or'.perm.nodup_iff.mpr hR.nd
  have hmem':∀n∈s1'++s2',n.length≤100:=fun n hm=>hR.nl n (or'.mem.mp hm)
  have hpm':=or'.perm
  generalize s1'++s2'=s' at f7 hol' hnd' hmem' hpm'
  have ne7:l7≠d2:=(d8 k2 n7).symm
  refine C4 (SqL.of f7) ?_
  refine P2 (n:=s'.length) (fun i σ H'=>(∃v7,σ=[some (.ref a),some (.ref a'),some (.ref l),some (.ref d1),some (.ref d2),some (.ref pp),some (.ref qq),v7,none,none,none,none,none])∧Same (Q4 H7 d2 d2) H'∧H' d2=some (.dK (r6 ((s'.take i).map fun n=>(n,Z8 [] n))))) ⟨⟨_,rfl⟩,dw,m7 _ _ k2⟩ (fun i σ H' hi hp=>⟨_,.str (s'[i]),SqL.of (hp.2.1 _ _ (by rw[B0 ne7 ne7];exact f7)),by rw[List.getElem?_map,List.getElem?_eq_getElem hi];rfl⟩) ?_ ?_
  ·rintro bk i v σ H8' H8 hi ⟨⟨v7,rfl⟩,s8,g8⟩ y
   obtain⟨rfl,hy⟩:=Itl.get y (SqL.of (s8 _ _ (by rw[B0 ne7 ne7];exact f7)))
   rw[List.getElem?_map,List.getElem?_eq_getElem hi] at hy
   cases hy
   have hln:=hmem' _ (List.getElem_mem hi)
   have hab:("b.":Str).length=2:=by decide+kernel
   walk_at "r"
   refine K3 (h9 (by omega)) ?_
   walk_at "r"
   refine J0 (u6 (k:=Sum.inr s'[i]) g8 (h9 (by rw[o5,List.length_map,List.length_take];omega)) ?_)
   rw[O9 (uh hnd' hi)]
   refine⟨⟨_,rfl⟩,C8 s8 gG,?_⟩
   rw[j7,List.take_succ,List.getElem?_eq_getElem hi,List.map_append];rfl
  rintro σ H8 ⟨⟨v7',rfl⟩,s8,g8⟩
  refine⟨⟨_,SqL.of (s8 _ _ (by rw[B0 ne7 ne7];exact f7)),by rw[List.length_map];exact Nat.le_refl _⟩,?_⟩
  rw[List.take_of_length_le (Nat.le_refl _)] at g8
  have s0h:Same H (Q4 H7 d2 d2):=dC (s06.trans m7) N2 N2
  have nel:l≠d2:=d8 hl N2
  have hxl:=Paired.length pr
  walk_at "r"
  refine C4 (SqL.of (s8 _ _ (s0h _ _ hl))) ?_
  refine P2 (n:=xs.length) (fun i σ H'=>(∃v7 v8,σ=[some (.ref a),some (.ref a'),some (.ref l),some (.ref d1),some (.ref d2),some (.ref pp),some (.ref qq),v7,v8,none,none,none,none])∧Same (Q4 H7 d2 d2) H'∧H' d2=some (.dK (r6 (s'.map fun t=>(t,Z8 (ps.take i) t))))) ⟨⟨_,_,rfl⟩,s8,g8⟩ (fun i σ H' hi hp=>⟨xs,xs[i],SqL.of (hp.2.1 _ _ (s0h _ _ hl)),List.getElem?_eq_getElem hi⟩) ?_ ?_
  ·rintro bk i v σ H9' H9 hi ⟨⟨v7,v8,rfl⟩,s9,g9⟩ y
   obtain⟨rfl,hy⟩:=Itl.get y (SqL.of (s9 _ _ (s0h _ _ hl)))
   obtain⟨x,hx,t,rfl,ht⟩:=F2 (pr.mono (s0h.trans s9).le) hy
   have hxm:=List.mem_of_getElem? hx
   obtain⟨hn,htR,_⟩:=o.mem' (n:=x.1) (t:=x.2) hxm
   have hnew:x.2∉(ps.take i).map (·.2):=by
    rw[List.map_take]
    exact X3 o.nv (by rw[List.getElem?_map,hx];rfl)
   have hln:=hP.nl _ hn
   have hab:("a.":Str).length=2:=by decide+kernel
   refine T4 ht rfl ?_
   walk_at "r"
   refine K3 (h9 (by omega)) ?_
   walk_at "r"
   refine J0 (u6 (k:=Sum.inr x.2) g9 (h9 (by rw[o5,List.length_map];omega)) ?_)
   erw [vd (hpm'.mem_iff.mpr htR) hnew]
   refine⟨⟨_,_,rfl⟩,C8 s9 gG,?_⟩
   rw[j7,List.take_succ,hx];rfl
  rintro σ H9 ⟨⟨v7',v8',rfl⟩,s9,g9⟩
  refine⟨⟨_,SqL.of (s9 _ _ (s0h _ _ hl)),Nat.le_refl _⟩,?_⟩
  rw[List.take_of_length_le (by omega)] at g9
  have j1:H9 d1=some (.dK (r6 (s.map fun n=>(n,aN n)))):=s9 _ _ (by rw[B0 ne12 ne12];exact m7 _ _ g6)
  have j3:H9 pp=some (.dK []):=s9 _ _ (by rw[B0 ne2p.symm ne2p.symm];exact m7 _ _ k3)
  have j4:H9 qq=some (.dK []):=s9 _ _ (by rw[B0 ne2q.symm ne2q.symm];exact m7 _ _ k4)
  have s09:Same H H9:=s0h.trans s9
  walk_at "r"
  refine⟨h9 (by simp),fun t1 nt1=>?_⟩
  obtain⟨HA,eA,fA,mA,_⟩:=d6 (o:= .tup _) nt1
  rw[eA]
  walk_at "r"
  refine⟨h9 (by simp),fun t2 nt2=>?_⟩
  obtain⟨HC,eC,fC,mC,_⟩:=d6 (o:= .tup _) nt2
  rw[eC]
  walk_at "r"
  refine⟨h9 (by simp),fun lz nlz=>?_⟩
  obtain⟨HD,eD,fD,mD,_⟩:=d6 (o:= .lst _) nlz
  rw[eD]
  have m9D:=mA.trans (mC.trans mD)
  have s0B:Same H (Q4 HD pp qq):=dC (s09.trans m9D) Np Nq
  have hB1:Q4 HD pp qq d1=some (.dK (r6 (s.map fun n=>(n,aN n)))):=(B0 ne1p ne1q).trans (m9D _ _ j1)
  have hB2:Q4 HD pp qq d2=some (.dK (r6 (s'.map fun t=>(t,Z8 ps t)))):=(B0 ne2p ne2q).trans (m9D _ _ g9)
  have hBt1:Q4 HD pp qq t1=some (.tup [.ref a',.ref d2]):=(B0 (d8 j3 nt1).symm (d8 j4 nt1).symm).trans (mD _ _ (mC _ _ fA))
  have hBt2:Q4 HD pp qq t2=some (.tup [.ref a,.ref d1]):=(B0 (d8 (mA _ _ j3) nt2).symm (d8 (mA _ _ j4) nt2).symm).trans (mD _ _ fC)
  have hBl:Q4 HD pp qq lz=some (.lst [.ref t1,.ref t2]):=(B0 (d8 (mC _ _ (mA _ _ j3)) nlz).symm (d8 (mC _ _ (mA _ _ j4)) nlz).symm).trans fD
  have hBp:Q4 HD pp qq pp=none:=gG
  have hBq:Q4 HD pp qq qq=none:=vh
  have jD3:=m9D _ _ j3
  have jD4:=m9D _ _ j4
  have sBD:Same (Q4 HD pp qq) HD:=dw
  generalize Q4 HD pp qq=HB at s0B hB1 hB2 hBt1 hBt2 hBl hBp hBq sBD
  refine C4 (SqL.of fD) ?_
  refine P2 (n:=2) (fun i σ H'=>(∃v7 v8 v9 v10 v11 v12,σ=[some (.ref a),some (.ref a'),some (.ref l),some (.ref d1),some (.ref d2),some (.ref pp),some (.ref qq),v7,v8,v9,v10,v11,v12])∧Same HB H'∧∃(zp:List (Str×Str)) (zt:List (Str×N9)) (kz:List (j8×V)),H' pp=some (.dK (r6 zp))∧H' qq=some (.dK kz)∧TiesIs K H' kz zt∧(zp.map (·.1)).Nodup∧(zt.map (·.1)).Nodup∧(∀x,x∈zp↔Mp P0 R ps i x)∧(∀x,x∈zt↔Mt P0 R ps i x)∧zp.length≤i*13∧zt.length≤i*13) ⟨⟨_,_,_,_,_,_,rfl⟩,sBD,[],[],[],jD3,jD4,.nil,List.nodup_nil,List.nodup_nil,fun x=>by simp [Mp],fun x=>by simp [Mt],Nat.le_refl _,Nat.le_refl _⟩ (fun i σ H' hi hp=>⟨_,[V.ref t1,.ref t2][i],SqL.of (hp.2.1 _ _ hBl),List.getElem?_eq_getElem hi⟩) ?_ ?_
  ·rintro bk i v σ HE' HE hi ⟨⟨v7,v8,v9,v10,v11,v12,rfl⟩,sE,zp,zt,kz,gp,gq,tz,nzp,nzt,mzp,mzt,lzp,lzt⟩ y
   obtain⟨rfl,hy⟩:=Itl.get y (SqL.of (sE _ _ hBl))
   have dat:∃(tv b db pb qb:Addr) (kvb:List (j8×V)) (X:E7) (f:Str→Str) (nx:List Str),v= .ref tv∧HB tv=some (.tup [.ref b,.ref db])∧WebIs 13 K H b pb qb kvb X∧HB db=some (.dK (r6 (nx.map fun n=>(n,f n))))∧nx.Perm (k7 X)∧(∀x,Mp P0 R ps (i+1) x↔Mp P0 R ps i x∨x∈(E2 f X).pts)∧(∀x,Mt P0 R ps (i+1) x↔Mt P0 R ps i x∨x∈(E2 f X).ts):=by
    match i,hi,hy with
    |0,_,hy=>
     cases hy
     exact⟨t1,a',d2,p',q',kvs',R,Z8 ps,s',rfl,hBt1,hR,hB2,hpm',fun x=>by simp [Mp],fun x=>by simp [Mt]⟩
    |1,_,hy=>
     cases hy
     exact⟨t2,a,d1,p,q,kvs,P0,aN,s,rfl,hBt2,hP,hB1,hpm,fun x=>by simp [Mp],fun x=>by simp [Mt]⟩
   obtain⟨tv,b,db,pb,qb,kvb,X,f,nx,rfl,htv,hX,hdb,hnx,mM,mT⟩:=dat
   have hXl:=hX.len
   rw[K8] at hXl
   have hkvb:=hX.at_.ts.length
   have XB:=hX.same s0B
   have ndx:=hnx.nodup_iff.mpr hX.nd
   have nepb:pp≠pb:=fun z=>by rw[z,XB.hp] at hBp;cases hBp
   have neqpb:qq≠pb:=fun z=>by rw[z,XB.hp] at hBq;cases hBq
   have nepqb:pp≠qb:=fun z=>by rw[z,XB.hq] at hBp;cases hBp
   have neqb:qq≠qb:=fun z=>by rw[z,XB.hq] at hBq;cases hBq
   refine T4 (SqT.of (sE _ _ htv)) rfl ?_
   walk_at "r"
   refine b7 (XB.at_.mono sE.le).tup (b5 (j:=0) rfl) ?_
   refine R7 (sE _ _ XB.hp) (fun ndd o1=>?_)
   refine P2 (n:=(r6 X.pts).length) (fun j σ H'=>(∃v7 v8 v11 v12,σ=[some (.ref a),some (.ref a'),some (.ref l),some (.ref d1),some (.ref d2),some (.ref pp),some (.ref qq),v7,v8,some (.ref b),some (.ref db),v11,v12])∧Same (K0 pb o1 (r6 X.pts) HB) H'∧∃(zp:List (Str×Str)),H' pp=some (.dK (r6 zp))∧H' qq=some (.dK kz)∧TiesIs K H' kz zt∧(zp.map (·.1)).Nodup∧(∀x,x∈zp↔Mp P0 R ps i x∨x∈(X.pts.take j).map (fun y=>(f y.1,y.2)))∧zp.length≤i*13+j) ⟨⟨_,_,_,_,rfl⟩,kP sE,zp,by rw[bL nepb];exact gp,by rw[bL neqpb];exact gq,tz.mono (bP (o:=o1) (sE _ _ XB.hp)),nzp,fun x=>by rw[mzp];simp,by omega⟩ (fun j σ H' hj hp=>⟨hp.2.1 _ _ j7,hj⟩) ?_ ?_
   ·rintro bk2 j v σ HF' HF hj ⟨⟨v7,v8,v11,v12,rfl⟩,sF,zp2,gp2,gq2,tz2,nz2,mz2,lz2⟩ ⟨t,kv,hkv,nt,rfl,rfl⟩
    obtain⟨x,hx,rfl⟩:=kC hkv
    have hxm:=List.mem_of_getElem? hx
    obtain⟨HG,eG,fG,mG,_⟩:=d6 (o:= .tup _) nt
    rw[eG]
    have leG:=(bP (o:=o1) XB.hp).trans (sF.trans mG).le
    have hin:x.1∈nx:=hnx.mem_iff.mpr (mem_nms.mpr (.inl ⟨_,hxm⟩))
    have hg:=sY (f:=f) ndx hin
    rw[o5] at hj
    refine T4 (SqT.of fG) rfl ?_
    walk_at "r"
    refine yD (leG.dic (.inl hdb)) hg.1 ?_
    rw[hg.2]
    refine J0 (u6 (k:=Sum.inr (f x.1)) (mG _ _ gp2) (h9 (by rw[o5];omega)) ?_)
    have hadd:∀x':Str×Str,x'∈(X.pts.take (j+1)).map (fun y=>(f y.1,y.2))↔x'∈(X.pts.take j).map (fun y=>(f y.1,y.2))∨x'=(f x.1,x.2):=fun x'=>by
     rw[List.take_succ,hx,List.map_append];simp
    have hIn:∀x':Str×Str,(Mp P0 R ps i x'∨x'∈(X.pts.take j).map (fun y=>(f y.1,y.2)))→Mp P0 R ps (i+1) x':=fun x' h=>(mM x').mpr (h.imp id fun z=>by
     obtain⟨y,hy,e⟩:=List.mem_map.mp z
     exact List.mem_map.mpr ⟨y,List.mem_of_mem_take hy,e⟩)
    obtain⟨C,ec,nc,mc,lc⟩:=BG (A:=zp2) (n:=f x.1) (s:=x.2) nz2 fun s'' h=>Mp.u ag (hIn _ ((mz2 _).mp h)) ((mM (f x.1,x.2)).mpr (.inr (List.mem_map.mpr ⟨x,hxm,rfl⟩)))
    rw[ec]
    refine⟨⟨_,_,_,_,rfl⟩,C8 (sF.trans mG) (by rw[bL nepb];exact hBp),C,j7,by rw[d7 nepq.symm];exact mG _ _ gq2,U7 (mG _ _ gp2) (tz2.mono mG.le),nc,fun x'=>?_,by omega⟩
    rw[mc,mz2,hadd,or_assoc]
   ·rintro σ HF ⟨⟨v7',v8',v11',v12',rfl⟩,sF,zp2,gp2,gq2,tz2,nz2,mz2,lz2⟩
    refine⟨⟨sF _ _ j7,Nat.le_refl _⟩,?_⟩
    rw[o5] at lz2
    rw[o5,List.take_of_length_le (Nat.le_refl _)] at mz2
    have mzM:∀x,x∈zp2↔Mp P0 R ps (i+1) x:=fun x=>by rw[mz2,mM];rfl
    have sG:=sF.thaw XB.hp
    have gpT:thaw pb HF pp=some (.dK (r6 zp2)):=by rw[O8 nepb];exact gp2
    have gqT:thaw pb HF qq=some (.dK kz):=by rw[O8 neqpb];exact gq2
    have tzT:TiesIs K (thaw pb HF) kz zt:=tz2.mono jW
    generalize thaw pb HF=HG at sG gpT gqT tzT⊢
    walk_at "r"
    refine b7 (XB.at_.mono sG.le).tup (b5 (j:=1) rfl) ?_
    refine R7 (sG _ _ XB.hq) (fun ndd o2=>?_)
    refine P2 (n:=kvb.length) (fun j σ H'=>(∃v7 v8 v11 v12,σ=[some (.ref a),some (.ref a'),some (.ref l),some (.ref d1),some (.ref d2),some (.ref pp),some (.ref qq),v7,v8,some (.ref b),some (.ref db),v11,v12])∧Same (K0 qb o2 kvb HB) H'∧∃(zt:List (Str×N9)) (kz:List (j8×V)),H' pp=some (.dK (r6 zp2))∧H' qq=some (.dK kz)∧TiesIs K H' kz zt∧(zt.map (·.1)).Nodup∧(∀x,x∈zt↔Mt P0 R ps i x∨x∈(X.ts.take j).map (fun y=>(f y.1,(y.2.1,f y.2.2.1,f y.2.2.2))))∧zt.length≤i*13+j) ⟨⟨_,_,_,_,rfl⟩,kP sG,zt,kz,by rw[bL nepqb];exact gpT,by rw[bL neqb];exact gqT,tzT.mono (bP (o:=o2) (sG _ _ XB.hq)),nzt,fun x=>by rw[mzt];simp,by omega⟩ (fun j σ H' hj hp=>⟨hp.2.1 _ _ j7,hj⟩) ?_ ?_
    ·rintro bk3 j v σ HI' HI hj ⟨⟨v7,v8,v11,v12,rfl⟩,sI,zt2,kz2,gp3,gq3,tz3,nz3,mz3,lz3⟩ ⟨t,kv,hkv,nt,rfl,rfl⟩
     obtain⟨HJ,eJ,fJ,mJ,_⟩:=d6 (o:= .tup _) nt
     rw[eJ]
     have leJ:=(bP (o:=o2) XB.hq).trans (sI.trans mJ).le
     obtain⟨x,hx,ex,bb,eb,sb⟩:=(XB.at_.ts.mono leJ).get hkv
     obtain⟨kk,kvv⟩:=kv
     have ex':kk=Sum.inr x.1:=ex
     have eb':kvv= .ref bb:=eb
     subst ex' eb'
     have hxm:=List.mem_of_getElem? hx
     have hen:=hX.ends x hxm
     obtain⟨x0,x1,x2,x3⟩:=x
     have tx:∀n∈k7 X,TxtAt (r6 (nx.map fun n=>(n,f n))) n∧jZ (r6 (nx.map fun n=>(n,f n))) n=f n:=fun n hn=>sY (f:=f) ndx (hnx.mem_iff.mpr hn)
     have h0:=tx x0 (mem_nms.mpr (.inr ⟨_,hxm⟩))
     have h2:=tx x2 (List.mem_append_left _ hen.1)
     have h3:=tx x3 (List.mem_append_left _ hen.2)
     have D:=leJ.dic (.inl hdb)
     have kl3:=tz3.length
     refine T4 (SqT.of fJ) rfl ?_
     walk_at "r"
     refine b7 sb (b5 (j:=0) rfl) ?_
     walk_at "r"
     refine b7 sb (b5 (j:=1) rfl) ?_
     refine yD D h2.1 ?_
     rw[h2.2]
     walk_at "r"
     refine b7 sb (b5 (j:=2) rfl) ?_
     refine yD D h3.1 ?_
     rw[h3.2]
     walk_at "r"
     refine⟨h9 (by simp),fun lK nK=>?_⟩
     obtain⟨HK,eK,fK,mK,_⟩:=d6 (o:= .tup (aP (x1,f x2,f x3))) nK
     change ud _ _ (p7 HJ lK (.tup (aP (x1,f x2,f x3)))) _
     rw[eK]
     walk_at "r"
     refine yD (mK.le.dic D) h0.1 ?_
     rw[h0.2]
     refine J0 (u6 (k:=Sum.inr (f x0)) (mK _ _ (mJ _ _ gq3)) (h9 (by omega)) ?_)
     have mJK:=mJ.trans mK
     have hadd:∀x':Str×N9,x'∈(X.ts.take (j+1)).map (fun y=>(f y.1,(y.2.1,f y.2.2.1,f y.2.2.2)))↔x'∈(X.ts.take j).map (fun y=>(f y.1,(y.2.1,f y.2.2.1,f y.2.2.2)))∨x'=(f x0,(x1,f x2,f x3)):=fun x'=>by
      rw[List.take_succ,hx,List.map_append];simp
     have hIn:∀x':Str×N9,(Mt P0 R ps i x'∨x'∈(X.ts.take j).map (fun y=>(f y.1,(y.2.1,f y.2.2.1,f y.2.2.2))))→Mt P0 R ps (i+1) x':=fun x' h=>(mT x').mpr (h.imp id fun z=>by
      obtain⟨y,hy,e⟩:=List.mem_map.mp z
      exact List.mem_map.mpr ⟨y,List.mem_of_mem_take hy,e⟩)
     obtain⟨C,tc,nc,mc,lc⟩:=yC (b:=(f x0,(x1,f x2,f x3))) (l:=lK) (tz3.mono mJK.le) nz3 (fun s'' h=>Mt.u ag (hIn _ ((mz3 _).mp h)) ((mT (f x0,(x1,f x2,f x3))).mpr (.inr (List.mem_map.mpr ⟨_,hxm,rfl⟩)))) (SqT.of fK)
     refine⟨⟨_,_,_,_,rfl⟩,C8 (sI.trans mJK) (by rw[bL neqb];exact hBq),C,_,by rw[d7 nepq];exact mJK _ _ gp3,j7,U7 (mJK _ _ gq3) tc,nc,fun x'=>?_,by omega⟩
     rw[mc,mz3,hadd,or_assoc]
    ·rintro σ HI ⟨⟨v7,v8,v11,v12,rfl⟩,sI,zt2,kz2,gp3,gq3,tz3,nz3,mz3,lz3⟩
     refine⟨⟨sI _ _ j7,Nat.le_refl _⟩,?_⟩
     rw[hkvb,List.take_of_length_le (Nat.le_refl _)] at mz3
     refine⟨⟨_,_,_,_,_,_,rfl⟩,sI.thaw XB.hq,zp2,zt2,kz2,by rw[O8 nepqb];exact gp3,by rw[O8 neqb];exact gq3,tz3.mono jW,nz2,nz3,mzM,fun x=>by rw[mz3,mT];rfl,by omega,by omega⟩
  rintro σ HE ⟨⟨v7,v8,v9,v10,v11,v12,rfl⟩,sE,zp,zt,kz,gp,gq,tz,nzp,nzt,mzp,mzt,lzp,lzt⟩
  refine⟨⟨_,SqL.of (sE _ _ hBl),Nat.le_refl _⟩,?_⟩
  walk_at "r"
  refine⟨h9 (by simp),fun t9 n9=>?_⟩
  obtain⟨HF,eF,fF,mF,_⟩:=d6 (H:=HE) (o:= .tup [.ref pp,.ref qq]) n9
  change ud _ _ (p7 HE t9 (.tup [.ref pp,.ref qq])) _
  rw[eF]
  walk_at "r"
  refine⟨h9 (by simp),fun t10 n10=>?_⟩
  obtain⟨HG,eG,fG,mG,_⟩:=d6 (o:= .tup _) n10
  rw[eG]
  have mEG:=mF.trans mG
  have sG:=sE.trans mEG
  refine k t10 t9 pp qq d1 d2 kz ⟨zp,zt⟩ s s' HG (s0B.trans sG) fG ⟨⟨SqT.of (mG _ _ fF),.inl (mEG _ _ gp),.inl (mEG _ _ gq),tz.mono mEG.le⟩,mEG _ _ gp,mEG _ _ gq,nepq,nzp,nzt,fun x=>?_,fun x=>?_,lzp,lzt,hpm,hpm',sG _ _ hB1,sG _ _ hB2⟩ Np Nq N1 N2
  ·rw[mzp];unfold Mp;simp [or_comm]
  ·rw[mzt];unfold Mt;simp [or_comm]
def dI (K:PySem.W.Frag):Sp:=fun vs H Q _=>∃(a p q a' p' q' d:Addr) (kvs kvs':List (j8×V)) (P R:E7) (us:List (Str×Str)) (n t:Str),vs=[.ref a,.ref a',.ref d,.str n,.str t]∧WebAt K H a p q kvs P∧(k7 P).Nodup∧WebAt K H a' p' q' kvs' R∧(k7 R).Nodup∧H d=some (.dK (r6 us))∧(us.map (·.1)).Nodup∧n∉us.map (·.1)∧n∈k7 P∧us.length≤30∧∀H' b,Same H H'→(b=true↔t∉us.map (·.2)∧WP P R (us++[(n,t)]) (n,t))→Q (.bl b) H'
abbrev gk (P:Program)(w:World)(K:PySem.W.Frag)(mg:Str→Option Value)(base:Heap):Prop:=F0 P w K mg base x9 2 "_law_may" ["_law_piece_here","_law_other","_law_there","_law_name","_law_to"] [] (dI K)
theorem kO {f:Addr}{fd:FuncData}(T:Txt K mg)(ar:dQ P w K mg base)(F:Fun K "_law_may" "_law_may" bW f fd):p0 P w K mg base x9 2 f fd ["_law_piece_here","_law_other","_law_there","_law_name","_law_to"] (dI K):=by
 refine F.ok sc__law_may (fun vs H Q E h=>?_) (fun cdv A outer s H vs Q E hr h=>?_)
 ·obtain⟨a,p,q,a',p',q',d,kvs,kvs',P0,R,us,n,t,rfl,_⟩:=h
  rfl
 ·obtain⟨a,p,q,a',p',q',d,kvs,kvs',P0,R,us,n,t,rfl,hP,ndP,hR,ndR,hd,nk,hn,hin,hl,k⟩:=h
  have hN:=sc__law_may.nd
  have hu:=A1 hr
  refine⟨_,QSs.r (C6 (z8 (i:=5) hN rfl (by walk_at "l") (kI (aU K rfl) T.b_dict Boot.«dict» (i9 (qV 2) o3)))
   (C6 (Y9 (qV 4) (lE (qV 5) (qV 3) (x5 P w hu)))
   (E6 (C9 (AO (iH (gz K hu) (qV 4) (kI (oK K rfl) T.b_list Boot.«list» (i9 (Cy PySem.F.plainAttrs_dict PySem.F.slot_dict_values PySem.F.type_dict_values Z4 K (qV 2)) o3)) (by rfl)) (BJ (qC ar (hr.mono (by decide)) o9 (i9 (qV 0) (i9 (qV 1) (i9 (qV 5) (i9 (qV 3) o3))))))))))),?_⟩
  walk_at "r"
  refine P6 (.inl hd) (fun dm ndm=>?_)
  obtain⟨H1,e1,f1,m1,_⟩:=d6 (o:= .dK (r6 us)) ndm
  rw[e1]
  walk_at "r"
  refine J0 (u6 (k:=Sum.inr n) f1 (h9 (by rw[o5];omega)) ?_)
  rw[O9 hn]
  have s2:Same H (p7 H1 dm (.dK (r6 (us++[(n,t)])))):=C8 m1 ndm
  have f2:(p7 H1 dm (.dK (r6 (us++[(n,t)])))) dm=some (.dK (r6 (us++[(n,t)]))):=j7
  generalize p7 H1 dm (.dK (r6 (us++[(n,t)])))=H2 at s2 f2⊢
  have fd:=s2 _ _ hd
  walk_at "r"
  refine⟨.inr (.inr (.inl ⟨rfl,.inl ⟨_,fd⟩⟩)),?_⟩
  refine⟨d,_,rfl,rfl,.inl fd,fun lv nv=>?_⟩
  obtain⟨H4,e4,f4,m4,_⟩:=d6 (o:= .ext (kS lv d)) nv
  rw[e4]
  walk_at "r"
  refine dF f4 (.inl (m4 _ _ fd)) (fun l5 n5=>?_)
  rw[lX]
  obtain⟨H5,e5,f5,m5,_⟩:=d6 (o:= .lst ((us.map (·.2)).map V.str)) n5
  rw[e5]
  have s5:=s2.trans (m4.trans m5)
  refine oo (SqL.of f5) ?_
  walk_at "r"
  refine Y5 (fun z=>?_) (fun z=>?_)
  ·walk_at "r"
   refine⟨a,p,q,a',p',q',dm,kvs,kvs',P0,R,us++[(n,t)],(n,t),rfl,hP.mono s5.le,ndP,hR.mono s5.le,ndR,.inl (m5 _ _ (m4 _ _ f2)),?_,by simp,hin,fun H6 b m6 hb=>k H6 b (s5.trans m6) ?_⟩
   ·rw[List.map_append];exact F6 nk hn
   ·rw[hb];exact⟨fun h=>⟨z,h⟩,fun h=>h.2⟩
  ·walk_at "r"
   exact k H5 false s5 ⟨fun h=>(nomatch h),fun h=>absurd z h.1⟩
structure DrI (P R:E7) (s:List Str) (i:Nat) (us:List (Str×Str)):Prop where
 nk:(us.map (·.1)).Nodup
 ks:∀n∈us.map (·.1),n∈s.take i
 nv:(us.map (·.2)).Nodup
 wp:∀x∈us,WP P R us x
 len:us.length≤i
theorem DrI.next {P R:E7}{s:List Str}{i:Nat}{us:List (Str×Str)}(h:DrI P R s i us):DrI P R s (i+1) us:=⟨h.nk,fun n hn=>(List.take_subset_take_left s (Nat.le_succ i)) (h.ks n hn),h.nv,h.wp,Nat.le_succ_of_le h.len⟩
theorem DrI.add {P R:E7}{s:List Str}{i:Nat}{us:List (Str×Str)}{n t:Str}(h:DrI P R s i us)(hi:s[i]?=some n)(hn:n∉us.map (·.1))(ht:t∉us.map (·.2))(w:WP P R (us++[(n,t)]) (n,t)):DrI P R s (i+1) (us++[(n,t)]):=by
 refine⟨by rw[List.map_append];exact F6 h.nk hn,fun m hm=>?_,by rw[List.map_append];exact F6 h.nv ht,fun x hx=>?_,by rw[List.length_append];have:=h.len;simp;omega⟩
 ·rw[List.map_append] at hm
  rw[List.take_succ,hi]
  rcases List.mem_append.mp hm with z|z
  ·exact List.mem_append_left _ (h.ks m z)
  ·rw[show m=n by simpa using z];simp
 ·rcases List.mem_append.mp hx with z|z
  ·exact(h.wp x z).mono fun y hy=>List.mem_append_left _ hy
  ·rw[List.mem_singleton.mp z];exact w
theorem rl {α β:Type}{F:α→β→Prop}:∀{l:List α} {m:List β},l.length=m.length→(∀(j:Nat) (a:α) (b:β),l[j]?=some a→m[j]?=some b→F a b)→Paired F l m:=by
 intro l
 induction l with
 |nil=>
  intro m hl _
  rw[List.eq_nil_of_length_eq_zero hl.symm]
  exact .nil
 |cons a r ih=>
  intro m hl h
  cases m with
  |nil=>cases hl
  |cons b t=>exact .cons (h 0 a b rfl rfl) (ih (Nat.succ.inj hl) fun j x y e1 e2=>h (j+1) x y e1 e2)
def bt (K:PySem.W.Frag):Sp:=fun vs H Q _=>∃(a p q a' p' q':Addr) (kvs kvs':List (j8×V)) (P R:E7) (m:Int),vs=[.ref a,.ref a',.int m]∧0≤m∧WebIs 13 K H a p q kvs P∧WebIs 13 K H a' p' q' kvs' R∧
 ∀(l:Addr) (H':Hp) (xs:List V) (ps:List (Str×Str)),H l=none→Same H H'→H' l=some (.lst xs)→xs.length≤13→PrsAt K H' xs ps→mZ P R ps→Q (.ref l) H'
abbrev cg (P:Program)(w:World)(K:PySem.W.Frag)(mg:Str→Option Value)(base:Heap):Prop:=F0 P w K mg base x9 3 "_law_drawn" ["_law_piece_here","_law_other","_law_mixed"] [] (bt K)
theorem iJ {f:Addr}{fd:FuncData}(T:Txt K mg)(C3:X4 P w K mg base)(bU:gk P w K mg base)(F:Fun K "_law_drawn" "_law_drawn" X8 f fd):p0 P w K mg base x9 3 f fd ["_law_piece_here","_law_other","_law_mixed"] (bt K):=by
 refine F.ok sc__law_drawn (fun vs H Q E h=>?_) (fun cdv A outer s H vs Q E hr h=>?_)
 ·obtain⟨a,p,q,a',p',q',kvs,kvs',P0,R,m,rfl,_⟩:=h
  rfl
 ·obtain⟨a,p,q,a',p',q',kvs,kvs',P0,R,m,rfl,hm,hP,hR,k⟩:=h
  have hPl:=hP.len
  have hRl:=hR.len
  have hN:=sc__law_drawn.nd
  have hu:=A1 hr
  refine⟨_,QSs.r (C6 (z8 (i:=3) hN rfl (by walk_at "l") wd)
   (C6 (cP PassesOwn.never rfl (af K (qC C3 (hr.mono (by decide)) o9 (i9 (qV 0) o3))) (U6 (i:=4) hN rfl (by walk_at "l"))
    (C6 (tH (i:=5) hN rfl (by walk_at "l") (own:=["_law_to"]) (js:=[0,1,3,4]) (by kernel_rfl) rfl (af K (qC C3 (hr.mono (by decide)) o9 (i9 (qV 1) o3))) (fun _ _ _ _=>(U6 (i:=0) (show List.Nodup (["_law_to","_law_piece_here","_law_other","_law_there","_law_name"]:List Str) by decide+kernel) rfl (by walk_at "l"))) (fun _ _ _ _=>(Ac (bB K (qC bU (hr.mono (by decide)) o9 (i9 (qV 1) (i9 (qV 2) (i9 (qV 3) (i9 (qV 4) (i9 (qV 0) o3))))))))) (fun _ _ _ _=>(qV 0)))
   (C6 (z8 (i:=6) hN rfl (by walk_at "l") (F7 D6 (qV 2) (F7 (V7 K) (qB (K5 K P w) T.b_len Boot.«len» (i9 (qV 5) o3)) j0)))
   (C6 (z8 (i:=2) hN rfl (by walk_at "l") (F7 D5 (qV 2) (F7 (V7 K) (qB (K5 K P w) T.b_len Boot.«len» (i9 (qV 5) o3)) j0)))
   (E6 (fb (C7 oH (qV 6) (qB (K5 K P w) T.b_len Boot.«len» (i9 (qV 5) o3)) (z0 _)) (E6 (Y9 (x6 (x8 K hu) (qV 5) (qV 6) (fun _ _=>rfl)) (lE (qV 3) (qV 4) (x5 P w hu)))) ie))))))
   (E6 (C9 (qB (lT K) T.b_sorted Boot.«sorted» (i9 (kI (zu K rfl) T.b_list Boot.«list» (i9 (Cy PySem.F.plainAttrs_dict PySem.F.slot_dict_items PySem.F.type_dict_items fT K (qV 3)) o3)) o3)))))),?_⟩
  walk_at "r"
  intro d0 nd0
  obtain⟨H1,e1,f1,m1,_⟩:=d6 (o:= .dK []) nd0
  rw[e1]
  walk_at "r"
  refine⟨a,p,q,kvs,P0,rfl,hP.at_.mono m1.le,by omega,fun l0 H2 s1 s2 n2 m2 f2 or=>?_⟩
  have m12:=m1.trans m2
  have hsnd:(s1++s2).Nodup:=or.perm.nodup_iff.mpr hP.nd
  have hslen:=or.len
  generalize hS:s1++s2=s at f2 hsnd hslen
  have hmem:∀n,n∈s↔n∈k7 P0:=fun n=>by rw[←hS];exact or.mem
  have hne0:l0≠d0:=(d8 f1 n2).symm
  refine C4 (SqL.of f2) ?_
  refine P2 (n:=s.length) (fun i σ H'=>∃(us:List (Str×Str)) (mx:Int) (v4 v5 v6:Option V),σ=[some (.ref a),some (.ref a'),some (.int mx),some (.ref d0),v4,v5,v6]∧0≤mx∧Same H H'∧H' l0=some (.lst (s.map V.str))∧H' d0=some (.dK (r6 us))∧DrI P0 R s i us) ⟨[],m,none,none,none,rfl,hm,m12,f2,m2 _ _ f1,⟨List.nodup_nil,(fun _ h=>nomatch h),List.nodup_nil,(fun _ h=>nomatch h),Nat.le_refl _⟩⟩ (fun i σ H' hi hp=>?_) ?_ ?_
  ·obtain⟨_,_,_,_,_,_,_,_,f,_⟩:=hp
   exact⟨_,.str (s[i]),SqL.of f,by rw[List.getElem?_map,List.getElem?_eq_getElem hi];rfl⟩
  ·rintro bk i v σ H3' H3 hi ⟨us,mx,v4,v5,v6,rfl,hmx,s3,f3,fd3,dr⟩ y
   obtain⟨rfl,hy⟩:=Itl.get y (SqL.of f3)
   rw[List.getElem?_map,List.getElem?_eq_getElem hi] at hy
   cases hy
   have hsi:s[i]?=some s[i]:=List.getElem?_eq_getElem hi
   have hnew:s[i]∉us.map (·.1):=fun z=>X3 hsnd hsi (dr.ks _ z)
   have hinP:s[i]∈k7 P0:=(hmem _).mp (List.getElem_mem hi)
   have hul:=dr.len
   walk_at "r"
   refine⟨a',p',q',kvs',R,rfl,hR.at_.mono s3.le,by omega,fun l4 H4 t1 t2 n4 m4 f4 or'=>?_⟩
   have hol':=or'.len
   generalize t1++t2=s' at f4 hol'
   refine C4 (SqL.of f4) ?_
   refine F8 (n:=s'.length) (fun j out H'=>Same H4 H'∧∃gs:List Str,out=gs.map V.str∧gs.length≤j∧∀t∈gs,t∉us.map (·.2)∧WP P0 R (us++[(s[i],t)]) (s[i],t)) ⟨Same.refl _,[],rfl,Nat.le_refl _,fun _ h=>nomatch h⟩ (fun j out H' hj hp=>⟨_,.str (s'[j]),SqL.of (hp.1 _ _ f4),by rw[List.getElem?_map,List.getElem?_eq_getElem hj];rfl⟩) ?_ ?_
   ·rintro N j v out H5' H5 hj ⟨s5,gs,rfl,hgl,hgs⟩ y hN'
    obtain⟨rfl,hy⟩:=Itl.get y (SqL.of (s5 _ _ f4))
    rw[List.getElem?_map,List.getElem?_eq_getElem hj] at hy
    cases hy
    have s35:=m4.trans s5
    have s05:=s3.trans s35
    walk_at "r"
    refine⟨rfl,?_⟩
    walk_at "r"
    refine⟨a,p,q,a',p',q',d0,kvs,kvs',P0,R,us,s[i],s'[j],rfl,hP.at_.mono s05.le,hP.nd,hR.at_.mono s05.le,hR.nd,s35 _ _ fd3,dr.nk,hnew,hinP,by omega,fun H6 b m6 hb=>?_⟩
    walk_at "r"
    refine tX (fun hbt=>?_) (fun hbt=>?_)
    ·walk_at "r"
     refine⟨h9 (by rw[List.length_map];omega),hN' _ _ ⟨s5.trans m6,gs++[s'[j]],by rw[List.map_append];rfl,by rw[List.length_append];simp;omega,fun t ht=>?_⟩⟩
     rcases List.mem_append.mp ht with z|z
     ·exact hgs t z
     ·rw[List.mem_singleton.mp z];exact hb.mp hbt
    ·exact hN' _ _ ⟨s5.trans m6,gs,rfl,by omega,hgs⟩
   rintro out H5 ⟨s5,gs,rfl,hgl,hgs⟩
   refine⟨⟨_,SqL.of (s5 _ _ f4),by rw[List.length_map];exact Nat.le_refl _⟩,fun D hD=>⟨h9 (by rw[List.length_map];omega),?_⟩⟩
   obtain⟨H6,e6,f6,m6,_⟩:=d6 (H:=H5) (o:= .lst (gs.map V.str)) hD
   change ai _ _ _ (p7 H5 D _) _
   rw[e6]
   have s36:=m4.trans (s5.trans m6)
   have s06:=s3.trans s36
   have f36:=s36 _ _ f3
   have fd36:=s36 _ _ fd3
   walk_at "r"
   refine E9 (p9 (SqL.of f6) ?_)
   rw[List.length_map]
   walk_at "r"
   refine E9 (p9 (SqL.of f6) ?_)
   rw[List.length_map]
   walk_at "r"
   have h0:0≤mx % ((gs.length:Int)+2):=Int.emod_nonneg _ (by omega)
   have hq0:0≤mx/((gs.length:Int)+2):=Int.ediv_nonneg hmx (by omega)
   refine E9 (p9 (SqL.of f6) ?_)
   rw[List.length_map]
   walk_at "r"
   refine K4 (fun hlt=>?_) (fun hlt=>?_)
   ·walk_at "r"
    obtain⟨t,ht,htm⟩:=E1 (ss:=gs) h0 hlt
    refine k9 (SqL.of f6) ht ?_
    walk_at "r"
    refine J0 (u6 (k:=Sum.inr s[i]) fd36 (h9 (by rw[o5];omega)) ?_)
    rw[O9 hnew]
    refine⟨us++[(s[i],t)],_,_,_,_,rfl,hq0,C8 s06 nd0,by rw[d7 hne0];exact f36,j7,dr.add hsi hnew (hgs t htm).1 (hgs t htm).2⟩
   ·walk_at "r"
    exact⟨us,_,_,_,_,rfl,hq0,s06,f36,fd36,dr.next⟩
  rintro σ H3 ⟨us,mx,v4,v5,v6,rfl,hmx,s3,f3,fd3,dr⟩
  refine⟨⟨_,SqL.of f3,by rw[List.length_map];exact Nat.le_refl _⟩,?_⟩
  have hul:=dr.len
  walk_at "r"
  refine⟨.inr (.inr (.inl ⟨rfl,.inl ⟨_,fd3⟩⟩)),?_⟩
  refine⟨d0,_,rfl,rfl,.inl fd3,fun lv nv=>?_⟩
  obtain⟨H4,e4,f4,m4,_⟩:=d6 (o:= .ext (sg lv d0)) nv
  rw[e4]
  walk_at "r"
  refine kn f4 (.inl (m4 _ _ fd3)) (fun l5 as H5 n5 m5 f5 hal has=>?_)
  rw[o5] at hal
  have prT:PrsAt K H5 (as.map V.ref) us:=rl (by rw[List.length_map];exact hal) fun j v x e1 e2=>by
   rw[List.getElem?_map] at e1
   obtain⟨b,hb,rfl⟩:=Option.map_eq_some_iff.mp e1
   refine⟨b,rfl,SqT.of ?_⟩
   exact has j b (Sum.inr x.1,.str x.2) hb (by unfold r6;rw[List.getElem?_map,e2];rfl)
  have s5:=s3.trans (m4.trans m5)
  walk_at "r"
  obtain⟨ts,e1',eu,ut⟩:=mv prT
  have hus:ts.length=us.length:=by have z:=congrArg List.length eu;rwa [List.length_map,List.length_map] at z
  have uform:∀u∈ts,∃x:Str×Str,u.2=pV x:=fun u hu=>by
   have z:u.2∈ts.map (·.2):=List.mem_map.mpr ⟨u,hu,rfl⟩
   rw[eu] at z
   obtain⟨x,_,e9⟩:=List.mem_map.mp z
   exact⟨x,e9.symm⟩
  refine⟨l5,ts,rfl,by rw[←e1'];exact SqL.of f5,fun u hu=>⟨ut u hu,?_⟩,fun u hu u' hu'=>?_,by omega,fun us' pm srt l7 n7=>?_⟩
  ·obtain⟨x,e9⟩:=uform u hu
   exact⟨x.1,_,e9⟩
  ·obtain⟨x,e9⟩:=uform u hu
   obtain⟨x',e9'⟩:=uform u' hu'
   rw[e9,e9']
   exact .cons (.inl ⟨_,_,rfl,rfl⟩) (.cons (.inl ⟨_,_,rfl,rfl⟩) .nil)
  obtain⟨H7,e7,f7,m7,_⟩:=d6 (o:= .lst (us'.map fun t=>V.ref t.1)) n7
  rw[e7]
  have hc:∀u∈us',u.2=pV (cD u.2):=fun u hu=>by
   obtain⟨x,e9⟩:=uform u (pm.mem_iff.mp hu)
   rw[e9,pJ]
  have p1:(us'.map fun u=>cD u.2).Perm us:=by
   have p1:=pm.map fun u=>cD u.2
   have e9:ts.map (fun u=>cD u.2)=us:=by
    have z:(ts.map (·.2)).map cD=(us.map pV).map cD:=by rw[eu]
    rw[List.map_map,List.map_map] at z
    rw[show ts.map (fun u=>cD u.2)=ts.map (cD∘(·.2)) from rfl,z]
    exact(List.map_congr_left fun x _=>pJ x).trans (List.map_id us)
   rwa [e9] at p1
  have hpl:=pm.length_eq
  refine k l7 H7 _ (us'.map fun u=>cD u.2) (s5.free n7) (s5.trans m7) f7 (by rw[List.length_map];omega) (dX fun u hu=>⟨u.1,rfl,?_⟩) ⟨(p1.map _).nodup_iff.mpr dr.nk,(p1.map _).nodup_iff.mpr dr.nv,List.pairwise_map.mpr (List.Pairwise.imp_of_mem (fun{a b} ha hb z=>?_) srt),fun x hx=>(dr.wp x (p1.mem_iff.mp hx)).mono fun y hy=>p1.mem_iff.mpr hy⟩
  ·have z:=m7.tup (ut u (pm.mem_iff.mp hu))
   rw[hc u hu] at z
   exact z
  ·show ¬D4 (pV (cD b.2))<D4 (pV (cD a.2))
   rw[←hc a ha,←hc b hb];exact z
theorem q8 {t u:TS}{nx:L2.St→Hp→Prop}{rt:V→Hp→Prop}{bk ct:L2.St→Hp→Prop}{σ:L2.St}{H:Hp}(h:∀nx':L2.St→Hp→Prop,(∀σ H,u ⟨nx,rt,bk,ct⟩ σ H→nx' σ H)→t ⟨nx',rt,bk,ct⟩ σ H):xJ t u ⟨nx,rt,bk,ct⟩ σ H:=h _ fun _ _ z=>z
abbrev ky (P:Program)(w:World)(K:PySem.W.Frag)(mg:Str→Option Value)(base:Heap):Prop:=F0 P w K mg base x9 1 "is_text_of" ["thing","signs","most"] [] (bf K)
theorem iu {f:Addr}{fd:FuncData}(T:Txt K mg)(F:Fun K "is_text_of" "is_text_of" W6 f fd):p0 P w K mg base x9 1 f fd ["thing","signs","most"] (bf K):=by
 refine F.ok ij (fun vs H Q E h=>?_) (fun cdv A outer s H vs Q E hr h=>?_)
 ·exact h.elim
 ·exact h.elim
abbrev rP (P:Program)(w:World)(K:PySem.W.Frag)(mg:Str→Option Value)(base:Heap):Prop:=F0 P w K mg base x9 1 "is_name" ["thing"] [] (gH K)
theorem nY {f:Addr}{fd:FuncData}(T:Txt K mg)(F:Fun K "is_name" "is_name" di f fd):p0 P w K mg base x9 1 f fd ["thing"] (gH K):=by
 refine F.ok nJ (fun vs H Q E h=>?_) (fun cdv A outer s H vs Q E hr h=>?_)
 ·exact h.elim
 ·exact h.elim
abbrev qD (P:Program)(w:World)(K:PySem.W.Frag)(mg:Str→Option Value)(base:Heap):Prop:=F0 P w K mg base (cS P w) 1 "without" ["web","names"] [] (gP K)
theorem oN {f:Addr}{fd:FuncData}(T:Txt K mg)(F:Fun K "without" "without" dv f fd):p0 P w K mg base (cS P w) 1 f fd ["web","names"] (gP K):=by
 refine F.okE nT (fun vs H Q E h=>?_) (fun cdv A outer s H vs Q E hr h=>?_)
 ·exact h.elim
 ·exact h.elim
abbrev oP (P:Program)(w:World)(K:PySem.W.Frag)(mg:Str→Option Value)(base:Heap):Prop:=F0 P w K mg base x9 1 "is_match" ["piece","web","match"] [] (dO K)
theorem mO {f:Addr}{fd:FuncData}(T:Txt K mg)(F:Fun K "is_match" "is_match" bQ f fd):p0 P w K mg base x9 1 f fd ["piece","web","match"] (dO K):=by
 refine F.ok lJ (fun vs H Q E h=>?_) (fun cdv A outer s H vs Q E hr h=>?_)
 ·exact h.elim
 ·exact h.elim
abbrev zB (P:Program)(w:World)(K:PySem.W.Frag)(mg:Str→Option Value)(base:Heap):Prop:=F0 P w K mg base x9 1 "line" ["piece","match"] [] (pP K)
theorem wu {f:Addr}{fd:FuncData}(T:Txt K mg)(F:Fun K "line" "line" oC f fd):p0 P w K mg base x9 1 f fd ["piece","match"] (pP K):=by
 refine F.ok yw (fun vs H Q E h=>?_) (fun cdv A outer s H vs Q E hr h=>?_)
 ·exact h.elim
 ·exact h.elim
abbrev ip (P:Program)(w:World)(K:PySem.W.Frag)(mg:Str→Option Value)(base:Heap):Prop:=F0 P w K mg base x9 1 "first_match" ["piece","web","fixed"] [] (aM K)
theorem gU {f:Addr}{fd:FuncData}(T:Txt K mg)(F:Fun K "first_match" "first_match" S9 f fd):p0 P w K mg base x9 1 f fd ["piece","web","fixed"] (aM K):=by
 refine F.ok fI (fun vs H Q E h=>?_) (fun cdv A outer s H vs Q E hr h=>?_)
 ·exact h.elim
 ·exact h.elim
abbrev iz (P:Program)(w:World)(K:PySem.W.Frag)(mg:Str→Option Value)(base:Heap):Prop:=F0 P w K mg base x9 1 "first_found" ["piece","web","piece_looks","web_looks","fixed"] [] (ay K)
theorem fk {f:Addr}{fd:FuncData}(T:Txt K mg)(F:Fun K "first_found" "first_found" U1 f fd):p0 P w K mg base x9 1 f fd ["piece","web","piece_looks","web_looks","fixed"] (ay K):=by
 refine F.ok fW (fun vs H Q E h=>?_) (fun cdv A outer s H vs Q E hr h=>?_)
 ·exact h.elim
 ·exact h.elim
abbrev xX (P:Program)(w:World)(K:PySem.W.Frag)(mg:Str→Option Value)(base:Heap):Prop:=F0 P w K mg base x9 1 "found" ["piece","web","piece_looks","web_looks","fixed","most"] [] (mI K)
theorem tR {f:Addr}{fd:FuncData}(T:Txt K mg)(F:Fun K "found" "found" jD f fd):p0 P w K mg base x9 1 f fd ["piece","web","piece_looks","web_looks","fixed","most"] (mI K):=by
 refine F.ok sP (fun vs H Q E h=>?_) (fun cdv A outer s H vs Q E hr h=>?_)
 ·exact h.elim
 ·exact h.elim
abbrev sL (P:Program)(w:World)(K:PySem.W.Frag)(mg:Str→Option Value)(base:Heap):Prop:=F0 P w K mg base x9 1 "may_be" ["name","image","fixed"] [] (ja K)
theorem rC {f:Addr}{fd:FuncData}(T:Txt K mg)(F:Fun K "may_be" "may_be" gJ f fd):p0 P w K mg base x9 1 f fd ["name","image","fixed"] (ja K):=by
 refine F.ok qk (fun vs H Q E h=>?_) (fun cdv A outer s H vs Q E hr h=>?_)
 ·exact h.elim
 ·exact h.elim
abbrev er (P:Program)(w:World)(K:PySem.W.Frag)(mg:Str→Option Value)(base:Heap):Prop:=F0 P w K mg base x9 1 "point_choices" ["piece_looks","web_looks","fixed"] [] (V0 K)
theorem dq {f:Addr}{fd:FuncData}(T:Txt K mg)(F:Fun K "point_choices" "point_choices" O2 f fd):p0 P w K mg base x9 1 f fd ["piece_looks","web_looks","fixed"] (V0 K):=by
 refine F.ok dz (fun vs H Q E h=>?_) (fun cdv A outer s H vs Q E hr h=>?_)
 ·exact h.elim
 ·exact h.elim
abbrev jJ (P:Program)(w:World)(K:PySem.W.Frag)(mg:Str→Option Value)(base:Heap):Prop:=F0 P w K mg base x9 1 "tie_places" ["piece","web","fixed"] [] (bg K)
theorem ig {f:Addr}{fd:FuncData}(T:Txt K mg)(F:Fun K "tie_places" "tie_places" W5 f fd):p0 P w K mg base x9 1 f fd ["piece","web","fixed"] (bg K):=by
 refine F.ok ix (fun vs H Q E h=>?_) (fun cdv A outer s H vs Q E hr h=>?_)
 ·exact h.elim
 ·exact h.elim
abbrev ug (P:Program)(w:World)(K:PySem.W.Frag)(mg:Str→Option Value)(base:Heap):Prop:=F0 P w K mg base x9 1 "enough" ["lists"] [] (jm K)
theorem qE {f:Addr}{fd:FuncData}(T:Txt K mg)(F:Fun K "enough" "enough" gf f fd):p0 P w K mg base x9 1 f fd ["lists"] (jm K):=by
 refine F.ok qO (fun vs H Q E h=>?_) (fun cdv A outer s H vs Q E hr h=>?_)
 ·exact h.elim
 ·exact h.elim
abbrev wU (P:Program)(w:World)(K:PySem.W.Frag)(mg:Str→Option Value)(base:Heap):Prop:=F0 P w K mg base x9 1 "lines" ["piece","choices","places","most"] [] (kT K)
theorem vG {f:Addr}{fd:FuncData}(T:Txt K mg)(F:Fun K "lines" "lines" jS f fd):p0 P w K mg base x9 1 f fd ["piece","choices","places","most"] (kT K):=by
 refine F.ok vN (fun vs H Q E h=>?_) (fun cdv A outer s H vs Q E hr h=>?_)
 ·exact h.elim
 ·exact h.elim
abbrev tT (P:Program)(w:World)(K:PySem.W.Frag)(mg:Str→Option Value)(base:Heap):Prop:=F0 P w K mg base x9 1 "images" ["piece","choices","places","begun"] [] (jk K)
theorem qF {f:Addr}{fd:FuncData}(T:Txt K mg)(F:Fun K "images" "images" gy f fd):p0 P w K mg base x9 1 f fd ["piece","choices","places","begun"] (jk K):=by
 refine F.ok rX (fun vs H Q E h=>?_) (fun cdv A outer s H vs Q E hr h=>?_)
 ·exact h.elim
 ·exact h.elim
abbrev iB (P:Program)(w:World)(K:PySem.W.Frag)(mg:Str→Option Value)(base:Heap):Prop:=F0 P w K mg base x9 1 "tie_choices" ["piece","places","put","name"] [] (aq K)
theorem gh {f:Addr}{fd:FuncData}(T:Txt K mg)(F:Fun K "tie_choices" "tie_choices" S6 f fd):p0 P w K mg base x9 1 f fd ["piece","places","put","name"] (aq K):=by
 refine F.ok fe (fun vs H Q E h=>?_) (fun cdv A outer s H vs Q E hr h=>?_)
 ·exact h.elim
 ·exact h.elim
abbrev nW (P:Program)(w:World)(K:PySem.W.Frag)(mg:Str→Option Value)(base:Heap):Prop:=F0 P w K mg base x9 1 "has_room" ["piece","places","put","name","image"] [] (dE K)
theorem lq {f:Addr}{fd:FuncData}(T:Txt K mg)(F:Fun K "has_room" "has_room" bO f fd):p0 P w K mg base x9 1 f fd ["piece","places","put","name","image"] (dE K):=by
 refine F.ok mQ (fun vs H Q E h=>?_) (fun cdv A outer s H vs Q E hr h=>?_)
 ·exact h.elim
 ·exact h.elim
abbrev AE (P:Program)(w:World)(K:PySem.W.Frag)(mg:Str→Option Value)(base:Heap):Prop:=F0 P w K mg base x9 1 "both" ["web","other"] [] (pA K)
theorem xG {f:Addr}{fd:FuncData}(T:Txt K mg)(F:Fun K "both" "both" nF f fd):p0 P w K mg base x9 1 f fd ["web","other"] (pA K):=by
 refine F.ok wO (fun vs H Q E h=>?_) (fun cdv A outer s H vs Q E hr h=>?_)
 ·exact h.elim
 ·exact h.elim
abbrev Bq (P:Program)(w:World)(K:PySem.W.Frag)(mg:Str→Option Value)(base:Heap):Prop:=F0 P w K mg base x9 1 "kept" ["rule"] [] (pO K)
theorem xr {f:Addr}{fd:FuncData}(T:Txt K mg)(F:Fun K "kept" "kept" nI f fd):p0 P w K mg base x9 1 f fd ["rule"] (pO K):=by
 refine F.ok yg (fun vs H Q E h=>?_) (fun cdv A outer s H vs Q E hr h=>?_)
 ·exact h.elim
 ·exact h.elim
abbrev xW (P:Program)(w:World)(K:PySem.W.Frag)(mg:Str→Option Value)(base:Heap):Prop:=F0 P w K mg base x9 1 "taken" ["rule"] [] (ma K)
theorem uk {f:Addr}{fd:FuncData}(T:Txt K mg)(F:Fun K "taken" "taken" jK f fd):p0 P w K mg base x9 1 f fd ["rule"] (ma K):=by
 refine F.ok sQ (fun vs H Q E h=>?_) (fun cdv A outer s H vs Q E hr h=>?_)
 ·exact h.elim
 ·exact h.elim
abbrev tS (P:Program)(w:World)(K:PySem.W.Frag)(mg:Str→Option Value)(base:Heap):Prop:=F0 P w K mg base x9 1 "picked" ["put","names"] [] (iN K)
theorem rh {f:Addr}{fd:FuncData}(T:Txt K mg)(F:Fun K "picked" "picked" gm f fd):p0 P w K mg base x9 1 f fd ["put","names"] (iN K):=by
 refine F.ok rY (fun vs H Q E h=>?_) (fun cdv A outer s H vs Q E hr h=>?_)
 ·exact h.elim
 ·exact h.elim
abbrev vy (P:Program)(w:World)(K:PySem.W.Frag)(mg:Str→Option Value)(base:Heap):Prop:=F0 P w K mg base x9 1 "barred" ["web","rule","match"] [] (iP K)
theorem qr {f:Addr}{fd:FuncData}(T:Txt K mg)(F:Fun K "barred" "barred" gv f fd):p0 P w K mg base x9 1 f fd ["web","rule","match"] (iP K):=by
 refine F.ok sd (fun vs H Q E h=>?_) (fun cdv A outer s H vs Q E hr h=>?_)
 ·exact h.elim
 ·exact h.elim
abbrev mU (P:Program)(w:World)(K:PySem.W.Frag)(mg:Str→Option Value)(base:Heap):Prop:=F0 P w K mg base x9 1 "taken_out" ["step"] [] (cK K)
theorem jQ {f:Addr}{fd:FuncData}(T:Txt K mg)(F:Fun K "taken_out" "taken_out" aL f fd):p0 P w K mg base x9 1 f fd ["step"] (cK K):=by
 refine F.ok jN (fun vs H Q E h=>?_) (fun cdv A outer s H vs Q E hr h=>?_)
 ·exact h.elim
 ·exact h.elim
abbrev iq (P:Program)(w:World)(K:PySem.W.Frag)(mg:Str→Option Value)(base:Heap):Prop:=F0 P w K mg base x9 1 "names_serve" ["web","rule","fresh"] [] (aJ K)
theorem hJ {f:Addr}{fd:FuncData}(T:Txt K mg)(F:Fun K "names_serve" "names_serve" U0 f fd):p0 P w K mg base x9 1 f fd ["web","rule","fresh"] (aJ K):=by
 refine F.ok fQ (fun vs H Q E h=>?_) (fun cdv A outer s H vs Q E hr h=>?_)
 ·exact h.elim
 ·exact h.elim
abbrev qu (P:Program)(w:World)(K:PySem.W.Frag)(mg:Str→Option Value)(base:Heap):Prop:=F0 P w K mg base (cS P w) 1 "rest_of" ["web","step"] [] (hZ K)
theorem ox {f:Addr}{fd:FuncData}(T:Txt K mg)(F:Fun K "rest_of" "rest_of" dy f fd):p0 P w K mg base (cS P w) 1 f fd ["web","step"] (hZ K):=by
 refine F.okE nV (fun vs H Q E h=>?_) (fun cdv A outer s H vs Q E hr h=>?_)
 ·exact h.elim
 ·exact h.elim
abbrev Bl (P:Program)(w:World)(K:PySem.W.Frag)(mg:Str→Option Value)(base:Heap):Prop:=F0 P w K mg base (cS P w) 1 "done" ["web","step"] [] (pX K)
theorem yk {f:Addr}{fd:FuncData}(T:Txt K mg)(F:Fun K "done" "done" oV f fd):p0 P w K mg base (cS P w) 1 f fd ["web","step"] (pX K):=by
 refine F.okE xB (fun vs H Q E h=>?_) (fun cdv A outer s H vs Q E hr h=>?_)
 ·exact h.elim
 ·exact h.elim
abbrev tM (P:Program)(w:World)(K:PySem.W.Frag)(mg:Str→Option Value)(base:Heap):Prop:=F0 P w K mg base x9 1 "behind" ["step"] [] (iO K)
theorem qp {f:Addr}{fd:FuncData}(T:Txt K mg)(F:Fun K "behind" "behind" fH f fd):p0 P w K mg base x9 1 f fd ["step"] (iO K):=by
 refine F.ok rB (fun vs H Q E h=>?_) (fun cdv A outer s H vs Q E hr h=>?_)
 ·exact h.elim
 ·exact h.elim
abbrev tK (P:Program)(w:World)(K:PySem.W.Frag)(mg:Str→Option Value)(base:Heap):Prop:=F0 P w K mg base x9 1 "common" ["one","other"] [] (jj K)
theorem qL {f:Addr}{fd:FuncData}(T:Txt K mg)(F:Fun K "common" "common" fV f fd):p0 P w K mg base x9 1 f fd ["one","other"] (jj K):=by
 refine F.ok qZ (fun vs H Q E h=>?_) (fun cdv A outer s H vs Q E hr h=>?_)
 ·exact h.elim
 ·exact h.elim
abbrev xi (P:Program)(w:World)(K:PySem.W.Frag)(mg:Str→Option Value)(base:Heap):Prop:=F0 P w K mg base (cS P w) 1 "clash" ["web","one","other"] [] (lu K)
theorem uZ {f:Addr}{fd:FuncData}(T:Txt K mg)(F:Fun K "clash" "clash" jI f fd):p0 P w K mg base (cS P w) 1 f fd ["web","one","other"] (lu K):=by
 refine F.okE vQ (fun vs H Q E h=>?_) (fun cdv A outer s H vs Q E hr h=>?_)
 ·exact h.elim
 ·exact h.elim
abbrev nP (P:Program)(w:World)(K:PySem.W.Frag)(mg:Str→Option Value)(base:Heap):Prop:=F0 P w K mg base x9 1 "names_of" ["named","thing"] [] (dW K)
theorem ll {f:Addr}{fd:FuncData}(T:Txt K mg)(F:Fun K "names_of" "names_of" bS f fd):p0 P w K mg base x9 1 f fd ["named","thing"] (dW K):=by
 refine F.ok kJ (fun vs H Q E h=>?_) (fun cdv A outer s H vs Q E hr h=>?_)
 ·exact h.elim
 ·exact h.elim
abbrev cT (P:Program)(w:World)(K:PySem.W.Frag)(mg:Str→Option Value)(base:Heap):Prop:=F0 P w K mg base x9 1 "point_partners" ["piece","other"] [] (Q9 K)
theorem cJ {f:Addr}{fd:FuncData}(T:Txt K mg)(F:Fun K "point_partners" "point_partners" L6 f fd):p0 P w K mg base x9 1 f fd ["piece","other"] (Q9 K):=by
 refine F.ok cv (fun vs H Q E h=>?_) (fun cdv A outer s H vs Q E hr h=>?_)
 ·exact h.elim
 ·exact h.elim
abbrev fo (P:Program)(w:World)(K:PySem.W.Frag)(mg:Str→Option Value)(base:Heap):Prop:=F0 P w K mg base x9 1 "tie_partners" ["piece","other","paired"] [] (Z9 K)
theorem eo {f:Addr}{fd:FuncData}(T:Txt K mg)(F:Fun K "tie_partners" "tie_partners" P5 f fd):p0 P w K mg base x9 1 f fd ["piece","other","paired"] (Z9 K):=by
 refine F.ok eI (fun vs H Q E h=>?_) (fun cdv A outer s H vs Q E hr h=>?_)
 ·exact h.elim
 ·exact h.elim
abbrev nC (P:Program)(w:World)(K:PySem.W.Frag)(mg:Str→Option Value)(base:Heap):Prop:=F0 P w K mg base x9 1 "pairings" ["partners"] [] (dR K)
theorem lh {f:Addr}{fd:FuncData}(T:Txt K mg)(F:Fun K "pairings" "pairings" bX f fd):p0 P w K mg base x9 1 f fd ["partners"] (dR K):=by
 refine F.ok lB (fun vs H Q E h=>?_) (fun cdv A outer s H vs Q E hr h=>?_)
 ·exact h.elim
 ·exact h.elim
abbrev fz (P:Program)(w:World)(K:PySem.W.Frag)(mg:Str→Option Value)(base:Heap):Prop:=F0 P w K mg base x9 1 "overlaps" ["piece","other"] [] (dS K)
theorem lI {f:Addr}{fd:FuncData}(T:Txt K mg)(F:Fun K "overlaps" "overlaps" bF f fd):p0 P w K mg base x9 1 f fd ["piece","other"] (dS K):=by
 refine F.ok kR (fun vs H Q E h=>?_) (fun cdv A outer s H vs Q E hr h=>?_)
 ·exact h.elim
 ·exact h.elim
abbrev gi (P:Program)(w:World)(K:PySem.W.Frag)(mg:Str→Option Value)(base:Heap):Prop:=F0 P w K mg base (cS P w) 1 "is_split" ["rule","other","pairs"] [] (dN K)
theorem lA {f:Addr}{fd:FuncData}(T:Txt K mg)(F:Fun K "is_split" "is_split" bJ f fd):p0 P w K mg base (cS P w) 1 f fd ["rule","other","pairs"] (dN K):=by
 refine F.okE me (fun vs H Q E h=>?_) (fun cdv A outer s H vs Q E hr h=>?_)
 ·exact h.elim
 ·exact h.elim
structure Sd where
 a:Addr
 p:Addr
 q:Addr
 kvs:List (j8×V)
 W:E7
def SdIs (K:PySem.W.Frag)(H:Hp)(s:Sd):Prop:=WebIs 13 K H s.a s.p s.q s.kvs s.W
theorem SdIs.same {H H':Hp}{s:Sd}(h:SdIs K H s)(m:Same H H'):SdIs K H' s:=WebIs.same h m
structure RuleIs (K:PySem.W.Frag) (H:Hp) (r bl:Addr) (L R:Sd) (bs:List Sd):Prop where
 tup:SqT K H r [.ref L.a,.ref R.a,.ref bl]
 l:SdIs K H L
 r:SdIs K H R
 bl:SqL K H bl (bs.map fun s=>V.ref s.a)
 bars:∀b∈bs,SdIs K H b
theorem RuleIs.same {H H':Hp}{r bl:Addr}{L R:Sd}{bs:List Sd}(h:RuleIs K H r bl L R bs)(m:Same H H'):RuleIs K H' r bl L R bs:=⟨m.tup h.tup,h.l.same m,h.r.same m,m.seq h.bl,fun b hb=>(h.bars b hb).same m⟩
def lV (K:PySem.W.Frag):Sp:=fun vs H Q _=>∃(a p q a' p' q':Addr) (kvs kvs':List (j8×V)) (W O:E7),vs=[.ref a,.ref a']∧WebIs 13 K H a p q kvs W∧WebIs 13 K H a' p' q' kvs' O∧∀(l:Addr) (H':Hp) (s1 s2:List Str),H l=none→Same H H'→Ordr W s1 s2→H' l=some (.lst (((s1++s2).filter fun n=>!decide (n∈k7 O)).map V.str))→Q (.ref l) H'
def ef (K:PySem.W.Frag):Sp:=fun vs H Q _=>∃(r bl:Addr) (L R:Sd) (bs:List Sd),vs=[.ref r]∧RuleIs K H r bl L R bs∧∀(l:Addr) (H':Hp) (s1 s2:List Str),H l=none→Same H H'→Ordr R.W s1 s2→H' l=some (.lst (((s1++s2).filter fun n=>!decide (n∈k7 L.W)).map V.str))→Q (.ref l) H'
abbrev ph (P:Program)(w:World)(K:PySem.W.Frag)(mg:Str→Option Value)(base:Heap):Prop:=F0 P w K mg base x9 2 "alone" ["web","other"] [] (lV K)
theorem vM {f:Addr}{fd:FuncData}(T:Txt K mg)(U8:gb P w K mg base)(F:Fun K "alone" "alone" ku f fd):p0 P w K mg base x9 2 f fd ["web","other"] (lV K):=by
 refine F.ok sc_alone (fun vs H Q E h=>?_) (fun cdv A outer s H vs Q E hr h=>?_)
 ·obtain⟨a,p,q,a',p',q',kvs,kvs',W,O,rfl,_⟩:=h
  rfl
 ·obtain⟨a,p,q,a',p',q',kvs,kvs',W,O,rfl,hW,hO,k⟩:=h
  have hWl:=hW.len
  have hN:=sc_alone.nd
  have hu:=A1 hr
  refine⟨_,QSs.r (E6 (C9 (V4 (own:=["name"]) (js:=[1]) (by kernel_rfl) rfl (af K (qC U8 (hr.mono (by decide)) o9 (i9 (qV 0) o3))) (fun _ _ _ _=>(U6 (i:=0) (show List.Nodup (["name","other"]:List Str) by decide+kernel) rfl (by walk_at "l"))) (fun _ _ _ _=>(Ac (vX (dY (C7 (gz K hu) (qV 0) (x6 (x8 K hu) (qV 1) j0 (fun _ _=>rfl)) (by rfl)) (df (C7 (gz K hu) (qV 0) (x6 (x8 K hu) (qV 1) j0 (fun _ _=>rfl)) (by rfl))))))) (fun _ _ _ _=>(qV 0))))),?_⟩
  walk_at "r"
  refine⟨a,p,q,kvs,W,rfl,hW.at_,by omega,fun l1 H1 s1 s2 n1 m1 f1 or=>?_⟩
  have hlen:=or.len
  refine C4 (SqL.of f1) ?_
  refine F8 (n:=(s1++s2).length) (fun i out H'=>Same H1 H'∧out=(((s1++s2).take i).filter fun n=>!decide (n∈k7 O)).map V.str) ⟨Same.refl _,rfl⟩ (fun i out H' hi hp=>⟨_,.str ((s1++s2)[i]),SqL.of (hp.1 _ _ f1),by rw[List.getElem?_map,List.getElem?_eq_getElem hi];rfl⟩) ?_ ?_
  ·rintro N i v out H3' H3 hi ⟨s3,rfl⟩ y hN'
   obtain⟨rfl,hx⟩:=Itl.get y (SqL.of (s3 _ _ f1))
   rw[List.getElem?_map,List.getElem?_eq_getElem hi] at hx
   cases hx
   have O3:=hO.at_.mono (m1.trans s3).le
   have e7:(s1++s2).take (i+1)=(s1++s2).take i++[(s1++s2)[i]]:=by rw[List.take_succ,List.getElem?_eq_getElem hi];rfl
   have hfl:=List.length_filter_le (fun n=>!decide (n∈k7 O)) ((s1++s2).take i)
   rw[List.length_take] at hfl
   have yes:(!decide ((s1++s2)[i]∈k7 O))=true→((((s1++s2).take i).filter fun n=>!decide (n∈k7 O)).map V.str).length≤sizeLine∧N ((((s1++s2).take i).filter fun n=>!decide (n∈k7 O)).map V.str++[V.str (s1++s2)[i]]) H3:=fun hb=>by
    refine⟨h9 (by rw[List.length_map];omega),hN' _ _ ⟨s3,?_⟩⟩
    rw[e7,List.filter_append,List.filter_cons_of_pos (p:=fun n=>!decide (n∈k7 O)) hb,List.filter_nil,List.map_append];rfl
   have no:(!decide ((s1++s2)[i]∈k7 O))=false→N ((((s1++s2).take i).filter fun n=>!decide (n∈k7 O)).map V.str) H3:=fun hb=>by
    refine hN' _ _ ⟨s3,?_⟩
    rw[e7,List.filter_append,List.filter_cons_of_neg (p:=fun n=>!decide (n∈k7 O)) (by rw[hb];simp),List.filter_nil,List.append_nil]
   walk_at "r"
   refine⟨rfl,?_⟩
   walk_at "r"
   refine b7 O3.tup (b5 (j:=0) rfl) ?_
   refine Q8 (L0 (k:=Sum.inr (s1++s2)[i]) O3.pts) ?_
   rw[M8]
   walk_at "r"
   refine Y5 (fun b1=>?_) (fun b1=>?_)
   ·walk_at "r"
    refine b7 O3.tup (b5 (j:=1) rfl) ?_
    refine Q8 (L0 (k:=Sum.inr (s1++s2)[i]) O3.ties) ?_
    rw[aW O3.ts]
    walk_at "r"
    refine Y5 (fun b2=>?_) (fun b2=>?_)
    ·walk_at "r"
     refine yes (by rw[decide_eq_false (show(s1++s2)[i]∉k7 O from fun z=>(List.mem_append.mp z).elim b1 b2)];rfl)
    ·exact no (by rw[decide_eq_true (show(s1++s2)[i]∈k7 O from List.mem_append_right _ b2)];rfl)
   ·exact no (by rw[decide_eq_true (show(s1++s2)[i]∈k7 O from List.mem_append_left _ b1)];rfl)
  ·rintro out H3 ⟨s3,rfl⟩
   have hfl:=List.length_filter_le (fun n=>!decide (n∈k7 O)) ((s1++s2).take (s1++s2).length)
   rw[List.length_take] at hfl
   refine⟨⟨_,SqL.of (s3 _ _ f1),by rw[List.length_map];exact Nat.le_refl _⟩,fun D hD=>⟨h9 (by rw[List.length_map];omega),?_⟩⟩
   rw[List.take_of_length_le (Nat.le_refl _)]
   obtain⟨H4,e4,f4,m4,_⟩:=d6 (H:=H3) (o:= .lst (((s1++s2).filter fun n=>!decide (n∈k7 O)).map V.str)) hD
   refine k D _ s1 s2 ((m1.trans s3).free hD) ?_ or ?_
   ·show Same _ (p7 _ D _)
    rw[e4];exact m1.trans (s3.trans m4)
   ·show p7 _ D _ D=_
    rw[j7]
abbrev gr (P:Program)(w:World)(K:PySem.W.Frag)(mg:Str→Option Value)(base:Heap):Prop:=F0 P w K mg base x9 3 "fresh_of" ["rule"] [] (ef K)
theorem lL {f:Addr}{fd:FuncData}(T:Txt K mg)(jT:ph P w K mg base)(F:Fun K "fresh_of" "fresh_of" bR f fd):p0 P w K mg base x9 3 f fd ["rule"] (ef K):=by
 refine F.ok sc_fresh_of (fun vs H Q E h=>?_) (fun cdv A outer s H vs Q E hr h=>?_)
 ·obtain⟨r,bl,L,R,bs,rfl,_⟩:=h
  rfl
 ·obtain⟨r,bl,L,R,bs,rfl,hr',k⟩:=h
  have hN:=sc_fresh_of.nd
  have hu:=A1 hr
  refine⟨_,QSs.r (E6 (C9 (qC jT (hr.mono (by decide)) o9 (i9 (x6 (x8 K hu) (qV 0) j0 (fun _ _=>rfl)) (i9 (x6 (x8 K hu) (qV 0) j0 (fun _ _=>rfl)) o3))))),?_⟩
  walk_at "r"
  refine b7 hr'.tup (b5 (j:=1) rfl) ?_
  walk_at "r"
  refine b7 hr'.tup (b5 (j:=0) rfl) ?_
  walk_at "r"
  exact⟨_,_,_,_,_,_,_,_,_,_,rfl,hr'.r,hr'.l,fun l H' s1 s2 n m o f=>k l H' s1 s2 n m o f⟩
section
variable {P0 R:E7} {H:Hp} {l t:Addr} {xs:List V} {ps:List (Str×Str)} {n m:Str}
theorem zY (h:H l=some (.lst xs))(hx:xs.length≤30)(pr:PrsAt K H xs ps)(hn:¬mZ P0 R ps):BadV K H P0 R (.ref l):= .inr ⟨l,xs,rfl,h,hx,.inr ⟨ps,pr,hn⟩⟩
theorem CG (qP:("?":Str)∉k7 P0)(h:(("?":Str),m)∈ps):¬mZ P0 R ps:=fun o=>qP (o.wp _ h).inP
theorem wV {ys:List V}{qs:List (Str×Str)}(h:PrsAt K H xs ps)(h':PrsAt K H ys qs):PrsAt K H (xs++ys) (ps++qs):=fO h h'
theorem xZ (h:H t=some (.tup [.str n,.str m])):PrsAt K H [.ref t] [(n,m)]:= .cons ⟨t,rfl,SqT.of h⟩ .nil
end
theorem yH (ns:List Int)(i j k:Nat)(h:j≤i+k):∃cs:List Int,cX (ns.map V.int) (some (i:Int)) (some (j:Int))=cs.map V.int∧cs.length≤k:=by
 unfold cX
 rw[HT.sIx_nat,HT.sIx_nat,←List.map_drop,←List.map_take]
 exact⟨_,rfl,by rw[List.length_take,List.length_drop];omega⟩
theorem Am (u v:V)(x:Int):∃y,mS [u,v] (x % 2)=some y∧(y=u∨y=v):=by
 have h0:0≤x % 2:=Int.emod_nonneg _ (by decide)
 have h1:x % 2<2:=Int.emod_lt_of_pos _ (by decide)
 rcases Int.lt_or_le (x % 2) 1 with h|h
 ·exact⟨u,by rw[show x % 2=((0:Nat):Int) by omega];exact b5 rfl,.inl rfl⟩
 ·exact⟨v,by rw[show x % 2=((1:Nat):Int) by omega];exact b5 rfl,.inr rfl⟩
theorem ba {α:Type}{l:List (Str×α)}(h:(l.map (·.1)).Nodup):l.Nodup:=by
 rw[List.Nodup,List.pairwise_map] at h
 exact h.imp fun hab e=>hab (by rw[e])
section
variable {H:Hp} {p p' z z' q q':Addr}
theorem lO {pts pts':List (Str×Str)}(h1:H p=some (.dK (r6 pts)))(h2:H p'=some (.dK (r6 pts')))(pm:pts.Perm pts')(nd:(pts'.map (·.1)).Nodup):EqD K H p p' true:=by
 by_cases e:p=p'
 ·exact .inl ⟨e,rfl⟩
 ·exact xY e (.inl h1) (.inl h2) pm nd
theorem yJ {kvs kvs':List (j8×V)}{ts ts':List (Str×N9)}(h1:H q=some (.dK kvs))(h2:H q'=some (.dK kvs'))(w:TiesIs K H kvs ts)(w':TiesIs K H kvs' ts')(pm:ts.Perm ts')(nd:(ts'.map (·.1)).Nodup):EqD K H q q' true:=by
 by_cases e:q=q'
 ·exact .inl ⟨e,rfl⟩
 ·exact sU e (.inl h1) (.inl h2) w w' pm nd
theorem pw (h:SqT K H z [.ref p,.ref q])(h':SqT K H z' [.ref p',.ref q'])(e1:EqD K H p p' true)(e2:EqD K H q q' true)(n:Nat):EqN K H (n+1) (.ref z) (.ref z') true:=by
 by_cases e:z=z'
 ·subst e
  exact EqN.of0 (.inr ⟨z,z,rfl,rfl,.inl ⟨rfl,rfl⟩⟩) _
 ·refine .inr ⟨z,z',_,_,[true,true],rfl,rfl,e,.inl ⟨h,h'⟩,rfl,rfl,fun j x y b hx hy hb=>?_,rfl⟩
  match j,hx,hy,hb with
  |0,hx,hy,hb=>
   cases hx;cases hy;cases hb
   exact EqN.of0 (.inr ⟨p,p',rfl,rfl,e1⟩) _
  |1,hx,hy,hb=>
   cases hx;cases hy;cases hb
   exact EqN.of0 (.inr ⟨q,q',rfl,rfl,e2⟩) _
  |j+2,hx,_,_=>cases hx
theorem OW.same {H':Hp}{d1 d2:Addr}{kvs:List (j8×V)}{Z P R:E7}{ps:List (Str×Str)}{ns ns':List Str}(h:OW K H z p q d1 d2 kvs Z P R ps ns ns')(s:Same H H'):OW K H' z p q d1 d2 kvs Z P R ps ns ns':=⟨h.at_.mono s.le,s _ _ h.hp,s _ _ h.hq,h.ne,h.n1,h.n2,h.m1,h.m2,h.l1,h.l2,h.a1,h.a2,s _ _ h.h1,s _ _ h.h2⟩
theorem vk {ns:List Str}{f:Str→Str}(nd:ns.Nodup):((ns.map fun n=>(n,f n)).map (·.1)).Nodup:=by
 rw[List.map_map,show((·.1)∘fun n:Str=>(n,f n))=id from rfl,List.map_id];exact nd
end
theorem WebIs.perm {H:Hp}{a p q:Addr}{kvs:List (j8×V)}{W W':E7}(h:WebAt K H a p q kvs W')(hp:H p=some (.dK (r6 W'.pts)))(hq:H q=some (.dK kvs))(ne:p≠q)(p1:W'.pts.Perm W.pts)(p2:W'.ts.Perm W.ts)(nd:(k7 W).Nodup)(len:(k7 W).length≤13)(ends:∀x∈W.ts,x.2.2.1∈W.pts.map (·.1)∧x.2.2.2∈W.pts.map (·.1))(nl:∀x∈k7 W,x.length≤100)(qm:("?":Str)∉k7 W):WebIs 13 K H a p q kvs W':=by
 have pm:(k7 W').Perm (k7 W):=(p1.map _).append (p2.map _)
 refine⟨h,hp,hq,ne,pm.nodup_iff.mpr nd,by rw[pm.length_eq];exact len,fun x hx=>?_,fun x hx=>nl x (pm.mem_iff.mp hx),fun z=>qm (pm.mem_iff.mp z)⟩
 have z:=ends x (p2.mem_iff.mp hx)
 exact⟨(p1.map _).mem_iff.mpr z.1,(p1.map _).mem_iff.mpr z.2⟩
structure WPm (A B:E7):Prop where
 p:A.pts.Perm B.pts
 t:A.ts.Perm B.ts
theorem WPm.nm {A B:E7}(h:WPm A B):(k7 A).Perm (k7 B):=(h.p.map _).append (h.t.map _)
def aG (K:PySem.W.Frag):Sp:=fun vs H Q _=>∃(r bl:Addr) (L R:Sd),vs=[.ref r]∧RuleIs K H r bl L R []∧∀(r' bl':Addr) (L' R':Sd) (H':Hp),Same H H'→RuleIs K H' r' bl' L' R' []→H' bl'=some (.lst [])→WPm L'.W L.W→WPm R'.W R.W→H L'.p=none→H bl'=none→Q (.ref r') H'
abbrev bz (P:Program)(w:World)(K:PySem.W.Frag)(mg:Str→Option Value)(base:Heap):Prop:=F0 P w K mg base x9 3 "rule_copied" ["rule"] [] (aG K)
theorem fi {f:Addr}{fd:FuncData}(T:Txt K mg)(F4:cF P w K mg base)(F:Fun K "rule_copied" "rule_copied" T1 f fd):p0 P w K mg base x9 3 f fd ["rule"] (aG K):=by
 refine F.ok sc_rule_copied (fun vs H Q E h=>?_) (fun cdv A outer s H vs Q E hr h=>?_)
 ·obtain⟨r,bl,L,R,rfl,_⟩:=h
  rfl
 ·obtain⟨r,bl,L,R,rfl,hR,k⟩:=h
  have hLl:=hR.l.len
  have hRl:=hR.r.len
  rw[K8] at hLl hRl
  have hN:=sc_rule_copied.nd
  have hu:=A1 hr
  refine⟨_,QSs.r (E6 (C9 (K1 (i9 (qC F4 (hr.mono (by decide)) o9 (i9 (x6 (x8 K hu) (qV 0) j0 (fun _ _=>rfl)) o3)) (i9 (qC F4 (hr.mono (by decide)) o9 (i9 (x6 (x8 K hu) (qV 0) j0 (fun _ _=>rfl)) o3)) (i9 (V4 (own:=["bar"]) (js:=[]) (by kernel_rfl) rfl (af K (x6 (x8 K hu) (qV 0) j0 (fun _ _=>rfl))) (fun _ _ _ _=>(U6 (i:=0) (show List.Nodup (["bar"]:List Str) by decide+kernel) rfl (by walk_at "l"))) (fun _ _ _ _=>gn) (fun _ _ _ _=>(qC F4 (hr.mono (by decide)) o9 (i9 (qV 0) o3)))) o3)))))),?_⟩
  walk_at "r"
  refine b7 hR.tup (b5 (j:=0) rfl) ?_
  walk_at "r"
  refine⟨L.a,L.p,L.q,L.kvs,L.W,rfl,hR.l.at_,L9 hR.l.nd,cw hR.l.nd,by omega,by omega,fun a1 p1 q1 k1 W1 H1 m1 h1 hp1 hq1 ne1 np1 nq1 e1 e2=>?_⟩
  walk_at "r"
  refine b7 (m1.tup hR.tup) (b5 (j:=1) rfl) ?_
  walk_at "r"
  refine⟨R.a,R.p,R.q,R.kvs,R.W,rfl,(hR.same m1).r.at_,L9 hR.r.nd,cw hR.r.nd,by omega,by omega,fun a2 p2 q2 k2 W2 H2 m2 h2 hp2 hq2 ne2 np2 nq2 e3 e4=>?_⟩
  have m12:=m1.trans m2
  walk_at "r"
  refine b7 (m12.tup hR.tup) (b5 (j:=2) rfl) ?_
  refine C4 (m12.seq hR.bl) ?_
  refine F8 (n:=0) (fun i out H'=>H'=H2∧out=[]) ⟨rfl,rfl⟩ (fun i out H' hi _=>absurd hi (Nat.not_lt_zero _)) (fun N i x out H' H'' hi=>absurd hi (Nat.not_lt_zero _)) ?_
  rintro out H3' ⟨rfl,rfl⟩
  refine⟨⟨_,m12.seq hR.bl,Nat.le_refl _⟩,fun l3 n3=>⟨h9 (by simp),?_⟩⟩
  obtain⟨H3,e5,f3,m3,_⟩:=d6 (H:=H3') (o:= .lst []) n3
  change tN _ (p7 H3' l3 (.lst [])) _
  rw[e5]
  walk_at "r"
  refine⟨h9 (by simp),fun l4 n4=>?_⟩
  obtain⟨H4,e6,f4,m4,_⟩:=d6 (o:= .tup _) n4
  rw[e6]
  have m34:=m3.trans m4
  have m24:=m2.trans m34
  have B1:WebIs 13 K H4 a1 p1 q1 k1 W1:=WebIs.perm (h1.mono m24.le) (m24 _ _ hp1) (m24 _ _ hq1) ne1 e1 e2 hR.l.nd hR.l.len hR.l.ends hR.l.nl hR.l.qm
  have B2:WebIs 13 K H4 a2 p2 q2 k2 W2:=WebIs.perm (h2.mono m34.le) (m34 _ _ hp2) (m34 _ _ hq2) ne2 e3 e4 hR.r.nd hR.r.len hR.r.ends hR.r.nl hR.r.qm
  exact k l4 l3 ⟨a1,p1,q1,k1,W1⟩ ⟨a2,p2,q2,k2,W2⟩ H4 (m12.trans m34) ⟨SqT.of f4,B1,B2,SqL.of (m4 _ _ f3),fun _ h=>nomatch h⟩ (m4 _ _ f3) ⟨e1,e2⟩ ⟨e3,e4⟩ np1 (m12.free n3)
structure Frs (L R:E7) (us:List Str):Prop where
 nd:us.Nodup
 mem:∀n,n∈us↔n∈k7 R∧n∉k7 L
def bE (K:PySem.W.Frag):Sp:=fun vs H Q _=>∃(r bl:Addr) (L R:Sd) (v:V) (mk:Str),vs=[.ref r,v,.str mk]∧RuleIs K H r bl L R []∧mk.length≤10∧∀(st f:Addr) (us:List Str) (H':Hp),Same H H'→H' st=some (.tup [.ref r,v,.ref f])→H' f=some (.dK (r6 (us.map fun n=>(n,mk++n))))→Frs L.W R.W us→Q (.ref st) H'
abbrev bZ (P:Program)(w:World)(K:PySem.W.Frag)(mg:Str→Option Value)(base:Heap):Prop:=F0 P w K mg base x9 4 "named_step" ["rule","match","mark"] [] (bE K)
theorem iI {f:Addr}{fd:FuncData}(T:Txt K mg)(bI:gr P w K mg base)(F:Fun K "named_step" "named_step" Y0 f fd):p0 P w K mg base x9 4 f fd ["rule","match","mark"] (bE K):=by
 refine F.ok sc_named_step (fun vs H Q E h=>?_) (fun cdv A outer s H vs Q E hr h=>?_)
 ·obtain⟨r,bl,L,R,v,mk,rfl,_⟩:=h
  rfl
 ·obtain⟨r,bl,L,R,v,mk,rfl,hR,hmk,k⟩:=h
  have hRl:=hR.r.len
  have hN:=sc_named_step.nd
  have hu:=A1 hr
  refine⟨_,QSs.r (E6 (C9 (K1 (i9 (qV 0) (i9 (qV 1) (i9 (kI (aU K rfl) T.b_dict Boot.«dict» (i9 (V4 (own:=["name"]) (js:=[2]) (by kernel_rfl) rfl (af K (qC bI (hr.mono (by decide)) o9 (i9 (qV 0) o3))) (fun _ _ _ _=>(U6 (i:=0) (show List.Nodup (["name","mark"]:List Str) by decide+kernel) rfl (by walk_at "l"))) (fun _ _ _ _=>gn) (fun _ _ _ _=>(K1 (i9 (qV 0) (i9 (F7 (V7 K) (qV 1) (qV 0)) o3))))) o3)) o3)))))),?_⟩
  walk_at "r"
  refine⟨r,bl,L,R,[],rfl,hR,fun l1 H1 s1 s2 n1 m1 or f1=>?_⟩
  have hol:=or.len
  have hnd:((s1++s2).filter fun n=>!decide (n∈k7 L.W)).Nodup:=(or.perm.nodup_iff.mpr hR.r.nd).sublist List.filter_sublist
  have hfr:Frs L.W R.W ((s1++s2).filter fun n=>!decide (n∈k7 L.W)):=⟨hnd,fun n=>by rw[List.mem_filter,or.mem,Bool.not_eq_true',decide_eq_false_iff_not]⟩
  have hsl:((s1++s2).filter fun n=>!decide (n∈k7 L.W)).length≤13:=by
   have z:=List.length_filter_le (fun n=>!decide (n∈k7 L.W)) (s1++s2)
   omega
  generalize (s1++s2).filter (fun n=>!decide (n∈k7 L.W))=s at f1 hnd hfr hsl
  refine C4 (SqL.of f1) ?_
  refine F8 (n:=s.length) (fun i out H'=>Same H1 H'∧Paired (PrV K H') out (r6 ((s.take i).map fun n=>(n,mk++n)))) ⟨Same.refl _,.nil⟩ (fun i out H' hi hp=>⟨_,.str (s[i]),SqL.of (hp.1 _ _ f1),by rw[List.getElem?_map,List.getElem?_eq_getElem hi];rfl⟩) ?_ ?_
  ·rintro N i v out H2' H2 hi ⟨s2',pr⟩ y hN'
   obtain⟨rfl,hy⟩:=Itl.get y (SqL.of (s2' _ _ f1))
   rw[List.getElem?_map,List.getElem?_eq_getElem hi] at hy
   cases hy
   have hln:=hR.r.nl _ ((hfr.mem _).mp (List.getElem_mem hi)).1
   have hpl:=Paired.length pr
   rw[o5,List.length_map,List.length_take] at hpl
   walk_at "r"
   refine⟨rfl,?_⟩
   walk_at "r"
   refine K3 (h9 (by omega)) ?_
   walk_at "r"
   refine⟨h9 (by simp),fun l3 n3=>?_⟩
   obtain⟨H3,e3,f3,m3,_⟩:=d6 (o:= .tup _) n3
   rw[e3]
   refine⟨h9 (by omega),hN' _ _ ⟨s2'.trans m3,?_⟩⟩
   rw[List.take_succ,List.getElem?_eq_getElem hi,List.map_append]
   unfold r6 at pr⊢
   rw[List.map_append]
   exact z9 (Paired.imp' (fun _ _ z=>PrV.mono m3.le z) pr) ⟨l3,rfl,SqT.of f3⟩
  ·rintro out H2 ⟨s2',pr⟩
   have hpl:=Paired.length pr
   rw[o5,List.length_map,List.length_take] at hpl
   rw[List.take_of_length_le (Nat.le_refl _)] at pr
   refine⟨⟨_,SqL.of (s2' _ _ f1),by rw[List.length_map];exact Nat.le_refl _⟩,fun D hD=>⟨h9 (by omega),?_⟩⟩
   obtain⟨H3,e3,f3,m3,_⟩:=d6 (H:=H2) (o:= .lst out) hD
   walk_at "r"
   change fB K _ (p7 H2 D _) _
   rw[e3]
   refine M4 (SqL.of f3) (Paired.imp' (fun _ _ z=>PrV.mono m3.le z) pr) (h9 (by rw[o5,List.length_map];omega)) (fun d nd2=>?_)
   have ndk:((s.map fun n=>(n,mk++n)).map (·.1)).Nodup:=by
    rw[List.map_map,show((·.1)∘fun n:Str=>(n,mk++n))=id from rfl,List.map_id];exact hnd
   rw[U9 (cM ndk)]
   obtain⟨H4,e4,f4,m4,_⟩:=d6 (o:= .dK (r6 (s.map fun n=>(n,mk++n)))) nd2
   rw[e4]
   walk_at "r"
   refine⟨h9 (by simp),fun l5 n5=>?_⟩
   obtain⟨H5,e5,f5,m5,_⟩:=d6 (o:= .tup _) n5
   rw[e5]
   exact k l5 d s H5 (m1.trans (s2'.trans (m3.trans (m4.trans m5)))) f5 (m5 _ _ f4) hfr
def BarL (K:PySem.W.Frag)(H:Hp)(r:Addr)(xs:List V):Prop:=∃(x y:V) (bl:Addr),SqT K H r [x,y,.ref bl]∧SqL K H bl xs
theorem BarL.same {H H':Hp}{r:Addr}{xs:List V}(h:BarL K H r xs)(s:Same H H'):BarL K H' r xs:=by
 obtain⟨x,y,bl,h1,h2⟩:=h
 exact⟨x,y,bl,s.tup h1,s.seq h2⟩
def aI (K:PySem.W.Frag):Sp:=fun vs H Q E=>∃(l r1 r2:Addr) (xs ys:List V),vs=[.ref l]∧SqL K H l [.ref r1,.ref r2]∧BarL K H r1 xs∧BarL K H r2 ys∧((0<xs.length+ys.length∧∀H' e,Same H H'→H' e=none→E (.ref (cA K "HasBars")) (some e) H')∨(xs=[]∧ys=[]∧∀H',Same H H'→Q .non H'))
abbrev S5 (P:Program)(w:World)(K:PySem.W.Frag)(mg:Str→Option Value)(base:Heap):Prop:=F0 P w K mg base (cS P w) 1 "refuse_bars" ["rules"] [] (aI K)
theorem gu {f:Addr}{fd:FuncData}(T:Txt K mg)(F:Fun K "refuse_bars" "refuse_bars" T3 f fd):p0 P w K mg base (cS P w) 1 f fd ["rules"] (aI K):=by
 refine F.okE sc_refuse_bars (fun vs H Q E h=>?_) (fun cdv A outer s H vs Q E hr h=>?_)
 ·obtain⟨l,r1,r2,xs,ys,rfl,_⟩:=h
  rfl
 ·obtain⟨l,r1,r2,xs,ys,rfl,hl,b1,b2,hk⟩:=h
  have hN:=sc_refuse_bars.nd
  have hu:=A1 hr
  refine⟨_,QSs.r (E6 (fb (bB K (qB (Ee K rfl) T.b_any Boot.«any» (i9 (V4 (own:=["rule"]) (js:=[]) (by kernel_rfl) rfl (af K (qV 0)) (fun _ _ _ _=>(U6 (i:=0) (show List.Nodup (["rule"]:List Str) by decide+kernel) rfl (by walk_at "l"))) (fun _ _ _ _=>gn) (fun _ _ _ _=>(iH tJ (qB (K5 K P w) T.b_len Boot.«len» (i9 (x6 (x8 K hu) (qV 0) j0 (fun _ _=>rfl)) o3)) j0 (z0 _)))) o3))) (E6 (sy pG T.r_HasBars rfl (i9 P8 o3))) ie)),?_⟩
  walk_at "r"
  refine C4 hl ?_
  refine F8 (n:=2) (fun i out H'=>Same H H'∧out=[V.bl (decide (0<(xs.length:Int))),V.bl (decide (0<(ys.length:Int)))].take i) ⟨Same.refl _,rfl⟩ (fun i out H' hi hp=>by
   match i,hi with
   |0,_=>exact⟨_,.ref r1,hp.1.seq hl,rfl⟩
   |1,_=>exact⟨_,.ref r2,hp.1.seq hl,rfl⟩) ?_ ?_
  ·rintro N i v out H1' H1 hi ⟨s1,rfl⟩ y hN'
   obtain⟨rfl,hx⟩:=Itl.get y (s1.seq hl)
   obtain⟨r,zs,rfl,hz,e⟩:∃(r:Addr) (zs:List V),v= .ref r∧BarL K H r zs∧[V.bl (decide (0<(xs.length:Int))),V.bl (decide (0<(ys.length:Int)))][i]?=some (.bl (decide (0<(zs.length:Int)))):=by
    match i,hi with
    |0,_=>cases hx;exact⟨r1,xs,rfl,b1,rfl⟩
    |1,_=>cases hx;exact⟨r2,ys,rfl,b2,rfl⟩
   obtain⟨x,y',bl,h1,h2⟩:=hz.same s1
   walk_at "r"
   refine⟨rfl,?_⟩
   walk_at "r"
   refine b7 h1 (b5 (j:=2) rfl) ?_
   refine E9 (p9 h2 ?_)
   walk_at "r"
   refine⟨h9 (by simp;omega),hN' _ _ ⟨s1,?_⟩⟩
   rw[List.take_succ,e]
   rfl
  ·rintro out H1 ⟨s1,rfl⟩
   refine⟨⟨_,s1.seq hl,Nat.le_refl _⟩,fun D hD=>⟨h9 (by simp),?_⟩⟩
   obtain⟨H2,e2,f2,m2,_⟩:=d6 (H:=H1) (o:= .lst [V.bl (decide (0<(xs.length:Int))),V.bl (decide (0<(ys.length:Int)))]) hD
   walk_at "r"
   change zi K _ (p7 H1 D (.lst [V.bl (decide (0<(xs.length:Int))),V.bl (decide (0<(ys.length:Int)))])) _
   rw[e2]
   refine⟨D,[decide (0<(xs.length:Int)),decide (0<(ys.length:Int))],rfl,SqL.of f2,?_⟩
   have s2:=s1.trans m2
   rcases hk with⟨hpos,k⟩|⟨rfl,rfl,k⟩
   ·rw[show List.any [decide (0<(xs.length:Int)),decide (0<(ys.length:Int))] id=true by
     show(decide _||(decide _||false))=true
     rw[Bool.or_false,Bool.or_eq_true,decide_eq_true_eq,decide_eq_true_eq];omega]
    walk_at "r"
    exact⟨h9 (by simp),fun e he=>k H2 e s2 he⟩
   ·walk_at "r"
    exact k H2 s2
structure StO (K:PySem.W.Frag) (H:Hp) (s r d f bl:Addr) (L R L' R':Sd) (mk:Str) (us:List Str):Prop where
 st:H s=some (.tup [.ref r,.ref d,.ref f])
 ru:RuleIs K H r bl L' R' []
 b:H bl=some (.lst [])
 l:WPm L'.W L.W
 r:WPm R'.W R.W
 f:H f=some (.dK (r6 (us.map fun n=>(n,mk++n))))
 u:Frs L.W R.W us
theorem StO.same {H H':Hp}{s r d f bl:Addr}{L R L' R':Sd}{mk:Str}{us:List Str}(h:StO K H s r d f bl L R L' R' mk us)(m:Same H H'):StO K H' s r d f bl L R L' R' mk us:=⟨m _ _ h.st,h.ru.same m,m _ _ h.b,h.l,h.r,m _ _ h.f,h.u⟩
theorem Frs.perm {L R L' R':E7}{us:List Str}(h:Frs L' R' us)(l:WPm L' L)(r:WPm R' R):Frs L R us:=⟨h.nd,fun n=>by rw[h.mem,l.nm.mem_iff,r.nm.mem_iff]⟩
theorem RuleIs.barL {H:Hp}{r bl:Addr}{L R:Sd}(h:RuleIs K H r bl L R []):BarL K H r []:=⟨_,_,_,h.tup,h.bl⟩
def aS (K : PySem.W.Frag) : Sp := fun vs H Q E => ∃ (r1 r2 : Addr) (v : V), vs = [.ref r1, .ref r2, v] ∧
  ((∃ xs ys, BarL K H r1 xs ∧ BarL K H r2 ys ∧ 0 < xs.length + ys.length ∧ ∀ H' e, Same H H' → H' e = none → E (.ref (cA K "HasBars")) (some e) H') ∨
   ∃ (b1 b2 : Addr) (L1 R1 L2 R2 : Sd), RuleIs K H r1 b1 L1 R1 [] ∧ RuleIs K H r2 b2 L2 R2 [] ∧ ((BadV K H L1.W L2.W v ∧ ∀ H' e, Same H H' → H' e = none → E (.ref (cA K "NoOverlap")) (some e) H') ∨ ∃ ps, GoodV K H L1.W L2.W v ps ∧
     ∀ (t z pz qz d1 d2 s1 q1 f1 c1 s2 q2 f2 c2 : Addr) (kz : List (j8 × V)) (Z : E7) (ns ns' us us' : List Str) (L1' R1' L2' R2' : Sd) (H' : Hp), Same H H' → H' t = some (.tup [.ref z, .ref s1, .ref s2]) → OW K H' z pz qz d1 d2 kz Z L1.W L2.W ps ns ns' → StO K H' s1 q1 d1 f1 c1 L1 R1 L1' R1' "c." us → StO K H' s2 q2 d2 f2 c2 L2 R2 L2' R2' "d." us' → H pz = none → H L1'.p = none → H c2 = none → Q (.ref t) H'))
abbrev U5 (P:Program)(w:World)(K:PySem.W.Frag)(mg:Str→Option Value)(base:Heap):Prop:=F0 P w K mg base (cS P w) 5 "split_steps" ["rule","other","pairs"] [] (aS K)
theorem fm {f:Addr}{fd:FuncData}(T:Txt K mg)(E5:S5 P w K mg base)(U4:bA P w K mg base)(O4:bZ P w K mg base)(N5:bz P w K mg base)(F:Fun K "split_steps" "split_steps" T2 f fd):p0 P w K mg base (cS P w) 5 f fd ["rule","other","pairs"] (aS K):=by
 refine F.okE sc_split_steps (fun vs H Q E h=>?_) (fun cdv A outer s H vs Q E hr h=>?_)
 ·obtain⟨r1,r2,v,rfl,_⟩:=h
  rfl
 ·obtain⟨r1,r2,v,rfl,hv⟩:=h
  have hN:=sc_split_steps.nd
  have hu:=A1 hr
  refine⟨_,QSs.r (C6 (wa (qC E5 (hr.mono (by decide)) vS (i9 (S7 (i9 (qV 0) (i9 (qV 1) o3))) o3)))
   (C6 (z8 (i:=3) hN rfl (by walk_at "l") (qC U4 (hr.mono (by decide)) vS (i9 (x6 (x8 K hu) (qV 0) j0 (fun _ _=>rfl)) (i9 (x6 (x8 K hu) (qV 1) j0 (fun _ _=>rfl)) (i9 (qV 2) o3)))))
   (C6 (z8 (i:=4) hN rfl (by walk_at "l") (qC O4 (hr.mono (by decide)) o9 (i9 (qC N5 (hr.mono (by decide)) o9 (i9 (qV 0) o3)) (i9 (x6 (x8 K hu) (qV 3) j0 (fun _ _=>rfl)) (i9 P8 o3)))))
   (E6 (C9 (K1 (i9 (x6 (x8 K hu) (qV 3) j0 (fun _ _=>rfl)) (i9 (qV 4) (i9 (qC O4 (hr.mono (by decide)) o9 (i9 (qC N5 (hr.mono (by decide)) o9 (i9 (qV 1) o3)) (i9 (x6 (x8 K hu) (qV 3) j0 (fun _ _=>rfl)) (i9 P8 o3)))) o3))))))))),?_⟩
  refine q8 fun nx1 hx=>?_
  walk_at "e"
  refine⟨h9 (by simp),fun l1 n1=>?_⟩
  obtain⟨H1,e1,f1,m1,_⟩:=d6 (o:= .lst [.ref r1,.ref r2]) n1
  rw[e1]
  walk_at "e"
  rcases hv with⟨xs,ys,bx,bby,hpos,k⟩|⟨b1,b2,L1,R1,L2,R2,h1,h2,hv⟩
  ·exact⟨l1,r1,r2,xs,ys,rfl,SqL.of f1,bx.same m1,bby.same m1,.inl ⟨hpos,fun H' e s he=>k H' e (m1.trans s) he⟩⟩
  refine⟨l1,r1,r2,[],[],rfl,SqL.of f1,(h1.same m1).barL,(h2.same m1).barL,.inr ⟨rfl,rfl,fun H2 s2=>?_⟩⟩
  walk_at "e"
  refine hx [some (.ref r1),some (.ref r2),some v,none,none] _ ?_
  clear hx
  have m2:=m1.trans s2
  have A2:=h1.same m2
  have B2:=h2.same m2
  refine q8 fun nx2 hx=>?_
  walk_at "e"
  refine b7 A2.tup (b5 (j:=0) rfl) ?_
  walk_at "e"
  refine b7 B2.tup (b5 (j:=0) rfl) ?_
  walk_at "e"
  rcases hv with⟨bad,k⟩|⟨ps,good,k⟩
  ·exact⟨_,_,_,_,_,_,_,_,L1.W,L2.W,v,rfl,A2.l,B2.l,.inl ⟨bad.same m2,fun H' e s he=>k H' e (m2.trans s) he⟩⟩
  refine⟨_,_,_,_,_,_,_,_,L1.W,L2.W,v,rfl,A2.l,B2.l,.inr ⟨ps,good.same m2,fun t z pz qz d1 d2 kz Z ns ns' H3 s3 ft ow npz nd1 nd2=>?_⟩⟩
  have m3:=m2.trans s3
  have A3:=h1.same m3
  have B3:=h2.same m3
  walk_at "e"
  refine hx [some (.ref r1),some (.ref r2),some v,some (.ref t),none] _ ?_
  clear hx
  refine q8 fun nx3 hx=>?_
  walk_at "e"
  refine⟨r1,b1,L1,R1,rfl,A3,fun q1 c1 L1' R1' H4 s4 Q1 C1 wl1 wr1 nl1 _=>?_⟩
  walk_at "e"
  refine b7 (s4.tup (SqT.of ft)) (b5 (j:=1) rfl) ?_
  walk_at "e"
  refine⟨q1,c1,L1',R1',.ref d1,"c.",rfl,Q1,by decide+kernel,fun t1 f1 us H5 s5 ft1 ff1 hu1=>?_⟩
  walk_at "e"
  refine hx [some (.ref r1),some (.ref r2),some v,some (.ref t),some (.ref t1)] _ ?_
  clear hx
  have S1:StO K H5 t1 q1 d1 f1 c1 L1 R1 L1' R1' "c." us:=⟨ft1,Q1.same s5,s5 _ _ C1,wl1,wr1,ff1,hu1.perm wl1 wr1⟩
  have s35:=s4.trans s5
  walk_at "e"
  refine b7 (s35.tup (SqT.of ft)) (b5 (j:=0) rfl) ?_
  walk_at "e"
  refine⟨r2,b2,L2,R2,rfl,B3.same s35,fun q2 c2 L2' R2' H6 s6 Q2 C2 wl2 wr2 _ nc2=>?_⟩
  have s36:=s35.trans s6
  walk_at "e"
  refine b7 (s36.tup (SqT.of ft)) (b5 (j:=2) rfl) ?_
  walk_at "e"
  refine⟨q2,c2,L2',R2',.ref d2,"d.",rfl,Q2,by decide+kernel,fun t2 f2 us' H7 s7 ft2 ff2 hu2=>?_⟩
  have S2:StO K H7 t2 q2 d2 f2 c2 L2 R2 L2' R2' "d." us':=⟨ft2,Q2.same s7,s7 _ _ C2,wl2,wr2,ff2,hu2.perm wl2 wr2⟩
  walk_at "e"
  refine⟨h9 (by simp),fun t8 n8=>?_⟩
  obtain⟨H8,e8,f8,m8,_⟩:=d6 (o:= .tup _) n8
  rw[e8]
  have s38:=s36.trans (s7.trans m8)
  exact k t8 z pz qz d1 d2 t1 q1 f1 c1 t2 q2 f2 c2 kz Z ns ns' us us' L1' R1' L2' R2' H8 (m3.trans s38) f8 (ow.same s38) (S1.same (s6.trans (s7.trans m8))) (S2.same m8) (m2.free npz) (m3.free nl1) (m3.free (s35.free nc2))
def iZ (K:PySem.W.Frag):Sp:=fun vs H Q E=>∃(r1 r2:Addr) (xs ys:List V),vs=[.ref r1,.ref r2]∧BarL K H r1 xs∧BarL K H r2 ys∧0<xs.length+ys.length∧∀H' e,Same H H'→H' e=none→E (.ref (cA K "HasBars")) (some e) H'
abbrev kF (P:Program)(w:World)(K:PySem.W.Frag)(mg:Str→Option Value)(base:Heap):Prop:=F0 P w K mg base (cS P w) 2 "splits" ["rule","other"] [] (iZ K)
theorem qt {f:Addr}{fd:FuncData}(T:Txt K mg)(E5:S5 P w K mg base)(bT:gi P w K mg base)(bK:fz P w K mg base)(F:Fun K "splits" "splits" gR f fd):p0 P w K mg base (cS P w) 2 f fd ["rule","other"] (iZ K):=by
 refine F.okE sc_splits (fun vs H Q E h=>?_) (fun cdv A outer s H vs Q E hr h=>?_)
 ·obtain⟨r1,r2,xs,ys,rfl,_⟩:=h
  rfl
 ·obtain⟨r1,r2,xs,ys,rfl,bx,bby,hpos,k⟩:=h
  have hN:=sc_splits.nd
  have hu:=A1 hr
  refine⟨_,QSs.r (C6 (wa (qC E5 (hr.mono (by decide)) vS (i9 (S7 (i9 (qV 0) (i9 (qV 1) o3))) o3)))
   (E6 (C9 (V4 (own:=["pairs"]) (js:=[0,1]) (by kernel_rfl) rfl (af K (qC bK (hr.mono (by decide)) o9 (i9 (x6 (x8 K hu) (qV 0) j0 (fun _ _=>rfl)) (i9 (x6 (x8 K hu) (qV 1) j0 (fun _ _=>rfl)) o3)))) (fun _ _ _ _=>(U6 (i:=0) (show List.Nodup (["pairs","rule","other"]:List Str) by decide+kernel) rfl (by walk_at "l"))) (fun _ _ _ _=>(Ac (bB K (qC bT (hr.mono (by decide)) tZ (i9 (qV 1) (i9 (qV 2) (i9 (qV 0) o3))))))) (fun _ _ _ _=>(qV 0)))))),?_⟩
  refine q8 fun nx1 hx=>?_
  walk_at "e"
  refine⟨h9 (by simp),fun l1 n1=>?_⟩
  obtain⟨H1,e1,f1,m1,_⟩:=d6 (o:= .lst [.ref r1,.ref r2]) n1
  rw[e1]
  walk_at "e"
  exact⟨l1,r1,r2,xs,ys,rfl,SqL.of f1,bx.same m1,bby.same m1,.inl ⟨hpos,fun H' e s he=>k H' e (m1.trans s) he⟩⟩
theorem Bm {H:Hp}{n kd o1 o2:Str}{kL:List (j8×V)}{TL:List (Str×N9)}{l:Addr}(w:TiesIs K H kL TL)(h:n∉TL.map (·.1))(hl:SqT K H l (aP (kd,o1,o2))):TiesIs K H (D0 kL (Sum.inr n:j8) (.ref l)) (TL++[(n,(kd,o1,o2))]):=by
 rw[K9 _ (D3 (by rw[w.keys,←z5];exact fun m=>h (N0 m)))]
 exact z9 w ⟨rfl,l,rfl,hl⟩
structure RP (K:PySem.W.Frag) (H H':Hp) (p q:Addr) (L:E7) (ss:List Str) (pts:List (Str×Str)) (kvs:List (j8×V)) (ts:List (Str×N9)):Prop where
 sm:Same H H'
 hp:H' p=some (.dK (r6 pts))
 hq:H' q=some (.dK kvs)
 w:TiesIs K H' kvs ts
 n1:(pts.map (·.1)).Nodup
 n2:(ts.map (·.1)).Nodup
 i1:∀x∈pts,x∈L.pts∨x.1∈ss.drop 5
 i2:∀x∈ts,x∈L.ts∨x.1∈ss.drop 7
 e:∀x∈ts,x.2.2.1∈pts.map (·.1)∧x.2.2.2∈pts.map (·.1)
theorem RP.mono {H H' H2:Hp}{p q:Addr}{L:E7}{ss:List Str}{pts:List (Str×Str)}{kvs:List (j8×V)}{ts:List (Str×N9)}(h:RP K H H' p q L ss pts kvs ts)(s:Same H' H2):RP K H H2 p q L ss pts kvs ts:=⟨h.sm.trans s,s _ _ h.hp,s _ _ h.hq,h.w.mono s.le,h.n1,h.n2,h.i1,h.i2,h.e⟩
theorem RP.setP {H H':Hp}{p q:Addr}{L:E7}{ss:List Str}{pts:List (Str×Str)}{kvs:List (j8×V)}{ts:List (Str×N9)}{n kd:Str}(h:RP K H H' p q L ss pts kvs ts)(np:H p=none)(ne:p≠q)(hn:n∉pts.map (·.1))(hi:(n,kd)∈L.pts∨n∈ss.drop 5):RP K H (p7 H' p (.dK (r6 (pts++[(n,kd)])))) p q L ss (pts++[(n,kd)]) kvs ts:=by
 refine⟨C8 h.sm np,j7,by rw[d7 ne.symm];exact h.hq,U7 h.hp h.w,by rw[List.map_append];exact F6 h.n1 hn,h.n2,fun x hx=>?_,h.i2,fun x hx=>?_⟩
 ·rcases List.mem_append.mp hx with z|z
  ·exact h.i1 x z
  ·rw[List.mem_singleton.mp z];exact hi
 ·have z:=h.e x hx
  rw[List.map_append]
  exact⟨List.mem_append_left _ z.1,List.mem_append_left _ z.2⟩
theorem RP.setT {H H':Hp}{p q l:Addr}{L:E7}{ss:List Str}{pts:List (Str×Str)}{kvs:List (j8×V)}{ts:List (Str×N9)}{n kd o1 o2:Str}(h:RP K H H' p q L ss pts kvs ts)(nq:H q=none)(ne:p≠q)(hn:n∉ts.map (·.1))(hl:SqT K H' l (aP (kd,o1,o2)))(hi:(n,(kd,o1,o2))∈L.ts∨n∈ss.drop 7)(h1:o1∈pts.map (·.1))(h2:o2∈pts.map (·.1)):RP K H (p7 H' q (.dK (D0 kvs (Sum.inr n:j8) (.ref l)))) p q L ss pts (D0 kvs (Sum.inr n:j8) (.ref l)) (ts++[(n,(kd,o1,o2))]):=by
 refine⟨C8 h.sm nq,by rw[d7 ne];exact h.hp,j7,U7 h.hq (Bm h.w hn hl),h.n1,by rw[List.map_append];exact F6 h.n2 hn,h.i1,fun x hx=>?_,fun x hx=>?_⟩
 ·rcases List.mem_append.mp hx with z|z
  ·exact h.i2 x z
  ·rw[List.mem_singleton.mp z];exact hi
 ·rcases List.mem_append.mp hx with z|z
  ·exact h.e x z
  ·rw[List.mem_singleton.mp z];exact⟨h1,h2⟩
structure BW (L R:E7) (ss:List Str):Prop where
 i1:∀x∈R.pts,x∈L.pts∨x.1∈ss.drop 5
 i2:∀x∈R.ts,x∈L.ts∨x.1∈ss.drop 5
def bw (K:PySem.W.Frag):Sp:=fun vs H Q _=>∃(L:Sd) (ln lk:Addr) (ss ks:List Str) (b:Int),vs=[.ref L.a,.ref ln,.int b,.ref lk]∧SdIs K H L∧SqL K H ln (ss.map V.str)∧SqL K H lk (ks.map V.str)∧ss.length=8∧ss.Nodup∧(∀s∈ss,s.length≤100)∧("?":Str)∉ss∧(∀n∈k7 L.W,n∈ss.take 5)∧(k7 L.W).length≤5∧0<ks.length∧ks.length≤2∧0≤b∧
 ∀(R:Sd) (H':Hp),Same H H'→SdIs K H' R→BW L.W R.W ss→Q (.ref R.a) H'
theorem eW {α:Type}[DecidableEq α]{l m:List α}(nd:l.Nodup)(h:∀x∈l,x∈m):l.length≤m.length:=by
 induction l generalizing m with
 |nil=>exact Nat.zero_le _
 |cons a r ih=>
  rw[List.nodup_cons] at nd
  have ha:=h a List.mem_cons_self
  have z:=ih (m:=m.erase a) nd.2 fun x hx=>(List.mem_erase_of_ne fun e=>nd.1 (by rw[←e];exact hx)).mpr (h x (List.mem_cons_of_mem _ hx))
  rw[List.length_erase_of_mem ha] at z
  have:=List.length_pos_of_mem ha
  rw[List.length_cons];omega
abbrev cI (P:Program)(w:World)(K:PySem.W.Frag)(mg:Str→Option Value)(base:Heap):Prop:=F0 P w K mg base x9 1 "_law_right" ["_law_left","_law_names_here","_law_bits","_law_kinds"] [] (bw K)
theorem iC {f:Addr}{fd:FuncData}(T:Txt K mg)(F:Fun K "_law_right" "_law_right" Y7 f fd):p0 P w K mg base x9 1 f fd ["_law_left","_law_names_here","_law_bits","_law_kinds"] (bw K):=by
 refine F.ok sc__law_right (fun vs H Q E h=>?_) (fun cdv A outer s H vs Q E hr h=>?_)
 ·obtain⟨L,ln,lk,ss,ks,b,rfl,_⟩:=h
  rfl
 ·obtain⟨L,ln,lk,ss,ks,b,rfl,hL,hN',hK,hsl,hsn,hs1,hqm,hin,hL5,hk0,hk2,hb0,k⟩:=h
  have hLn:=hL5
  rw[K8] at hLn
  have hd5:∀n∈ss.take 5,n∉ss.drop 5:=fun n h1 h2=>by
   have z:=hsn
   rw[←List.take_append_drop 5 ss] at z
   exact(List.nodup_append.mp z).2.2 n h1 n h2 rfl
  obtain⟨s6,g6,h6⟩:∃s,ss[6]?=some s∧s∈ss.drop 5:=⟨ss[6],List.getElem?_eq_getElem (by omega),List.mem_of_getElem? (i:=1) (by rw[List.getElem?_drop];exact List.getElem?_eq_getElem (by omega))⟩
  obtain⟨s7,g7,h7⟩:∃s,ss[7]?=some s∧s∈ss.drop 7:=⟨ss[7],List.getElem?_eq_getElem (by omega),List.mem_of_getElem? (i:=0) (by rw[List.getElem?_drop];exact List.getElem?_eq_getElem (by omega))⟩
  have h75:∀n∈ss.drop 7,n∈ss.drop 5:=fun n hn=>by
   have e:ss.drop 7=(ss.drop 5).drop 2:=by rw[List.drop_drop]
   rw[e] at hn;exact List.mem_of_mem_drop hn
  have s67:s6∉ss.drop 7:=fun z=>by
   obtain⟨j,hj⟩:=List.getElem?_of_mem z
   rw[List.getElem?_drop] at hj
   have z1:7+j<ss.length:=(List.getElem?_eq_some_iff.mp hj).1
   have:=(List.getElem?_inj z1 hsn).mp (hj.trans g6.symm)
   omega
  have hN:=sc__law_right.nd
  have hu:=A1 hr
  refine⟨_,QSs.r (C6 (z8 (i:=4) hN rfl (by walk_at "l") wd)
   (C6 (z8 (i:=5) hN rfl (by walk_at "l") wd)
   (C6 (cP PassesOwn.never rfl (mr K T.b_enumerate (i9 (qB (O6 K rfl) T.b_sorted Boot.«sorted» (i9 (x6 (x8 K hu) (qV 0) j0 (fun _ _=>rfl)) o3)) o3)) (wb K rfl (ic (U6 (i:=6) hN rfl (by walk_at "l")) (ic (U6 (i:=7) hN rfl (by walk_at "l")) we)))
    (E6 (fb (C7 (N7 K hr) (F7 jM (F7 kg (qV 2) (qV 6)) j0) j0 (z0 _)) (E6 (Y9 (x6 (x8 K hu) (x6 (x8 K hu) (qV 0) j0 (fun _ _=>rfl)) (qV 7) (fun _ _=>rfl)) (lE (qV 4) (qV 7) (x5 P w hu)))) ie)))
   (C6 (cP PassesOwn.never rfl (mr K T.b_enumerate (i9 (qB (O6 K rfl) T.b_sorted Boot.«sorted» (i9 (x6 (x8 K hu) (qV 0) j0 (fun _ _=>rfl)) o3)) o3)) (wb K rfl (ic (U6 (i:=6) hN rfl (by walk_at "l")) (ic (U6 (i:=7) hN rfl (by walk_at "l")) we)))
    (C6 (z8 (i:=8) hN rfl (by walk_at "l") (x6 (x8 K hu) (x6 (x8 K hu) (qV 0) j0 (fun _ _=>rfl)) (qV 7) (fun _ _=>rfl)))
   (E6 (fb (vX (dY (C7 (N7 K hr) (F7 jM (F7 kg (qV 2) (F7 (V7 K) j0 (qV 6))) j0) j0 (z0 _)) (dY (C7 (kIn K hu) (x6 (x8 K hu) (qV 8) j0 (fun _ _=>rfl)) (qV 4) (by rfl)) (df (C7 (kIn K hu) (x6 (x8 K hu) (qV 8) j0 (fun _ _=>rfl)) (qV 4) (by rfl)))))) (E6 (Y9 (qV 8) (lE (qV 5) (qV 7) (x5 P w hu)))) ie))))
   (C6 (fb (C7 (N7 K hr) (F7 jM (F7 kg (qV 2) j0) j0) j0 (z0 _)) (E6 (Y9 (x6 (x8 K hu) (qV 3) j0 (fun _ _=>rfl)) (lE (qV 4) (x6 (x8 K hu) (qV 1) j0 (fun _ _=>rfl)) (x5 P w hu)))) ie)
   (C6 (z8 (i:=9) hN rfl (by walk_at "l") (qB (O6 K rfl) T.b_sorted Boot.«sorted» (i9 (qV 4) o3)))
   (C6 (fb (vX (dY (C7 (N7 K hr) (F7 jM (F7 kg (qV 2) j0) j0) j0 (z0 _)) (df (C7 tJ (qB (K5 K P w) T.b_len Boot.«len» (i9 (qV 9) o3)) j0 (z0 _))))) (E6 (Y9 (K1 (i9 (x6 (x8 K hu) (qV 3) (Fj Bn j0) (fun _ _=>rfl)) (i9 (x6 (x8 K hu) (qV 9) (F7 D6 (F7 D5 (qV 2) j0) (qB (K5 K P w) T.b_len Boot.«len» (i9 (qV 9) o3))) (fun _ _=>rfl)) (i9 (x6 (x8 K hu) (qV 9) (F7 D6 (F7 D5 (qV 2) j0) (qB (K5 K P w) T.b_len Boot.«len» (i9 (qV 9) o3))) (fun _ _=>rfl)) o3)))) (lE (qV 5) (x6 (x8 K hu) (qV 1) j0 (fun _ _=>rfl)) (x5 P w hu)))) ie)
   (E6 (C9 (K1 (i9 (qV 4) (i9 (qV 5) o3)))))))))))),?_⟩
  refine q8 fun nx1 hx=>?_
  walk_at "e"
  intro p np
  obtain⟨H1,e1,f1,m1,_⟩:=d6 (o:= .dK []) np
  rw[e1]
  walk_at "e"
  refine hx [some (.ref L.a),some (.ref ln),some (.int b),some (.ref lk),some (.ref p),none,none,none,none,none] _ ?_
  clear hx
  refine q8 fun nx2 hx=>?_
  walk_at "e"
  intro q nq
  obtain⟨H2,e2,f2,m2,_⟩:=d6 (o:= .dK []) nq
  rw[e2]
  walk_at "e"
  refine hx [some (.ref L.a),some (.ref ln),some (.int b),some (.ref lk),some (.ref p),some (.ref q),none,none,none,none] _ ?_
  clear hx
  have hpq:p≠q:=d8 f1 nq
  have nq0:H q=none:=m1.free nq
  have m12:=m1.trans m2
  have r0:RP K H H2 p q L.W ss [] [] []:=⟨m12,m2 _ _ f1,f2,.nil,List.nodup_nil,List.nodup_nil,(fun _ h=>nomatch h),(fun _ h=>nomatch h),fun _ h=>nomatch h⟩
  have L2':=hL.same m12
  refine q8 fun nx3 hx=>?_
  walk_at "e"
  refine b7 L2'.at_.tup (b5 (j:=0) rfl) ?_
  walk_at "e"
  refine C0 (ss:=L.W.pts.map (·.1)) L2'.at_.pts (by rw[C5,z5]) (by rw[List.length_map];omega) (fun s1 a1 a2 l3 n3=>?_)
  obtain⟨H3,e3,f3,m3,_⟩:=d6 (o:= .lst _) n3
  rw[e3]
  have hs1l:=a1.length_eq
  rw[List.length_map] at hs1l
  have nd1:s1.Nodup:=a1.nodup_iff.mpr (L9 hL.nd)
  have hl3p:l3≠p:=(d8 (m2 _ _ f1) n3).symm
  walk_at "e"
  refine⟨_,rfl,.inl ⟨l3,_,rfl,SqL.of f3,?_⟩⟩
  refine jE (n:=s1.length) (fun i σ H'=>(∃v6 v7,σ=[some (.ref L.a),some (.ref ln),some (.int b),some (.ref lk),some (.ref p),some (.ref q),v6,v7,none,none])∧H' l3=some (.lst (s1.map V.str))∧∃pts,RP K H H' p q L.W ss pts [] []∧(∀x∈pts,x∈L.W.pts)∧∀x∈pts.map (·.1),x∈s1.take i) ⟨⟨_,_,rfl⟩,f3,[],r0.mono m3,(fun _ h=>nomatch h),fun _ h=>nomatch h⟩ (fun i σ H' hi hp=>⟨_,.str (s1[i]),SqL.of hp.2.1,by rw[List.getElem?_map,List.getElem?_eq_getElem hi];rfl⟩) ?_ ?_
  ·clear hx
   rintro i v σ H4 H4' hi ⟨⟨v6,v7,rfl⟩,f4,pts,rp,pin,ptk⟩ ⟨t,x,hx,nt,rfl,rfl⟩
   have hx':=hx _ (SqL.of f4)
   have ex:s1[i]?=some s1[i]:=List.getElem?_eq_getElem hi
   rw[List.getElem?_map,ex] at hx'
   cases hx'
   obtain⟨H5,e5,f5,m5,_⟩:=d6 (o:= .tup _) nt
   rw[e5]
   have e7:s1.take (i+1)=s1.take i++[s1[i]]:=by rw[List.take_succ,ex];rfl
   have nin:s1[i]∉s1.take i:=X3 nd1 ex
   obtain⟨⟨n',kd⟩,hy,en⟩:=List.mem_map.mp (a1.mem_iff.mp (List.getElem_mem hi))
   have en:n'=s1[i]:=en
   subst en
   generalize s1[i]=n at ex e7 nin hy f5⊢
   have rp5:=rp.mono m5
   have L5:=hL.same rp5.sm
   refine T4 (SqT.of f5) rfl ?_
   walk_at "e"
   refine K4 (fun c1=>?_) (fun c1=>?_)
   ·walk_at "e"
    refine b7 L5.at_.tup (b5 (j:=0) rfl) ?_
    walk_at "e"
    refine E4 (v:= .str kd) (by have z:=L0 (k:=Sum.inr n) L5.at_.pts;rw[M6 (L9 hL.nd) hy] at z;exact z) ?_
    walk_at "e"
    have hpl:pts.length≤i:=by
     have z:=eW rp.n1 ptk
     rw[List.length_map,List.length_take] at z;omega
    refine J0 (u6 (k:=Sum.inr n) rp5.hp (h9 (by rw[o5];omega)) ?_)
    rw[O9 (fun z=>nin (ptk n z))]
    refine⟨⟨_,_,rfl⟩,by rw[d7 hl3p];exact m5 _ _ f4,pts++[(n,kd)],rp5.setP np hpq (fun z=>nin (ptk n z)) (.inl hy),fun x hx=>?_,fun x hx=>?_⟩
    ·rcases List.mem_append.mp hx with z|z
     ·exact pin x z
     ·rw[List.mem_singleton.mp z];exact hy
    ·rw[List.map_append] at hx
     rw[e7]
     rcases List.mem_append.mp hx with z|z
     ·exact List.mem_append_left _ (ptk x z)
     ·exact List.mem_append_right _ z
   ·walk_at "e"
    exact⟨⟨_,_,rfl⟩,m5 _ _ f4,pts,rp5,pin,fun x hx=>by rw[e7];exact List.mem_append_left _ (ptk x hx)⟩
  rintro σ H4 ⟨⟨v6,v7,rfl⟩,f4,pts,rp,pin,ptk⟩
  refine⟨⟨_,SqL.of f4,by rw[List.length_map];exact Nat.le_refl _⟩,?_⟩
  refine hx [some (.ref L.a),some (.ref ln),some (.int b),some (.ref lk),some (.ref p),some (.ref q),v6,v7,none,none] H4 ?_
  clear hx
  have hpl:pts.length≤L.W.pts.length:=by
   have z:=eW rp.n1 ptk
   rw[List.length_map,List.length_take] at z;omega
  clear r0 L2' f3 f4 f1 f2 e1 e2 e3 m1 m2 m3 n3 hl3p ptk
  have L4:=hL.same rp.sm
  refine q8 fun nx4 hx=>?_
  walk_at "e"
  refine b7 L4.at_.tup (b5 (j:=1) rfl) ?_
  walk_at "e"
  refine C0 (ss:=L.W.ts.map (·.1)) L4.at_.ties (by rw[L4.at_.ts.keys,z5]) (by rw[List.length_map];omega) (fun s2 b1 b2 l5 n5=>?_)
  obtain⟨H5,e5,f5,m5,_⟩:=d6 (o:= .lst _) n5
  rw[e5]
  have hs2l:=b1.length_eq
  rw[List.length_map] at hs2l
  have nd2:s2.Nodup:=b1.nodup_iff.mpr (cw hL.nd)
  have hl5q:l5≠q:=(d8 rp.hq n5).symm
  walk_at "e"
  refine⟨_,rfl,.inl ⟨l5,_,rfl,SqL.of f5,?_⟩⟩
  refine jE (n:=s2.length) (fun i σ H'=>(∃v6 v7 v8,σ=[some (.ref L.a),some (.ref ln),some (.int b),some (.ref lk),some (.ref p),some (.ref q),v6,v7,v8,none])∧H' l5=some (.lst (s2.map V.str))∧∃kvs ts,RP K H H' p q L.W ss pts kvs ts∧(∀x∈ts,x∈L.W.ts)∧∀x∈ts.map (·.1),x∈s2.take i) ⟨⟨_,_,_,rfl⟩,f5,[],[],rp.mono m5,(fun _ h=>nomatch h),fun _ h=>nomatch h⟩ (fun i σ H' hi hp=>⟨_,.str (s2[i]),SqL.of hp.2.1,by rw[List.getElem?_map,List.getElem?_eq_getElem hi];rfl⟩) ?_ ?_
  ·clear hx
   rintro i v σ H6 H6' hi ⟨⟨v6,v7,v8,rfl⟩,f6,kvs,ts,rp,tin,ttk⟩ ⟨t,x,hx,nt,rfl,rfl⟩
   have hx':=hx _ (SqL.of f6)
   have ex:s2[i]?=some s2[i]:=List.getElem?_eq_getElem hi
   rw[List.getElem?_map,ex] at hx'
   cases hx'
   obtain⟨H7,e7',f7,m7,_⟩:=d6 (o:= .tup _) nt
   rw[e7']
   have e7:s2.take (i+1)=s2.take i++[s2[i]]:=by rw[List.take_succ,ex];rfl
   have nin:s2[i]∉s2.take i:=X3 nd2 ex
   have hym:=b1.mem_iff.mp (List.getElem_mem hi)
   generalize s2[i]=n at ex e7 nin hym f7⊢
   have rp7:=rp.mono m7
   have L7:=hL.same rp7.sm
   have hwl:=rp7.w.length
   obtain⟨aa,⟨y1,y2,y3⟩,q1,q2,q3⟩:=TiesIs.val (ts:=L.W.ts) L7.at_.ts hym
   have stay:(∃w6 w7 w8,[some (V.ref L.a),some (.ref ln),some (.int b),some (.ref lk),some (.ref p),some (.ref q),some (.int (i:Int)),some (.str n),some (.ref aa),none]=[some (.ref L.a),some (.ref ln),some (.int b),some (.ref lk),some (.ref p),some (.ref q),w6,w7,w8,none])∧H7 l5=some (.lst (s2.map V.str))∧∃kvs ts,RP K H H7 p q L.W ss pts kvs ts∧(∀x∈ts,x∈L.W.ts)∧∀x∈ts.map (·.1),x∈s2.take (i+1):=⟨⟨_,_,_,rfl⟩,m7 _ _ f6,kvs,ts,rp7,tin,fun x hx=>by rw[e7];exact List.mem_append_left _ (ttk x hx)⟩
   refine T4 (SqT.of f7) rfl ?_
   walk_at "e"
   refine q8 fun nx5 hx=>?_
   walk_at "e"
   refine b7 L7.at_.tup (b5 (j:=1) rfl) ?_
   walk_at "e"
   refine E4 (v:= .ref aa) (by have z:=L0 (k:=Sum.inr n) L7.at_.ties;rw[q1] at z;exact z) ?_
   walk_at "e"
   refine hx [some (.ref L.a),some (.ref ln),some (.int b),some (.ref lk),some (.ref p),some (.ref q),some (.int (i:Int)),some (.str n),some (.ref aa),none] _ ?_
   clear hx
   walk_at "e"
   refine K4 (fun c1=>?_) (fun c1=>?_)
   ·walk_at "e"
    refine b7 q3 (b5 (j:=1) rfl) ?_
    walk_at "e"
    refine aK (L0 (k:=Sum.inr y2) (.inl rp7.hp)) ?_
    rw[M8]
    walk_at "e"
    refine K4 (fun c2=>?_) (fun c2=>?_)
    ·walk_at "e"
     refine b7 q3 (b5 (j:=2) rfl) ?_
     walk_at "e"
     refine aK (L0 (k:=Sum.inr y3) (.inl rp7.hp)) ?_
     rw[M8]
     walk_at "e"
     refine K4 (fun c3=>?_) (fun c3=>?_)
     ·have htl:ts.length≤i:=by
       have z:=eW rp.n2 ttk
       rw[List.length_map,List.length_take] at z;omega
      have nn:n∉ts.map (·.1):=fun z=>nin (ttk n z)
      walk_at "e"
      refine J0 (u6 (k:=Sum.inr n) rp7.hq (h9 (by omega)) ?_)
      refine⟨⟨_,_,_,rfl⟩,by rw[d7 hl5q];exact m7 _ _ f6,_,_,rp7.setT nq0 hpq nn q3 (.inl q2) c2 c3,fun x hx=>?_,fun x hx=>?_⟩
      ·rcases List.mem_append.mp hx with z|z
       ·exact tin x z
       ·rw[List.mem_singleton.mp z];exact q2
      ·rw[List.map_append] at hx
       rw[e7]
       rcases List.mem_append.mp hx with z|z
       ·exact List.mem_append_left _ (ttk x z)
       ·exact List.mem_append_right _ z
     ·walk_at "e"
      exact stay
    ·walk_at "e"
     exact stay
   ·walk_at "e"
    exact stay
  rintro σ H6 ⟨⟨v6,v7,v8,rfl⟩,f6,kvs,ts,rp,tin,ttk⟩
  refine⟨⟨_,SqL.of f6,by rw[List.length_map];exact Nat.le_refl _⟩,?_⟩
  refine hx [some (.ref L.a),some (.ref ln),some (.int b),some (.ref lk),some (.ref p),some (.ref q),v6,v7,v8,none] H6 ?_
  clear hx
  have htl:ts.length≤L.W.ts.length:=by
   have z:=eW rp.n2 ttk
   rw[List.length_map,List.length_take] at z;omega
  clear f5 f6 e5 m5 n5 hl5q L4 ttk
  refine q8 fun nx6 hx=>?_
  suffices go:∀(pts':List (Str×Str)) (H':Hp),RP K H H' p q L.W ss pts' kvs ts→pts'.length≤L.W.pts.length+1→(∀x∈pts'.map (·.1),x∉ss.drop 7)→nx6 [some (.ref L.a),some (.ref ln),some (.int b),some (.ref lk),some (.ref p),some (.ref q),v6,v7,v8,none] H' by
   have pn7:∀x∈pts.map (·.1),x∈ss.take 5:=fun x hx=>by
    obtain⟨y,hy,rfl⟩:=List.mem_map.mp hx
    exact hin _ (List.mem_append_left _ (List.mem_map.mpr ⟨y,pin y hy,rfl⟩))
   walk_at "e"
   refine K4 (fun c1=>?_) (fun c1=>?_)
   ·walk_at "e"
    obtain⟨kd,hkd,_⟩:=E1 (ss:=ks) (i:=0) (by omega) (by omega)
    refine k9 (rp.sm.seq hK) hkd ?_
    walk_at "e"
    refine k9 (rp.sm.seq hN') (b5 (j:=6) (by rw[List.getElem?_map,g6];rfl)) ?_
    have nn:s6∉pts.map (·.1):=fun z=>hd5 _ (pn7 _ z) h6
    refine J0 (u6 (k:=Sum.inr s6) rp.hp (h9 (by rw[o5];omega)) ?_)
    rw[O9 nn]
    refine go _ _ (rp.setP np hpq nn (.inr h6)) (by rw[List.length_append,List.length_singleton];omega) fun x hx=>?_
    rw[List.map_append] at hx
    rcases List.mem_append.mp hx with z|z
    ·exact fun y=>hd5 _ (pn7 _ z) (h75 _ y)
    ·rw[show x=s6 by simpa using z];exact s67
   ·walk_at "e"
    exact go pts H6 rp (by omega) fun x hx y=>hd5 _ (pn7 _ hx) (h75 _ y)
  clear rp pin hpl
  intro pts H7 rp hpl pn7
  refine hx _ _ ?_
  clear hx
  refine q8 fun nx7 hx=>?_
  walk_at "e"
  refine C0 (ss:=pts.map (·.1)) (.inl rp.hp) (by rw[C5,z5]) (by rw[List.length_map];omega) (fun s3 a3 _ l8 n8=>?_)
  obtain⟨H8,e8,f8,m8,_⟩:=d6 (o:= .lst _) n8
  rw[e8]
  have hs3l:=a3.length_eq
  rw[List.length_map] at hs3l
  have rp:=rp.mono m8
  walk_at "e"
  refine hx [some (.ref L.a),some (.ref ln),some (.int b),some (.ref lk),some (.ref p),some (.ref q),v6,v7,v8,some (.ref l8)] _ ?_
  clear hx e8
  refine q8 fun nx8 hx=>?_
  suffices go:∀(kvs':List (j8×V)) (ts':List (Str×N9)) (H':Hp),RP K H H' p q L.W ss pts kvs' ts'→ts'.length≤L.W.ts.length+1→nx8 [some (.ref L.a),some (.ref ln),some (.int b),some (.ref lk),some (.ref p),some (.ref q),v6,v7,v8,some (.ref l8)] H' by
   walk_at "e"
   refine K4 (fun c1=>?_) (fun c1=>?_)
   ·walk_at "e"
    refine E9 (p9 (SqL.of f8) ?_)
    rw[List.length_map,hs3l]
    walk_at "e"
    refine K4 (fun c2=>?_) (fun c2=>?_)
    ·have hpos:0<pts.length:=by omega
     walk_at "e"
     obtain⟨kd,hkd,hkm⟩:=tw (xs:=ks.map V.str) (by rw[List.length_map];exact hk0)
     obtain⟨kd',_,rfl⟩:=List.mem_map.mp hkm
     refine k9 (rp.sm.seq hK) hkd ?_
     walk_at "e"
     refine E9 (p9 (SqL.of f8) ?_)
     rw[List.length_map,hs3l]
     walk_at "e"
     obtain⟨o1,ho1,hm1⟩:=E1 (ss:=s3) (i:=b/1024 % (pts.length:Int)) (Int.emod_nonneg _ (by omega)) (by rw[hs3l];exact Int.emod_lt_of_pos _ (by omega))
     refine k9 (SqL.of f8) ho1 ?_
     walk_at "e"
     refine E9 (p9 (SqL.of f8) ?_)
     rw[List.length_map,hs3l]
     walk_at "e"
     obtain⟨o2,ho2,hm2⟩:=E1 (ss:=s3) (i:=b/4096 % (pts.length:Int)) (Int.emod_nonneg _ (by omega)) (by rw[hs3l];exact Int.emod_lt_of_pos _ (by omega))
     refine k9 (SqL.of f8) ho2 ?_
     walk_at "e"
     refine⟨h9 (by simp),fun l9 n9=>?_⟩
     obtain⟨H9,e9,f9,m9,_⟩:=d6 (o:= .tup (aP (kd',o1,o2))) n9
     change xo _ _ _ _ _ (p7 H8 l9 (.tup (aP (kd',o1,o2)))) _
     rw[e9]
     have rp9:=rp.mono m9
     walk_at "e"
     refine k9 (rp9.sm.seq hN') (b5 (j:=7) (by rw[List.getElem?_map,g7];rfl)) ?_
     have nn:s7∉ts.map (·.1):=fun z=>by
      obtain⟨y,hy,e⟩:=List.mem_map.mp z
      have e:y.1=s7:=e
      exact hd5 _ (hin _ (List.mem_append_right _ (List.mem_map.mpr ⟨y,tin y hy,rfl⟩))) (by rw[e];exact h75 _ h7)
     have hwl:=rp9.w.length
     refine J0 (u6 (k:=Sum.inr s7) rp9.hq (h9 (by omega)) ?_)
     exact go _ _ _ (rp9.setT nq0 hpq nn (SqT.of f9) (.inr h7) (a3.mem_iff.mp hm1) (a3.mem_iff.mp hm2)) (by rw[List.length_append,List.length_singleton];omega)
    ·walk_at "e"
     exact go kvs ts H8 rp (by omega)
   ·walk_at "e"
    exact go kvs ts H8 rp (by omega)
  clear rp tin htl
  intro kvs ts H9 rp htl
  refine hx _ _ ?_
  clear hx
  walk_at "e"
  refine⟨h9 (by simp),fun la na=>?_⟩
  obtain⟨HA,eA,fA,mA,_⟩:=d6 (o:= .tup [.ref p,.ref q]) na
  rw[eA]
  have rp:=rp.mono mA
  have inS:∀x∈pts.map (·.1)++ts.map (·.1),x∈ss:=fun x hx=>by
   rcases List.mem_append.mp hx with z|z
   ·obtain⟨y,hy,rfl⟩:=List.mem_map.mp z
    rcases rp.i1 y hy with z|z
    ·exact List.mem_of_mem_take (hin _ (List.mem_append_left _ (List.mem_map.mpr ⟨y,z,rfl⟩)))
    ·exact List.mem_of_mem_drop z
   ·obtain⟨y,hy,rfl⟩:=List.mem_map.mp z
    rcases rp.i2 y hy with z|z
    ·exact List.mem_of_mem_take (hin _ (List.mem_append_right _ (List.mem_map.mpr ⟨y,z,rfl⟩)))
    ·exact List.mem_of_mem_drop z
  refine k ⟨la,p,q,kvs,⟨pts,ts⟩⟩ HA rp.sm ⟨⟨SqT.of fA,.inl rp.hp,.inl rp.hq,rp.w⟩,rp.hp,rp.hq,hpq,List.nodup_append.mpr ⟨rp.n1,rp.n2,fun x hx y hy e=>?_⟩,by rw[K8];show pts.length+ts.length≤13;omega,rp.e,fun x hx=>hs1 x (inS x hx),fun hx=>hqm (inS _ hx)⟩ ⟨rp.i1,fun x hx=>(rp.i2 x hx).imp id (h75 _)⟩
  subst e
  obtain⟨y1,hy1,rfl⟩:=List.mem_map.mp hx
  obtain⟨y2,hy2,e2⟩:=List.mem_map.mp hy
  have e2:y2.1=y1.1:=e2
  rcases rp.i2 y2 hy2 with z|z
  ·have z':y1.1∈L.W.ts.map (·.1):=by rw[←e2];exact List.mem_map.mpr ⟨y2,z,rfl⟩
   rcases rp.i1 y1 hy1 with w|w
   ·exact(List.nodup_append.mp hL.nd).2.2 _ (List.mem_map.mpr ⟨y1,w,rfl⟩) _ z' rfl
   ·exact hd5 _ (hin _ (List.mem_append_right _ z')) w
  ·exact pn7 _ hx (by rw[←e2];exact z)
def cy (K:PySem.W.Frag):Sp:=fun vs H Q _=>∃(lc lk:Addr) (cs:List Int) (ks:List Str),vs=[.ref lc,.ref lk]∧SqL K H lc (cs.map V.int)∧cs.length≤5∧SqL K H lk (ks.map V.str)∧0<ks.length∧ks.length≤2∧
 ∀(r bl:Addr) (L R:Sd) (ss:List Str) (H':Hp),Same H H'→RuleIs K H' r bl L R []→BW L.W R.W ss→ss.Nodup→(∀n∈k7 L.W,n∈ss.take 5)→Q (.ref r) H'
abbrev dH (P:Program)(w:World)(K:PySem.W.Frag)(mg:Str→Option Value)(base:Heap):Prop:=F0 P w K mg base x9 3 "_law_rule" ["_law_cells","_law_kinds"] [] (cy K)
theorem jy {f:Addr}{fd:FuncData}(T:Txt K mg)(A6:Y8 P w K mg base)(W8:bY P w K mg base)(V6:cb P w K mg base)(W0:cI P w K mg base)(F:Fun K "_law_rule" "_law_rule" aE f fd):p0 P w K mg base x9 3 f fd ["_law_cells","_law_kinds"] (cy K):=by
 refine F.ok sc__law_rule (fun vs H Q E h=>?_) (fun cdv A outer s H vs Q E hr h=>?_)
 ·obtain⟨lc,lk,cs,ks,rfl,_⟩:=h
  rfl
 ·obtain⟨lc,lk,cs,ks,rfl,hC,hcl,hK,hk0,hk2,k⟩:=h
  have hN:=sc__law_rule.nd
  have hu:=A1 hr
  refine⟨_,QSs.r (C6 (z8 (i:=2) hN rfl (by walk_at "l") (qC A6 (hr.mono (by decide)) o9 (i9 (qB (Ek K rfl) T.b_sum Boot.«sum» (i9 (V4 (own:=["_law_k"]) (js:=[0]) (by kernel_rfl) rfl (xI T.b_range (i9 (qB (K5 K P w) T.b_len Boot.«len» (i9 (qV 0) o3)) o3)) (fun _ _ _ _=>(U6 (i:=0) (show List.Nodup (["_law_k","_law_cells"]:List Str) by decide+kernel) rfl (by walk_at "l"))) (fun _ _ _ _=>gn) (fun _ _ _ _=>(qC A6 (hr.mono (by decide)) o9 (i9 (x6 (x8 K hu) (qV 1) (qV 0) (fun _ _=>rfl)) (i9 (qV 0) o3))))) o3)) (i9 j0 o3))))
   (C6 (z8 (i:=3) hN rfl (by walk_at "l") (qC W8 (hr.mono (by decide)) o9 (i9 (qV 2) (i9 j0 o3))))
   (C6 (z8 (i:=4) hN rfl (by walk_at "l") (qC V6 (hr.mono (by decide)) o9 (i9 (DX (Ef K) (qV 0) Fo (CQ j0)) (i9 (qV 3) (i9 j0 (i9 j0 (i9 (qV 1) o3)))))))
   (E6 (C9 (K1 (i9 (qV 4) (i9 (qC W0 (hr.mono (by decide)) o9 (i9 (qV 4) (i9 (qV 3) (i9 (F7 D5 (qV 2) j0) (i9 (qV 1) o3))))) (i9 (S7 o3) o3))))))))),?_⟩
  refine q8 fun nx1 hx=>?_
  walk_at "e"
  refine E9 (p9 hC ?_)
  rw[List.length_map]
  refine eV (by omega) (by omega) ?_
  refine F8 (n:=cs.length) (fun i out H'=>H'=H∧∃ms:List Int,out=ms.map V.int∧ms.length=i) ⟨rfl,[],rfl,rfl⟩ (fun i out H' hi _=>by show i<((cs.length:Nat):Int).toNat;omega) ?_ ?_
  ·rintro N i v out H1' H1 hi ⟨rfl,ms,rfl,hml⟩ ⟨rfl,rfl⟩ hN'
   walk_at "e"
   refine⟨rfl,?_⟩
   walk_at "e"
   refine k9 hC (i:=0+(i:Int)) (v:= .int cs[i]) (by rw[Int.zero_add];exact b5 (by rw[List.getElem?_map,List.getElem?_eq_getElem hi];rfl)) ?_
   walk_at "e"
   refine⟨cs[i],0+(i:Int),rfl,by omega,by omega,fun mx hmx=>?_⟩
   exact⟨h9 (by rw[List.length_map];omega),hN' _ _ ⟨rfl,ms++[mx],by rw[List.map_append];rfl,by rw[List.length_append,hml];rfl⟩⟩
  rintro out H1 ⟨rfl,ms,rfl,hml⟩
  refine⟨by show((cs.length:Nat):Int).toNat≤cs.length;omega,fun lm nlm=>⟨h9 (by rw[List.length_map];omega),?_⟩⟩
  obtain⟨H2,e2,f2,m2,_⟩:=d6 (H:=H1) (o:= .lst (ms.map V.int)) nlm
  walk_at "e"
  change xV K _ (p7 H1 lm _) _
  rw[e2]
  refine Ce (SqL.of f2) ?_
  walk_at "e"
  refine⟨_,77,rfl,by omega,by omega,fun c hc=>?_⟩
  walk_at "e"
  refine hx [some (.ref lc),some (.ref lk),some (.int c),none,none] _ ?_
  clear hx
  refine q8 fun nx2 hx=>?_
  walk_at "e"
  refine⟨c,rfl,hc,fun ln H3 ss n3 m3 f3 ⟨hs1,hs2,hs3,hs4⟩=>?_⟩
  walk_at "e"
  refine hx [some (.ref lc),some (.ref lk),some (.int c),some (.ref ln),none] _ ?_
  clear hx
  have m23:=m2.trans m3
  refine q8 fun nx3 hx=>?_
  walk_at "e"
  refine ib (m23.seq hC) (fun l4 n4=>?_)
  obtain⟨ds,hds,hdl⟩:∃ds:List Int,cX (cs.map V.int) none (some 5)=ds.map V.int∧ds.length≤5:=by
   unfold cX
   rw[←List.map_drop,←List.map_take]
   exact⟨_,rfl,by rw[List.length_take,List.length_drop];omega⟩
  rw[hds]
  obtain⟨H4,e4,f4,m4,_⟩:=d6 (o:= .lst (ds.map V.int)) n4
  rw[e4]
  have m24:=m23.trans m4
  walk_at "e"
  refine⟨l4,ln,lk,ds,ss,ks,rfl,SqL.of f4,SqL.of (m4 _ _ f3),m24.seq hK,hdl,hs1,hk0,hk2,hs2,fun s hs=>Nat.le_trans (hs3 s hs) (by decide),hs4,fun a p q kvs W H5 m5 hW hin hW5=>?_⟩
  walk_at "e"
  refine hx [some (.ref lc),some (.ref lk),some (.int c),some (.ref ln),some (.ref a)] _ ?_
  clear hx
  have m25:=m24.trans m5
  have m35:=m4.trans m5
  walk_at "e"
  refine⟨⟨a,p,q,kvs,W⟩,ln,lk,ss,ks,c/7,rfl,hW,SqL.of (m35 _ _ f3),m25.seq hK,hs1,hs2,fun s hs=>Nat.le_trans (hs3 s hs) (by decide),hs4,hin,hW5,hk0,hk2,by omega,fun R H6 m6 hR hrt=>?_⟩
  walk_at "e"
  refine⟨h9 (by simp),fun lb nb=>?_⟩
  obtain⟨H7,e7,f7,m7,_⟩:=d6 (o:= .lst []) nb
  rw[e7]
  walk_at "e"
  refine⟨h9 (by simp),fun lr nr=>?_⟩
  obtain⟨H8,e8,f8,m8,_⟩:=d6 (o:= .tup _) nr
  rw[e8]
  have m78:=m7.trans m8
  have L8:SdIs K H8 ⟨a,p,q,kvs,W⟩:=WebIs.same hW (m6.trans m78)
  exact k lr lb ⟨a,p,q,kvs,W⟩ R ss H8 (m25.trans (m6.trans m78)) ⟨SqT.of f8,L8,hR.same m78,SqL.of (m8 _ _ f7),fun _ h=>nomatch h⟩ hrt hs2 hin
def bh (K:PySem.W.Frag):Sp:=fun vs H Q _=>∃(r bl:Addr) (L R:Sd) (mk:Str),vs=[.ref r,.str mk]∧RuleIs K H r bl L R []∧mk.length≤10∧∀(d:Addr) (us:List Str) (H':Hp),H d=none→Same H H'→H' d=some (.dK (r6 (us.map fun n=>(n,mk++n))))→Frs L.W R.W us→Q (.ref d) H'
abbrev cQ (P:Program)(w:World)(K:PySem.W.Frag)(mg:Str→Option Value)(base:Heap):Prop:=F0 P w K mg base x9 2 "_law_fresh" ["_law_rule_here","_law_mark"] [] (bh K)
theorem iK {f:Addr}{fd:FuncData}(T:Txt K mg)(C3:X4 P w K mg base)(F:Fun K "_law_fresh" "_law_fresh" X7 f fd):p0 P w K mg base x9 2 f fd ["_law_rule_here","_law_mark"] (bh K):=by
 refine F.ok sc__law_fresh (fun vs H Q E h=>?_) (fun cdv A outer s H vs Q E hr h=>?_)
 ·obtain⟨r,bl,L,R,mk,rfl,_⟩:=h
  rfl
 ·obtain⟨r,bl,L,R,mk,rfl,hR,hmk,k⟩:=h
  have hRl:=hR.r.len
  have hN:=sc__law_fresh.nd
  have hu:=A1 hr
  refine⟨_,QSs.r (C6 (z8 (i:=2) hN rfl (by walk_at "l") wd)
   (C6 (cP PassesOwn.never rfl (af K (qC C3 (hr.mono (by decide)) o9 (i9 (x6 (x8 K hu) (qV 0) j0 (fun _ _=>rfl)) o3))) (U6 (i:=3) hN rfl (by walk_at "l"))
    (E6 (fb (vX (dY (C7 (gz K hu) (qV 3) (x6 (x8 K hu) (x6 (x8 K hu) (qV 0) j0 (fun _ _=>rfl)) j0 (fun _ _=>rfl)) (by rfl)) (df (C7 (gz K hu) (qV 3) (x6 (x8 K hu) (x6 (x8 K hu) (qV 0) j0 (fun _ _=>rfl)) j0 (fun _ _=>rfl)) (by rfl))))) (E6 (Y9 (F7 (V7 K) (qV 1) (qV 3)) (lE (qV 2) (qV 3) (x5 P w hu)))) ie)))
   (E6 (C9 (qV 2))))),?_⟩
  refine q8 fun nx1 hx=>?_
  walk_at "e"
  intro d nd
  obtain⟨H1,e1,f1,m1,_⟩:=d6 (o:= .dK []) nd
  rw[e1]
  walk_at "e"
  refine hx [some (.ref r),some (.str mk),some (.ref d),none] _ ?_
  clear hx
  have R1:=hR.same m1
  refine q8 fun nx2 hx=>?_
  walk_at "e"
  refine b7 R1.tup (b5 (j:=1) rfl) ?_
  walk_at "e"
  refine⟨_,_,_,_,R.W,rfl,R1.r.at_,by omega,fun l2 H2 s1 s2 n2 m2 f2 or=>?_⟩
  have hol:=or.len
  have hnd:(s1++s2).Nodup:=or.perm.nodup_iff.mpr hR.r.nd
  have hmem:∀n,n∈s1++s2↔n∈k7 R.W:=fun n=>or.mem
  generalize s1++s2=s at f2 hol hnd hmem
  have ne2:l2≠d:=(d8 f1 n2).symm
  refine C4 (SqL.of f2) ?_
  refine jE (n:=s.length) (fun i σ H'=>(∃v3,σ=[some (.ref r),some (.str mk),some (.ref d),v3])∧Same H H'∧H' l2=some (.lst (s.map V.str))∧H' d=some (.dK (r6 (((s.take i).filter fun n=>!decide (n∈k7 L.W)).map fun n=>(n,mk++n))))) ⟨⟨_,rfl⟩,m1.trans m2,f2,m2 _ _ f1⟩ (fun i σ H' hi hp=>⟨_,.str (s[i]),SqL.of hp.2.2.1,by rw[List.getElem?_map,List.getElem?_eq_getElem hi];rfl⟩) ?_ ?_
  ·clear hx
   rintro i v σ H3' H3 hi ⟨⟨v3,rfl⟩,s3,g3,d3⟩ y
   obtain⟨rfl,hx⟩:=Itl.get y (SqL.of g3)
   have ex:s[i]?=some s[i]:=List.getElem?_eq_getElem hi
   rw[List.getElem?_map,ex] at hx
   cases hx
   have e7:s.take (i+1)=s.take i++[s[i]]:=by rw[List.take_succ,ex];rfl
   have nin:s[i]∉s.take i:=X3 hnd ex
   have hln:=hR.r.nl _ ((hmem _).mp (List.getElem_mem hi))
   have hfl:=List.length_filter_le (fun n=>!decide (n∈k7 L.W)) (s.take i)
   rw[List.length_take] at hfl
   generalize s[i]=n at ex e7 nin hln
   have R3:=hR.same s3
   have no:n∈k7 L.W→H3 d=some (.dK (r6 (((s.take (i+1)).filter fun n=>!decide (n∈k7 L.W)).map fun n=>(n,mk++n)))):=fun hb=>by
    rw[e7,List.filter_append,List.filter_cons_of_neg (p:=fun n=>!decide (n∈k7 L.W)) (by simp [hb]),List.filter_nil,List.append_nil];exact d3
   walk_at "e"
   refine b7 R3.tup (b5 (j:=0) rfl) ?_
   walk_at "e"
   refine b7 R3.l.at_.tup (b5 (j:=0) rfl) ?_
   refine Q8 (L0 (k:=Sum.inr n) R3.l.at_.pts) ?_
   rw[M8]
   walk_at "e"
   refine Y5 (fun b1=>?_) (fun b1=>?_)
   ·walk_at "e"
    refine b7 R3.tup (b5 (j:=0) rfl) ?_
    walk_at "e"
    refine b7 R3.l.at_.tup (b5 (j:=1) rfl) ?_
    refine Q8 (L0 (k:=Sum.inr n) R3.l.at_.ties) ?_
    rw[aW R3.l.at_.ts]
    walk_at "e"
    refine Y5 (fun b2=>?_) (fun b2=>?_)
    ·have hno:n∉k7 L.W:=fun z=>(List.mem_append.mp z).elim b1 b2
     walk_at "e"
     refine K3 (h9 (by omega)) ?_
     walk_at "e"
     refine J0 (u6 (k:=Sum.inr n) d3 (h9 (by rw[o5,List.length_map];omega)) ?_)
     rw[O9 (fun z=>by
      rw[List.map_map,show((·.1)∘fun n:Str=>(n,mk++n))=id from rfl,List.map_id] at z
      exact nin (List.mem_filter.mp z).1)]
     refine⟨⟨_,rfl⟩,C8 s3 nd,by rw[d7 ne2];exact g3,?_⟩
     rw[j7,e7,List.filter_append,List.filter_cons_of_pos (p:=fun n=>!decide (n∈k7 L.W)) (by simp [hno]),List.filter_nil,List.map_append];rfl
    ·walk_at "e"
     exact⟨⟨_,rfl⟩,s3,g3,no (List.mem_append_right _ b2)⟩
   ·walk_at "e"
    exact⟨⟨_,rfl⟩,s3,g3,no (List.mem_append_left _ b1)⟩
  rintro σ H3 ⟨⟨v3,rfl⟩,s3,g3,d3⟩
  refine⟨⟨_,SqL.of g3,by rw[List.length_map];exact Nat.le_refl _⟩,?_⟩
  refine hx [some (.ref r),some (.str mk),some (.ref d),v3] H3 ?_
  walk_at "e"
  rw[List.take_of_length_le (Nat.le_refl _)] at d3
  exact k d _ H3 nd s3 d3 ⟨hnd.sublist List.filter_sublist,fun n=>by rw[List.mem_filter,hmem,Bool.not_eq_true',decide_eq_false_iff_not]⟩
def aT (K:PySem.W.Frag):Sp:=fun vs H Q _=>∃(r bl:Addr) (L R:Sd),vs=[.ref r]∧RuleIs K H r bl L R []∧∀(r':Addr) (x:V) (H':Hp),Same H H'→BarL K H' r' [x]→Q (.ref r') H'
abbrev bC (P:Program)(w:World)(K:PySem.W.Frag)(mg:Str→Option Value)(base:Heap):Prop:=F0 P w K mg base x9 1 "_law_barred" ["_law_rule_here"] [] (aT K)
theorem fX {f:Addr}{fd:FuncData}(T:Txt K mg)(F:Fun K "_law_barred" "_law_barred" U2 f fd):p0 P w K mg base x9 1 f fd ["_law_rule_here"] (aT K):=by
 refine F.ok sc__law_barred (fun vs H Q E h=>?_) (fun cdv A outer s H vs Q E hr h=>?_)
 ·obtain⟨r,bl,L,R,rfl,_⟩:=h
  rfl
 ·obtain⟨r,bl,L,R,rfl,hR,k⟩:=h
  have hLl:=hR.l.len
  rw[K8] at hLl
  have hN:=sc__law_barred.nd
  have hu:=A1 hr
  refine⟨_,QSs.r (C6 (z8 (i:=1) hN rfl (by walk_at "l") (kI (aU K rfl) T.b_dict Boot.«dict» (i9 (x6 (x8 K hu) (x6 (x8 K hu) (qV 0) j0 (fun _ _=>rfl)) j0 (fun _ _=>rfl)) o3)))
   (C6 (Y9 P8 (lE (qV 1) P8 (x5 P w hu)))
   (E6 (C9 (K1 (i9 (x6 (x8 K hu) (qV 0) j0 (fun _ _=>rfl)) (i9 (x6 (x8 K hu) (qV 0) j0 (fun _ _=>rfl)) (i9 (S7 (i9 (K1 (i9 (qV 1) (i9 (kI (aU K rfl) T.b_dict Boot.«dict» (i9 (x6 (x8 K hu) (x6 (x8 K hu) (qV 0) j0 (fun _ _=>rfl)) j0 (fun _ _=>rfl)) o3)) o3))) o3)) o3)))))))),?_⟩
  walk_at "r"
  refine b7 hR.tup (b5 (j:=0) rfl) ?_
  walk_at "r"
  refine b7 hR.l.at_.tup (b5 (j:=0) rfl) ?_
  walk_at "r"
  refine P6 hR.l.at_.pts (fun d nd=>?_)
  obtain⟨H1,e1,f1,m1,_⟩:=d6 (o:= .dK _) nd
  rw[e1]
  walk_at "r"
  refine J0 (u6 (k:=Sum.inr "zzzzzzzz") f1 (h9 (by rw[o5];omega)) ?_)
  have s2:Same H (p7 H1 d (.dK (D0 (r6 L.W.pts) (Sum.inr "zzzzzzzz":j8) (.str "r")))):=C8 m1 nd
  generalize p7 H1 d (.dK (D0 (r6 L.W.pts) (Sum.inr "zzzzzzzz":j8) (.str "r")))=H2 at s2⊢
  have R2:=hR.same s2
  walk_at "r"
  refine b7 R2.tup (b5 (j:=0) rfl) ?_
  walk_at "r"
  refine b7 R2.tup (b5 (j:=1) rfl) ?_
  walk_at "r"
  refine b7 R2.tup (b5 (j:=0) rfl) ?_
  walk_at "r"
  refine b7 R2.l.at_.tup (b5 (j:=1) rfl) ?_
  walk_at "r"
  refine P6 R2.l.at_.ties (fun d3 nd3=>?_)
  obtain⟨H3,e3,f3,m3,_⟩:=d6 (o:= .dK _) nd3
  rw[e3]
  walk_at "r"
  refine⟨h9 (by simp),fun l4 n4=>?_⟩
  obtain⟨H4,e4,f4,m4,_⟩:=d6 (o:= .tup _) n4
  rw[e4]
  walk_at "r"
  refine⟨h9 (by simp),fun l5 n5=>?_⟩
  obtain⟨H5,e5,f5,m5,_⟩:=d6 (o:= .lst _) n5
  rw[e5]
  walk_at "r"
  refine⟨h9 (by simp),fun l6 n6=>?_⟩
  obtain⟨H6,e6,f6,m6,_⟩:=d6 (o:= .tup _) n6
  rw[e6]
  exact k l6 _ H6 (s2.trans (m3.trans (m4.trans (m5.trans m6)))) ⟨_,_,_,SqT.of f6,SqL.of (m6 _ _ f5)⟩
def Z6 (K : PySem.W.Frag) : Sp := fun vs H Q _ => ∃ (r1 r2 : Addr) (v : V) (b : Bool), vs = [.ref r1, .ref r2, v, .bl b] ∧
  ((∃ xs ys, BarL K H r1 xs ∧ BarL K H r2 ys ∧ 0 < xs.length + ys.length ∧ ∀ l H', Same H H' → H' l = some (.lst [.bl true, .bl false, .bl true]) → Q (.ref l) H') ∨
   (b = false ∧ ∃ (b1 b2 : Addr) (L1 R1 L2 R2 : Sd), RuleIs K H r1 b1 L1 R1 [] ∧ RuleIs K H r2 b2 L2 R2 [] ∧ BadV K H L1.W L2.W v ∧ ∀ l H', Same H H' → H' l = some (.lst [.bl false, .bl true, .bl true]) → Q (.ref l) H'))
abbrev aD (P:Program)(w:World)(K:PySem.W.Frag)(mg:Str→Option Value)(base:Heap):Prop:=F0 P w K mg base x9 6 "_law_refused" ["_law_rule_here","_law_other","_law_pairs","_law_asked"] [] (Z6 K)
theorem eN {f:Addr}{fd:FuncData}(T:Txt K mg)(fE:kF P w K mg base)(D1:U5 P w K mg base)(F:Fun K "_law_refused" "_law_refused" Q0 f fd):p0 P w K mg base x9 6 f fd ["_law_rule_here","_law_other","_law_pairs","_law_asked"] (Z6 K):=by
 refine F.ok sc__law_refused (fun vs H Q E h=>?_) (fun cdv A outer s H vs Q E hr h=>?_)
 ·obtain⟨r1,r2,v,b,rfl,_⟩:=h
  rfl
 ·obtain⟨r1,r2,v,b,rfl,hv⟩:=h
  have hN:=sc__law_refused.nd
  have hu:=A1 hr
  refine⟨_,QSs.r (C6 (z8 (i:=4) hN rfl (by walk_at "l") (S7 o3))
   (C6 (DT (i:=5) T.t_GlueError hN rfl (fun pins Es=>(E6 (fb (bB K (qV 3)) (E6 (wa (EU fE (hr.mono (by decide)) (i9 (qV 0) (i9 (qV 1) o3))))) (E6 (wa (EU D1 (hr.mono (by decide)) (i9 (qV 0) (i9 (qV 1) (i9 (qV 2) o3))))))))) (fun ex=>(E6 (z8 (i:=4) hN rfl (by walk_at "l") (S7 (i9 (qB (uM K) T.b_isinstance Boot.«isinstance» (i9 (qV 5) (i9 (Fc T.g_HasBars) o3))) (i9 (qB (uM K) T.b_isinstance Boot.«isinstance» (i9 (qV 5) (i9 (Fc T.g_NoOverlap) o3))) (i9 (qB (uM K) T.b_isinstance Boot.«isinstance» (i9 (qV 5) (i9 (Ds "ValueError" T.b_ValueError Boot.«ValueError») o3))) o3))))))))
   (E6 (C9 (qV 4))))),?_⟩
  walk_at "r"
  refine⟨h9 (by simp),fun l0 n0=>?_⟩
  obtain⟨H1,e1,f1,m1,_⟩:=d6 (o:= .lst []) n0
  rw[e1]
  walk_at "r"
  rcases hv with⟨xs,ys,bx,bby,hpos,k⟩|⟨rfl,b1,b2,L1,R1,L2,R2,h1,h2,bad,k⟩
  ·refine tX (fun hb=>?_) (fun hb=>?_)
   ·walk_at "r"
    refine⟨r1,r2,xs,ys,rfl,bx.same m1,bby.same m1,hpos,fun H2 e s2 he=>?_⟩
    refine⟨_,e,rfl,rfl,T.s_HasBars_GlueError,?_⟩
    have s3:Same H1 (p7 H2 e (.ext (IsExc e (cA K "HasBars")))):=C8 s2 (s2.free he)
    have f3:(p7 H2 e (.ext (IsExc e (cA K "HasBars")))) e=some (.ext (IsExc e (cA K "HasBars"))):=j7
    generalize p7 H2 e (.ext (IsExc e (cA K "HasBars")))=H3 at s3 f3⊢
    walk_at "r"
    refine⟨e,_,.ref (cA K "HasBars"),.ref (cA K "HasBars"),_,rfl,rfl,f3,T.e_HasBars,T.i_HasBars_HasBars,?_⟩
    walk_at "r"
    refine⟨e,_,.ref (cA K "NoOverlap"),.ref (cA K "NoOverlap"),_,rfl,rfl,f3,T.e_HasBars,T.i_HasBars_NoOverlap,?_⟩
    walk_at "r"
    refine⟨e,_,.type "ValueError",.ty "ValueError",_,rfl,rfl,f3,T.e_HasBars,T.i_HasBars_ValueError,?_⟩
    walk_at "r"
    refine⟨h9 (by simp),fun l4 n4=>?_⟩
    obtain⟨H4,e4,f4,m4,_⟩:=d6 (o:= .lst [.bl true,.bl false,.bl true]) n4
    rw[e4]
    walk_at "r"
    exact k l4 H4 (m1.trans (s3.trans m4)) f4
   ·walk_at "r"
    refine⟨r1,r2,v,rfl,.inl ⟨xs,ys,bx.same m1,bby.same m1,hpos,fun H2 e s2 he=>?_⟩⟩
    refine⟨_,e,rfl,rfl,T.s_HasBars_GlueError,?_⟩
    have s3:Same H1 (p7 H2 e (.ext (IsExc e (cA K "HasBars")))):=C8 s2 (s2.free he)
    have f3:(p7 H2 e (.ext (IsExc e (cA K "HasBars")))) e=some (.ext (IsExc e (cA K "HasBars"))):=j7
    generalize p7 H2 e (.ext (IsExc e (cA K "HasBars")))=H3 at s3 f3⊢
    walk_at "r"
    refine⟨e,_,.ref (cA K "HasBars"),.ref (cA K "HasBars"),_,rfl,rfl,f3,T.e_HasBars,T.i_HasBars_HasBars,?_⟩
    walk_at "r"
    refine⟨e,_,.ref (cA K "NoOverlap"),.ref (cA K "NoOverlap"),_,rfl,rfl,f3,T.e_HasBars,T.i_HasBars_NoOverlap,?_⟩
    walk_at "r"
    refine⟨e,_,.type "ValueError",.ty "ValueError",_,rfl,rfl,f3,T.e_HasBars,T.i_HasBars_ValueError,?_⟩
    walk_at "r"
    refine⟨h9 (by simp),fun l4 n4=>?_⟩
    obtain⟨H4,e4,f4,m4,_⟩:=d6 (o:= .lst [.bl true,.bl false,.bl true]) n4
    rw[e4]
    walk_at "r"
    exact k l4 H4 (m1.trans (s3.trans m4)) f4
  ·walk_at "r"
   refine⟨r1,r2,v,rfl,.inr ⟨b1,b2,L1,R1,L2,R2,h1.same m1,h2.same m1,.inl ⟨bad.same m1,fun H2 e s2 he=>?_⟩⟩⟩
   refine⟨_,e,rfl,rfl,T.s_NoOverlap_GlueError,?_⟩
   have s3:Same H1 (p7 H2 e (.ext (IsExc e (cA K "NoOverlap")))):=C8 s2 (s2.free he)
   have f3:(p7 H2 e (.ext (IsExc e (cA K "NoOverlap")))) e=some (.ext (IsExc e (cA K "NoOverlap"))):=j7
   generalize p7 H2 e (.ext (IsExc e (cA K "NoOverlap")))=H3 at s3 f3⊢
   walk_at "r"
   refine⟨e,_,.ref (cA K "HasBars"),.ref (cA K "HasBars"),_,rfl,rfl,f3,T.e_NoOverlap,T.i_NoOverlap_HasBars,?_⟩
   walk_at "r"
   refine⟨e,_,.ref (cA K "NoOverlap"),.ref (cA K "NoOverlap"),_,rfl,rfl,f3,T.e_NoOverlap,T.i_NoOverlap_NoOverlap,?_⟩
   walk_at "r"
   refine⟨e,_,.type "ValueError",.ty "ValueError",_,rfl,rfl,f3,T.e_NoOverlap,T.i_NoOverlap_ValueError,?_⟩
   walk_at "r"
   refine⟨h9 (by simp),fun l4 n4=>?_⟩
   obtain⟨H4,e4,f4,m4,_⟩:=d6 (o:= .lst [.bl false,.bl true,.bl true]) n4
   rw[e4]
   walk_at "r"
   exact k l4 H4 (m1.trans (s3.trans m4)) f4
def kc (K:PySem.W.Frag):Sp:=fun vs H Q _=>∃(a:Addr) (ns:List Int),vs=[.ref a]∧SqL K H a (ns.map V.int)∧ns.length≤63∧∀H',Q (.bl true) H'
theorem zh {u0 u1 u2 u3 u4 u5:V}(x:Int){Pr:V→Prop}(h0:Pr u0)(h1:Pr u1)(h2:Pr u2)(h3:Pr u3)(h4:Pr u4)(h5:Pr u5):∃y,mS [u0,u1,u2,u3,u4,u5] (x % 6)=some y∧Pr y:=by
 have g0:0≤x % 6:=Int.emod_nonneg _ (by decide)
 have g1:x % 6<6:=Int.emod_lt_of_pos _ (by decide)
 obtain⟨n,hn⟩:∃n:Nat,x % 6=n:=⟨(x % 6).toNat,by omega⟩
 rw[hn]
 have hn6:n<6:=by omega
 match n,hn6 with
 |0,_=>exact⟨u0,b5 rfl,h0⟩
 |1,_=>exact⟨u1,b5 rfl,h1⟩
 |2,_=>exact⟨u2,b5 rfl,h2⟩
 |3,_=>exact⟨u3,b5 rfl,h3⟩
 |4,_=>exact⟨u4,b5 rfl,h4⟩
 |5,_=>exact⟨u5,b5 rfl,h5⟩
structure EB (K:PySem.W.Frag) (H:Hp) (s r d f bl:Addr) (L R:Sd) (mk:Str) (us:List Str):Prop where
 st:H s=some (.tup [.ref r,.ref d,.ref f])
 ru:RuleIs K H r bl L R []
 f:H f=some (.dK (r6 (us.map fun n=>(n,mk++n))))
 u:Frs L.W R.W us
theorem Frs.pm {L R:E7}{us us':List Str}(h:Frs L R us)(h':Frs L R us'):us.Perm us':=(List.perm_ext_iff_of_nodup h.nd h'.nd).mpr fun n=>(h.mem n).trans (h'.mem n).symm
section
variable {H:Hp}
theorem nS (a:Addr)(n:Nat):EqN K H n (.ref a) (.ref a) true:=EqN.of0 (.inr ⟨a,a,rfl,rfl,.inl ⟨rfl,rfl⟩⟩) n
theorem uB {A B:Sd}(h:SdIs K H A)(h':SdIs K H B)(w:WPm A.W B.W)(n:Nat):EqN K H (n+1) (.ref A.a) (.ref B.a) true:=pw h.at_.tup h'.at_.tup (lO h.hp h'.hp w.p (L9 h'.nd)) (yJ h.hq h'.hq h.at_.ts h'.at_.ts w.t (cw h'.nd)) n
theorem Bf {r bl r' bl':Addr}{L R L' R':Sd}(h:RuleIs K H r bl L R [])(h':RuleIs K H r' bl' L' R' [])(wl:WPm L.W L'.W)(wr:WPm R.W R'.W):EqN K H 7 (.ref r) (.ref r') true:=by
 by_cases e:r=r'
 ·subst e;exact nS _ _
 refine .inr ⟨r,r',_,_,[true,true,true],rfl,rfl,e,.inl ⟨h.tup,h'.tup⟩,rfl,rfl,fun j x y b hx hy hb=>?_,rfl⟩
 match j,hx,hy,hb with
 |0,hx,hy,hb=>cases hx;cases hy;cases hb;exact uB h.l h'.l wl 5
 |1,hx,hy,hb=>cases hx;cases hy;cases hb;exact uB h.r h'.r wr 5
 |2,hx,hy,hb=>
  cases hx;cases hy;cases hb
  by_cases e:bl=bl'
  ·subst e;exact nS _ _
  ·exact .inr ⟨bl,bl',[],[],[],rfl,rfl,e,.inr ⟨h.bl,h'.bl⟩,rfl,rfl,(fun j x y b hx=>nomatch hx),rfl⟩
 |j+3,hx,_,_=>cases hx
theorem uL {s r d f bl s' r' d' f' bl':Addr}{L R L' R':Sd}{mk:Str}{us us':List Str}(h:StO K H s r d f bl L R L' R' mk us)(h':EB K H s' r' d' f' bl' L R mk us')(hd:EqD K H d d' true):EqN K H 8 (.ref s) (.ref s') true:=by
 by_cases e:s=s'
 ·subst e;exact nS _ _
 refine .inr ⟨s,s',_,_,[true,true,true],rfl,rfl,e,.inl ⟨SqT.of h.st,SqT.of h'.st⟩,rfl,rfl,fun j x y b hx hy hb=>?_,rfl⟩
 match j,hx,hy,hb with
 |0,hx,hy,hb=>cases hx;cases hy;cases hb;exact Bf h.ru h'.ru h.l h.r
 |1,hx,hy,hb=>cases hx;cases hy;cases hb;exact EqN.of0 (.inr ⟨d,d',rfl,rfl,hd⟩) _
 |2,hx,hy,hb=>cases hx;cases hy;cases hb;exact EqN.of0 (.inr ⟨f,f',rfl,rfl,lO h.f h'.f ((h.u.pm h'.u).map _) (vk h'.u.nd)⟩) _
 |j+3,hx,_,_=>cases hx
theorem lQ {t z p q d1 d2 s1 q1 f1 c1 s2 q2 f2 c2 t' z' p' q' e1 e2 s1' r1 g1 b1 s2' r2 g2 b2:Addr}{kz kz':List (j8×V)}{Z Z':E7}{ps:List (Str×Str)}{ns ns' ms ms' us us' vs vs':List Str}{L1 R1 L2 R2 L1' R1' L2' R2':Sd}
  (nd1:(k7 L1.W).Nodup) (nd2:(k7 L2.W).Nodup) (h:H t=some (.tup [.ref z,.ref s1,.ref s2])) (o:OW K H z p q d1 d2 kz Z L1.W L2.W ps ns ns') (a1:StO K H s1 q1 d1 f1 c1 L1 R1 L1' R1' "c." us) (a2:StO K H s2 q2 d2 f2 c2 L2 R2 L2' R2' "d." us')
  (h':H t'=some (.tup [.ref z',.ref s1',.ref s2'])) (o':OW K H z' p' q' e1 e2 kz' Z' L1.W L2.W ps ms ms') (a1':EB K H s1' r1 e1 g1 b1 L1 R1 "c." vs) (a2':EB K H s2' r2 e2 g2 b2 L2 R2 "d." vs'):Dx K H (.ref t) (.ref t') [true,true,true]:=by
 refine⟨t,t',_,_,rfl,rfl,.inl ⟨SqT.of h,SqT.of h'⟩,rfl,rfl,fun j x y b hx hy hb=>?_⟩
 match j,hx,hy,hb with
 |0,hx,hy,hb=>
  cases hx;cases hy;cases hb
  exact pw o.at_.tup o'.at_.tup (lO o.hp o'.hp ((List.perm_ext_iff_of_nodup (ba o.n1) (ba o'.n1)).mpr fun x=>(o.m1 x).trans (o'.m1 x).symm) o'.n1) (yJ o.hq o'.hq o.at_.ts o'.at_.ts ((List.perm_ext_iff_of_nodup (ba o.n2) (ba o'.n2)).mpr fun x=>(o.m2 x).trans (o'.m2 x).symm) o'.n2) _
 |1,hx,hy,hb=>cases hx;cases hy;cases hb;exact uL a1 a1' (lO o.h1 o'.h1 ((o.a1.trans o'.a1.symm).map _) (vk (o'.a1.nodup_iff.mpr nd1)))
 |2,hx,hy,hb=>cases hx;cases hy;cases hb;exact uL a2 a2' (lO o.h2 o'.h2 ((o.a2.trans o'.a2.symm).map _) (vk (o'.a2.nodup_iff.mpr nd2)))
 |j+3,hx,_,_=>cases hx
end
theorem kj {H:Hp}{d a:Addr}{ys xs:List V}{u:HO}(h:H d=some (.lst ys))(s:SqT K H a xs):SqT K (p7 H d u) a xs:=by
 rcases s with s|s
 ·refine .inl ?_
  by_cases z:a=d
  ·subst z
   rcases s with s|⟨_,s⟩<;>(rw[h] at s;cases s)
  ·unfold Rd
   rw[d7 z];exact s
 ·exact .inr s
theorem ym {H:Hp}{d a:Addr}{ys xs:List V}{u:HO}(h:H d=some (.lst ys))(ne:xs≠ys)(s:SqL K H a xs):SqL K (p7 H d u) a xs:=by
 rcases s with s|s
 ·refine .inl ?_
  by_cases z:a=d
  ·subst z
   rcases s with s|⟨_,s⟩
   ·rw[h] at s;cases s;exact absurd rfl ne
   ·rw[h] at s;cases s
  ·unfold Rd
   rw[d7 z];exact s
 ·exact .inr s
theorem BarL.updL {H:Hp}{d r:Addr}{ys xs:List V}{u:HO}(h:BarL K H r xs)(hd:H d=some (.lst ys))(ne:xs≠ys):BarL K (p7 H d u) r xs:=by
 obtain⟨x,y,bl,h1,h2⟩:=h
 exact⟨x,y,bl,kj hd h1,ym hd ne h2⟩
theorem zl {H:Hp}{d a:Addr}(h:∃kv,H a=some (.dK kv)):∃kv,p7 H d (.dK []) a=some (.dK kv):=by
 by_cases z:a=d
 ·exact⟨[],by rw[z];exact j7⟩
 ·obtain⟨kv,h⟩:=h
  exact⟨kv,by rw[d7 z];exact h⟩
structure Due (K:PySem.W.Frag) (H:Hp) (t z p q e1 e2 s1 r1 g1 s2 r2 g2:Addr) (kz:List (j8×V)) (Z P R:E7) (ps:List (Str×Str)) (ms ms' vs vs':List Str):Prop where
 t:H t=some (.tup [.ref z,.ref s1,.ref s2])
 o:OW K H z p q e1 e2 kz Z P R ps ms ms'
 a:H s1=some (.tup [.ref r1,.ref e1,.ref g1])
 b:H s2=some (.tup [.ref r2,.ref e2,.ref g2])
 f:H g1=some (.dK (r6 (vs.map fun n=>(n,"c."++n))))
 g:H g2=some (.dK (r6 (vs'.map fun n=>(n,"d."++n))))
section
variable {H:Hp} {t z p q e1 e2 s1 r1 g1 s2 r2 g2 d:Addr} {kz:List (j8×V)} {Z P0 R:E7} {ps:List (Str×Str)} {ms ms' vs vs':List Str}
theorem Due.same {H':Hp}(h:Due K H t z p q e1 e2 s1 r1 g1 s2 r2 g2 kz Z P0 R ps ms ms' vs vs')(m:Same H H'):Due K H' t z p q e1 e2 s1 r1 g1 s2 r2 g2 kz Z P0 R ps ms ms' vs vs':=⟨m _ _ h.t,h.o.same m,m _ _ h.a,m _ _ h.b,m _ _ h.f,m _ _ h.g⟩
theorem Due.updD {kv:List (j8×V)}(h:Due K H t z p q e1 e2 s1 r1 g1 s2 r2 g2 kz Z P0 R ps ms ms' vs vs')(hd:H d=some (.dK kv))(n:p≠d∧q≠d∧e1≠d∧e2≠d∧g1≠d∧g2≠d):Due K (p7 H d (.dK [])) t z p q e1 e2 s1 r1 g1 s2 r2 g2 kz Z P0 R ps ms ms' vs vs':=by
 obtain⟨n1,n2,n3,n4,n5,n6⟩:=n
 have o:=h.o
 have tu:∀{x:Addr} {xs:List V},H x=some (.tup xs)→p7 H d (.dK []) x=some (.tup xs):=fun{x xs} hx=>by
  rw[d7 fun y=>by rw[y,hd] at hx;cases hx];exact hx
 have u:∀{x:Addr} {w:HO},x≠d→H x=some w→p7 H d (.dK []) x=some w:=fun hn hx=>by rw[d7 hn];exact hx
 exact⟨tu h.t,⟨⟨N3 hd o.at_.tup,.inl (u n1 o.hp),.inl (u n2 o.hq),U7 hd o.at_.ts⟩,u n1 o.hp,u n2 o.hq,o.ne,o.n1,o.n2,o.m1,o.m2,o.l1,o.l2,o.a1,o.a2,u n3 o.h1,u n4 o.h2⟩,tu h.a,tu h.b,u n5 h.f,u n6 h.g⟩
theorem Due.updL {ys:List V}{w:HO}(h:Due K H t z p q e1 e2 s1 r1 g1 s2 r2 g2 kz Z P0 R ps ms ms' vs vs')(hd:H d=some (.lst ys)):Due K (p7 H d w) t z p q e1 e2 s1 r1 g1 s2 r2 g2 kz Z P0 R ps ms ms' vs vs':=by
 have o:=h.o
 have tu:∀{x:Addr} {xs:List V},H x=some (.tup xs)→p7 H d w x=some (.tup xs):=fun{x xs} hx=>by
  rw[d7 fun y=>by rw[y,hd] at hx;cases hx];exact hx
 have u:∀{x:Addr} {kv:List (j8×V)},H x=some (.dK kv)→p7 H d w x=some (.dK kv):=fun{x kv} hx=>by
  rw[d7 fun y=>by rw[y,hd] at hx;cases hx];exact hx
 exact⟨tu h.t,⟨⟨kj hd o.at_.tup,.inl (u o.hp),.inl (u o.hq),Paired.imp' (fun _ _ ⟨e,a,e2,z⟩=>⟨e,a,e2,kj hd z⟩) o.at_.ts⟩,u o.hp,u o.hq,o.ne,o.n1,o.n2,o.m1,o.m2,o.l1,o.l2,o.a1,o.a2,u o.h1,u o.h2⟩,tu h.a,tu h.b,u h.f,u h.g⟩
end
set_option maxHeartbeats 8000000 in
theorem As {f:Addr}{fd:FuncData}(T:Txt K mg)(A6:Y8 P w K mg base)(F5:aw P w K mg base)(Q7:dH P w K mg base)(V9:cg P w K mg base)(I0:bC P w K mg base)(F3:aD P w K mg base)(D1:U5 P w K mg base)(aC:ee P w K mg base)(O5:cQ P w K mg base)(F:Fun K "law" "law" uA f fd):p0 P w K mg base x9 7 f fd ["_law_script"] (kc K):=by
 refine F.ok sc_law (fun vs H Q E h=>?_) (fun cdv A outer s H vs Q E hr h=>?_)
 ·obtain⟨a,ns,rfl,_⟩:=h
  rfl
 ·obtain⟨a,ns,rfl,hA,hl,k⟩:=h
  have hN:=sc_law.nd
  have hu:=A1 hr
  refine⟨_,QSs.r (C6 (z8 (i:=1) hN rfl (by walk_at "l") (qC A6 (hr.mono (by decide)) o9 (i9 (qC F5 (hr.mono (by decide)) o9 (i9 (qV 0) (i9 j0 o3))) (i9 j0 o3))))
   (C6 (z8 (i:=2) hN rfl (by walk_at "l") (x6 (x8 K hu) (S7 (i9 (S7 (i9 P8 o3)) (i9 (S7 (i9 P8 (i9 P8 o3))) o3))) (F7 D6 (qV 1) j0) (fun _ _=>rfl)))
   (C6 (z8 (i:=3) hN rfl (by walk_at "l") (qC Q7 (hr.mono (by decide)) o9 (i9 (DX (Ef K) (qV 0) (CQ j0) (CQ j0)) (i9 (qV 2) o3))))
   (C6 (z8 (i:=4) hN rfl (by walk_at "l") (qC Q7 (hr.mono (by decide)) o9 (i9 (DX (Ef K) (qV 0) (CQ j0) (CQ j0)) (i9 (qV 2) o3))))
   (C6 (z8 (i:=5) hN rfl (by walk_at "l") (qC V9 (hr.mono (by decide)) o9 (i9 (x6 (x8 K hu) (qV 3) j0 (fun _ _=>rfl)) (i9 (x6 (x8 K hu) (qV 4) j0 (fun _ _=>rfl)) (i9 (qC A6 (hr.mono (by decide)) o9 (i9 (qC F5 (hr.mono (by decide)) o9 (i9 (qV 0) (i9 j0 o3))) (i9 j0 o3))) o3)))))
   (C6 (z8 (i:=6) hN rfl (by walk_at "l") (x6 (x8 K hu) (S7 (i9 (F7 (V7 K) (qV 5) (S7 (i9 (K1 (i9 P8 (i9 P8 o3))) o3))) (i9 (kI (CN K rfl) T.b_tuple Boot.«tuple» (i9 (qV 5) o3)) (i9 En (i9 (S7 (i9 j0 o3)) (i9 P8 (i9 (S7 (i9 (S7 (i9 P8 (i9 P8 o3))) o3)) o3))))))) (F7 D6 (qC A6 (hr.mono (by decide)) o9 (i9 (qC F5 (hr.mono (by decide)) o9 (i9 (qV 0) (i9 j0 o3))) (i9 j0 o3))) j0) (fun _ _=>rfl)))
   (C6 (fb (C7 (N7 K hr) (F7 D6 (F7 D5 (qV 1) j0) j0) j0 (z0 _)) (C6 (z8 (i:=7) hN rfl (by walk_at "l") (S7 (i9 (qV 3) (i9 (qV 4) o3))))
   (C6 (Y9 (qC I0 (hr.mono (by decide)) o9 (i9 (x6 (x8 K hu) (qV 7) (F7 D6 (F7 D5 (qV 1) j0) j0) (fun _ _=>rfl)) o3)) (lE (qV 7) (F7 D6 (F7 D5 (qV 1) j0) j0) (x5 P w hu)))
   (C6 (fb (C7 (N7 K hr) (F7 D6 (F7 D5 (qV 1) j0) j0) j0 (z0 _)) (E6 (z8 (i:=7) hN rfl (by walk_at "l") (S7 (i9 (qC I0 (hr.mono (by decide)) o9 (i9 (qV 3) o3)) (i9 (qC I0 (hr.mono (by decide)) o9 (i9 (qV 4) o3)) o3))))) ie)
   (C6 (fb (C7 (jv K hr) (qC F3 (hr.mono (by decide)) o9 (i9 (x6 (x8 K hu) (qV 7) j0 (fun _ _=>rfl)) (i9 (x6 (x8 K hu) (qV 7) j0 (fun _ _=>rfl)) (i9 (qV 6) (i9 kE o3))))) (S7 (i9 kE (i9 kE (i9 kE o3)))) (z0 _)) (E6 (C9 kE)) ie)
   (E6 (fb (C7 (jv K hr) (qC F3 (hr.mono (by decide)) o9 (i9 (x6 (x8 K hu) (qV 7) j0 (fun _ _=>rfl)) (i9 (x6 (x8 K hu) (qV 7) j0 (fun _ _=>rfl)) (i9 (qV 5) (i9 (iH (N7 K hr) (F7 D6 (F7 D5 (qV 1) j0) j0) j0 (z0 _)) o3))))) (S7 (i9 kE (i9 kE (i9 kE o3)))) (z0 _)) (E6 (C9 kE)) ie)))))) ie)
   (C6 (fb (vX (dY (C7 (N7 K hr) (F7 D6 (F7 D5 (qV 1) j0) j0) j0 (z0 _)) (df (C7 (jv K hr) (qC F3 (hr.mono (by decide)) o9 (i9 (qV 3) (i9 (qV 4) (i9 (qV 6) (i9 kE o3))))) (S7 (i9 kE (i9 kE (i9 kE o3)))) (z0 _))))) (E6 (C9 kE)) ie)
   (C6 (z8 (i:=8) hN rfl (by walk_at "l") (qC D1 (hr.mono (by decide)) tZ (i9 (qV 3) (i9 (qV 4) (i9 (kI (oK K rfl) T.b_list Boot.«list» (i9 (qV 5) o3)) o3)))))
   (C6 (Y9 (qC aC (hr.mono (by decide)) o9 (i9 (x6 (x8 K hu) (qV 3) j0 (fun _ _=>rfl)) (i9 (x6 (x8 K hu) (qV 4) j0 (fun _ _=>rfl)) (i9 (qV 5) o3)))) (wb K rfl (ic (U6 (i:=9) hN rfl (by walk_at "l")) (ic (U6 (i:=10) hN rfl (by walk_at "l")) (ic (U6 (i:=11) hN rfl (by walk_at "l")) we)))))
   (C6 (z8 (i:=12) hN rfl (by walk_at "l") (K1 (i9 (qV 9) (i9 (K1 (i9 (qV 3) (i9 (qV 10) (i9 (qC O5 (hr.mono (by decide)) o9 (i9 (qV 3) (i9 P8 o3))) o3)))) (i9 (K1 (i9 (qV 4) (i9 (qV 11) (i9 (qC O5 (hr.mono (by decide)) o9 (i9 (qV 4) (i9 P8 o3))) o3)))) o3)))))
   (C6 (fb (vX (wI (mW (bB K (qB (qi K P w) T.b_isinstance Boot.«isinstance» (i9 (qV 8) (i9 (Ds "tuple" T.b_tuple Boot.«tuple») o3))))) (pK (C7 (jv K hr) (qV 8) (qV 12) (z0 _))))) (E6 (C9 kE)) ie)
   (C6 (wa (Cy PySem.F.plainAttrs_dict PySem.F.slot_dict_clear PySem.F.type_dict_clear ah K (x6 (x8 K hu) (x6 (x8 K hu) (qV 8) j0 (fun _ _=>rfl)) j0 (fun _ _=>rfl))))
   (C6 (wa (Cy PySem.F.plainAttrs_dict PySem.F.slot_dict_clear PySem.F.type_dict_clear ah K (x6 (x8 K hu) (x6 (x8 K hu) (x6 (x8 K hu) (x6 (x8 K hu) (qV 8) j0 (fun _ _=>rfl)) j0 (fun _ _=>rfl)) j0 (fun _ _=>rfl)) j0 (fun _ _=>rfl))))
   (C6 (wa (qM PySem.F.plainAttrs_list PySem.F.slot_list_append PySem.F.type_list_append Z7 K (x6 (x8 K hu) (x6 (x8 K hu) (x6 (x8 K hu) (qV 8) j0 (fun _ _=>rfl)) j0 (fun _ _=>rfl)) j0 (fun _ _=>rfl)) (i9 j0 o3)))
   (E6 (C9 (iH (N7 K hr) (qC D1 (hr.mono (by decide)) tZ (i9 (qV 3) (i9 (qV 4) (i9 (qV 5) o3)))) (qV 12) (z0 _))))))))))))))))))),?_⟩
  refine q8 fun nx1 hx=>?_
  walk_at "e"
  refine⟨a,ns,0,rfl,hA,hl,by omega,fun c0=>?_⟩
  walk_at "e"
  refine⟨c0,0,rfl,by omega,by omega,fun c hc=>?_⟩
  walk_at "e"
  refine hx [some (.ref a),some (.int c),none,none,none,none,none,none,none,none,none,none,none] _ ?_
  clear hx
  refine q8 fun nx3 hx=>?_
  walk_at "e"
  refine⟨h9 (by simp),fun k1 n1=>?_⟩
  obtain⟨H1,e1,f1,m1,_⟩:=d6 (o:= .lst _) n1
  rw[e1]
  walk_at "e"
  refine⟨h9 (by simp),fun k2 n2=>?_⟩
  obtain⟨H2,e2,f2,m2,_⟩:=d6 (o:= .lst _) n2
  rw[e2]
  walk_at "e"
  refine⟨h9 (by simp),fun k3 n3=>?_⟩
  obtain⟨H3,e3,f3,m3,_⟩:=d6 (o:= .lst _) n3
  rw[e3]
  walk_at "e"
  obtain⟨y,hy,hyy⟩:=Am (.ref k1) (.ref k2) c
  refine k9 (SqL.of f3) hy ?_
  obtain⟨lk,ks,rfl,hks,hk0,hk2⟩:∃(lk:Addr) (ks:List Str),y= .ref lk∧H3 lk=some (.lst (ks.map V.str))∧0<ks.length∧ks.length≤2:=by
   rcases hyy with rfl|rfl
   ·exact⟨k1,["p"],rfl,m3 _ _ (m2 _ _ f1),by decide,by decide⟩
   ·exact⟨k2,["p","q"],rfl,m3 _ _ f2,by decide,by decide⟩
  have m03:=m1.trans (m2.trans m3)
  clear hyy hy f1 f2 f3 e1 e2 e3
  walk_at "e"
  refine hx [some (.ref a),some (.int c),some (.ref lk),none,none,none,none,none,none,none,none,none,none] _ ?_
  clear hx
  refine q8 fun nx4 hx=>?_
  walk_at "e"
  refine ib (m03.seq hA) (fun l4 n4=>?_)
  obtain⟨cs,hcs,hcl⟩:=yH ns 3 8 5 (by decide)
  rw[show cX (ns.map V.int) (some 3) (some 8)=cs.map V.int from hcs]
  obtain⟨H4,e4,f4,m4,_⟩:=d6 (o:= .lst (cs.map V.int)) n4
  rw[e4]
  walk_at "e"
  refine⟨l4,lk,cs,ks,rfl,SqL.of f4,hcl,SqL.of (m4 _ _ hks),hk0,hk2,fun r1 b1 L1 R1 ss1 H5 m5 A5 _ _ _=>?_⟩
  walk_at "e"
  refine hx [some (.ref a),some (.int c),some (.ref lk),some (.ref r1),none,none,none,none,none,none,none,none,none] _ ?_
  clear hx
  have m35:=m4.trans m5
  have m05:=m03.trans m35
  have g5:=m35 _ _ hks
  clear f4 e4 hcs hcl hks
  refine q8 fun nx5 hx=>?_
  walk_at "e"
  refine ib (m05.seq hA) (fun l6 n6=>?_)
  obtain⟨cs',hcs,hcl⟩:=yH ns 8 13 5 (by decide)
  rw[show cX (ns.map V.int) (some 8) (some 13)=cs'.map V.int from hcs]
  obtain⟨H6,e6,f6,m6,_⟩:=d6 (o:= .lst (cs'.map V.int)) n6
  rw[e6]
  walk_at "e"
  refine⟨l6,lk,cs',ks,rfl,SqL.of f6,hcl,SqL.of (m6 _ _ g5),hk0,hk2,fun r2 b2 L2 R2 ss2 H7 m7 B7 _ _ _=>?_⟩
  walk_at "e"
  refine hx [some (.ref a),some (.int c),some (.ref lk),some (.ref r1),some (.ref r2),none,none,none,none,none,none,none,none] _ ?_
  clear hx
  have m57:=m6.trans m7
  have m07:=m05.trans m57
  have A7:=A5.same m57
  clear f6 e6 hcs hcl A5 g5
  refine q8 fun nx6 hx=>?_
  walk_at "e"
  refine b7 A7.tup (b5 (j:=0) rfl) ?_
  walk_at "e"
  refine b7 B7.tup (b5 (j:=0) rfl) ?_
  walk_at "e"
  refine⟨a,ns,1,rfl,m07.seq hA,hl,by omega,fun c1=>?_⟩
  walk_at "e"
  refine⟨c1,1,rfl,by omega,by omega,fun c1' hc1=>?_⟩
  walk_at "e"
  refine⟨_,_,_,_,_,_,_,_,L1.W,L2.W,c1',rfl,hc1,A7.l,B7.l,fun lp H8 xs ps nlp m8 flp hx13 prs ov=>?_⟩
  walk_at "e"
  refine hx [some (.ref a),some (.int c),some (.ref lk),some (.ref r1),some (.ref r2),some (.ref lp),none,none,none,none,none,none,none] _ ?_
  clear hx
  have m08:=m07.trans m8
  have A8:=A7.same m8
  have B8:=B7.same m8
  have hxl:=Paired.length prs
  clear A7 B7
  refine q8 fun nx7 hx=>?_
  walk_at "e"
  refine⟨h9 (by simp),fun t1 nt1=>?_⟩
  obtain⟨I1,e1,f1,i1,_⟩:=d6 (o:= .tup [.str "?",.str "?"]) nt1
  rw[e1]
  walk_at "e"
  refine⟨h9 (by simp),fun l2 nl2=>?_⟩
  obtain⟨I2,e2,f2,i2,_⟩:=d6 (o:= .lst [.ref t1]) nl2
  rw[e2]
  have i12:=i1.trans i2
  walk_at "e"
  refine vK (i12 _ _ flp) f2 (h9 (by simp;omega)) (fun v0 nv0=>?_)
  obtain⟨I3,e3,f3,i3,_⟩:=d6 (o:= .lst (xs++[.ref t1])) nv0
  rw[e3]
  have i13:=i12.trans i3
  have O0:BadV K I3 L1.W L2.W (.ref v0):=zY f3 (by simp;omega) (wV (prs.mono i13.le) (xZ ((i2.trans i3) _ _ f1))) (CG A8.l.qm (m:="?") (List.mem_append_right _ (List.mem_singleton.mpr rfl)))
  walk_at "e"
  refine .inl ⟨lp,xs,rfl,.inl ⟨SqL.of (i13 _ _ flp),fun v1 nv1=>?_⟩⟩
  obtain⟨I4,e4,f4,i4,_⟩:=d6 (o:= .tup xs) nv1
  rw[e4]
  walk_at "e"
  refine⟨h9 (by simp),fun v3 nv3=>?_⟩
  obtain⟨I5,e5,f5,i5,_⟩:=d6 (o:= .lst [.int 1]) nv3
  rw[e5]
  walk_at "e"
  refine⟨h9 (by simp),fun t6 nt6=>?_⟩
  obtain⟨I6,e6,f6,i6,_⟩:=d6 (o:= .lst [.str "?",.str "?"]) nt6
  rw[e6]
  walk_at "e"
  refine⟨h9 (by simp),fun v5 nv5=>?_⟩
  obtain⟨I7,e7,f7,i7,_⟩:=d6 (o:= .lst [.ref t6]) nv5
  rw[e7]
  walk_at "e"
  refine⟨h9 (by simp),fun w8 nw8=>?_⟩
  obtain⟨I8,e8,f8,i8,_⟩:=d6 (o:= .lst [.ref v0,.ref v1,.non,.ref v3,.str "",.ref v5]) nw8
  rw[e8]
  have i78:=i7.trans i8
  have i58:=i6.trans i78
  have i48:=i5.trans i58
  have i38:=i4.trans i48
  have bad1:∀{l:Addr} {x:V} {t:String},I8 l=some (.lst [x])→TyB K I8 x t→du t "tuple"=false→BadV K I8 L1.W L2.W (.ref l):=fun h1 h2 h3=> .inr ⟨_,_,rfl,h1,by simp,.inl ⟨[false],.cons (.inr ⟨rfl,_,h2,h3⟩) .nil,by simp⟩⟩
  walk_at "e"
  refine⟨a,ns,2,rfl,(m08.trans (i13.trans i38)).seq hA,hl,by omega,fun c2=>?_⟩
  walk_at "e"
  refine⟨c2,2,rfl,by omega,by omega,fun c2' hc2=>?_⟩
  walk_at "e"
  obtain⟨ov',hov,bad⟩:=zh (u0:= .ref v0) (u1:= .ref v1) (u2:= .non) (u3:= .ref v3) (u4:= .str "") (u5:= .ref v5) c2' (Pr:=BadV K I8 L1.W L2.W) (O0.same i38) (.inl ⟨"tuple",.inr (.inl ⟨rfl,_,SqT.of (i48 _ _ f4)⟩),by decide⟩) (.inl ⟨"NoneType",rfl,by decide⟩) (bad1 (i58 _ _ f5) (x:= .int 1) (t:="int") rfl rfl) (.inl ⟨"str",rfl,by decide⟩) (bad1 (i8 _ _ f7) (x:= .ref t6) (t:="list") (.inl ⟨rfl,_,SqL.of (i78 _ _ f6)⟩) rfl)
  refine k9 (SqL.of f8) hov ?_
  have i18:=i13.trans i38
  have m18:=m08.trans i18
  have A9:=A8.same i18
  have B9:=B8.same i18
  have fl9:=i18 _ _ flp
  have pr9:=prs.mono i18.le
  clear O0 bad1 f1 f2 f3 f4 f5 f6 f7 f8 e1 e2 e3 e4 e5 e6 e7 e8 A8 B8 prs flp
  walk_at "e"
  refine hx [some (.ref a),some (.int c),some (.ref lk),some (.ref r1),some (.ref r2),some (.ref lp),some ov',none,none,none,none,none,none] _ ?_
  clear hx
  have bx1:∀{G:Hp},Same I8 G→BarL K G r1 []:=fun s=>(A9.same s).barL
  have bx2:∀{G:Hp},Same I8 G→BarL K G r2 []:=fun s=>(B9.same s).barL
  refine q8 fun nx8 hx=>?_
  suffices go:∀(u:Option V) (H':Hp),Same I8 H'→nx8 [some (.ref a),some (.int c),some (.ref lk),some (.ref r1),some (.ref r2),some (.ref lp),some ov',u,none,none,none,none,none] H' by
   walk_at "e"
   refine K4 (fun b0=>?_) (fun b0=>?_)
   ·refine q8 fun nxa ha=>?_
    walk_at "e"
    refine⟨h9 (by simp),fun ls nls=>?_⟩
    obtain⟨J1,e1,f1,j1,_⟩:=d6 (o:= .lst [.ref r1,.ref r2]) nls
    rw[e1]
    walk_at "e"
    refine ha [some (.ref a),some (.int c),some (.ref lk),some (.ref r1),some (.ref r2),some (.ref lp),some ov',some (.ref ls),none,none,none,none,none] _ ?_
    clear ha
    refine q8 fun nxb ha=>?_
    suffices go2:∀(q1 q2:Addr) (xs ys:List V) (H':Hp),Same I8 H'→H' ls=some (.lst [.ref q1,.ref q2])→BarL K H' q1 xs→BarL K H' q2 ys→0<xs.length+ys.length→nxb [some (.ref a),some (.int c),some (.ref lk),some (.ref r1),some (.ref r2),some (.ref lp),some ov',some (.ref ls),none,none,none,none,none] H' by
     have c8:c/8 % 2=0∨c/8 % 2=1:=by omega
     walk_at "e"
     rcases c8 with c8|c8
     ·rw[c8]
      refine k9 (SqL.of f1) (b5 (j:=0) rfl) ?_
      walk_at "e"
      refine⟨r1,b1,L1,R1,rfl,A9.same j1,fun r3 x3 J2 j2 bl3=>?_⟩
      walk_at "e"
      refine J0 (.inl ⟨ls,_,0,0,rfl,by rw[c8],j2 _ _ f1,rfl,?_⟩)
      have s3:Same I8 (p7 J2 ls (.lst ([V.ref r1,.ref r2].set 0 (.ref r3)))):=C8 (j1.trans j2) nls
      exact go2 r3 r2 [x3] [] _ s3 j7 (bl3.updL (j2 _ _ f1) (by simp)) (bx2 s3) (by simp)
     ·rw[c8]
      refine k9 (SqL.of f1) (b5 (j:=1) rfl) ?_
      walk_at "e"
      refine⟨r2,b2,L2,R2,rfl,B9.same j1,fun r3 x3 J2 j2 bl3=>?_⟩
      walk_at "e"
      refine J0 (.inl ⟨ls,_,1,1,rfl,by rw[c8],j2 _ _ f1,rfl,?_⟩)
      have s3:Same I8 (p7 J2 ls (.lst ([V.ref r1,.ref r2].set 1 (.ref r3)))):=C8 (j1.trans j2) nls
      exact go2 r1 r3 [] [x3] _ s3 j7 (bx1 s3) (bl3.updL (j2 _ _ f1) (by simp)) (by simp)
    clear f1 e1 j1 nls
    intro q1 q2 xb yb J2 j2 f2 b1' b2' hpos
    refine ha _ _ ?_
    clear ha
    refine q8 fun nxc ha=>?_
    suffices go3:∀(ls q1 q2:Addr) (xs ys:List V) (H':Hp),Same I8 H'→H' ls=some (.lst [.ref q1,.ref q2])→BarL K H' q1 xs→BarL K H' q2 ys→0<xs.length+ys.length→nxc [some (.ref a),some (.int c),some (.ref lk),some (.ref r1),some (.ref r2),some (.ref lp),some ov',some (.ref ls),none,none,none,none,none] H' by
     walk_at "e"
     refine K4 (fun d0=>?_) (fun d0=>?_)
     ·walk_at "e"
      refine⟨r1,b1,L1,R1,rfl,A9.same j2,fun r3 x3 J3 j3 bl3=>?_⟩
      walk_at "e"
      refine⟨r2,b2,L2,R2,rfl,B9.same (j2.trans j3),fun r4 x4 J4 j4 bl4=>?_⟩
      walk_at "e"
      refine⟨h9 (by simp),fun lz nlz=>?_⟩
      obtain⟨J5,e5,f5,j5,_⟩:=d6 (o:= .lst [.ref r3,.ref r4]) nlz
      rw[e5]
      walk_at "e"
      exact go3 lz r3 r4 [x3] [x4] J5 (j2.trans (j3.trans (j4.trans j5))) f5 (bl3.same (j4.trans j5)) (bl4.same j5) (by simp)
     ·walk_at "e"
      exact go3 ls q1 q2 xb yb J2 j2 f2 b1' b2' hpos
    clear f2 b1' b2' j2 hpos
    intro ls q1 q2 xb yb J2 j2 f2 b1' b2' hpos
    refine ha _ _ ?_
    clear ha
    refine q8 fun nxd ha=>?_
    walk_at "e"
    refine k9 (SqL.of f2) (b5 (j:=0) rfl) ?_
    walk_at "e"
    refine k9 (SqL.of f2) (b5 (j:=1) rfl) ?_
    walk_at "e"
    refine⟨q1,q2,ov',false,rfl,.inl ⟨xb,yb,b1',b2',hpos,fun l3 J3 j3 f3=>?_⟩⟩
    walk_at "e"
    refine⟨h9 (by simp),fun l4 n4=>?_⟩
    obtain⟨J4,e4,f4,j4,_⟩:=d6 (o:= .lst [.bl true,.bl false,.bl true]) n4
    rw[e4]
    refine Ba (gc (SqL.of (j4 _ _ f3)) (SqL.of f4) rfl rfl ?_)
    rw[show S8 [V.bl true,.bl false,.bl true] [.bl true,.bl false,.bl true]=true from rfl]
    walk_at "e"
    refine ha [some (.ref a),some (.int c),some (.ref lk),some (.ref r1),some (.ref r2),some (.ref lp),some ov',some (.ref ls),none,none,none,none,none] _ ?_
    clear ha
    have j24:=j3.trans j4
    have f24:=j24 _ _ f2
    walk_at "e"
    refine k9 (SqL.of f24) (b5 (j:=0) rfl) ?_
    walk_at "e"
    refine k9 (SqL.of f24) (b5 (j:=1) rfl) ?_
    walk_at "e"
    refine⟨q1,q2,.ref lp,_,rfl,.inl ⟨xb,yb,b1'.same j24,b2'.same j24,hpos,fun l5 J5 j5 f5=>?_⟩⟩
    walk_at "e"
    refine⟨h9 (by simp),fun l6 n6=>?_⟩
    obtain⟨J6,e6,f6,j6,_⟩:=d6 (o:= .lst [.bl true,.bl false,.bl true]) n6
    rw[e6]
    refine Ba (gc (SqL.of (j6 _ _ f5)) (SqL.of f6) rfl rfl ?_)
    rw[show S8 [V.bl true,.bl false,.bl true] [.bl true,.bl false,.bl true]=true from rfl]
    walk_at "e"
    exact go _ J6 (j2.trans (j24.trans (j5.trans j6)))
   ·walk_at "e"
    exact go _ I8 (Same.refl _)
  intro u J1 j1
  refine hx _ _ ?_
  clear hx
  refine q8 fun nx9 hx=>?_
  suffices go:∀(H':Hp),Same I8 H'→nx9 [some (.ref a),some (.int c),some (.ref lk),some (.ref r1),some (.ref r2),some (.ref lp),some ov',u,none,none,none,none,none] H' by
   walk_at "e"
   refine K4 (fun b0=>?_) (fun b0=>?_)
   ·walk_at "e"
    refine⟨r1,r2,ov',false,rfl,.inr ⟨rfl,b1,b2,L1,R1,L2,R2,A9.same j1,B9.same j1,bad.same j1,fun l3 J3 j3 f3=>?_⟩⟩
    walk_at "e"
    refine⟨h9 (by simp),fun l4 n4=>?_⟩
    obtain⟨J4,e4,f4,j4,_⟩:=d6 (o:= .lst [.bl false,.bl true,.bl true]) n4
    rw[e4]
    refine Ba (gc (SqL.of (j4 _ _ f3)) (SqL.of f4) rfl rfl ?_)
    rw[show S8 [V.bl false,.bl true,.bl true] [.bl false,.bl true,.bl true]=true from rfl]
    walk_at "e"
    exact go J4 (j1.trans (j3.trans j4))
   ·walk_at "e"
    exact go J1 j1
  clear j1
  intro J2 j2
  refine hx _ _ ?_
  clear hx bad bx1 bx2
  have A2:=A9.same j2
  have B2:=B9.same j2
  have fl2:=j2 _ _ fl9
  have pr2:=pr9.mono j2.le
  clear A9 B9 fl9 pr9
  refine q8 fun nx10 hx=>?_
  walk_at "e"
  refine zS (ny (SqL.of fl2) (fun h5 nh5=>?_))
  obtain⟨G0,e3,f3,g0,_⟩:=d6 (o:= .lst xs) nh5
  rw[e3]
  have A3:=A2.same g0
  have B3:=B2.same g0
  have fl3:=g0 _ _ fl2
  have pr3:=pr2.mono g0.le
  clear A2 B2 fl2 pr2 e3
  walk_at "e"
  refine⟨r1,r2,.ref h5,rfl,.inr ⟨b1,b2,L1,R1,L2,R2,A3,B3,.inr ⟨ps,⟨h5,xs,rfl,f3,by omega,pr3,ov⟩,fun t z pz qz d1 d2 s1 q1 f1 c1 s2 q2 f2 c2 kz Z ns1 ns2 us us' L1' R1' L2' R2' G1 g1 ft ow S1 S2 npz nlp nc2=>?_⟩⟩⟩
  walk_at "e"
  refine hx [some (.ref a),some (.int c),some (.ref lk),some (.ref r1),some (.ref r2),some (.ref lp),some ov',u,some (.ref t),none,none,none,none] _ ?_
  clear hx
  refine q8 fun nx11 hx=>?_
  have A4:=A3.same g1
  have B4:=B3.same g1
  walk_at "e"
  refine b7 A4.tup (b5 (j:=0) rfl) ?_
  walk_at "e"
  refine b7 B4.tup (b5 (j:=0) rfl) ?_
  walk_at "e"
  refine⟨_,_,_,_,_,_,lp,_,_,L1.W,L2.W,ps,xs,rfl,A4.l,B4.l,⟨ov,A4.l.nd,B4.l.nd,A4.l.ends,B4.l.ends⟩,g1 _ _ fl3,pr3.mono g1.le,by omega,fun t' z' p' q' e1 e2 kz' Z' ms ms' G2 g2 ft' ow' np' nq' ne1 ne2=>?_⟩
  refine T4 (SqT.of ft') rfl ?_
  walk_at "e"
  refine hx [some (.ref a),some (.int c),some (.ref lk),some (.ref r1),some (.ref r2),some (.ref lp),some ov',u,some (.ref t),some (.ref z'),some (.ref e1),some (.ref e2),none] _ ?_
  clear hx ft'
  have A5:=A4.same g2
  have B5:=B4.same g2
  have g12:=g1.trans g2
  clear A4 B4
  refine q8 fun nx12 hx=>?_
  walk_at "e"
  refine⟨r1,b1,L1,R1,"c.",rfl,A5,by decide+kernel,fun x1 vs G3 nx1 g3 fx1 hv1=>?_⟩
  walk_at "e"
  refine⟨h9 (by simp),fun y1 ny1=>?_⟩
  obtain⟨G4,e4,f4,g4,_⟩:=d6 (o:= .tup [.ref r1,.ref e1,.ref x1]) ny1
  rw[e4]
  have g24:=g3.trans g4
  have B6:=B5.same g24
  walk_at "e"
  refine⟨r2,b2,L2,R2,"d.",rfl,B6,by decide+kernel,fun x2 vs' G5 nx2 g5 fx2 hv2=>?_⟩
  walk_at "e"
  refine⟨h9 (by simp),fun y2 ny2=>?_⟩
  obtain⟨G6,e6,f6,g6,_⟩:=d6 (o:= .tup [.ref r2,.ref e2,.ref x2]) ny2
  rw[e6]
  walk_at "e"
  refine⟨h9 (by simp),fun y3 ny3=>?_⟩
  obtain⟨G7,e7,f7,g7,_⟩:=d6 (o:= .tup [.ref z',.ref y1,.ref y2]) ny3
  rw[e7]
  have g67:=g6.trans g7
  have g47:=g5.trans g67
  have g37:=g4.trans g47
  have g27:=g3.trans g37
  have D7:Due K G7 y3 z' p' q' e1 e2 y1 r1 x1 y2 r2 x2 kz' Z' L1.W L2.W ps ms ms' vs vs':=⟨f7,ow'.same g27,g47 _ _ f4,g7 _ _ f6,g37 _ _ fx1,g67 _ _ fx2⟩
  walk_at "e"
  refine hx [some (.ref a),some (.int c),some (.ref lk),some (.ref r1),some (.ref r2),some (.ref lp),some ov',u,some (.ref t),some (.ref z'),some (.ref e1),some (.ref e2),some (.ref y3)] _ ?_
  clear hx e4 e6 e7 f4 f6 f7 fx1 fx2 ow'
  have g17:=g2.trans g27
  have g07:=g1.trans g17
  have dne:∀{d:Addr} {u:HO},G1 d=some u→p'≠d∧q'≠d∧e1≠d∧e2≠d∧x1≠d∧x2≠d:=fun hd=>⟨(d8 hd np').symm,(d8 hd nq').symm,(d8 hd ne1).symm,(d8 hd ne2).symm,(d8 (g2 _ _ hd) nx1).symm,(d8 ((g2.trans g24) _ _ hd) nx2).symm⟩
  have O7:=ow.same g17
  have S17:=S1.same g17
  have S27:=S2.same g17
  have A7:=A3.same g07
  have B7:=B3.same g07
  refine q8 fun nx13 hx=>?_
  walk_at "e"
  refine iW (iY (t:="tuple") (.inr (.inl ⟨rfl,_,SqT.of (g17 _ _ ft)⟩)) (by simp) ?_)
  rw[show du "tuple" "tuple"=true from rfl]
  walk_at "e"
  refine .inr ⟨[true,true,true],lQ A7.l.nd B7.l.nd (g17 _ _ ft) O7 S17 S27 D7.t D7.o ⟨D7.a,A7,D7.f,hv1⟩ ⟨D7.b,B7,D7.g,hv2⟩,?_⟩
  rw[show(!List.all [true,true,true] id)=false from rfl]
  walk_at "e"
  refine hx [some (.ref a),some (.int c),some (.ref lk),some (.ref r1),some (.ref r2),some (.ref lp),some ov',u,some (.ref t),some (.ref z'),some (.ref e1),some (.ref e2),some (.ref y3)] _ ?_
  clear hx
  have T7:=SqT.of (K:=K) (g17 _ _ ft)
  have Sa:=SqT.of (K:=K) S17.st
  have Sb:=SqT.of (K:=K) S27.st
  have Ra:=S17.ru.tup
  have Rb:=S27.ru.tup
  have La:=S17.ru.l.at_.tup
  refine q8 fun nx14 hx=>?_
  walk_at "e"
  refine b7 T7 (b5 (j:=0) rfl) ?_
  walk_at "e"
  refine b7 O7.at_.tup (b5 (j:=0) rfl) ?_
  walk_at "e"
  refine⟨.inr (.inr (.inl ⟨rfl,.inl ⟨_,O7.hp⟩⟩)),?_⟩
  walk_at "e"
  refine⟨pz,_,rfl,rfl,O7.hp,?_⟩
  walk_at "e"
  refine hx [some (.ref a),some (.int c),some (.ref lk),some (.ref r1),some (.ref r2),some (.ref lp),some ov',u,some (.ref t),some (.ref z'),some (.ref e1),some (.ref e2),some (.ref y3)] _ ?_
  clear hx
  have s8:Same G0 (p7 G7 pz (.dK [])):=C8 g07 npz
  have D8:=D7.updD O7.hp (dne ow.hp)
  have T8:=N3 (u:= .dK []) O7.hp T7
  have Sa8:=N3 (u:= .dK []) O7.hp Sa
  have Sb8:=N3 (u:= .dK []) O7.hp Sb
  have Ra8:=N3 (u:= .dK []) O7.hp Ra
  have Rb8:=N3 (u:= .dK []) O7.hp Rb
  have La8:=N3 (u:= .dK []) O7.hp La
  have p8:=zl (d:=pz) ⟨_,S17.ru.l.hp⟩
  have b8:p7 G7 pz (.dK []) c2=some (.lst []):=by
   have y:=S27.b
   rw[d7 fun w=>by rw[w,O7.hp] at y;cases y];exact y
  generalize p7 G7 pz (.dK [])=G8 at s8 D8 T8 Sa8 Sb8 Ra8 Rb8 La8 p8 b8
  clear T7 Sa Sb Ra Rb La O7 D7
  obtain⟨kv8,p8⟩:=p8
  refine q8 fun nx15 hx=>?_
  walk_at "e"
  refine b7 T8 (b5 (j:=1) rfl) ?_
  walk_at "e"
  refine b7 Sa8 (b5 (j:=0) rfl) ?_
  walk_at "e"
  refine b7 Ra8 (b5 (j:=0) rfl) ?_
  walk_at "e"
  refine b7 La8 (b5 (j:=0) rfl) ?_
  walk_at "e"
  refine⟨.inr (.inr (.inl ⟨rfl,.inl ⟨_,p8⟩⟩)),?_⟩
  walk_at "e"
  refine⟨L1'.p,_,rfl,rfl,p8,?_⟩
  walk_at "e"
  refine hx [some (.ref a),some (.int c),some (.ref lk),some (.ref r1),some (.ref r2),some (.ref lp),some ov',u,some (.ref t),some (.ref z'),some (.ref e1),some (.ref e2),some (.ref y3)] _ ?_
  clear hx
  have s9:Same G0 (p7 G8 L1'.p (.dK [])):=C8 s8 nlp
  have D9:=D8.updD p8 (dne S1.ru.l.hp)
  have T9:=N3 (u:= .dK []) p8 T8
  have Sb9:=N3 (u:= .dK []) p8 Sb8
  have Rb9:=N3 (u:= .dK []) p8 Rb8
  have b9:p7 G8 L1'.p (.dK []) c2=some (.lst []):=by
   rw[d7 fun w=>by rw[w,p8] at b8;cases b8];exact b8
  generalize p7 G8 L1'.p (.dK [])=G9 at s9 D9 T9 Sb9 Rb9 b9
  refine q8 fun nx16 hx=>?_
  walk_at "e"
  refine b7 T9 (b5 (j:=2) rfl) ?_
  walk_at "e"
  refine b7 Sb9 (b5 (j:=0) rfl) ?_
  walk_at "e"
  refine b7 Rb9 (b5 (j:=2) rfl) ?_
  walk_at "e"
  refine⟨.inl ⟨rfl,_,SqL.of b9⟩,?_⟩
  walk_at "e"
  refine⟨c2,_,_,rfl,rfl,b9,by decide,?_⟩
  walk_at "e"
  refine hx [some (.ref a),some (.int c),some (.ref lk),some (.ref r1),some (.ref r2),some (.ref lp),some ov',u,some (.ref t),some (.ref z'),some (.ref e1),some (.ref e2),some (.ref y3)] _ ?_
  clear hx
  have sA:Same G0 (p7 G9 c2 (.lst ([]++[.int 1]))):=C8 s9 nc2
  have DA:=D9.updL (w:= .lst ([]++[.int 1])) b9
  generalize p7 G9 c2 (.lst ([]++[.int 1]))=GA at sA DA
  have AA:=A3.same sA
  have BA:=B3.same sA
  walk_at "e"
  refine⟨r1,r2,.ref lp,rfl,.inr ⟨b1,b2,L1,R1,L2,R2,AA,BA,.inr ⟨ps,⟨lp,xs,rfl,sA _ _ fl3,by omega,pr3.mono sA.le,ov⟩,fun t3 z3 pz3 qz3 d3 d4 s3 q3 f3 c3 s4 q4 f4 c4 kz3 Z3 ns3 ns4 us3 us4 L3 R3 L4 R4 GB gB ft3 ow3 S3 S4 _ _ _=>?_⟩⟩⟩
  have DB:=DA.same gB
  have AB:=AA.same gB
  have BB:=BA.same gB
  walk_at "e"
  exact .inr ⟨[true,true,true],lQ AB.l.nd BB.l.nd ft3 ow3 S3 S4 DB.t DB.o ⟨DB.a,AB,DB.f,hv1⟩ ⟨DB.b,BB,DB.g,hv2⟩,k _⟩
end
theorem all_mk {l:PySem.W.OpenLaw}{w:World}{K:PySem.W.Frag}{h:Heap}{mg:Str→Option Value}{fa f0 f1 f2 f3 f4 f5 f6 f7 f8 f9 f10 f11 f12 f13 f14 f15 f16 f17 f18 f19 f20 f21 f22 f23 f24 f25 f26 f27 f28 f29 f30 f31 f32 f33 f34 f35 f36 f37 f38 f39 f40 f41 f42 f43 f44 f45 f46 f47 f48 f49 f50 f51 f52 f53 f54 f55 f56 f57 f58 f59 f60 f61 f62 f63 f64 f65 f66 f67:Addr}{C_GlueError C_HasBars C_NoOverlap:Addr}{cd_GlueError:ClassData}(X:K.In h)(G:h.Ns mainGlobals mg)(hfa:mg "law"=some (.ref fa))
  (a0:FnIn K "is_text_of" W6 f0)
  (a1:FnIn K "is_name" di f1)
  (a2:FnIn K "in_order" bM f2)
  (a3:FnIn K "copied" gM f3)
  (a4:FnIn K "things" fP f4)
  (a5:FnIn K "without" dv f5)
  (a6:FnIn K "united" gK f6)
  (a7:FnIn K "tie_renamed" T5 f7)
  (a8:FnIn K "renamed" dA f8)
  (a9:FnIn K "is_match" bQ f9)
  (a10:FnIn K "line" oC f10)
  (a11:FnIn K "first_match" S9 f11)
  (a12:FnIn K "first_found" U1 f12)
  (a13:FnIn K "found" jD f13)
  (a14:FnIn K "may_be" gJ f14)
  (a15:FnIn K "point_choices" O2 f15)
  (a16:FnIn K "tie_places" W5 f16)
  (a17:FnIn K "enough" gf f17)
  (a18:FnIn K "lines" jS f18)
  (a19:FnIn K "images" gy f19)
  (a20:FnIn K "tie_choices" S6 f20)
  (a21:FnIn K "has_room" bO f21)
  (a22:FnIn K "both" nF f22)
  (a23:FnIn K "alone" ku f23)
  (a24:FnIn K "kept" nI f24)
  (a25:FnIn K "taken" jK f25)
  (a26:FnIn K "fresh_of" bR f26)
  (a27:FnIn K "rule_copied" T1 f27)
  (a28:FnIn K "picked" gm f28)
  (a29:FnIn K "barred" gv f29)
  (a30:FnIn K "taken_out" aL f30)
  (a31:FnIn K "names_serve" U0 f31)
  (a32:FnIn K "rest_of" dy f32)
  (a33:FnIn K "done" oV f33)
  (a34:FnIn K "behind" fH f34)
  (a35:FnIn K "named_step" Y0 f35)
  (a36:FnIn K "common" fV f36)
  (a37:FnIn K "clash" jI f37)
  (a38:FnIn K "tie_paired" Y4 f38)
  (a39:FnIn K "names_of" bS f39)
  (a40:FnIn K "point_partners" L6 f40)
  (a41:FnIn K "tie_partners" P5 f41)
  (a42:FnIn K "pairings" bX f42)
  (a43:FnIn K "overlaps" bF f43)
  (a44:FnIn K "is_pair" dc f44)
  (a45:FnIn K "is_well_paired" M0 f45)
  (a46:FnIn K "is_overlap" V8 f46)
  (a47:FnIn K "marked" ia f47)
  (a48:FnIn K "overlap_web" U3 f48)
  (a49:FnIn K "refuse_bars" T3 f49)
  (a50:FnIn K "split_steps" T2 f50)
  (a51:FnIn K "is_split" bJ f51)
  (a52:FnIn K "splits" gR f52)
  (a53:FnIn K "_law_cell_at" P9 f53)
  (a54:FnIn K "_law_mix" bV f54)
  (a55:FnIn K "_law_names" X1 f55)
  (a56:FnIn K "_law_piece" W9 f56)
  (a57:FnIn K "_law_fits" aQ f57)
  (a58:FnIn K "_law_may" bW f58)
  (a59:FnIn K "_law_all" bG f59)
  (a60:FnIn K "_law_over" ak f60)
  (a61:FnIn K "_law_right" Y7 f61)
  (a62:FnIn K "_law_rule" aE f62)
  (a63:FnIn K "_law_drawn" X8 f63)
  (a64:FnIn K "_law_fresh" X7 f64)
  (a65:FnIn K "_law_barred" U2 f65)
  (a66:FnIn K "_law_refused" Q0 f66)
  (a67:FnIn K "law" uA f67)
  (z_ValueError:PySem.W.nsIn K mainGlobals "ValueError"=some none)
  (z_all:PySem.W.nsIn K mainGlobals "all"=some none)
  (z_any:PySem.W.nsIn K mainGlobals "any"=some none)
  (z_dict:PySem.W.nsIn K mainGlobals "dict"=some none)
  (z_enumerate:PySem.W.nsIn K mainGlobals "enumerate"=some none)
  (z_isinstance:PySem.W.nsIn K mainGlobals "isinstance"=some none)
  (z_len:PySem.W.nsIn K mainGlobals "len"=some none)
  (z_list:PySem.W.nsIn K mainGlobals "list"=some none)
  (z_range:PySem.W.nsIn K mainGlobals "range"=some none)
  (z_set:PySem.W.nsIn K mainGlobals "set"=some none)
  (z_sorted:PySem.W.nsIn K mainGlobals "sorted"=some none)
  (z_str:PySem.W.nsIn K mainGlobals "str"=some none)
  (z_sum:PySem.W.nsIn K mainGlobals "sum"=some none)
  (z_tuple:PySem.W.nsIn K mainGlobals "tuple"=some none)
  (n_GlueError:PySem.W.nsIn K mainGlobals "GlueError"=some (some (.ref C_GlueError)))
  (n_HasBars:PySem.W.nsIn K mainGlobals "HasBars"=some (some (.ref C_HasBars)))
  (n_NoOverlap:PySem.W.nsIn K mainGlobals "NoOverlap"=some (some (.ref C_NoOverlap)))
  (xr_HasBars:PySem.W.excIn K C_HasBars DL "ValueError.__new__"=true)
  (xr_NoOverlap:PySem.W.excIn K C_NoOverlap DL "ValueError.__new__"=true)
  (xt_GlueError:PySem.W.typeIn K (.ref C_GlueError)=some (.type "type"))
  (xe_GlueError:PySem.W.subIn K (.ref C_GlueError) (.type "BaseException")=some true)
  (xc_GlueError:PySem.W.clsIn K C_GlueError=some cd_GlueError)
  (xs_HasBars_GlueError:PySem.W.subIn K (.ref C_HasBars) (.ref C_GlueError)=some true)
  (xs_HasBars_HasBars:PySem.W.subIn K (.ref C_HasBars) (.ref C_HasBars)=some true)
  (xs_HasBars_NoOverlap:PySem.W.subIn K (.ref C_HasBars) (.ref C_NoOverlap)=some false)
  (xe_HasBars:ExN K C_HasBars)
  (xi_HasBars_HasBars:PySem.W.kitOne K (.ref C_HasBars) (.ref C_HasBars)=some true)
  (xi_HasBars_NoOverlap:PySem.W.kitOne K (.ref C_HasBars) (.ref C_NoOverlap)=some false)
  (xi_HasBars_ValueError:PySem.W.kitOne K (.ref C_HasBars) (.type "ValueError")=some true)
  (xs_NoOverlap_GlueError:PySem.W.subIn K (.ref C_NoOverlap) (.ref C_GlueError)=some true)
  (xs_NoOverlap_HasBars:PySem.W.subIn K (.ref C_NoOverlap) (.ref C_HasBars)=some false)
  (xs_NoOverlap_NoOverlap:PySem.W.subIn K (.ref C_NoOverlap) (.ref C_NoOverlap)=some true)
  (xe_NoOverlap:ExN K C_NoOverlap)
  (xi_NoOverlap_HasBars:PySem.W.kitOne K (.ref C_NoOverlap) (.ref C_HasBars)=some false)
  (xi_NoOverlap_NoOverlap:PySem.W.kitOne K (.ref C_NoOverlap) (.ref C_NoOverlap)=some true)
  (xi_NoOverlap_ValueError:PySem.W.kitOne K (.ref C_NoOverlap) (.type "ValueError")=some true)
  :
  ∃fd:FuncData,(∀(s:Shared) (v:Value),BindsTo s fd ⟨[v],[]⟩ [("_law_script",v)])∧∀base:Heap,K.In base→base.Ns mainGlobals mg→p0 l.prog w K mg base x9 7 fa fd ["_law_script"] (kc K):=by
 have ec_GlueError:cA K "GlueError"=C_GlueError:=by unfold cA;rw[n_GlueError]
 have ec_HasBars:cA K "HasBars"=C_HasBars:=by unfold cA;rw[n_HasBars]
 have ec_NoOverlap:cA K "NoOverlap"=C_NoOverlap:=by unfold cA;rw[n_NoOverlap]
 have T:Txt K mg:=⟨by rw[ec_HasBars];exact⟨PySem.W.mg_of X G n_HasBars,xr_HasBars⟩,by rw[ec_NoOverlap];exact⟨PySem.W.mg_of X G n_NoOverlap,xr_NoOverlap⟩,by rw[ec_GlueError];exact⟨PySem.W.mg_of X G n_GlueError,xt_GlueError,xe_GlueError,by rw[xc_GlueError];rfl⟩,by rw[ec_HasBars];exact⟨_,PySem.W.mg_of X G n_HasBars,rfl⟩,by rw[ec_NoOverlap];exact⟨_,PySem.W.mg_of X G n_NoOverlap,rfl⟩,by rw[ec_HasBars,ec_GlueError];exact xs_HasBars_GlueError,by rw[ec_HasBars];exact xs_HasBars_HasBars,by rw[ec_HasBars,ec_NoOverlap];exact xs_HasBars_NoOverlap,by rw[ec_HasBars];exact xe_HasBars,by rw[ec_HasBars];exact xi_HasBars_HasBars,by rw[ec_HasBars,ec_NoOverlap];exact xi_HasBars_NoOverlap,by rw[ec_HasBars];exact xi_HasBars_ValueError,by rw[ec_NoOverlap,ec_GlueError];exact xs_NoOverlap_GlueError,by rw[ec_NoOverlap,ec_HasBars];exact xs_NoOverlap_HasBars,by rw[ec_NoOverlap];exact xs_NoOverlap_NoOverlap,by rw[ec_NoOverlap];exact xe_NoOverlap,by rw[ec_NoOverlap,ec_HasBars];exact xi_NoOverlap_HasBars,by rw[ec_NoOverlap];exact xi_NoOverlap_NoOverlap,by rw[ec_NoOverlap];exact xi_NoOverlap_ValueError,PySem.W.mg_none_of X G z_ValueError,PySem.W.mg_none_of X G z_all,PySem.W.mg_none_of X G z_any,PySem.W.mg_none_of X G z_dict,PySem.W.mg_none_of X G z_enumerate,PySem.W.mg_none_of X G z_isinstance,PySem.W.mg_none_of X G z_len,PySem.W.mg_none_of X G z_list,PySem.W.mg_none_of X G z_range,PySem.W.mg_none_of X G z_set,PySem.W.mg_none_of X G z_sorted,PySem.W.mg_none_of X G z_str,PySem.W.mg_none_of X G z_sum,PySem.W.mg_none_of X G z_tuple⟩
 refine Af X G hfa a67 (fun{base f fd} F=>?_) fun _ _ _ _ _ _ s v=> .of_eq rfl
 have xx:ky l.prog w K mg base:=j9 X G a0 (fun F=>iu T F) (by walk_at "b")
 have Bu:rP l.prog w K mg base:=j9 X G a1 (fun F=>nY T F) (by walk_at "b")
 have Z1:fj l.prog w K mg base:=j9 X G a2 (fun F=>mH T F) (by walk_at "b")
 have U8:gb l.prog w K mg base:=j9 X G a4 (fun F=>rN T F) (by walk_at "b")
 have Bv:qD l.prog w K mg base:=j9 X G a5 (fun F=>oN T F) (by walk_at "b")
 have S0:bp l.prog w K mg base:=j9 X G a7 (fun F=>fL T F) (by walk_at "b")
 have Aw:oP l.prog w K mg base:=j9 X G a9 (fun F=>mO T F) (by walk_at "b")
 have EA:zB l.prog w K mg base:=j9 X G a10 (fun F=>wu T F) (by walk_at "b")
 have wc:ip l.prog w K mg base:=j9 X G a11 (fun F=>gU T F) (by walk_at "b")
 have vZ:iz l.prog w K mg base:=j9 X G a12 (fun F=>fk T F) (by walk_at "b")
 have DI:xX l.prog w K mg base:=j9 X G a13 (fun F=>tR T F) (by walk_at "b")
 have Cj:sL l.prog w K mg base:=j9 X G a14 (fun F=>rC T F) (by walk_at "b")
 have sx:er l.prog w K mg base:=j9 X G a15 (fun F=>dq T F) (by walk_at "b")
 have xM:jJ l.prog w K mg base:=j9 X G a16 (fun F=>ig T F) (by walk_at "b")
 have Dr:ug l.prog w K mg base:=j9 X G a17 (fun F=>qE T F) (by walk_at "b")
 have Dz:wU l.prog w K mg base:=j9 X G a18 (fun F=>vG T F) (by walk_at "b")
 have Cv:tT l.prog w K mg base:=j9 X G a19 (fun F=>qF T F) (by walk_at "b")
 have vY:iB l.prog w K mg base:=j9 X G a20 (fun F=>gh T F) (by walk_at "b")
 have Bo:nW l.prog w K mg base:=j9 X G a21 (fun F=>lq T F) (by walk_at "b")
 have Ea:AE l.prog w K mg base:=j9 X G a22 (fun F=>xG T F) (by walk_at "b")
 have El:Bq l.prog w K mg base:=j9 X G a24 (fun F=>xr T F) (by walk_at "b")
 have DF:xW l.prog w K mg base:=j9 X G a25 (fun F=>uk T F) (by walk_at "b")
 have Cg:tS l.prog w K mg base:=j9 X G a28 (fun F=>rh T F) (by walk_at "b")
 have CP:vy l.prog w K mg base:=j9 X G a29 (fun F=>qr T F) (by walk_at "b")
 have yV:mU l.prog w K mg base:=j9 X G a30 (fun F=>jQ T F) (by walk_at "b")
 have vW:iq l.prog w K mg base:=j9 X G a31 (fun F=>hJ T F) (by walk_at "b")
 have Bt:qu l.prog w K mg base:=j9 X G a32 (fun F=>ox T F) (by walk_at "b")
 have Eu:Bl l.prog w K mg base:=j9 X G a33 (fun F=>yk T F) (by walk_at "b")
 have Ca:tM l.prog w K mg base:=j9 X G a34 (fun F=>qp T F) (by walk_at "b")
 have BZ:tK l.prog w K mg base:=j9 X G a36 (fun F=>qL T F) (by walk_at "b")
 have Dv:xi l.prog w K mg base:=j9 X G a37 (fun F=>uZ T F) (by walk_at "b")
 have Z0:cG l.prog w K mg base:=j9 X G a38 (fun F=>iL T F) (by walk_at "b")
 have AD:nP l.prog w K mg base:=j9 X G a39 (fun F=>ll T F) (by walk_at "b")
 have rf:cT l.prog w K mg base:=j9 X G a40 (fun F=>cJ T F) (by walk_at "b")
 have uI:fo l.prog w K mg base:=j9 X G a41 (fun F=>eo T F) (by walk_at "b")
 have zD:nC l.prog w K mg base:=j9 X G a42 (fun F=>lh T F) (by walk_at "b")
 have bK:fz l.prog w K mg base:=j9 X G a43 (fun F=>lI T F) (by walk_at "b")
 have cY:jd l.prog w K mg base:=j9 X G a44 (fun F=>nM T F) (by walk_at "b")
 have E5:S5 l.prog w K mg base:=j9 X G a49 (fun F=>gu T F) (by walk_at "b")
 have bT:gi l.prog w K mg base:=j9 X G a51 (fun F=>lA T F) (by walk_at "b")
 have F5:aw l.prog w K mg base:=j9 X G a53 (fun F=>eO T F) (by walk_at "b")
 have A6:Y8 l.prog w K mg base:=j9 X G a54 (fun F=>kK T F) (by walk_at "b")
 have W8:bY l.prog w K mg base:=j9 X G a55 (fun F=>ir T F) (by walk_at "b")
 have ar:dQ l.prog w K mg base:=j9 X G a57 (fun F=>jR T F) (by walk_at "b")
 have C3:X4 l.prog w K mg base:=j9 X G a59 (fun F=>lR T F) (by walk_at "b")
 have W0:cI l.prog w K mg base:=j9 X G a61 (fun F=>iC T F) (by walk_at "b")
 have I0:bC l.prog w K mg base:=j9 X G a65 (fun F=>fX T F) (by walk_at "b")
 have F4:cF l.prog w K mg base:=j9 X G a3 (fun F=>qX T Z1 F) (by walk_at "b")
 have jT:ph l.prog w K mg base:=j9 X G a23 (fun F=>vM T U8 F) (by walk_at "b")
 have M5:V1 l.prog w K mg base:=j9 X G a45 (fun F=>cj T Z0 F) (by walk_at "b")
 have cm:mB l.prog w K mg base:=j9 X G a47 (fun F=>ql T U8 F) (by walk_at "b")
 have fE:kF l.prog w K mg base:=j9 X G a52 (fun F=>qt T E5 bT bK F) (by walk_at "b")
 have V6:cb l.prog w K mg base:=j9 X G a56 (fun F=>iA T A6 F) (by walk_at "b")
 have bU:gk l.prog w K mg base:=j9 X G a58 (fun F=>kO T ar F) (by walk_at "b")
 have aC:ee l.prog w K mg base:=j9 X G a60 (fun F=>jH T C3 F) (by walk_at "b")
 have O5:cQ l.prog w K mg base:=j9 X G a64 (fun F=>iK T C3 F) (by walk_at "b")
 have fZ:mh l.prog w K mg base:=j9 X G a6 (fun F=>qI T F4 F) (by walk_at "b")
 have aZ:jl l.prog w K mg base:=j9 X G a8 (fun F=>nu T S0 F4 F) (by walk_at "b")
 have bI:gr l.prog w K mg base:=j9 X G a26 (fun F=>lL T jT F) (by walk_at "b")
 have N5:bz l.prog w K mg base:=j9 X G a27 (fun F=>fi T F4 F) (by walk_at "b")
 have X0:cf l.prog w K mg base:=j9 X G a46 (fun F=>ik T cY M5 F) (by walk_at "b")
 have Q7:dH l.prog w K mg base:=j9 X G a62 (fun F=>jy T A6 W8 V6 W0 F) (by walk_at "b")
 have V9:cg l.prog w K mg base:=j9 X G a63 (fun F=>iJ T C3 bU F) (by walk_at "b")
 have O4:bZ l.prog w K mg base:=j9 X G a35 (fun F=>iI T bI F) (by walk_at "b")
 have U4:bA l.prog w K mg base:=j9 X G a48 (fun F=>gw T X0 cm fZ aZ F) (by walk_at "b")
 have D1:U5 l.prog w K mg base:=j9 X G a50 (fun F=>fm T E5 U4 O4 N5 F) (by walk_at "b")
 have F3:aD l.prog w K mg base:=j9 X G a66 (fun F=>eN T fE D1 F) (by walk_at "b")
 exact As T A6 F5 Q7 V9 I0 F3 D1 aC O5 F
theorem walk {l:PySem.W.OpenLaw}{q:Program}{loose:List Str}{XP:(Str→Option Value)→Heap→Prop}{YP:World→Heap→Prop}{d:DefRec}{K:Params→PySem.W.Frag}(hn:l.most=some 63)(hdf:d.params.defaults=[])
  (hY:∀(w:World) (h:Heap),YP w h→(K w.params).In h)
  (F:∀(w:World) (mg:Str→Option Value) (fa:Addr) (h:Heap),(K w.params).In h→h.Ns mainGlobals mg→mg d.name=some (.ref fa)→
   ∃fd:FuncData,(∀(s:Shared) (u:Value),BindsTo s fd ⟨[u],[]⟩ [("_law_script",u)])∧∀base:Heap,(K w.params).In base→base.Ns mainGlobals mg→p0 l.prog w (K w.params) mg base x9 7 fa fd ["_law_script"] (kc (K w.params))):
  PySem.W.WalkO q loose XP YP l.row.toRowW d [] (fun f vs=>PySem.call f vs):=
 L2.walk_of (n:=63) (k:=7) (x:="_law_script") (CX:=fun _=>x9) (sp:=fun w=>kc (K w.params)) hn (by decide) hdf ⟨rfl,by decide,by decide⟩ hY F (fun _ _ a ns hl _ hS=>⟨a,ns,rfl,hS,hl,fun _=>rfl⟩) fun _ _ _ _ _ z=>z
end K46
namespace PySem.W.Fast
def tw16435716473531217073:=True
def tw562006671451986406:=True
def tw6919821808445227805:=True
def tw807467203375564738:=True
def tw14236614827630844523:=True
def tw3189144902439031805:=True
def tw3648696848787025999:=True
def tw12503196665692908851:=True
def tw983794493003171519:=True
def tw12568182587188599324:=True
def tw7344844376369127163:=True
def tw5095855530762063604:=True
def tw18336228642077134347:=True
def tw16321262107864061370:=True
def tw15180094625950850654:=True
def tw15013479737109973424:=True
def tw6514260073016350468:=True
def tw3001994179100288894:=True
def tw18163761717858648193:=True
def tw18001011045433883512:=True
def tw2264556099518789977:=True
def tw1018558888369574417:=True
def tw7036493158087872537:=True
def tw6843311956323594444:=True
def tw15485973017053131288:=True
def tw3236866324283040986:=True
def tw9800843146658029402:=True
def tw2870863513810668461:=True
def tw11706429155221336036:=True
def tw2840619723328870729:=True
def tw17980424503173813464:=True
def tw6362709938956504394:=True
def tw2445054894713278509:=True
def tw18164657530351683803:=True
def tw10675607344715757277:=True
def tw10698825657313860727:=True
def tw13243492208477771901:=True
def tw8533972323061898523:=True
def tw11472204134888133922:=True
def tw8690514655016790841:=True
def tw18075741964775746111:=True
def tw120963077002342410:=True
def tw14851251355237219431:=True
def tw2281916213062940174:=True
def tw16133016774382835699:=True
def tw18229116095238085995:=True
def tw1128621332289296763:=True
def tw7910363825501353000:=True
def tw1937275332479434366:=True
def tw15182578989455034999:=True
def tw11036799507793171997:=True
def tw8647646168396416884:=True
def tw5255992004364280006:=True
def tw7577576589189916880:=True
def tw8088612061362056828:=True
def tw13474575908689181572:=True
def tw2928395998954257959:=True
def tw11606724529127527025:=True
def tw15077798440129402235:=True
def tw4928848384679660978:=True
def tw15125881625994673478:=True
def tw10629661820432501771:=True
def tw17045002662361708595:=True
def tw16935763437217655898:=True
def tw1723625831283958829:=True
def tw2528857852049519060:=True
def tw5528273800299716161:=True
def tw9340246723942203189:=True
def tw17013634708569779316:=True
def tw14172230532879110892:=True
def tw5049597486151139181:=True
def tw15983372701568405132:=True
def tw17840153042527261603:=True
def tw55111241368479851:=True
def tw8327889862171332984:=True
def tw485805144881414670:=True
def tw649018044139089065:=True
def tw2131534864621413898:=True
def tw7338533864561019762:=True
def tw9051530833891361606:=True
def tw5923807278257018482:=True
def tw17183246397449185439:=True
def tw9859535835709125603:=True
def tw10554321025423318179:=True
def tw1444922847313825783:=True
def tw10312393888445230648:=True
def tw4418439092569972157:=True
def tw17695899707924931197:=True
def tw12349805739063872195:=True
def tw15888191087484552660:=True
def tw12008093980224653364:=True
def tw16642214026742366704:=True
def tw6335955162062689059:=True
def tw14766609041301236421:=True
def tw4651366308659750639:=True
def tw4730640507300144140:=True
def tw14666462990064766315:=True
def tw11175657559509413302:=True
def tw15284414876684984687:=True
def tw17960757823842656974:=True
def tw8669098112448055289:=True
def tw5795625799767461542:=True
def tw11363354021198817547:=True
def tw16882492097909351911:=True
def tw17081546172682010696:=True
def tw11993699509972714284:=True
def tw11324181603575597262:=True
def tw15804749466642738483:=True
def tw758471821585513125:=True
def tw3999713368243262803:=True
def tw10856039766726245607:=True
def tw4700833536042340060:=True
def tw695677520690435957:=True
def tw3865272780917615648:=True
def tw5770967787588558055:=True
def tw14481677870760329378:=True
def tw828830467963993520:=True
def tw8784895533208227853:=True
def tw5652587529263226197:=True
def tw4461239930648702029:=True
def tw1257004406243027932:=True
def tw3440803806898440861:=True
def tw468189518598340354:=True
def tw1328423162335727323:=True
def tw3149602368970787372:=True
def tw254387953381253261:=True
end PySem.W.Fast
open PySem PySem.W PyProof.Rows
local macro_rules| `(tactic|walk_at "F")=> `(tactic|(refine' L2.FnIn.mk' ?a ?l ?c ?k;(case a=>k_is);(case l=>k_is);(case c=>k_is);(case k=>k_is)))
local macro_rules| `(tactic|walk_at "N")=> `(tactic|(refine' L2.ExN.mk ?a ?b ?d ?e ?f ?g ?h;(case a=>k_is);(case b=>k_is);(case d=>k_is);(case e=>k_is);(case f=>k_is);(case g=>k_is);(case h=>k_is)))
set_option maxRecDepth 100000 in
set_option maxHeartbeats 0 in
theorem PySem.Challenge.cw_gluework_k46_split_steps_holds : PySem.Challenge.rw_gluework_k46_split_steps.Holds := by
 w_on;o_law;k_head;(case hw=>w_witness2)
 k_fill
 refine K46.walk (l:=PySem.Challenge.rw_gluework_k46_split_steps) rfl rfl (fun w h Y=>PySem.W.kIn_of Y) ?F
 case F=>
  intro w mg fa h KX G hmg
  refine' K46.all_mk KX G hmg ?a0 ?a1 ?a2 ?a3 ?a4 ?a5 ?a6 ?a7 ?a8 ?a9 ?a10 ?a11 ?a12 ?a13 ?a14 ?a15 ?a16 ?a17 ?a18 ?a19 ?a20 ?a21 ?a22 ?a23 ?a24 ?a25 ?a26 ?a27 ?a28 ?a29 ?a30 ?a31 ?a32 ?a33 ?a34 ?a35 ?a36 ?a37 ?a38 ?a39 ?a40 ?a41 ?a42 ?a43 ?a44 ?a45 ?a46 ?a47 ?a48 ?a49 ?a50 ?a51 ?a52 ?a53 ?a54 ?a55 ?a56 ?a57 ?a58 ?a59 ?a60 ?a61 ?a62 ?a63 ?a64 ?a65 ?a66 ?a67 ?z_ValueError ?z_all ?z_any ?z_dict ?z_enumerate ?z_isinstance ?z_len ?z_list ?z_range ?z_set ?z_sorted ?z_str ?z_sum ?z_tuple ?n_GlueError ?n_HasBars ?n_NoOverlap ?xr_HasBars ?xr_NoOverlap ?xt_GlueError ?xe_GlueError ?xc_GlueError ?xs_HasBars_GlueError ?xs_HasBars_HasBars ?xs_HasBars_NoOverlap ?xe_HasBars ?xi_HasBars_HasBars ?xi_HasBars_NoOverlap ?xi_HasBars_ValueError ?xs_NoOverlap_GlueError ?xs_NoOverlap_HasBars ?xs_NoOverlap_NoOverlap ?xe_NoOverlap ?xi_NoOverlap_HasBars ?xi_NoOverlap_NoOverlap ?xi_NoOverlap_ValueError
  (case a0=>walk_at "F")
  (case a1=>walk_at "F")
  (case a2=>walk_at "F")
  (case a3=>walk_at "F")
  (case a4=>walk_at "F")
  (case a5=>walk_at "F")
  (case a6=>walk_at "F")
  (case a7=>walk_at "F")
  (case a8=>walk_at "F")
  (case a9=>walk_at "F")
  (case a10=>walk_at "F")
  (case a11=>walk_at "F")
  (case a12=>walk_at "F")
  (case a13=>walk_at "F")
  (case a14=>walk_at "F")
  (case a15=>walk_at "F")
  (case a16=>walk_at "F")
  (case a17=>walk_at "F")
  (case a18=>walk_at "F")
  (case a19=>walk_at "F")
  (case a20=>walk_at "F")
  (case a21=>walk_at "F")
  (case a22=>walk_at "F")
  (case a23=>walk_at "F")
  (case a24=>walk_at "F")
  (case a25=>walk_at "F")
  (case a26=>walk_at "F")
  (case a27=>walk_at "F")
  (case a28=>walk_at "F")
  (case a29=>walk_at "F")
  (case a30=>walk_at "F")
  (case a31=>walk_at "F")
  (case a32=>walk_at "F")
  (case a33=>walk_at "F")
  (case a34=>walk_at "F")
  (case a35=>walk_at "F")
  (case a36=>walk_at "F")
  (case a37=>walk_at "F")
  (case a38=>walk_at "F")
  (case a39=>walk_at "F")
  (case a40=>walk_at "F")
  (case a41=>walk_at "F")
  (case a42=>walk_at "F")
  (case a43=>walk_at "F")
  (case a44=>walk_at "F")
  (case a45=>walk_at "F")
  (case a46=>walk_at "F")
  (case a47=>walk_at "F")
  (case a48=>walk_at "F")
  (case a49=>walk_at "F")
  (case a50=>walk_at "F")
  (case a51=>walk_at "F")
  (case a52=>walk_at "F")
  (case a53=>walk_at "F")
  (case a54=>walk_at "F")
  (case a55=>walk_at "F")
  (case a56=>walk_at "F")
  (case a57=>walk_at "F")
  (case a58=>walk_at "F")
  (case a59=>walk_at "F")
  (case a60=>walk_at "F")
  (case a61=>walk_at "F")
  (case a62=>walk_at "F")
  (case a63=>walk_at "F")
  (case a64=>walk_at "F")
  (case a65=>walk_at "F")
  (case a66=>walk_at "F")
  (case a67=>walk_at "F")
  (case z_ValueError|z_all|z_any|z_dict|z_enumerate|z_isinstance|z_len|z_list|z_range|z_set|z_sorted|z_str|z_sum|z_tuple|n_GlueError|n_HasBars|n_NoOverlap=>k_is)
  (case xr_HasBars=>k_exc)
  (case xr_NoOverlap=>k_exc)
  (case xt_GlueError|xe_GlueError|xc_GlueError|xs_HasBars_GlueError|xs_HasBars_HasBars|xs_HasBars_NoOverlap=>k_is)
  (case xe_HasBars=>walk_at "N")
  (case xi_HasBars_HasBars=>kit_is)
  (case xi_HasBars_NoOverlap=>kit_is)
  (case xi_HasBars_ValueError=>kit_is)
  (case xs_NoOverlap_GlueError|xs_NoOverlap_HasBars|xs_NoOverlap_NoOverlap=>k_is)
  (case xe_NoOverlap=>walk_at "N")
  (case xi_NoOverlap_HasBars=>kit_is)
  (case xi_NoOverlap_NoOverlap=>kit_is)
  (case xi_NoOverlap_ValueError=>kit_is)
