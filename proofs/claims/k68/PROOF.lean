import PyProof.Rows.All
import Wide.All
import OpenK.AllK
import Wide.FinOn
import PyProof.EqAt
import PyProof.EqKinds
import PyProof.TupleCall
import PyProof.NeKinds
import PyProof.AttrMissHeap
import PyProof.ExcClass3
import PyProof.RulesAs
import PyProof.Rows.FStr
import OpenK.KOwn
import PyProof.NsDelKeeps
import PyProof.Rows.Catch
import PyProof.Rows.SetFrom
import PyProof.SetRoads
import PyProof.FactsAll.NoneType
import PyProof.Rows.StrNews2
import PyProof.StrLawsTight
import PyProof.StrLawsNeg
import KE.KRevIter
import PyProof.ZipIter
import KE.KItemsList
import PyProof.MinMaxWalk
import PyProof.WalksMore
import PyProof.FString5
import PyProof.Rows.SortShellK
import KE.KIsAll
import PyProof.ExcArgsOwn
import PySem.Challenge.RW_gluework_k68_endings_refused
set_option Elab.async false
set_option linter.all false
set_option maxRecDepth 100000
namespace L2
open PySem PySem.Spec PyProof.Rows
abbrev h9:=Sum Int Str
def X5:h9→Value→Bool
 | .inl k,v=>Value.isInt k v
 | .inr x,v=>Value.isStrOf x v
def zq (w:World):h9→Int
 | .inl k=>hashInt k
 | .inr x=>hashStr w x
theorem o3:∀{k:h9} {v:Value},X5 k v=true→(∃i t,k=Sum.inl i∧v=Value.int i t)∨(∃x t,k=Sum.inr x∧v=Value.str x t)
 | .inl i,v,h=>by
  obtain⟨t,e⟩:=Value.isInt_shape (k:=i) (v:=v) h
  exact .inl ⟨i,t,rfl,e⟩
 | .inr x,v,h=>by
  obtain⟨t,e⟩:=Value.isStrOf_shape (x:=x) (v:=v) h
  exact .inr ⟨x,t,rfl,e⟩
theorem oU (i:Int)(t:Tok):X5 (.inl i) (.int i t)=true:=by simp [X5,Value.isInt]
theorem nZ (x:Str)(t:Tok):X5 (.inr x) (.str x t)=true:=by simp [X5,Value.isStrOf]
theorem qS (a b:Int):decide ((Sum.inl a:h9)=Sum.inl b)=(a==b):=by
 by_cases e:a=b
 ·subst e;simp
 ·have h:¬(Sum.inl a:h9)=Sum.inl b:=fun q=>e (Sum.inl.inj q)
  rw[decide_eq_false h]
  exact(beq_eq_false_iff_ne.mpr e).symm
theorem qh (a b:Str):decide ((Sum.inr a:h9)=Sum.inr b)=decide (a=b):=by
 by_cases e:a=b
 ·subst e;simp
 ·have h:¬(Sum.inr a:h9)=Sum.inr b:=fun q=>e (Sum.inr.inj q)
  rw[decide_eq_false h,decide_eq_false e]
theorem pF (a:Int)(b:Str):decide ((Sum.inl a:h9)=Sum.inr b)=false:=decide_eq_false (fun q=>nomatch q)
theorem pz (a:Str)(b:Int):decide ((Sum.inr a:h9)=Sum.inl b)=false:=decide_eq_false (fun q=>nomatch q)
def i8 (prog:Program)(w:World):PySem.KeyKind prog w h9 where
 is:=X5
 hash:=zq w
 inj:=fun v a b ha hb=>by
  rcases o3 ha with⟨i,t,rfl,rfl⟩|⟨x,t,rfl,rfl⟩
  ·rcases o3 hb with⟨j,u,rfl,e⟩|⟨y,u,rfl,e⟩
   ·injection e with e1 _;rw[e1]
   ·exact nomatch e
  ·rcases o3 hb with⟨j,u,rfl,e⟩|⟨y,u,rfl,e⟩
   ·exact nomatch e
   ·injection e with e1 _;rw[e1]
 byValue:=fun k v h=>by
  rcases o3 h with⟨i,t,rfl,rfl⟩|⟨x,t,rfl,rfl⟩<;>rfl
 pyHash:=fun hv h=>by
  rcases o3 hv with⟨i,t,rfl,rfl⟩|⟨x,t,rfl,rfl⟩
  ·exact wpAny_pyHash_int h
  ·exact wpAny_pyHash_str h
 eqBool:=fun hu hv h=>by
  rcases o3 hu with⟨i,t,rfl,rfl⟩|⟨x,t,rfl,rfl⟩
  ·rcases o3 hv with⟨j,u,rfl,rfl⟩|⟨y,u,rfl,rfl⟩
   ·rw[qS] at h;exact wpAny_eqBool_int h
   ·rw[pF] at h;exact SeqAt.EqAt.int_str i t y u _ _ _ _ h
  ·rcases o3 hv with⟨j,u,rfl,rfl⟩|⟨y,u,rfl,rfl⟩
   ·rw[pz] at h;exact SeqAt.EqAt.str_int x t j u _ _ _ _ h
   ·rw[qh] at h;exact wpAny_eqBool_str h
 «strs»:=fun k x t v h=>by
  rcases o3 h with⟨i,u,rfl,e⟩|⟨y,u,rfl,e⟩
  ·exact nomatch e
  ·injection e with e1 _
   subst e1
   cases v<;>rfl
theorem iX (prog:Program)(w:World)(i:Int)(t:Tok):(i8 prog w).is (.inl i) (.int i t)=true:=oU i t
theorem iN (prog:Program)(w:World)(x:Str)(t:Tok):(i8 prog w).is (.inr x) (.str x t)=true:=nZ x t
end L2
namespace L2
open PySem PySem.Spec PyProof.Rows
inductive V where
 |non|bl (b:Bool)|int (i:Int)|str (x:Str)|byt (b:Array UInt8)|flt (b:UInt64)|ref (a:Addr)|ty (n:String)
 deriving DecidableEq
def RelV:V→Value→Prop
 | .non,u=>u=Value.none
 | .bl b,u=>u=Value.bool b
 | .int i,u=>∃t,u=Value.int i t
 | .str x,u=>∃t,u=Value.str x t
 | .byt b,u=>∃t,u=Value.bytes b t
 | .flt b,u=>∃t,u=Value.float b t
 | .ref a,u=>u=Value.ref a
 | .ty n,u=>u=Value.type n
abbrev Vals:List V→List Value→Prop:=Paired RelV
theorem Vals.length {xs:List V}{us:List Value}(r:Vals xs us):xs.length=us.length:=Paired.length r
theorem Vals.get:∀{xs:List V} {us:List Value} {i:Nat} {x:V},Vals xs us→xs[i]?=some x→∃u,us[i]?=some u∧RelV x u
 |_,_,_,_,.nil,e=>by simp at e
 |_,_,0,_,.cons r _,e=>by simp at e;subst e;exact⟨_,rfl,r⟩
 |_,_,i+1,x,.cons _ t,e=>by
  obtain⟨u,h1,h2⟩:=Vals.get (i:=i) (x:=x) t (by simpa using e)
  exact⟨u,by simpa using h1,h2⟩
theorem Vals.set {x:V}{u:Value}(r:RelV x u):∀{xs:List V} {us:List Value} (i:Nat),Vals xs us→Vals (xs.set i x) (us.set i u)
 |_,_,_,.nil=> .nil
 |_,_,0,.cons _ t=> .cons r t
 |_,_,i+1,.cons q t=> .cons q (Vals.set r i t)
theorem Vals.append:∀{xs ys:List V} {us ws:List Value},Vals xs us→Vals ys ws→Vals (xs++ys) (us++ws)
 |_,_,_,_,.nil,s=>s
 |_,_,_,_,.cons r t,s=> .cons r (Vals.append t s)
theorem Vals.take:∀{xs:List V} {us:List Value} (n:Nat),Vals xs us→Vals (xs.take n) (us.take n)
 |_,_,0,_=> .nil
 |_,_,_+1,.nil=> .nil
 |_,_,n+1,.cons r t=> .cons r (Vals.take n t)
theorem Vals.drop:∀{xs:List V} {us:List Value} (n:Nat),Vals xs us→Vals (xs.drop n) (us.drop n)
 |_,_,0,r=>r
 |_,_,_+1,.nil=> .nil
 |_,_,n+1,.cons _ t=>Vals.drop n t
def RelO:Option V→Option Value→Prop
 |some v,some u=>RelV v u
 |none,none=>True
 |_,_=>False
def KV {κ:Type}:List (κ×V)→List (κ×Value)→Prop:=Paired fun(p:κ×V) (q:κ×Value)=>p.1=q.1∧RelV p.2 q.2
def kV:h9→V
 | .inl i=> .int i
 | .inr x=> .str x
inductive HO where
 |lst (xs:List V)
 |tup (xs:List V)
 |dK (kvs:List (h9×V))|dT (kvs:List (List h9×V))
 |set (S:Int→Bool) (n:Nat)
 |ins (C dx:Addr) (fs:List (Str×V))
 |own (x:Addr)
 |xd (fs:List (Str×V))
 |met (f x:Addr)
 |rng (lo hi:Int)
 |frz (o:Obj) (u:HO)
 |tbl (ps:Array Value)
 |ext (φ:Heap→Prop)
abbrev Hp:=Addr→Option HO
def upd (H:Hp)(a:Addr)(o:HO):Hp:=fun b=>if b=a then some o else H b
theorem d8 {H:Hp}{a:Addr}{o:HO}:upd H a o a=some o:=by unfold upd;rw[if_pos rfl]
theorem b7 {H:Hp}{a b:Addr}{o:HO}(h:b≠a):upd H a o b=H b:=by unfold upd;rw[if_neg h]
theorem Af {H:Hp}{a b:Addr}{o u:HO}(h:H a=some o)(h':H b=some u)(d:o≠u):a≠b:=by
 intro e;subst e;rw[h] at h';exact d (Option.some.inj h')
theorem c9 {H:Hp}{a b:Addr}{o:HO}(h:H a=some o)(h':H b=none):a≠b:=by
 intro e;subst e;rw[h] at h';cases h'
section
variable (P:Program) (w:World)
def ObjOk (H:Hp)(h:Heap)(a:Addr):HO→Prop
 | .lst xs=>xs.length≤sizeLine∧∃(its:List Value) (n:Nat),Vals xs its∧h.get? a=some {cls:= .type "list",data:= .seq its.toArray n}
 | .tup xs=>xs.length≤sizeLine∧∃its:List Value,Vals xs its∧IsTup h a its.toArray
 | .dK kvs=>kvs.length≤sizeLine∧(a==sysModules)=false∧∃vs,KV kvs vs∧h.DictOf (i8 P w) a vs
 | .dT kvs=>kvs.length≤sizeLine∧(a==sysModules)=false∧∃xs:List (List h9×Addr×Value),
   Paired (fun(p:List h9×V) (q:List h9×Addr×Value)=>p.1=q.1∧H q.2.1=some (.tup (p.1.map kV))∧RelV p.2 q.2.2) kvs xs∧
   ∃o es ep,h.get? a=some o∧o.ExactDict∧o.data= .dict es ep∧es.toList=xs.map (entryOfKey (tupleKind (i8 P w)))∧(xs.map (·.1)).Nodup
 | .set S n=>h.SetOf (intKind P w) a S n
 | .ins C dx fs=>H dx=some (.own a)∧fs.length≤1000∧dx≠a∧h.get? a=some (PySem.W.instObj C dx)∧
   ∃mA,h.Ns1 dx mA∧(∀f,RelO (fs.lookup f) (mA f))∧PySem.Within mA (fs.map (·.1))
 | .own _=>∃o,h.get? a=some o
 | .xd fs=>∃mA,h.Ns1 a mA∧∀f,RelO (fs.lookup f) (mA f)
 | .rng lo hi=>∃t u v,h.get? a=some {cls:= .type "range",data:= .fields #[.int lo t,.int hi u,.int 1 v]}
 | .frz o u=>h.get? a=some o∧ObjOk H h a u
 | .tbl ps=>h.get? a=some {cls:= .none,data:= .fields ps}
 | .met f x=>h.get? a=some (PySem.W.methodObj (.ref f) (.ref x))
 | .ext φ=>φ h∧(∃o,h.get? a=some o)∧∀h1 h2:Heap,φ h1→(∀o,h1.get? a=some o→h2.get? a=some o)→φ h2
def HOk (H:Hp)(h:Heap):Prop:=∀a o,H a=some o→ObjOk P w H h a o
end
section
variable {P:Program} {w:World} {H H':Hp} {h h':Heap} {a:Addr} {o:HO}
theorem ObjOk.lt (x:ObjOk P w H h a o):a<h.objs.size:=by
 cases o with
 |lst xs=>obtain⟨_,_,_,_,e⟩:=x;exact Heap.lt_size e
 |tup xs=>obtain⟨_,_,_,p⟩:=x;exact p.lt
 |dK kvs=>obtain⟨_,_,_,_,o,_,_,e,_⟩:=x;exact Heap.lt_size e
 |dT kvs=>obtain⟨_,_,_,_,o,_,_,e,_⟩:=x;exact Heap.lt_size e
 |set S n=>obtain⟨o,_,_,_,e,_⟩:=x;exact Heap.lt_size e
 |ins C dx fs=>obtain⟨_,_,_,e,_⟩:=x;exact Heap.lt_size e
 |own y=>obtain⟨_,e⟩:=x;exact Heap.lt_size e
 |xd fs=>obtain⟨_,⟨_,_,_,e,_⟩,_⟩:=x;exact Heap.lt_size e
 |rng lo hi=>obtain⟨_,_,_,e⟩:=x;exact Heap.lt_size e
 |frz ob u=>obtain⟨e,_⟩:=x;exact Heap.lt_size e
 |tbl ps=>exact Heap.lt_size (show h.get? a=some _ from x)
 |met f y=>exact Heap.lt_size (show h.get? a=some _ from x)
 |ext φ=>obtain⟨_,⟨_,e⟩,_⟩:=x;exact Heap.lt_size e
theorem Paired.mapP {α β:Type}{F G:α→β→Prop}:∀{l₁:List α} {l₂:List β},Paired F l₁ l₂→(∀a b,F a b→G a b)→Paired G l₁ l₂
 |_,_,.nil,_=> .nil
 |_,_,.cons r t,f=> .cons (f _ _ r) (Paired.mapP t f)
theorem Paired.imp' {α β:Type}{F G:α→β→Prop}(f:∀a b,F a b→G a b){l₁:List α}{l₂:List β}(r:Paired F l₁ l₂):Paired G l₁ l₂:=Paired.mapP r f
theorem ObjOk.stay (x:ObjOk P w H h a o)(k:∀b u,(b=a∨H b=some (.own a))→h.get? b=some u→h'.get? b=some u)
  (ho:∀b,H b=some (.own a)→H' b=some (.own a)) (ht:∀b xs,H b=some (.tup xs)→H' b=some (.tup xs)):ObjOk P w H' h' a o:=by
 induction o with
 |lst xs=>obtain⟨z,its,n,r,e⟩:=x;exact⟨z,its,n,r,k _ _ (.inl rfl) e⟩
 |tup xs=>obtain⟨z,its,r,ob,e,c⟩:=x;exact⟨z,its,r,ob,k _ _ (.inl rfl) e,c⟩
 |dK kvs=>obtain⟨z,y,vs,r,ob,es,ep,e,c⟩:=x;exact⟨z,y,vs,r,ob,es,ep,k _ _ (.inl rfl) e,c⟩
 |dT kvs=>
  obtain⟨z,y,xs,r,ob,es,ep,e,c⟩:=x
  exact⟨z,y,xs,Paired.mapP r fun p q z=>⟨z.1,ht _ _ z.2.1,z.2.2⟩,ob,es,ep,k _ _ (.inl rfl) e,c⟩
 |set S n=>obtain⟨ob,es,ep,t,e,c⟩:=x;exact⟨ob,es,ep,t,k _ _ (.inl rfl) e,c⟩
 |ins C dx fs=>
  obtain⟨d,z,ne,e,mA,⟨od,es,ep,e2,c⟩,r⟩:=x
  exact⟨ho _ d,z,ne,k _ _ (.inl rfl) e,mA,⟨od,es,ep,k _ _ (.inr d) e2,c⟩,r⟩
 |own y=>obtain⟨ob,e⟩:=x;exact⟨ob,k _ _ (.inl rfl) e⟩
 |xd fs=>obtain⟨mA,⟨od,es,ep,e,c⟩,r⟩:=x;exact⟨mA,⟨od,es,ep,k _ _ (.inl rfl) e,c⟩,r⟩
 |rng lo hi=>obtain⟨t,u,v,e⟩:=x;exact⟨t,u,v,k _ _ (.inl rfl) e⟩
 |frz ob u ih=>obtain⟨e,q⟩:=x;exact⟨k _ _ (.inl rfl) e,ih q⟩
 |tbl ps=>
  have e:h.get? a=some {cls:= .none,data:= .fields ps}:=x
  show h'.get? a=some {cls:= .none,data:= .fields ps}
  exact k a _ (.inl rfl) e
 |met f y=>
  have e:h.get? a=some (PySem.W.methodObj (.ref f) (.ref y)):=x
  show h'.get? a=some (PySem.W.methodObj (.ref f) (.ref y))
  exact k a _ (.inl rfl) e
 |ext φ=>obtain⟨p,⟨o,e⟩,st⟩:=x;exact⟨st _ _ p fun o q=>k _ _ (.inl rfl) q,⟨o,k _ _ (.inl rfl) e⟩,st⟩
theorem HOk.lt (x:HOk P w H h)(e:H a=some o):a<h.objs.size:=(x a o e).lt
theorem HOk.fresh (x:HOk P w H h)(e:h.objs.size≤a):H a=none:=by
 cases q:H a with
 |none=>rfl
 |some u=>exact absurd (Nat.lt_of_lt_of_le (x.lt q) e) (Nat.lt_irrefl _)
theorem HOk.kept (x:HOk P w H h)(k:∀b u,h.get? b=some u→h'.get? b=some u):HOk P w H h':=fun a o e=>
 (x a o e).stay (fun b u _ q=>k b u q) (fun _ q=>q) fun _ _ q=>q
theorem HOk.laid (x:HOk P w H h)(k:∀b u,h.get? b=some u→h'.get? b=some u)(hp:h.objs.size≤a)(new:ObjOk P w (upd H a o) h' a o):HOk P w (upd H a o) h':=fun b u e=>by
 have hn:=x.fresh hp
 by_cases hb:b=a
 ·subst hb;rw[d8] at e;cases e;exact new
 ·rw[b7 hb] at e
  exact(x b u e).stay (fun c v _ q=>k c v q) (fun c q=>by rw[b7 (c9 q hn)];exact q) fun c xs q=>by rw[b7 (c9 q hn)];exact q
end
def Rd (H:Hp)(a:Addr)(u:HO):Prop:=H a=some u∨∃o,H a=some (.frz o u)
theorem Rd.ok {P:Program}{w:World}{H:Hp}{h:Heap}{a:Addr}{u:HO}(r:Rd H a u)(x:HOk P w H h):ObjOk P w H h a u:=by
 rcases r with r|⟨o,r⟩
 ·exact x a u r
 ·obtain⟨_,q⟩:=x a _ r
  exact q
def yt:Option HO→Prop
 |some (.lst _)=>True
 |some (.dK _)=>True
 |some (.dT _)=>True
 |some (.set _ _)=>True
 |some (.ins _ _ _)=>True
 |some (.ext _)=>True
 |_=>False
section
variable {P:Program} {w:World} {H:Hp} {h h':Heap} {x e:Addr} {o':HO}
theorem HOk.write (ok:HOk P w H h)(mu:yt (H x))(he:e=x∨H e=some (.own x))(k:∀b u,b≠e→h.get? b=some u→h'.get? b=some u)(heo:∃u,h'.get? e=some u)
  (new:ObjOk P w (upd H x o') h' x o'):HOk P w (upd H x o') h':=fun b u q=>by
 have nown:∀c y,H c=some (.own y)→c≠x:=fun c y r z=>by subst z;rw[r] at mu;exact mu
 have ntup:∀c xs,H c=some (.tup xs)→c≠x:=fun c xs r z=>by subst z;rw[r] at mu;exact mu
 by_cases hb:b=x
 ·subst hb;rw[d8] at q;cases q;exact new
 ·rw[b7 hb] at q
  by_cases hbe:b=e
  ·have q':H b=some (.own x):=by
    rcases he with z|z
    ·exact absurd (hbe.trans z) hb
    ·rw[hbe];exact z
   rw[q] at q';cases q'
   obtain⟨v,hv⟩:=heo
   exact⟨v,by rw[hbe];exact hv⟩
  ·refine(ok b u q).stay (fun c v hc r=>k c v ?_ r) (fun c r=>by rw[b7 (nown c b r)];exact r) fun c xs r=>by rw[b7 (ntup c xs r)];exact r
   rcases hc with rfl|hc
   ·exact hbe
   ·rintro rfl
    rcases he with z|z
    ·exact nown c b hc z
    ·rw[hc] at z;cases z;exact hb rfl
end
structure Un (fs ex:List Addr) (H H':Hp) (h h':Heap):Prop where
 keep:∀b o,h.get? b=some o→H b=none→b∉fs→b∉ex→h'.get? b=some o
 slot:∀b o,h.get? b=some o→H b=none→b∈fs→b∉ex→∃sl,h'.get? b=some {o with slots:=sl}
 free:∀b o,h.get? b=some o→H b=none→b∉ex→H' b=none
 there:∀b o,h.get? b=some o→b∉ex→∃o',h'.get? b=some o'
 tups:∀b xs,H b=some (.tup xs)→H' b=some (.tup xs)
 frzs:∀b o u,H b=some (.frz o u)→H' b=some (.frz o u)
 tbls:∀b ps,H b=some (.tbl ps)→∃more,H' b=some (.tbl (ps++more))
section
variable {fs fs' ex ex':List Addr} {H H1 H2:Hp} {h h1 h2 h':Heap} {a x e:Addr} {o:HO}
theorem Un.any (u:Un fs ex H H1 h h1){b:Addr}{ob:Obj}(q:h.get? b=some ob)(n:H b=none)(hx:b∉ex):∃sl,h1.get? b=some {ob with slots:=sl}:=by
 by_cases hb:b∈fs
 ·exact u.slot b ob q n hb hx
 ·exact⟨ob.slots,u.keep b ob q n hb hx⟩
theorem Un.kept (k:∀b u,h.get? b=some u→h'.get? b=some u):Un fs ex H H h h':=
 ⟨fun b ob q _ _ _=>k b ob q,fun b ob q _ _ _=>⟨ob.slots,k b ob q⟩,fun _ _ _ n _=>n,fun b ob q _=>⟨ob,k b ob q⟩,fun _ _ q=>q,fun _ _ _ q=>q,fun _ ps q=>⟨#[],by rw[q];simp⟩⟩
theorem Un.refl:Un fs ex H H h h:=Un.kept fun _ _ q=>q
theorem Un.laid (k:∀b u,h.get? b=some u→h'.get? b=some u)(hp:h.objs.size≤a)(hn:H a=none):Un fs ex H (upd H a o) h h' where
 keep:=fun b u q _ _ _=>k b u q
 slot:=fun b u q _ _ _=>⟨u.slots,k b u q⟩
 free:=fun b u q n _=>by rw[b7 (Nat.ne_of_lt (Nat.lt_of_lt_of_le (Heap.lt_size q) hp))];exact n
 there:=fun b u q _=>⟨u,k b u q⟩
 tups:=fun b xs q=>by rw[b7 (c9 q hn)];exact q
 frzs:=fun b u xs q=>by rw[b7 (c9 q hn)];exact q
 tbls:=fun b ps q=>⟨#[],by rw[b7 (c9 q hn),q];simp⟩
theorem Un.write (mu:yt (H x))(he:e=x∨H e=some (.own x))(k:∀b u,b≠e→h.get? b=some u→h'.get? b=some u)(heo:∃u,h'.get? e=some u):Un fs ex H (upd H x o) h h':=by
 have hx:∀b,H b=none→b≠x:=fun b n z=>by subst z;rw[n] at mu;exact mu
 have hb:∀b,H b=none→b≠e:=fun b n z=>by
  subst z
  rcases he with r|r
  ·exact hx b n r
  ·rw[n] at r;cases r
 have hm:∀b u,H b=some u→¬yt (some u)→b≠x:=fun b u q nm z=>by subst z;rw[q] at mu;exact nm mu
 refine⟨fun b u q n _ _=>k b u (hb b n) q,fun b u q n _ _=>⟨u.slots,k b u (hb b n) q⟩,fun b u q n _=>by rw[b7 (hx b n)];exact n,fun b u q _=>?_,
  fun b xs q=>by rw[b7 (hm b _ q fun z=>z)];exact q,fun b u xs q=>by rw[b7 (hm b _ q fun z=>z)];exact q,fun b ps q=>⟨#[],by rw[b7 (hm b _ q fun z=>z),q];simp⟩⟩
 by_cases hbe:b=e
 ·subst hbe;exact heo
 ·exact⟨u,k b u hbe q⟩
end
def Ax (h:Heap)(H:Hp):List Addr:=(List.range h.objs.size).filter fun a=>(H a).isSome
def gp (h:Heap)(H:Hp):Heap:=PySem.W.hideAll h (Ax h H)
theorem nj (h:Heap)(H:Hp):(gp h H).objs.size=h.objs.size:=PySem.W.hideAll_size _ _
theorem qf {h:Heap}{H:Hp}{b:Addr}{o:Obj}(e:h.get? b=some o)(n:H b=none):(gp h H).get? b=some o:=
 PySem.W.hideAll_get _ e fun hm=>by
  have q:(H b).isSome=true:=(List.mem_filter.mp hm).2
  rw[n] at q;simp at q
theorem sV {h:Heap}{H:Hp}{b:Addr}{o:Obj}(e:(gp h H).get? b=some o):h.get? b=some o∧H b=none:=by
 have e':h.get? b=some o:=PySem.W.of_hideAll (Ax h H) e
 refine⟨e',?_⟩
 cases q:H b with
 |none=>rfl
 |some x=>
  have hm:b∈Ax h H:=List.mem_filter.mpr ⟨List.mem_range.mpr (Heap.lt_size e'),by simp [q]⟩
  have z:(gp h H).get? b=none:=PySem.W.hideAll_none (Ax h H) hm
  rw[z] at e;cases e
def uo (g h:Heap)(L:Addr):List (Addr×Obj):=(List.range h.objs.size).filterMap fun a=>if a=L∨(g.get? a).isSome=true then none else(h.get? a).map fun o=>(a,o)
def R6 (g h:Heap)(L d:Addr):List (Addr×Obj):=(uo g h L).filter fun p=>decide (p.1≠d)
end L2
namespace L2
open PySem PySem.Spec PyProof.Rows
structure Mod (K:PySem.W.Frag) (mg:Str→Option Value) (base:Heap):Prop where
 kin:K.In base
 glob:base.Ns mainGlobals mg
 blt:∃mb,base.Ns builtinsNs mb∧∀x:Str,x≠"__name__"→mb x=bootBuiltins x
 nolimit:base.NoLimit
structure Cx where
 prog:Program
 w:World
 K:PySem.W.Frag
 mg:Str→Option Value
 base:Heap
 A:Around
 N:List Str
 s₀:Shared
 H₀:Hp
 env:Env
 outer:List Env
 stack:List Env
 ex:List Addr
 fn:Str→Bool
 calm:Bool
 pn:List (Addr×Obj)
 xe:Value→Shared→Prop
def K9 (l:List Env):List Addr:=l.filterMap (·.frame)
abbrev Cx.fs (X:Cx):List Addr:=K9 X.outer
def AY (sc:Scope)(x:Str):Prop:=sc.names.lookup x=some .local∨sc.names.lookup x=some .cell∨sc.names.lookup x=some .free
def vf (sc:Scope)(x:Str):Prop:=sc.names.lookup x=some .local∨sc.names.lookup x=some .cell
def Bg (env:Env)(h:Heap)(m:Str→Option Value)(x:Str)(u:Value):Prop:=
 (env.kindOf x=some .local∧m x=some u)∨((env.kindOf x=some .cell∨env.kindOf x=some .free)∧∃c,env.cells.lookup x=some c∧h.IsCell c (some u))
structure Cx.Ok (X:Cx):Prop where
 mod:Mod X.K X.mg X.base
 kind:X.env.scope.kind= .function
 glob:X.env.globals=mainGlobals
 blt:X.env.builtins=builtinsNs
 above:X.s₀.heap.objs.size≤X.env.locals
 inj:∀x y c,X.env.cells.lookup x=some c→X.env.cells.lookup y=some c→x=y
 has:∀x,(X.env.kindOf x=some .cell∨X.env.kindOf x=some .free)→∃c,X.env.cells.lookup x=some c
 cab:∀x c,X.fn x=true→X.env.cells.lookup x=some c→X.s₀.heap.objs.size≤c
 hd:X.calm=true→X.A.handled=none
 frames:X.A.frames=some X.stack
 stk:X.stack=X.outer∨(X.stack=X.env::X.outer∧X.env.frame=some X.env.locals)
 exf:∀b∈X.ex,b≠X.env.locals∧∀x c,X.env.cells.lookup x=some c→c≠b
 bs:∀b o,X.base.get? b=some o→X.s₀.heap.get? b=some o∧X.H₀ b=none
 bsz:X.base.objs.size≤X.s₀.heap.objs.size
 noex:∀b o,X.base.get? b=some o→b∉X.ex
 exfs:∀b∈X.ex,b∉X.fs
 funs:X.s₀.heap.FunFrames X.base X.outer
 frf:∀b∈X.fs,X.H₀ b=none
structure Inv (X:Cx) (pins:List (Addr×Obj)) (σ:List (Option V)) (H:Hp) (s:Shared):Prop where
 ok:X.Ok
 os:s.os=X.s₀.os
 bare:AllBare s.gens
 base:Un X.fs X.ex X.H₀ H X.s₀.heap s.heap
 loc:∃m,s.heap.Ns X.env.locals m∧∀(i:Nat) (x:Str) (v:V),X.N[i]?=some x→σ[i]?=some (some v)→AY X.env.scope x→∃u,RelV v u∧Bg X.env s.heap m x u
 cell:∀x c,X.env.cells.lookup x=some c→∃v,s.heap.IsCell c v
 free:H X.env.locals=none
 freeC:∀x c,X.env.cells.lookup x=some c→H c=none
 pin:∀p∈X.pn++pins,s.heap.get? p.1=some p.2∧H p.1=none∧p.1≠X.env.locals∧p.1∉X.fs∧∀v,p.2.data≠ .cell v
 hok:HOk X.prog X.w H s.heap
 len:σ.length=X.N.length
section
variable {X:Cx} {pins:List (Addr×Obj)} {σ:List (Option V)} {H H':Hp} {s:Shared} {h':Heap}
theorem Cx.Ok.nofr (ok:X.Ok){b:Addr}{o:Obj}(e:X.base.get? b=some o):b∉X.fs:=fun hb=>by
 have:=(ok.funs.mem hb).1
 rw[e] at this;cases this
theorem Inv.bs (I:Inv X pins σ H s):∀b o,X.base.get? b=some o→s.heap.get? b=some o∧H b=none:=fun b o e=>
 ⟨I.base.keep b o (I.ok.bs b o e).1 (I.ok.bs b o e).2 (I.ok.nofr e) (I.ok.noex b o e),I.base.free b o (I.ok.bs b o e).1 (I.ok.bs b o e).2 (I.ok.noex b o e)⟩
theorem Inv.bk (I:Inv X pins σ H s):∀b o,X.base.get? b=some o→s.heap.get? b=some o:=fun b o e=>(I.bs b o e).1
theorem Inv.mod (I:Inv X pins σ H s):Mod X.K X.mg X.base:=I.ok.mod
theorem Inv.kIn (I:Inv X pins σ H s):X.K.In s.heap:=I.ok.mod.kin.keeps I.bk
theorem Inv.lt (I:Inv X pins σ H s):X.env.locals<s.heap.objs.size:=let ⟨_,hn,_⟩:=I.loc;hn.lt
theorem Inv.sz (I:Inv X pins σ H s):X.s₀.heap.objs.size≤s.heap.objs.size:=Nat.le_trans I.ok.above (Nat.le_of_lt I.lt)
theorem Inv.nofs (I:Inv X pins σ H s){a:Addr}(h:s.heap.objs.size≤a):a∉X.fs:=fun hb=>by
 obtain⟨_,o,ho,_⟩:=I.ok.funs.mem hb
 exact absurd (Nat.lt_of_lt_of_le (Heap.lt_size ho) (Nat.le_trans I.sz h)) (Nat.lt_irrefl _)
theorem Inv.cne (I:Inv X pins σ H s):∀x c,X.env.cells.lookup x=some c→c≠X.env.locals:=fun x c e z=>by
 obtain⟨v,o,ho,hd⟩:=I.cell x c e
 obtain⟨m,⟨o',es,ep,ho',hd',_⟩,_⟩:=I.loc
 rw[z,ho'] at ho;cases ho;rw[hd'] at hd;cases hd
theorem Inv.funs (I:Inv X pins σ H s):s.heap.FunFrames X.base X.outer:=by
 have all:∀(l:List Env),(∀b∈K9 l,b∈X.fs)→X.s₀.heap.FunFrames X.base l→s.heap.FunFrames X.base l:=by
  intro l
  induction l with
  |nil=>intro _ _;trivial
  |cons env r ih=>
   intro hs hl
   obtain⟨hk,⟨L,o,hf,hn,ho,hd⟩,hr⟩:=hl
   have hL:L∈X.fs:=hs L (by unfold K9;rw[List.filterMap_cons,hf];exact List.mem_cons_self)
   obtain⟨sl,e⟩:=I.base.slot L o ho (I.ok.frf L hL) hL fun z=>I.ok.exfs L z hL
   exact⟨hk,⟨L,_,hf,hn,e,hd⟩,ih (fun b hb=>hs b (by unfold K9;rw[List.filterMap_cons,hf];exact List.mem_cons_of_mem _ hb)) hr⟩
 exact all X.outer (fun _ hb=>hb) I.ok.funs
theorem Inv.stack (I:Inv X pins σ H s):s.heap.FunFrames X.base X.stack:=by
 rcases I.ok.stk with e|⟨e,hf⟩
 ·rw[e];exact I.funs
 ·rw[e]
  obtain⟨m,hn,_⟩:=I.loc
  refine .cons (by rw[I.ok.kind];decide) hf hn ?_ I.funs
  exact Heap.get?_none_of_le (Nat.le_trans I.ok.bsz I.ok.above)
theorem Inv.stkSub (I:Inv X pins σ H s):∀b∈K9 X.stack,b∈X.env.locals::X.fs:=fun b hb=>by
 rcases I.ok.stk with e|⟨e,hf⟩
 ·rw[e] at hb;exact List.mem_cons_of_mem _ hb
 ·rw[e] at hb
  unfold K9 at hb
  rw[List.filterMap_cons,hf] at hb
  exact hb
theorem Inv.stkFree (I:Inv X pins σ H s):∀b∈K9 X.stack,H b=none:=fun b hb=>by
 rcases List.mem_cons.mp (I.stkSub b hb) with e|hb
 ·rw[e];exact I.free
 ·obtain⟨_,o,ho,_⟩:=I.ok.funs.mem hb
  exact I.base.free b o ho (I.ok.frf b hb) fun z=>I.ok.exfs b z hb
theorem Inv.step {g':Array GenState}{t':Nat}{d':Drawn}{ch:List Addr}(I:Inv X pins σ H s)
  (hch:∀b∈ch,(b∈X.ex∨X.s₀.heap.objs.size≤b)∧b≠X.env.locals∧(∀x c,X.env.cells.lookup x=some c→c≠b)∧∀p∈X.pn++pins,p.1≠b)
  (keep:∀b o,b≠X.env.locals→b∉X.fs→b∉ch→s.heap.get? b=some o→H b=none→h'.get? b=some o)
  (slot:∀b o,b≠X.env.locals→b∈X.fs→b∉ch→s.heap.get? b=some o→H b=none→∃sl,h'.get? b=some {o with slots:=sl}) (free:∀b o,b∉ch→s.heap.get? b=some o→H b=none→H' b=none)
  (there:∀b o,b∉ch→s.heap.get? b=some o→∃o',h'.get? b=some o')
  (tups:∀b xs,H b=some (.tup xs)→H' b=some (.tup xs)) (frzs:∀b o u,H b=some (.frz o u)→H' b=some (.frz o u)) (tbls:∀b ps,H b=some (.tbl ps)→∃more,H' b=some (.tbl (ps++more)))
  (ns:∀m,s.heap.Ns X.env.locals m→h'.Ns X.env.locals m) (hok:HOk X.prog X.w H' h') (hg:AllBare g'):
  Inv X pins σ H' {s with heap:=h',gens:=g',drawn:=d',toks:=t'}:=by
 have neL:∀b o,X.s₀.heap.get? b=some o→b≠X.env.locals:=fun b o e=>Nat.ne_of_lt (Nat.lt_of_lt_of_le (Heap.lt_size e) I.ok.above)
 have neC:∀b o,X.s₀.heap.get? b=some o→b∉X.ex→b∉ch:=fun b o e hx hb=>by
  rcases(hch b hb).1 with z|z
  ·exact hx z
  ·exact absurd (Nat.lt_of_lt_of_le (Heap.lt_size e) z) (Nat.lt_irrefl _)
 have cellK:∀x c,X.env.cells.lookup x=some c→∀v,s.heap.IsCell c v→h'.IsCell c v:=fun x c e v ⟨o,ho,hd⟩=>by
  have nch:c∉ch:=fun z=>(hch c z).2.2.1 x c e rfl
  by_cases hc:c∈X.fs
  ·obtain⟨sl,q⟩:=slot c o (I.cne x c e) hc nch ho (I.freeC x c e)
   exact⟨_,q,hd⟩
  ·exact⟨o,keep c o (I.cne x c e) hc nch ho (I.freeC x c e),hd⟩
 refine⟨I.ok,I.os,hg,⟨fun b o e n hb hx=>?_,fun b o e n hb hx=>?_,fun b o e n hx=>?_,fun b o e hx=>?_,fun b xs e=>tups b xs (I.base.tups b xs e),fun b o xs e=>frzs b o xs (I.base.frzs b o xs e),fun b ps e=>?_⟩,?_,fun x c e=>?_,?_,fun x c e=>?_,fun p hp=>?_,hok,I.len⟩
 ·exact keep b o (neL b o e) hb (neC b o e hx) (I.base.keep b o e n hb hx) (I.base.free b o e n hx)
 ·obtain⟨sl,e1⟩:=I.base.slot b o e n hb hx
  obtain⟨sl',e2⟩:=slot b _ (neL b o e) hb (neC b o e hx) e1 (I.base.free b o e n hx)
  exact⟨sl',e2⟩
 ·obtain⟨o',e1⟩:=I.base.there b o e hx
  exact free b o' (neC b o e hx) e1 (I.base.free b o e n hx)
 ·obtain⟨o',e1⟩:=I.base.there b o e hx
  exact there b o' (neC b o e hx) e1
 ·obtain⟨m1,e1⟩:=I.base.tbls b ps e
  obtain⟨m2,e2⟩:=tbls b _ e1
  exact⟨m1++m2,by rw[e2,Array.append_assoc]⟩
 ·obtain⟨m,hn,hl⟩:=I.loc
  refine⟨m,ns m hn,fun i x v e1 e2 e3=>?_⟩
  obtain⟨u,r,l⟩:=hl i x v e1 e2 e3
  refine⟨u,r,?_⟩
  rcases l with l|⟨k,c,e,z⟩
  ·exact .inl l
  ·exact .inr ⟨k,c,e,cellK x c e _ z⟩
 ·obtain⟨v,z⟩:=I.cell x c e
  exact⟨v,cellK x c e v z⟩
 ·obtain⟨m,⟨o,_,_,ho,_⟩,_⟩:=I.loc
  exact free _ o (fun z=>(hch _ z).2.1 rfl) ho I.free
 ·obtain⟨v,o,ho,hd⟩:=I.cell x c e
  exact free c o (fun z=>(hch c z).2.2.1 x c e rfl) ho (I.freeC x c e)
 ·obtain⟨e,n,ne,nf,d⟩:=I.pin p hp
  have nch:p.1∉ch:=fun z=>(hch p.1 z).2.2.2 p hp rfl
  exact⟨keep p.1 p.2 ne nf nch e n,free p.1 p.2 nch e n,ne,nf,d⟩
theorem Inv.un {t':Nat}(I:Inv X pins σ H s)(u:Un X.fs [] H H' s.heap h')(hok:HOk X.prog X.w H' h'):Inv X pins σ H' {s with heap:=h',toks:=t'}:=by
 obtain⟨m,⟨o,es,ep,ho,r⟩,_⟩:=id I.loc
 obtain⟨sl,hL⟩:=u.any ho I.free (by simp)
 exact I.step (g':=s.gens) (d':=s.drawn) (ch:=[]) (fun _ z=>nomatch z) (fun b o _ hb _ e n=>u.keep b o e n hb (by simp)) (fun b o _ hb _ e n=>u.slot b o e n hb (by simp)) (fun b o _ e n=>u.free b o e n (by simp)) (fun b o _ e=>u.there b o e (by simp)) u.tups u.frzs u.tbls (fun m' hm=>by
  obtain⟨o',es',ep',ho',r'⟩:=hm
  rw[ho] at ho';cases ho'
  exact⟨_,es',ep',hL,r'⟩) hok I.bare
theorem Inv.call {g':Array GenState}{t':Nat}{d':Drawn}{ch:List Addr}(I:Inv X pins σ H s)(u:Un (K9 X.stack) ch H H' s.heap h')(hok:HOk X.prog X.w H' h')(hg:AllBare g')
  (hch:∀b∈ch,(b∈X.ex∨X.s₀.heap.objs.size≤b)∧b≠X.env.locals∧(∀x c,X.env.cells.lookup x=some c→c≠b)∧∀p∈X.pn++pins,p.1≠b):
  Inv X pins σ H' {s with heap:=h',gens:=g',drawn:=d',toks:=t'}:=by
 obtain⟨m,⟨o,es,ep,ho,r⟩,_⟩:=id I.loc
 obtain⟨sl,hL⟩:=u.any ho I.free fun z=>(hch _ z).2.1 rfl
 exact I.step (ch:=ch) hch (fun b o hL hb hc e n=>u.keep b o e n (fun z=>(List.mem_cons.mp (I.stkSub b z)).elim hL hb) hc) (fun b o _ _ hc e n=>u.any e n hc) (fun b o hc e n=>u.free b o e n hc) (fun b o hc e=>u.there b o e hc) u.tups u.frzs u.tbls (fun m' hm=>by
  obtain⟨o',es',ep',ho',r'⟩:=hm
  rw[ho] at ho';cases ho'
  exact⟨_,es',ep',hL,r'⟩) hok hg
theorem Inv.turned {t':Nat}{it:Addr}(I:Inv X pins σ H s)(k:∀b o,b≠it→s.heap.get? b=some o→h'.get? b=some o)(hn:H it=none)(hL:it≠X.env.locals)
  (h1:it∈X.ex∨X.s₀.heap.objs.size≤it) (h2:∀x c,X.env.cells.lookup x=some c→c≠it) (h3:∀p∈X.pn++pins,p.1≠it):Inv X pins σ H {s with heap:=h',toks:=t'}:=by
 have nit:∀b u,H b=some u→b≠it:=fun b u e z=>by rw[z,hn] at e;cases e
 refine I.step (g':=s.gens) (d':=s.drawn) (ch:=[it]) (fun b hb=>?_) (fun b o _ _ hc e _=>k b o (fun z=>hc (by simp [z])) e) (fun b o _ _ hc e _=>⟨o.slots,k b o (fun z=>hc (by simp [z])) e⟩) (fun _ _ _ _ n=>n)
  (fun b o hc e=>⟨o,k b o (fun z=>hc (by simp [z])) e⟩) (fun _ _ e=>e) (fun _ _ _ e=>e) (fun b ps e=>⟨#[],by rw[e];simp⟩) (fun m hm=>?_) (fun b u e=>?_) I.bare
 ·have e:b=it:=by simpa using hb
  subst e
  exact⟨h1,hL,h2,h3⟩
 ·obtain⟨o,es,ep,ho,r⟩:=hm
  exact⟨o,es,ep,k _ o (Ne.symm hL) ho,r⟩
 ·refine(I.hok b u e).stay (fun c v hc q=>k c v ?_ q) (fun _ q=>q) fun _ _ q=>q
  rcases hc with z|z
  ·rw[z];exact nit b u e
  ·exact nit c _ z
theorem Inv.tok (I:Inv X pins σ H s)(t:Nat):Inv X pins σ H {s with toks:=t}:=I.un (h':=s.heap) (t':=t) Un.refl I.hok
theorem Inv.kept {t':Nat}(I:Inv X pins σ H s)(k:∀b u,s.heap.get? b=some u→h'.get? b=some u):Inv X pins σ H {s with heap:=h',toks:=t'}:=I.un (Un.kept k) (I.hok.kept k)
theorem Inv.laid {a:Addr}{o:HO}{t':Nat}(I:Inv X pins σ H s)(k:∀b u,s.heap.get? b=some u→h'.get? b=some u)(hp:s.heap.objs.size≤a)(new:ObjOk X.prog X.w (upd H a o) h' a o):
  Inv X pins σ (upd H a o) {s with heap:=h',toks:=t'}:=I.un (Un.laid k hp (I.hok.fresh hp)) (I.hok.laid k hp new)
theorem Inv.write {x e:Addr}{o:HO}{t':Nat}(I:Inv X pins σ H s)(mu:yt (H x))(he:e=x∨H e=some (.own x))(k:∀b u,b≠e→s.heap.get? b=some u→h'.get? b=some u)(heo:∃u,h'.get? e=some u)
  (new:ObjOk X.prog X.w (upd H x o) h' x o):Inv X pins σ (upd H x o) {s with heap:=h',toks:=t'}:=I.un (Un.write mu he k heo) (I.hok.write mu he k heo new)
theorem Inv.weak {σ':List (Option V)}(I:Inv X pins σ H s)(hl:σ'.length=σ.length)(w:∀(i:Nat) v,σ'[i]?=some (some v)→σ[i]?=some (some v)):Inv X pins σ' H s:=
 ⟨I.ok,I.os,I.bare,I.base,let ⟨m,hn,hl'⟩:=I.loc;⟨m,hn,fun i x v e1 e2 e3=>hl' i x v e1 (w i v e2) e3⟩,I.cell,I.free,I.freeC,I.pin,I.hok,hl.trans I.len⟩
theorem Inv.pins_of {pins':List (Addr×Obj)}(I:Inv X pins σ H s)(h:∀p∈pins',s.heap.get? p.1=some p.2∧H p.1=none∧p.1≠X.env.locals∧p.1∉X.fs∧∀v,p.2.data≠ .cell v):Inv X pins' σ H s:=
 ⟨I.ok,I.os,I.bare,I.base,I.loc,I.cell,I.free,I.freeC,fun p hp=>(List.mem_append.mp hp).elim (fun z=>I.pin p (List.mem_append_left _ z)) (h p),I.hok,I.len⟩
theorem eL {N:List Str}(hN:N.Nodup){i j:Nat}{x:Str}(a:N[i]?=some x)(b:N[j]?=some x):i=j:=by
 obtain⟨h1,e1⟩:=List.getElem?_eq_some_iff.mp a
 obtain⟨h2,e2⟩:=List.getElem?_eq_some_iff.mp b
 exact(List.getElem_inj hN).mp (e1.trans e2.symm)
theorem fX {M:Model}{A:Around}{E:Value→Shared→Prop}{i:Nat}{x:Str}{v:V}{u:Value}{Q:Unit→Shared→Prop}(I:Inv X pins σ H s)(hN:X.N.Nodup)(hi:X.N[i]?=some x)(hx:vf X.env.scope x)(r:RelV v u)
  (h:∀s',Inv X pins (σ.set i (some v)) H s'→(∃a,Heap.SameBut a s.heap s'.heap∧(a=X.env.locals∨X.env.cells.lookup x=some a))→Q () s') (hf:X.fn x=true∨X.env.scope.names.lookup x=some .local:=by first|exact .inl rfl|exact .inr rfl|assumption):wpAny M A (storeName X.env x u) Q E s:=by
 obtain⟨m,hn,hl⟩:=id I.loc
 have hcls:(X.env.scope.kind== .class||(X.env.scope.kind== .module&&X.env.locals !=X.env.globals))=false:=by rw[I.ok.kind];rfl
 have hiσ:i<σ.length:=by rw[I.len];exact(List.getElem?_eq_some_iff.mp hi).1
 have cne:=I.cne
 have tracked:∀{a:Addr} {h':Heap},(∃o,s.heap.get? a=some o∧H a=none)→Heap.SameBut a s.heap h'→HOk X.prog X.w H h':=fun{a h'} ha hs b ob e=>by
  obtain⟨_,_,hfree⟩:=ha
  refine(I.hok b ob e).stay (fun c w' hc q=>(hs.2 c ?_).trans q) (fun _ q=>q) fun _ _ q=>q
  rintro rfl
  rcases hc with rfl|hc
  ·rw[hfree] at e;cases e
  ·rw[hfree] at hc;cases hc
 rcases hx with hk|hk
 ·refine wpAny_storeName_local hk hn (fun h' hn' hs=>?_) hcls
  obtain⟨oL,_,_,hoL,_⟩:=id hn
  refine h _ ⟨I.ok,I.os,I.bare,⟨fun b o e n hb hx=>?_,fun b o e n hb hx=>?_,I.base.free,fun b o e hx=>?_,I.base.tups,I.base.frzs,I.base.tbls⟩,⟨_,hn',fun j y v' e1 e2 e3=>?_⟩,fun y c e=>?_,I.free,I.freeC,fun p hp=>?_,tracked ⟨oL,hoL,I.free⟩ hs,by simpa using I.len⟩ ⟨_,hs,.inl rfl⟩
  ·exact(hs.2 b (Nat.ne_of_lt (Nat.lt_of_lt_of_le (Heap.lt_size e) I.ok.above))).trans (I.base.keep b o e n hb hx)
  ·obtain⟨sl,e1⟩:=I.base.slot b o e n hb hx
   exact⟨sl,(hs.2 b (Nat.ne_of_lt (Nat.lt_of_lt_of_le (Heap.lt_size e) I.ok.above))).trans e1⟩
  ·obtain⟨o',e1⟩:=I.base.there b o e hx
   exact⟨o',(hs.2 b (Nat.ne_of_lt (Nat.lt_of_lt_of_le (Heap.lt_size e) I.ok.above))).trans e1⟩
  ·by_cases hj:j=i
   ·subst hj
    rw[hi] at e1;cases e1
    rw[List.getElem?_set_self hiσ] at e2
    cases e2
    exact⟨u,r,.inl ⟨hk,by simp⟩⟩
   ·rw[List.getElem?_set_ne (Ne.symm hj)] at e2
    obtain⟨u',r',q⟩:=hl j y v' e1 e2 e3
    refine⟨u',r',?_⟩
    rcases q with⟨k,e⟩|⟨k,c,e,z⟩
    ·refine .inl ⟨k,?_⟩
     have:y≠x:=fun e=>hj (eL hN e1 (e▸hi))
     simp [this,e]
    ·exact .inr ⟨k,c,e,z.sameBut hs (cne y c e)⟩
  ·obtain⟨w',z⟩:=I.cell y c e
   exact⟨w',z.sameBut hs (cne y c e)⟩
  ·obtain⟨e,n,ne,nf,d⟩:=I.pin p hp
   exact⟨(hs.2 p.1 ne).trans e,n,ne,nf,d⟩
 ·have hfn:X.fn x=true:=by
   rcases hf with z|z
   ·exact z
   ·rw[z] at hk;cases hk
  obtain⟨c,hc⟩:=I.ok.has x (.inl hk)
  obtain⟨w',z⟩:=I.cell x c hc
  refine wpAny_storeName_cell I.ok.kind hk hc z (fun h' hc' hs=>?_)
  obtain⟨oc,hoc,hocd⟩:=id z
  refine h {s with heap:=h'} ⟨I.ok,I.os,I.bare,⟨fun b o e n hb hx=>?_,fun b o e n hb hx=>?_,I.base.free,fun b o e hx=>?_,I.base.tups,I.base.frzs,I.base.tbls⟩,⟨m,hn.sameBut hs (Ne.symm (cne x c hc)),fun j y v' e1 e2 e3=>?_⟩,fun y c' e=>?_,I.free,I.freeC,fun p hp=>?_,tracked ⟨oc,hoc,I.freeC x c hc⟩ hs,by simpa using I.len⟩ ⟨c,hs,.inr hc⟩
  ·exact(hs.2 b (Nat.ne_of_lt (Nat.lt_of_lt_of_le (Heap.lt_size e) (I.ok.cab x c hfn hc)))).trans (I.base.keep b o e n hb hx)
  ·obtain⟨sl,e1⟩:=I.base.slot b o e n hb hx
   exact⟨sl,(hs.2 b (Nat.ne_of_lt (Nat.lt_of_lt_of_le (Heap.lt_size e) (I.ok.cab x c hfn hc)))).trans e1⟩
  ·obtain⟨o',e1⟩:=I.base.there b o e hx
   exact⟨o',(hs.2 b (Nat.ne_of_lt (Nat.lt_of_lt_of_le (Heap.lt_size e) (I.ok.cab x c hfn hc)))).trans e1⟩
  ·by_cases hj:j=i
   ·subst hj
    rw[hi] at e1;cases e1
    rw[List.getElem?_set_self hiσ] at e2
    cases e2
    exact⟨u,r,.inr ⟨.inl hk,c,hc,hc'⟩⟩
   ·rw[List.getElem?_set_ne (Ne.symm hj)] at e2
    obtain⟨u',r',q⟩:=hl j y v' e1 e2 e3
    refine⟨u',r',?_⟩
    rcases q with q|⟨k,c',e,z'⟩
    ·exact .inl q
    ·refine .inr ⟨k,c',e,z'.sameBut hs ?_⟩
     rintro rfl
     exact hj (eL hN e1 (I.ok.inj _ _ _ e hc▸hi))
  ·by_cases hcc:c'=c
   ·subst hcc;exact⟨_,hc'⟩
   ·obtain⟨w2,z2⟩:=I.cell y c' e
    exact⟨w2,z2.sameBut hs hcc⟩
  ·obtain⟨e,n,ne,nf,d⟩:=I.pin p hp
   refine⟨(hs.2 p.1 ?_).trans e,n,ne,nf,d⟩
   intro q
   rw[q,hoc] at e
   have q':oc=p.2:=Option.some.inj e
   exact d w' (by rw[←q'];exact hocd)
theorem eu {M:Model}{A:Around}{E:Value→Shared→Prop}{i:Nat}{x:Str}{v:V}{u:Value}{Q:Unit→Shared→Prop}(I:Inv X pins σ H s)(hN:X.N.Nodup)(hi:X.N[i]?=some x)(hx:vf X.env.scope x)(r:RelV v u)
  (h:∀s',Inv X pins (σ.set i (some v)) H s'→Q () s') (hf:X.fn x=true∨X.env.scope.names.lookup x=some .local:=by first|exact .inl rfl|exact .inr rfl|assumption):wpAny M A (storeName X.env x u) Q E s:=
 fX I hN hi hx r (fun s' I' _=>h s' I') hf
theorem Inv.call' {s':Shared}{ch:List Addr}(I:Inv X pins σ H s)(ho:s'.os=s.os)(u:Un (K9 X.stack) ch H H' s.heap s'.heap)(hok:HOk X.prog X.w H' s'.heap)(hg:AllBare s'.gens)
  (hch:∀b∈ch,(b∈X.ex∨X.s₀.heap.objs.size≤b)∧b≠X.env.locals∧(∀x c,X.env.cells.lookup x=some c→c≠b)∧∀p∈X.pn++pins,p.1≠b):Inv X pins σ H' s':=by
 obtain⟨h',g',d',t',o'⟩:=s'
 have e:o'=s.os:=ho
 subst e
 exact I.call (g':=g') (t':=t') (d':=d') u hok hg hch
end
abbrev XK:=Value→Option Addr→Hp→Prop
abbrev St:=List (Option V)
abbrev VK:=V→Hp→Prop
abbrev TE:=St→Hp→VK→Prop
abbrev TT:=St→Hp→(Bool→Hp→Prop)→Prop
abbrev TA:=St→Hp→(List V→Hp→Prop)→Prop
structure lI where
 nx:St→Hp→Prop
 rt:VK
 bk:St→Hp→Prop:=fun _ _=>False
 ct:St→Hp→Prop:=fun _ _=>False
abbrev TS:=lI→St→Hp→Prop
def EP (X:Cx)(pins:List (Addr×Obj))(σ:St)(Q:VK)(u:Value)(s':Shared):Prop:=∃v H',Inv X pins σ H' s'∧RelV v u∧Q v H'
def TP (X:Cx)(pins:List (Addr×Obj))(σ:St)(Q:Bool→Hp→Prop)(b:Bool)(s':Shared):Prop:=∃H',Inv X pins σ H' s'∧Q b H'
def AP (X:Cx)(pins:List (Addr×Obj))(σ:St)(Q:List V→Hp→Prop)(us:List Value)(s':Shared):Prop:=∃vs H',Inv X pins σ H' s'∧Vals vs us∧Q vs H'
def SP (X:Cx)(pins:List (Addr×Obj))(D:lI)(f:Flow)(s':Shared):Prop:=
 match f with
 | .next=>∃σ' H',Inv X pins σ' H' s'∧D.nx σ' H'
 | .brk=>∃σ' H',Inv X pins σ' H' s'∧D.bk σ' H'
 | .cont=>∃σ' H',Inv X pins σ' H' s'∧D.ct σ' H'
 | .ret u=>∃v σ' H',Inv X pins σ' H' s'∧RelV v u∧D.rt v H'
def PE (X:Cx)(e:Expr)(t:TE):Prop:=
 ∀(pins:List (Addr×Obj)) (s:Shared) (σ:St) (H:Hp) (Q:VK),Inv X pins σ H s→t σ H Q→wpAny (model X.prog X.w) X.A (eval e X.env) (EP X pins σ Q) X.xe s
def PT (X:Cx)(e:Expr)(t:TT):Prop:=
 ∀(pins:List (Addr×Obj)) (s:Shared) (σ:St) (H:Hp) (Q:Bool→Hp→Prop),Inv X pins σ H s→t σ H Q→wpAny (model X.prog X.w) X.A (isTrue e X.env (eval e X.env)) (TP X pins σ Q) X.xe s
def PW (X:Cx)(e:Expr)(t:TT):Prop:=
 ∀(whole:Sem Value) (pins:List (Addr×Obj)) (s:Shared) (σ:St) (H:Hp) (Q:Bool→Hp→Prop),Inv X pins σ H s→t σ H Q→wpAny (model X.prog X.w) X.A (isTrue e X.env whole) (TP X pins σ Q) X.xe s
theorem PW.pt {X:Cx}{e:Expr}{t:TT}(h:PW X e t):PT X e t:=h _
def PA (X:Cx)(es:List Expr)(t:TA):Prop:=
 ∀(pos:Pos) (pins:List (Addr×Obj)) (s:Shared) (σ:St) (H:Hp) (Q:List V→Hp→Prop),Inv X pins σ H s→t σ H Q→wpAny (model X.prog X.w) X.A (spliced (backTo pos (starEach es X.env))) (AP X pins σ Q) X.xe s
def PS (X:Cx)(st:Stmt)(t:TS):Prop:=
 ∀(pins:List (Addr×Obj)) (s:Shared) (σ:St) (H:Hp) (D:lI),Inv X pins σ H s→t D σ H→wpAny (model X.prog X.w) X.A (exec st X.env) (SP X pins D) X.xe s
def PSs (X:Cx)(st:List Stmt)(t:TS):Prop:=
 ∀(pins:List (Addr×Obj)) (s:Shared) (σ:St) (H:Hp) (D:lI),Inv X pins σ H s→t D σ H→wpAny (model X.prog X.w) X.A (execs st X.env) (SP X pins D) X.xe s
theorem B7 {α:Type}{t:Sem α}{Q Q':α→Shared→Prop}{M:Model}{A:Around}{E:Value→Shared→Prop}{s:Shared}(h:wpAny M A t Q E s)(hQ:∀a s,Q a s→Q' a s):wpAny M A t Q' E s:=wpAny_mono h hQ fun _ _ x=>x
end L2
namespace L2
open PySem PySem.Spec PyProof.Rows
section
variable {X:Cx}
def tG (i:Nat):TE:=fun σ H Q=>∃v,σ[i]?=some (some v)∧Q v H
def tC (v:V):TE:=fun _ H Q=>Q v H
theorem wN {i:Nat}{x:Str}{pos:Pos}(hN:X.N[i]?=some x)(hv:AY X.env.scope x)(hd:(x==("__debug__":Str))=false:=by decide)(hcd:(x==("__classdict__":Str))=false:=by decide):PE X (.Name x pos) (tG i):=by
 intro pins s σ H Q I h
 obtain⟨v,e,h⟩:=h
 obtain⟨m,hn,hl⟩:=I.loc
 obtain⟨u,r,l⟩:=hl i x v hN e hv
 have fin:EP X pins σ Q u s:=⟨v,H,I,r,h⟩
 rcases l with⟨hk,hm⟩|⟨hk,c,hc,hcell⟩
 ·exact wpAny_Name (wpAny_loadName_local I.ok.kind hk hn hm fin) hd
 ·rcases hk with hk|hk
  ·exact wpAny_Name (wpAny_loadName_cell I.ok.kind hk hc hcell fin) hd
  ·exact wpAny_Name (wpAny_loadName_free I.ok.kind hk hc hcell fin hcd) hd
theorem wB {i j pos}:PE X (.Constant (.int i) j pos) (tC (.int i)):=fun _ _ _ H _ I h=>wpAny_Constant_int ⟨.int i,H,I.tok _,⟨_,rfl⟩,h⟩
theorem zv {b j pos}:PE X (.Constant (.bool b) j pos) (tC (.bl b)):=fun _ _ _ H _ I h=>Constant_bool ⟨.bl b,H,I,rfl,h⟩
theorem wZ {j pos}:PE X (.Constant .none j pos) (tC .non):=fun _ _ _ H _ I h=>Constant_none ⟨.non,H,I,rfl,h⟩
theorem xW {x j pos}:PE X (.Constant (.str x) j pos) (tC (.str x)):=fun _ _ _ H _ I h=>Calls.Constant_str ⟨.str x,H,I.tok _,⟨_,rfl⟩,h⟩
def Gl (X:Cx)(x:Str):Prop:=X.env.kindOf x=some .globalImplicit
theorem aE {E:Value→Shared→Prop}{pins:List (Addr×Obj)}{s:Shared}{σ:St}{H:Hp}{x:Str}{u:Value}{pos:Pos}{Q:Value→Shared→Prop}(I:Inv X pins σ H s)(hg:Gl X x)(hm:X.mg x=some u)(h:Q u s)
  (hd:(x==("__debug__":Str))=false:=by decide):wpAny (model X.prog X.w) X.A (eval (.Name x pos) X.env) Q E s:=
 Calls.Name_function_global I.ok.kind hg (Calls.loadGlobal_global (by rw[I.ok.glob];exact I.mod.glob.keeps I.bk) hm h) hd
theorem bz {E:Value→Shared→Prop}{pins:List (Addr×Obj)}{s:Shared}{σ:St}{H:Hp}{x:Str}{u:Value}{pos:Pos}{Q:Value→Shared→Prop}(I:Inv X pins σ H s)(hg:Gl X x)(hm:X.mg x=none)(hv:bootBuiltins x=some u)(h:Q u s)
  (hn:x≠"__name__":=by decide) (hd:(x==("__debug__":Str))=false:=by decide):wpAny (model X.prog X.w) X.A (eval (.Name x pos) X.env) Q E s:=by
 obtain⟨mb,h1,h2⟩:=I.mod.blt
 exact Calls.Name_function_global I.ok.kind hg (Calls.loadGlobal_builtin (by rw[I.ok.glob];exact I.mod.glob.keeps I.bk) hm (by rw[I.ok.blt];exact h1.keeps I.bk) ((h2 x hn).trans hv) h) hd
theorem mv {x:Str}{v:V}{u:Value}{pos:Pos}(hg:Gl X x)(hm:X.mg x=some u)(r:RelV v u)(hd:(x==("__debug__":Str))=false:=by decide):PE X (.Name x pos) (tC v):=
 fun _ _ _ H _ I h=>aE I hg hm ⟨v,H,I,r,h⟩ hd
theorem ui {x:Str}{v:V}{u:Value}{pos:Pos}(hg:Gl X x)(hm:X.mg x=none)(hv:bootBuiltins x=some u)(r:RelV v u)(hn:x≠"__name__":=by decide)(hd:(x==("__debug__":Str))=false:=by decide):PE X (.Name x pos) (tC v):=
 fun _ _ _ H _ I h=>bz I hg hm hv ⟨v,H,I,r,h⟩ hn hd
variable {a b:Expr} {ta tb:TE} {pos:Pos}
theorem RelV.none_iff {x:V}{v:Value}(r:RelV x v):(v==Value.none)=decide (x= .non):=by
 cases x with
 |non=>cases r;rfl
 |bl _=>cases r;rfl
 |int _=>obtain⟨t,rfl⟩:=r;rfl
 |str _=>obtain⟨t,rfl⟩:=r;rfl
 |byt _=>obtain⟨t,rfl⟩:=r;rfl
 |flt _=>obtain⟨t,rfl⟩:=r;rfl
 |ref _=>cases r;rfl
 |ty _=>cases r;rfl
def tB (t:TE):TT:=fun σ H Q=>t σ H fun x H1=>∃c,x= .bl c∧Q c H1
variable {tA tB':TT} {R6:List Expr}
def wF (t u:TT):TT:=fun σ H Q=>t σ H fun c H1=>if c=true then u σ H1 Q else Q false H1
def Ba (t u:TT):TT:=fun σ H Q=>t σ H fun c H1=>if c=true then Q true H1 else u σ H1 Q
def vG (t:TT):TT:=fun σ H Q=>t σ H fun c H1=>Q (!c) H1
theorem tX (ha:PT X a tA):PW X (.BoolOp .And [a] pos) tA:=by
 intro wh pins s σ H Q I h
 refine isTrue_and (B7 (ha pins s σ H Q I h) fun c s1 e=>?_)
 cases c with
 |true=>exact isTrue_and_nil e
 |false=>exact e
theorem xM (ha:PT X a tA):PW X (.BoolOp .Or [a] pos) tA:=by
 intro wh pins s σ H Q I h
 refine isTrue_or (B7 (ha pins s σ H Q I h) fun c s1 e=>?_)
 cases c with
 |false=>exact isTrue_or_nil e
 |true=>exact e
theorem xn (ha:PT X a tA)(hb:PW X (.BoolOp .And (b::R6) pos) tB'):PW X (.BoolOp .And (a::b::R6) pos) (wF tA tB'):=by
 intro wh pins s σ H Q I h
 refine isTrue_and (B7 (ha pins s σ H _ I h) fun c s1 ⟨H1,I1,q1⟩=>?_)
 cases c with
 |true=>exact hb wh pins s1 σ H1 Q I1 q1
 |false=>exact⟨H1,I1,q1⟩
theorem Ab (ha:PT X a tA)(hb:PW X (.BoolOp .Or (b::R6) pos) tB'):PW X (.BoolOp .Or (a::b::R6) pos) (Ba tA tB'):=by
 intro wh pins s σ H Q I h
 refine isTrue_or (B7 (ha pins s σ H _ I h) fun c s1 ⟨H1,I1,q1⟩=>?_)
 cases c with
 |true=>exact⟨H1,I1,q1⟩
 |false=>exact hb wh pins s1 σ H1 Q I1 q1
theorem vP (ha:PT X a tA):PT X (.UnaryOp .Not a pos) (vG tA):=by
 intro pins s σ H Q I h
 exact isTrue_not (ha pins s σ H (fun c H1=>Q (!c) H1) I h)
def qE (ta tb:TE):TE:=fun σ H Q=>ta σ H fun x H1=>∃c,x= .bl c∧if c=true then tb σ H1 Q else Q (.bl false) H1
def rT (ta:TE):TE:=fun σ H Q=>ta σ H fun x H1=>∃c,x= .bl c∧Q (.bl (!c)) H1
theorem wD {op}{t:TE}(h:PE X a t):PE X (.BoolOp op [a] pos) t:=fun pins s σ H Q I hw=>BoolOp_one (h pins s σ H Q I hw)
theorem xo (ha:PE X a ta)(hb:PE X (.BoolOp .And (b::R6) pos) tb):PE X (.BoolOp .And (a::b::R6) pos) (qE ta tb):=by
 intro pins s σ H Q I h
 refine BoolOp_and (B7 (ha pins s σ H _ I h) fun v s1 ⟨x,H1,I1,r1,q1⟩=>?_)
 obtain⟨c,rfl,q1⟩:=q1
 cases r1
 refine wpAny_truthy_bool ?_
 cases c with
 |true=>exact hb pins s1 σ H1 Q I1 q1
 |false=>exact⟨.bl false,H1,I1,rfl,q1⟩
theorem xy (ha:PE X a ta):PE X (.UnaryOp .Not a pos) (rT ta):=by
 intro pins s σ H Q I h
 refine UnaryOp_ (B7 (ha pins s σ H _ I h) fun v s1 ⟨x,H1,I1,r1,q1⟩=>?_)
 obtain⟨c,rfl,q1⟩:=q1
 cases r1
 exact not_of (wpAny_truthy_bool ⟨.bl (!c),H1,I1,rfl,q1⟩)
end
end L2
namespace L2
open PySem PySem.Spec PyProof.Rows
def SqL (K:PySem.W.Frag)(H:Hp)(a:Addr)(xs:List V):Prop:=
 Rd H a (.lst xs)∨
  ∃(o:Obj) (its:Array Value) (n:Nat),K.lookup a=some o∧o.cls= .type "list"∧o.dict=none∧o.data= .seq its n∧its.size≤sizeLine∧Vals xs its.toList
def SqT (K:PySem.W.Frag)(H:Hp)(a:Addr)(xs:List V):Prop:=
 Rd H a (.tup xs)∨
  ∃(o:Obj) (its:Array Value) (n:Nat),K.lookup a=some o∧o.cls= .type "tuple"∧o.data= .seq its n∧its.size≤sizeLine∧Vals xs its.toList
def BG:Value→Option V
 | .none=>some .non
 | .bool b=>some (.bl b)
 | .int i _=>some (.int i)
 | .str x _=>some (.str x)
 | .bytes b _=>some (.byt b)
 | .float b _=>some (.flt b)
 | .ref a=>some (.ref a)
 | .type n=>some (.ty n)
 |_=>none
theorem RelV.abs {x:V}{u:Value}(r:RelV x u):BG u=some x:=by
 cases x with
 |non=>cases r;rfl
 |bl _=>cases r;rfl
 |int _=>obtain⟨t,rfl⟩:=r;rfl
 |str _=>obtain⟨t,rfl⟩:=r;rfl
 |byt _=>obtain⟨t,rfl⟩:=r;rfl
 |flt _=>obtain⟨t,rfl⟩:=r;rfl
 |ref _=>cases r;rfl
 |ty _=>cases r;rfl
theorem RelV.inj {x y:V}{u:Value}(r:RelV x u)(q:RelV y u):x=y:=Option.some.inj (r.abs.symm.trans q.abs)
theorem Vals.inj:∀{xs ys:List V} {us:List Value},Vals xs us→Vals ys us→xs=ys
 |_,_,_,.nil,.nil=>rfl
 |_,_,_,.cons r t,.cons r' t'=>by rw[r.inj r',Vals.inj t t']
section
variable {X:Cx} {pins:List (Addr×Obj)} {σ:St} {H:Hp} {s:Shared} {a:Addr} {xs ys:List V}
theorem SqL.of {K:PySem.W.Frag}(h:H a=some (.lst xs)):SqL K H a xs:= .inl (.inl h)
theorem SqT.of {K:PySem.W.Frag}(h:H a=some (.tup xs)):SqT K H a xs:= .inl (.inl h)
theorem Inv.list (I:Inv X pins σ H s)(h:SqL X.K H a xs):∃its:List Value,Vals xs its∧PlainL s.heap a its.toArray∧xs.length≤sizeLine:=by
 rcases h with h|⟨o,its,n,hk,hc,hd,hs,hz,r⟩
 ·obtain⟨z,its,n,r,e⟩:=h.ok I.hok
  exact⟨its,r,⟨_,n,e,rfl,rfl,rfl⟩,z⟩
 ·refine⟨its.toList,r,⟨o,n,I.kIn a o hk,hc,hd,by simpa using hs⟩,?_⟩
  have e:=r.length
  simp only[Array.length_toList] at e
  omega
theorem Inv.tuple (I:Inv X pins σ H s)(h:SqT X.K H a xs):∃its:List Value,Vals xs its∧IsTup s.heap a its.toArray∧xs.length≤sizeLine:=by
 rcases h with h|⟨o,its,n,hk,hc,hs,hz,r⟩
 ·obtain⟨z,its,r,p⟩:=h.ok I.hok
  exact⟨its,r,p,z⟩
 ·refine⟨its.toList,r,⟨o,I.kIn a o hk,hc,n,by simpa using hs⟩,?_⟩
  have e:=r.length
  simp only[Array.length_toList] at e
  omega
theorem Inv.list_inj (I:Inv X pins σ H s)(h:SqL X.K H a xs)(h':SqL X.K H a ys):xs=ys:=by
 obtain⟨its,r,⟨o,n,e,_,_,d⟩,_⟩:=I.list h
 obtain⟨its',r',⟨o',n',e',_,_,d'⟩,_⟩:=I.list h'
 rw[e] at e';cases e'
 rw[d] at d'
 injection d' with d1 _
 have:its=its':=by simpa using congrArg Array.toList d1
 subst this
 exact r.inj r'
theorem Inv.tuple_inj (I:Inv X pins σ H s)(h:SqT X.K H a xs)(h':SqT X.K H a ys):xs=ys:=by
 obtain⟨its,r,⟨o,e,_,n,d⟩,_⟩:=I.tuple h
 obtain⟨its',r',⟨o',e',_,n',d'⟩,_⟩:=I.tuple h'
 rw[e] at e';cases e'
 rw[d] at d'
 injection d' with d1 _
 have:its=its':=by simpa using congrArg Array.toList d1
 subst this
 exact r.inj r'
end
abbrev Cx.wish (X:Cx)(E:Value→Shared→Prop):Cx:={X with xe:=E}
abbrev Cx.nox (X:Cx):Cx:=X.wish fun _ _=>False
theorem Cx.Ok.wish {X:Cx}(ok:X.Ok)(E:Value→Shared→Prop):(X.wish E).Ok:=
 ⟨ok.mod,ok.kind,ok.glob,ok.blt,ok.above,ok.inj,ok.has,ok.cab,ok.hd,ok.frames,ok.stk,ok.exf,ok.bs,ok.bsz,ok.noex,ok.exfs,ok.funs,ok.frf⟩
theorem Cx.Ok.unwish {X:Cx}{E:Value→Shared→Prop}(ok:(X.wish E).Ok):X.Ok:=
 ⟨ok.mod,ok.kind,ok.glob,ok.blt,ok.above,ok.inj,ok.has,ok.cab,ok.hd,ok.frames,ok.stk,ok.exf,ok.bs,ok.bsz,ok.noex,ok.exfs,ok.funs,ok.frf⟩
section
variable {X:Cx} {pins:List (Addr×Obj)} {σ:St} {H:Hp} {s:Shared} {E:Value→Shared→Prop}
theorem Inv.wish (I:Inv X pins σ H s)(E:Value→Shared→Prop):Inv (X.wish E) pins σ H s:=⟨I.ok.wish E,I.os,I.bare,I.base,I.loc,I.cell,I.free,I.freeC,I.pin,I.hok,I.len⟩
theorem Inv.unwish (I:Inv (X.wish E) pins σ H s):Inv X pins σ H s:=⟨I.ok.unwish,I.os,I.bare,I.base,I.loc,I.cell,I.free,I.freeC,I.pin,I.hok,I.len⟩
theorem SP.unwish {D:lI}{f:Flow}{s':Shared}(h:SP (X.wish E) pins D f s'):SP X pins D f s':=by
 cases f with
 |next=>obtain⟨σ',H',I,q⟩:=h;exact⟨σ',H',I.unwish,q⟩
 |brk=>obtain⟨σ',H',I,q⟩:=h;exact⟨σ',H',I.unwish,q⟩
 |cont=>obtain⟨σ',H',I,q⟩:=h;exact⟨σ',H',I.unwish,q⟩
 |ret u=>obtain⟨v,σ',H',I,r,q⟩:=h;exact⟨v,σ',H',I.unwish,r,q⟩
theorem PSs.nox {st:List Stmt}{t:TS}(h:PSs X.nox st t):PSs X st t:=fun pins s σ H D I hw=>
 wpAny_mono (h pins s σ H D (I.wish _) hw) (fun _ _ q=>q.unwish) fun _ _ z=>False.elim z
end
section
variable {X:Cx} {st:Stmt} {R6:List Stmt} {t u:TS} {e:Expr} {te:TE} {pos:Pos}
def qi:TS:=fun D σ H=>D.nx σ H
def oJ (t u:TS):TS:=fun D σ H=>t {D with nx:=u D} σ H
theorem uC:PSs X [] qi:=fun _ _ σ H _ I h=>wpAny_execs_nil ⟨σ,H,I,h⟩
theorem qW (h1:PS X st t)(h2:PSs X R6 u):PSs X (st::R6) (oJ t u):=by
 intro pins s σ H D I h
 refine wpAny_execs_cons (B7 (h1 pins s σ H {D with nx:=u D} I h) fun f s1 q=>?_)
 cases f with
 |next=>
  obtain⟨σ',H',I',q⟩:=q
  exact h2 pins s1 σ' H' D I' q
 |ret v=>exact q
 |brk=>exact q
 |cont=>exact q
theorem sM (h1:PS X st t):PSs X [st] t:=by
 intro pins s σ H D I h
 refine wpAny_execs_cons (B7 (h1 pins s σ H D I h) fun f s1 q=>?_)
 cases f with
 |next=>exact wpAny_execs_nil q
 |ret v=>exact q
 |brk=>exact q
 |cont=>exact q
theorem Inv.quiet {pins:List (Addr×Obj)}{σ:St}{H:Hp}{s:Shared}(I:Inv X pins σ H s):interactive X.env=false:=by simp [interactive,I.ok.kind]
def pW (te:TE):TS:=fun D σ H=>te σ H fun _ H1=>D.nx σ H1
theorem uW (he:PE X e te)(hs:swapsWith e none pos.line X.env=pure false:=by rfl):PS X (.Expr e pos) (pW te):=by
 intro pins s σ H D I h
 exact wpAny_Expr_any (B7 (he pins s σ H _ I h) fun v s1 ⟨x,H1,I1,r1,q1⟩=>⟨σ,H1,I1,q1⟩) I.quiet hs
def we (te:TE):TS:=fun D σ H=>te σ H D.rt
theorem vT (he:PE X e te):PS X (.Return (some e) pos) (we te):=by
 intro pins s σ H D I h
 exact wpAny_Return_some (B7 (he pins s σ H _ I h) fun v s1 ⟨x,H1,I1,r1,q1⟩=>⟨x,σ,H1,I1,r1,q1⟩)
def xI (c:TT)(t u:TS):TS:=fun D σ H=>c σ H fun b H1=>if b=true then t D σ H1 else u D σ H1
theorem zk {c:Expr}{a b:List Stmt}{tc:TT}(hc:PT X c tc)(ha:PSs X a t)(hb:PSs X b u):PS X (.If c a b pos) (xI tc t u):=by
 intro pins s σ H D I h
 refine wpAny_If (B7 (hc pins s σ H _ I h) fun d s1 ⟨H1,I1,q1⟩=>?_)
 cases d with
 |true=>exact ha pins s1 σ H1 D I1 q1
 |false=>exact hb pins s1 σ H1 D I1 q1
end
abbrev TG:=V→St→Hp→(St→Hp→Prop)→Prop
abbrev jH:=List V→St→Hp→(St→Hp→Prop)→Prop
def PG (X:Cx)(target:Expr)(t:TG):Prop:=
 ∀(pins:List (Addr×Obj)) (s:Shared) (σ:St) (H:Hp) (v:V) (u:Value) (Q:St→Hp→Prop),Inv X pins σ H s→RelV v u→t v σ H Q→
  wpAny (model X.prog X.w) X.A (assign target X.env u) (fun _ s'=>∃σ' H',Inv X pins σ' H' s'∧Q σ' H') X.xe s
def sX (X:Cx)(ts:List Expr)(t:jH):Prop:=
 ∀(pins:List (Addr×Obj)) (s:Shared) (σ:St) (H:Hp) (vs:List V) (us:List Value) (Q:St→Hp→Prop),Inv X pins σ H s→Vals vs us→t vs σ H Q→
  wpAny (model X.prog X.w) X.A (assignInOrder ((assignEach ts X.env).map (·.2)) us) (fun _ s'=>∃σ' H',Inv X pins σ' H' s'∧Q σ' H') X.xe s
abbrev lj:=V→V→V→Hp→(Hp→Prop)→Prop
def nz (X:Cx)(t:lj):Prop:=
 ∀(pins:List (Addr×Obj)) (s:Shared) (σ:St) (H:Hp) (o i v:V) (ov iv u:Value) (Q:Hp→Prop),Inv X pins σ H s→RelV o ov→RelV i iv→RelV v u→t o i v H Q→
  wpAny (model X.prog X.w) X.A (setItem ov iv u) (fun _ s'=>∃H',Inv X pins σ H' s'∧Q H') X.xe s
section
variable {X:Cx} {pos:Pos}
def M0 (i:Nat):TG:=fun v σ H Q=>Q (σ.set i (some v)) H
theorem sL {i:Nat}{x:Str}(hN:X.N.Nodup)(hi:X.N[i]?=some x)(hx:vf X.env.scope x)(hf:X.fn x=true∨X.env.scope.names.lookup x=some .local:=by first|exact .inl rfl|exact .inr rfl|assumption):PG X (.Name x pos) (M0 i):=by
 intro pins s σ H v u Q I r h
 exact wpAny_assign_Name (eu I hN hi hx r (fun s' I'=>⟨_,H,I',h⟩) hf)
def xp:jH:=fun vs σ H Q=>vs=[]∧Q σ H
def mx (t:TG)(u:jH):jH:=fun vs σ H Q=>∃v r,vs=v::r∧t v σ H fun σ' H'=>u r σ' H' Q
theorem sE:sX X [] xp:=by
 intro pins s σ H vs us Q I r h
 obtain⟨e,h⟩:=h
 subst e
 cases r
 exact assignInOrder_nil ⟨σ,H,I,h⟩
theorem pj {e:Expr}{es:List Expr}{t:TG}{u:jH}(h1:PG X e t)(h2:sX X es u)
  (hs:(assignEach (e::es) X.env).map (·.2)=assign e X.env::(assignEach es X.env).map (·.2):=by rfl):sX X (e::es) (mx t u):=by
 intro pins s σ H vs us Q I r h
 obtain⟨v,vr,e1,h⟩:=h
 subst e1
 cases r with
 |cons r rr=>
  rw[hs]
  refine assignInOrder_cons (B7 (h1 pins s σ H _ _ _ I r h) fun _ s1 ⟨σ1,H1,I1,q1⟩=>?_)
  exact h2 pins s1 σ1 H1 _ _ Q I1 rr q1
def qz (K:PySem.W.Frag)(n:Nat)(t:jH):TG:=fun v σ H Q=>∃a xs,v= .ref a∧SqT K H a xs∧xs.length=n∧t xs σ H Q
theorem xt {es:List Expr}{k:Nat}{t:jH}{n:Nat}(hc:X.calm=true)(h:sX X es t)
  (hn:(assignEach es X.env).length=n:=by rfl) (hst:(assignEach es X.env).findIdx? (·.1)=none:=by rfl):PG X (.Tuple es k pos) (qz X.K n t):=by
 intro pins s σ H v u Q I r hw
 obtain⟨a,xs,e1,hq,hl,hw⟩:=hw
 subst e1
 cases r
 obtain⟨its,rv,ht,hz⟩:=I.tuple hq
 refine assign_Tuple_tuple (I.ok.hd hc) ht (by simp [hn,←hl,rv.length]) hst fun h' hx=>?_
 have I1:Inv X pins σ H {s with heap:=h'}:=I.kept (t':=s.toks) fun b o e=>hx b o (Nat.ne_of_lt (Heap.lt_size e)) e
 exact h pins _ σ H xs _ Q I1 (by simpa using rv) hw
def uB (to ti:TE)(t:lj):TG:=fun v σ H Q=>to σ H fun o H1=>ti σ H1 fun i H2=>t o i v H2 fun H3=>Q σ H3
theorem wY {o i:Expr}{to ti:TE}{t:lj}(ho:PE X o to)(hi:PE X i ti)(hs:nz X t)
  (ha:∀v,assign (.Subscript o i pos) X.env v=(do
   let ov←holding [v] (eval o X.env)
   let iv←holding [v,ov] (eval i X.env)
   standAt pos
   holding [v,ov,iv] (setItem ov iv v)
   release [v,ov,iv] []):=by intro _;rfl):PG X (.Subscript o i pos) (uB to ti t):=by
 intro pins s σ H v u Q I r h
 rw[ha]
 refine wpAny_bind (wpAny_holding (B7 (ho pins s σ H _ I h) fun ov s1 ⟨x,H1,I1,r1,q1⟩=>?_))
 refine wpAny_bind (wpAny_holding (B7 (hi pins s1 σ H1 _ I1 q1) fun iv s2 ⟨y,H2,I2,r2,q2⟩=>?_))
 refine wpAny_bind (wpAny_standAt (wpAny_bind (wpAny_holding (B7 (hs pins s2 σ H2 x y v ov iv u _ I2 r1 r2 r q2) fun _ s3 ⟨H3,I3,q3⟩=>?_))))
 exact wpAny_release ⟨σ,H3,I3,q3⟩
def kz (te:TE)(g:TG):TS:=fun D σ H=>te σ H fun x H1=>g x σ H1 D.nx
theorem xP {tg e:Expr}{te:TE}{g:TG}(he:PE X e te)(hg:PG X tg g)(hs:swapsWithSole [tg] e pos.line X.env=pure false:=by rfl)(hw:swappedStores [tg] e X.env=pure none:=by rfl)
  (h1:(assignEach [tg] X.env).map (·.2)=[assign tg X.env]:=by rfl):PS X (.Assign [tg] e pos) (kz te g):=by
 intro pins s σ H D I h
 refine wpAny_Assign_stores (B7 (he pins s σ H _ I h) fun v s1 ⟨x,H1,I1,r1,q1⟩=>?_) hs hw
 rw[h1]
 exact B7 (hg pins s1 σ H1 x v _ I1 r1 q1) fun _ s2 q=>q
theorem wz {i:Nat}{x:Str}{e:Expr}{te:TE}{pos':Pos}(hN:X.N.Nodup)(hi:X.N[i]?=some x)(hx:vf X.env.scope x)(he:PE X e te)(hs:swapsWith e (some (.Name x pos')) pos.line X.env=pure false:=by rfl)(hf:X.fn x=true∨X.env.scope.names.lookup x=some .local:=by first|exact .inl rfl|exact .inr rfl|assumption):
  PS X (.Assign [.Name x pos'] e pos) (kz te (M0 i)):=by
 intro pins s σ H D I h
 refine wpAny_Assign_Name (B7 (he pins s σ H _ I h) fun v s1 ⟨y,H1,I1,r1,q1⟩=>?_) hs
 exact eu I1 hN hi hx r1 (fun s2 I2=>⟨_,H1,I2,q1⟩) hf
end
section
variable {X:Cx} {pos:Pos}
end
structure It where
 go:Nat→Hp→Prop
 yld:Nat→Hp→V→Hp→Prop
 stop:Nat→Hp→Prop
def ay (X:Cx)(pins:List (Addr×Obj))(H:Hp)(b:Addr):Prop:=
 H b=none∧b≠X.env.locals∧b∉X.fs∧(b∈X.ex∨X.s₀.heap.objs.size≤b)∧(∀x c,X.env.cells.lookup x=some c→c≠b)∧∀p∈X.pn++pins,p.1≠b
theorem Inv.fpOk {X:Cx}{pins:List (Addr×Obj)}{σ:St}{H H':Hp}{s:Shared}{b:Addr}(I:Inv X pins σ H s)(hb:s.heap.objs.size≤b)(hn:H' b=none):ay X pins H' b:=by
 refine⟨hn,Nat.ne_of_gt (Nat.lt_of_lt_of_le I.lt hb),I.nofs hb,.inr (Nat.le_trans I.sz hb),fun x c e z=>?_,fun p hp z=>?_⟩
 ·obtain⟨v,q⟩:=I.cell x c e
  exact absurd (Nat.lt_of_lt_of_le q.lt (by rw[z];exact hb)) (Nat.lt_irrefl _)
 ·exact absurd (Nat.lt_of_lt_of_le (Heap.lt_size (I.pin p hp).1) (by rw[z];exact hb)) (Nat.lt_irrefl _)
structure aU (P:Program) (w:World) (K:PySem.W.Frag) (tg:Expr) (J:It) (fp:List Addr) (it:Addr) (tn:Nat→Heap→Prop):Prop where
 mem:it∈fp
 obj:∀i h,tn i h→∀b∈fp,∃o,h.get? b=some o∧∀v,o.data≠ .cell v
 keep:∀i h h',tn i h→(∀b∈fp,∀o,h.get? b=some o→h'.get? b=some o)→tn i h'
 item:∀(X:Cx),X.prog=P→X.w=w→X.K=K→X.calm=true→∀(i:Nat) (pins:List (Addr×Obj)) (s:Shared) (σ:St) (H:Hp) (E:Value→Shared→Prop),Inv X pins σ H s→(∀b∈fp,ay X pins H b)→tn i s.heap→J.go i H→
  wpAny (model P w) X.A (pyNext (.ref it)) (fun r s1=>∃u,r=some u∧
   wpAny (model P w) X.A (letOwnedTupleGo tg (.ref it) u) (fun _ s2=>∃x H',Inv X pins σ H' s2∧RelV x u∧J.yld i H x H'∧tn (i+1) s2.heap∧∀b∈fp,H' b=none) E s1) E s
 done:∀(X:Cx),X.prog=P→X.w=w→X.K=K→X.calm=true→∀(i:Nat) (pins:List (Addr×Obj)) (s:Shared) (σ:St) (H:Hp) (E:Value→Shared→Prop),Inv X pins σ H s→(∀b∈fp,ay X pins H b)→tn i s.heap→J.stop i H→
  wpAny (model P w) X.A (pyNext (.ref it)) (fun r s1=>r=none∧Inv X pins σ H s1) E s
 self:∀(A:Around) (i:Nat) (s:Shared) (Q:Value→Shared→Prop) (E:Value→Shared→Prop),tn i s.heap→Q (.ref it) s→wpAny (model P w) A (pyIter (.ref it)) Q E s
abbrev TI:=St→Hp→(It→Hp→Prop)→Prop
def Am (X:Cx)(pins:List (Addr×Obj))(σ:St)(tg:Expr)(R:It→Hp→Prop)(itv:Value)(s2:Shared):Prop:=
 ∃(it:Addr) (fp:List Addr) (tn:Nat→Heap→Prop) (J:It) (H':Hp),itv= .ref it∧Inv X pins σ H' s2∧aU X.prog X.w X.K tg J fp it tn∧tn 0 s2.heap∧(∀b∈fp,ay X pins H' b)∧R J H'
def PI (X:Cx)(tg iter:Expr)(wi:TI):Prop:=
 ∀(pins:List (Addr×Obj)) (s:Shared) (σ:St) (H:Hp) (R:It→Hp→Prop),Inv X pins σ H s→wi σ H R→
  wpAny (model X.prog X.w) X.A (eval iter X.env) (fun v s1=>wpAny (model X.prog X.w) X.A (pyIter v) (Am X pins σ tg R) X.xe s1) X.xe s
theorem mG {M : Model} {A : Around} {E : Value → Shared → Prop} {s : Shared} {tg : Expr} {it : Addr} {u : Value} {o : Obj} {n : String} {vs : Array Value} {Q : Unit → Shared → Prop} (ho : s.heap.get? it = some o) (hc : o.cls = .type n) (hd : o.data = .fields vs)
    (hn : ["enumerate", "zip", "dict_itemiterator", "dict_reverseitemiterator", "odict_iterator", "itertools.zip_longest", "itertools.pairwise"].contains n = false) (hQ : Q () s) : wpAny M A (letOwnedTupleGo tg (.ref it) u) Q E s := by
  unfold letOwnedTupleGo
  cases tg <;> first
    | exact wpAny_pure hQ
    | (cases u <;> first
        | exact wpAny_pure hQ
        | (refine wpAny_bind (wpAny_load ho ?_)
           rw [hc, hd]
           show wpAny M A (if (["enumerate", "zip", "dict_itemiterator", "dict_reverseitemiterator", "odict_iterator", "itertools.zip_longest", "itertools.pairwise"].contains n && vs[0]? == some (rawInt _)) = true then _ else _) Q E s
           rw [if_neg (by intro h; rw [hn, Bool.false_and] at h; cases h)]
           exact wpAny_pure hQ))
def Itl (K:PySem.W.Frag)(a:Addr):It:=
 ⟨fun i H=>∃xs x,SqL K H a xs∧xs[i]?=some x,fun i H x H'=>H'=H∧∀xs,SqL K H a xs→xs[i]?=some x,fun i H=>∃xs,SqL K H a xs∧xs.length≤i⟩
def BO (K:PySem.W.Frag)(a:Addr):It:=
 ⟨fun i H=>∃xs x,SqT K H a xs∧xs[i]?=some x,fun i H x H'=>H'=H∧∀xs,SqT K H a xs→xs[i]?=some x,fun i H=>∃xs,SqT K H a xs∧xs.length≤i⟩
def yX (lo:Int)(n:Nat):It:=⟨fun i _=>i<n,fun i H x H'=>H'=H∧x= .int (lo+i),fun i _=>n≤i⟩
theorem nF {P:Program}{w:World}{K:PySem.W.Frag}{tg:Expr}(a it:Addr):aU P w K tg (Itl K a) [it] it (fun i h=>h.IsListIter it a i) where
 mem:=by simp
 obj:=fun i h st b hb=>by
  have e:b=it:=by simpa using hb
  subst e
  obtain⟨o,e,c,d⟩:=st
  exact⟨o,e,fun v z=>by rw[d] at z;cases z⟩
 keep:=fun i h h' st k=>st.at fun o e=>k it (by simp) o e
 item:=by
  intro X hP hw hK hc i pins s σ H E I hf st hg
  subst hP hw hK
  obtain⟨xs,x,hq,hx⟩:=hg
  obtain⟨its,rv,p,hz⟩:=I.list hq
  obtain⟨u,hu,ru⟩:=rv.get hx
  obtain⟨f0,f1,f2,f3,f4,f5⟩:=hf it (by simp)
  refine wpAny_pyNext_list_item st p.isList (x:=u) (by simpa using hu) fun h' st' sb=>?_
  have I1:Inv X pins σ H {s with heap:=h'}:=I.turned (t':=s.toks) (fun b o hb e=>(sb.2 b hb).trans e) f0 f1 f3 f4 f5
  obtain⟨o,e,c,d⟩:=id st'
  exact⟨u,rfl,mG (s:={s with heap:=h'}) e c d (by decide) ⟨x,H,I1,ru,⟨rfl,fun ys hy=>by rw[I.list_inj hy hq];exact hx⟩,st',fun b hb=>(hf b hb).1⟩⟩
 done:=by
  intro X hP hw hK hc i pins s σ H E I hf st hg
  subst hP hw hK
  obtain⟨xs,hq,hx⟩:=hg
  obtain⟨its,rv,p,hz⟩:=I.list hq
  obtain⟨f0,f1,f2,f3,f4,f5⟩:=hf it (by simp)
  have hl:=rv.length
  exact wpAny_pyNext_list_end (I.ok.hd hc) st p.isList (by simp;omega) fun h' eb=>⟨rfl,I.turned (t':=s.toks) (fun b o hb e=>eb b o hb e) f0 f1 f3 f4 f5⟩
 self:=fun _ _ _ _ _ st h=>wpAny_pyIter_listiter st h
theorem jD {P:Program}{w:World}{K:PySem.W.Frag}{tg:Expr}(a it:Addr):aU P w K tg (BO K a) [it] it (fun i h=>h.IsTupleIter it a i) where
 mem:=by simp
 obj:=fun i h st b hb=>by
  have e:b=it:=by simpa using hb
  subst e
  obtain⟨o,e,c,d⟩:=st
  exact⟨o,e,fun v z=>by rw[d] at z;cases z⟩
 keep:=fun i h h' st k=>st.at fun o e=>k it (by simp) o e
 item:=by
  intro X hP hw hK hc i pins s σ H E I hf st hg
  subst hP hw hK
  obtain⟨xs,x,hq,hx⟩:=hg
  obtain⟨its,rv,p,hz⟩:=I.tuple hq
  obtain⟨u,hu,ru⟩:=rv.get hx
  obtain⟨f0,f1,f2,f3,f4,f5⟩:=hf it (by simp)
  refine wpAny_pyNext_tuple_item st (show s.heap.IsTuple a its.toArray from p) (x:=u) (by simpa using hu) fun h' st' sb=>?_
  have I1:Inv X pins σ H {s with heap:=h'}:=I.turned (t':=s.toks) (fun b o hb e=>(sb.2 b hb).trans e) f0 f1 f3 f4 f5
  obtain⟨o,e,c,d⟩:=id st'
  exact⟨u,rfl,mG (s:={s with heap:=h'}) e c d (by decide) ⟨x,H,I1,ru,⟨rfl,fun ys hy=>by rw[I.tuple_inj hy hq];exact hx⟩,st',fun b hb=>(hf b hb).1⟩⟩
 done:=by
  intro X hP hw hK hc i pins s σ H E I hf st hg
  subst hP hw hK
  obtain⟨xs,hq,hx⟩:=hg
  obtain⟨its,rv,p,hz⟩:=I.tuple hq
  obtain⟨f0,f1,f2,f3,f4,f5⟩:=hf it (by simp)
  have hl:=rv.length
  exact wpAny_pyNext_tuple_end (I.ok.hd hc) st (show s.heap.IsTuple a its.toArray from p) (by simp;omega) fun h' eb=>⟨rfl,I.turned (t':=s.toks) (fun b o hb e=>eb b o hb e) f0 f1 f3 f4 f5⟩
 self:=fun _ _ _ _ _ st h=>wpAny_pyIter_tupleiter st h
theorem lg {P:Program}{w:World}{K:PySem.W.Frag}{tg:Expr}(it:Addr)(lo:Int)(n:Nat):aU P w K tg (yX lo n) [it] it (fun i h=>IsRangeIter h it (lo+(i:Nat)*1) ((n:Int) -(i:Nat)) 1) where
 mem:=by simp
 obj:=fun i h st b hb=>by
  have e:b=it:=by simpa using hb
  subst e
  exact⟨_,st,fun v z=>by
   have z':Data.fields _=Data.cell v:=z
   cases z'⟩
 keep:=fun i h h' st k=>k it (by simp) _ st
 item:=by
  intro X hP hw hK hc i pins s σ H E I hf st hg
  subst hP hw hK
  obtain⟨f0,f1,f2,f3,f4,f5⟩:=hf it (by simp)
  have W:=Walks.range (prog:=X.prog) (w:=X.w) (I.ok.hd hc) it lo 1 n
  refine W.item i s _ _ hg st fun v h' tk hv st' kk=>?_
  obtain⟨t,rfl⟩:=hv
  have I1:Inv X pins σ H {s with heap:=h',toks:=tk}:=I.turned (fun b o hb e=>kk b o (by simpa using hb) e) f0 f1 f3 f4 f5
  refine⟨_,rfl,mG (s:={s with heap:=h',toks:=tk}) (n:="range_iterator") st' rfl rfl (by decide) ⟨.int (lo+i),H,I1,⟨t,?_⟩,⟨rfl,rfl⟩,st',fun b hb=>(hf b hb).1⟩⟩
  rw[Int.mul_one]
 done:=by
  intro X hP hw hK hc i pins s σ H E I hf st hg
  subst hP hw hK
  obtain⟨f0,f1,f2,f3,f4,f5⟩:=hf it (by simp)
  exact wpAny_pyNext_range_end (I.ok.hd hc) st (by have:n≤i:=hg;omega) fun h' eb=>⟨rfl,I.turned (t':=s.toks) (fun b o hb e=>eb b o hb e) f0 f1 f3 f4 f5⟩
 self:=fun _ _ _ _ _ st h=>wpAny_pyIter_rangeiter st h
end L2
namespace L2
open PySem PySem.Spec PyProof.Rows
section
variable {X:Cx} {tg:Expr}
theorem pX {pins:List (Addr×Obj)}{σ:St}{H:Hp}{s:Shared}{R:It→Hp→Prop}{E:Value→Shared→Prop}{lo hi:Int}{t u v:Tok}{tk:Nat}(I:Inv X pins σ H s)(h1: -(2 ^ 62)≤lo)(h2:lo<2 ^ 62)(h3: -(2 ^ 62)≤hi)(h4:hi<2 ^ 62)
  (q:R (yX lo (hi -lo).toNat) H):wpAny (model X.prog X.w) X.A (pyIter (.ref s.heap.objs.size)) (Am X pins σ tg R) E {s with heap:=s.heap.push {cls:= .type "range",data:= .fields #[.int lo t,.int hi u,.int 1 v]},toks:=tk}:=by
 refine wpAny_pyIter_range (IsRange.new ..) (small_one h1 h2 h3 h4) ?_
 have I1:Inv X pins σ H {s with heap:=s.heap.push {cls:= .type "range",data:= .fields #[.int lo t,.int hi u,.int 1 v]},toks:=tk}:=I.kept fun b o e=>Heap.get?_push_of_some _ e
 refine⟨(s.heap.push {cls:= .type "range",data:= .fields #[.int lo t,.int hi u,.int 1 v]}).objs.size,[(s.heap.push {cls:= .type "range",data:= .fields #[.int lo t,.int hi u,.int 1 v]}).objs.size],_,_,H,rfl,
  I1.kept (t':=tk) fun b o e=>Heap.get?_push_of_some _ e,lg _ lo (hi -lo).toNat,?_,fun b hb=>?_,q⟩
 ·have e1:lo+((0:Nat):Int)*1=lo:=by simp
  have e2:(((hi -lo).toNat:Nat):Int) -((0:Nat):Int)=Builtin.Range.rangeSize lo hi 1:=by rw[rangeSize_one];split<;>omega
  show IsRangeIter _ _ (lo+((0:Nat):Int)*1) ((((hi -lo).toNat:Nat):Int) -((0:Nat):Int)) 1
  rw[e1,e2]
  exact Heap.get?_push_size _ rfl
 ·have e:b=(s.heap.push {cls:= .type "range",data:= .fields #[.int lo t,.int hi u,.int 1 v]}).objs.size:=by simpa using hb
  subst e
  exact I1.fpOk (Nat.le_refl _) (I1.hok.fresh (Nat.le_refl _))
def qQ (ta:TA):TI:=fun σ H R=>ta σ H fun vs H1=>∃j:Int,vs=[.int j]∧-(2 ^ 62)≤j∧j<2 ^ 62∧R (yX 0 j.toNat) H1
theorem nT {a:Expr}{ta:TA}{p pos:Pos}(hg:Gl X "range")(hm:X.mg "range"=none)(ha:PA X [a] ta)(hs:starEach [a] X.env=[(false,eval a X.env)]:=by rfl):PI X tg (.Call (.Name "range" p) [a] [] pos) (qQ ta):=by
 intro pins s σ H R I h
 refine Call_ (bz I hg hm boot_range (PyProof.Rows.callWith_type1 (B7 (ha pos pins s σ H _ I h) fun us s1 ⟨vs,H1,I1,r1,q1⟩=>?_) hs rfl))
 obtain⟨j,e,q1,q2,q⟩:=q1
 subst e
 cases r1 with
 |cons r rr=>
  cases rr
  obtain⟨t,rfl⟩:=r
  exact call_range_1 (pX I1 (by omega) (by omega) q1 q2 (by simpa using q))
def dz (fp:List Addr)(h:Heap):List (Addr×Obj):=fp.filterMap fun b=>(h.get? b).map fun o=>(b,o)
theorem P0 {fp:List Addr}{h:Heap}{b:Addr}{o:Obj}(hb:b∈fp)(e:h.get? b=some o):(b,o)∈dz fp h:=List.mem_filterMap.mpr ⟨b,hb,by rw[e];rfl⟩
theorem om {fp:List Addr}{h:Heap}{p:Addr×Obj}(hp:p∈dz fp h):p.1∈fp∧h.get? p.1=some p.2:=by
 obtain⟨b,hb,e⟩:=List.mem_filterMap.mp hp
 cases q:h.get? b with
 |none=>rw[q] at e;cases e
 |some o=>
  rw[q] at e
  have e':(b,o)=p:=Option.some.inj e
  subst e'
  exact⟨hb,q⟩
theorem Inv.pinned {pins:List (Addr×Obj)}{σ:St}{H:Hp}{s:Shared}{fp:List Addr}(I:Inv X pins σ H s)(hf:∀b∈fp,ay X pins H b)(ho:∀b∈fp,∃o,s.heap.get? b=some o∧∀v,o.data≠ .cell v):Inv X (pins++dz fp s.heap) σ H s:=
 I.pins_of fun p hp=>(List.mem_append.mp hp).elim (fun z=>I.pin p (List.mem_append_right _ z)) fun z=>by
  obtain⟨hb,e⟩:=om z
  obtain⟨f0,f1,f2,_⟩:=hf p.1 hb
  obtain⟨o,e',d⟩:=ho p.1 hb
  rw[e] at e';cases e'
  exact⟨e,f0,f1,f2,d⟩
theorem Inv.unpinned {pins pl:List (Addr×Obj)}{σ:St}{H:Hp}{s:Shared}(I:Inv X (pins++pl) σ H s):Inv X pins σ H s:=I.pins_of fun p hp=>I.pin p (List.mem_append_right _ (List.mem_append_left _ hp))
end
end L2
namespace L2
open PySem PySem.Spec PyProof.Rows
abbrev R2:=V→V→Hp→VK→Prop
def OpR (X:Cx)(f:Value→Value→Sem Value)(r:R2):Prop:=
 ∀(pins:List (Addr×Obj)) (s:Shared) (σ:St) (H:Hp) (x y:V) (v u:Value) (Q:VK),Inv X pins σ H s→RelV x v→RelV y u→r x y H Q→
  wpAny (model X.prog X.w) X.A (f v u) (EP X pins σ Q) X.xe s
def Aj (X:Cx)(f:Value→Sem Value)(r:V→Hp→VK→Prop):Prop:=
 ∀(pins:List (Addr×Obj)) (s:Shared) (σ:St) (H:Hp) (x:V) (v:Value) (Q:VK),Inv X pins σ H s→RelV x v→r x H Q→
  wpAny (model X.prog X.w) X.A (f v) (EP X pins σ Q) X.xe s
def CallR (X:Cx)(f:Value)(r:List V→Hp→VK→Prop):Prop:=
 ∀(pins:List (Addr×Obj)) (s:Shared) (σ:St) (H:Hp) (xs:List V) (us:List Value) (Q:VK),Inv X pins σ H s→Vals xs us→r xs H Q→
  wpAny (model X.prog X.w) X.A (call f us) (EP X pins σ Q) X.xe s
def AI (X:Cx)(r:V→Hp→(Bool→Hp→Prop)→Prop):Prop:=
 ∀(pins:List (Addr×Obj)) (s:Shared) (σ:St) (H:Hp) (x:V) (v:Value) (Q:Bool→Hp→Prop),Inv X pins σ H s→RelV x v→r x H Q→
  wpAny (model X.prog X.w) X.A (truthy v) (TP X pins σ Q) X.xe s
def sj (r:R2)(ta tb:TE):TE:=fun σ H Q=>ta σ H fun x H1=>tb σ H1 fun y H2=>r x y H2 Q
def Bj (r:V→Hp→VK→Prop)(ta:TE):TE:=fun σ H Q=>ta σ H fun x H1=>r x H1 Q
def rI (C:Int→Int→Prop)(g:Int→Int→V):R2:=fun x y H Q=>∃i j,x= .int i∧y= .int j∧C i j∧Q (g i j) H
def uj (g:Int→Int→V):R2:=fun x y H Q=>∃i j,x= .int i∧y= .int j∧Q (g i j) H
def rU (g:Int→V):V→Hp→VK→Prop:=fun x H Q=>∃i,x= .int i∧Q (g i) H
section
variable {X:Cx} {a b c:Expr} {ta tb tc:TE} {pos:Pos}
theorem xc (ha:PE X a ta)(hb:PE X b tb){pins:List (Addr×Obj)}{s:Shared}{σ:St}{H:Hp}{R:V→V→Hp→Prop}(I:Inv X pins σ H s)
  (h:ta σ H fun x H1=>tb σ H1 fun y H2=>R x y H2) {Q:Value→Shared→Prop} {f:Value→Value→Sem Value}
  (hf:∀v u s2 x y H2,Inv X pins σ H2 s2→RelV x v→RelV y u→R x y H2→wpAny (model X.prog X.w) X.A (f v u) Q X.xe s2):
  wpAny (model X.prog X.w) X.A (eval a X.env) (fun v s₁=>wpAny (model X.prog X.w) X.A (eval b X.env) (fun u s₂=>wpAny (model X.prog X.w) X.A (f v u) Q X.xe s₂) X.xe s₁) X.xe s:=by
 refine B7 (ha pins s σ H _ I h) fun v s1 ⟨x,H1,I1,r1,q1⟩=>?_
 refine B7 (hb pins s1 σ H1 _ I1 q1) fun u s2 ⟨y,H2,I2,r2,q2⟩=>?_
 exact hf v u s2 x y H2 I2 r1 r2 q2
theorem yG {op:Operator}{r:R2}(ho:OpR X (binaryOp op) r)(ha:PE X a ta)(hb:PE X b tb):PE X (.BinOp a op b pos) (sj r ta tb):=by
 intro pins s σ H Q I h
 exact wpAny_BinOp (xc ha hb I h fun v u s2 x y H2 I2 rx ry q=>ho pins s2 σ H2 x y v u Q I2 rx ry q)
theorem Ad {op:UnaryOp}{r:V→Hp→VK→Prop}(ho:Aj X (unaryOp op) r)(ha:PE X a ta):PE X (.UnaryOp op a pos) (Bj r ta):=by
 intro pins s σ H Q I h
 exact UnaryOp_ (B7 (ha pins s σ H _ I h) fun v s1 ⟨x,H1,I1,r1,q1⟩=>ho pins s1 σ H1 x v Q I1 r1 q1)
theorem yj {f:Value→Value→Sem Value}{C:Int→Int→Prop}{g:Int→Int→Int}
  (rule:∀(i j:Int) (t u:Tok) (s:Shared) (Q:Value→Shared→Prop) (E:Value→Shared→Prop),C i j→Q (.int (g i j) s.toks) {s with toks:=s.toks+1}→wpAny (model X.prog X.w) X.A (f (.int i t) (.int j u)) Q E s):
  OpR X f (rI C fun i j=> .int (g i j)):=by
 intro pins s σ H x y v u Q I rx ry h
 obtain⟨i,j,rfl,rfl,hc,q⟩:=h
 obtain⟨t,rfl⟩:=rx
 obtain⟨t',rfl⟩:=ry
 exact rule i j t t' s _ _ hc ⟨.int (g i j),H,I.tok _,⟨_,rfl⟩,q⟩
theorem zY {f:Value→Value→Sem Value}{g:Int→Int→Int}
  (rule:∀(i j:Int) (t u:Tok) (s:Shared) (Q:Value→Shared→Prop) (E:Value→Shared→Prop),Q (.int (g i j) s.toks) {s with toks:=s.toks+1}→wpAny (model X.prog X.w) X.A (f (.int i t) (.int j u)) Q E s):
  OpR X f (uj fun i j=> .int (g i j)):=by
 intro pins s σ H x y v u Q I rx ry h
 obtain⟨i,j,rfl,rfl,q⟩:=h
 obtain⟨t,rfl⟩:=rx
 obtain⟨t',rfl⟩:=ry
 exact rule i j t t' s _ _ ⟨.int (g i j),H,I.tok _,⟨_,rfl⟩,q⟩
theorem zK {f:Value→Value→Sem Value}{g:Int→Int→Bool}
  (rule:∀(i j:Int) (t u:Tok) (s:Shared) (Q:Value→Shared→Prop) (E:Value→Shared→Prop),Q (.bool (g i j)) s→wpAny (model X.prog X.w) X.A (f (.int i t) (.int j u)) Q E s):
  OpR X f (uj fun i j=> .bl (g i j)):=by
 intro pins s σ H x y v u Q I rx ry h
 obtain⟨i,j,rfl,rfl,q⟩:=h
 obtain⟨t,rfl⟩:=rx
 obtain⟨t',rfl⟩:=ry
 exact rule i j t t' s _ _ ⟨.bl (g i j),H,I,rfl,q⟩
def zV (i j:Int):Prop:=0<j∧j<1073741824
def yU (i j:Int):Prop:=0≤j∧j≤1000000∧i.natAbs<2 ^ 64
def CMul (i j:Int):Prop:=(-(2 ^ 64)<i∧i<2 ^ 64)∨(-(2 ^ 64)<j∧j<2 ^ 64)
theorem CMul.ok {i j:Int}(h:CMul i j):IntMulOk i j:=by
 rcases h with⟨h1,h2⟩|⟨h1,h2⟩
 ·exact .of_left (intBits_le_64 h1 h2)
 ·exact .of_right (intBits_le_64 h1 h2)
theorem op_add:OpR X (binaryOp .Add) (uj fun i j=> .int (i+j)):=zY fun _ _ _ _ _ _ _ q=>add_int q
theorem wa:OpR X (binaryOp .Sub) (uj fun i j=> .int (i -j)):=zY fun _ _ _ _ _ _ _ q=>sub_int q
theorem op_mul:OpR X (binaryOp .Mult) (rI CMul fun i j=> .int (i*j)):=yj fun _ _ _ _ _ _ _ hc q=>mul_int q hc.ok
theorem p8:OpR X (binaryOp .FloorDiv) (rI zV fun i j=> .int (i/j)):=yj fun i j _ _ _ _ _ hc q=>by
 have h1:(0:Int)<j:=hc.1
 have h2:j<1073741824:=hc.2
 exact floordiv_int (by omega) (by rw[Int.fdiv_eq_ediv_of_nonneg i (by omega)];exact q) (.inl (PyProof.noPylong_small (by omega)))
theorem i7:OpR X (binaryOp .Mod) (rI (fun _ j=>0<j) fun i j=> .int (i % j)):=yj fun i j _ _ _ _ _ hc q=>by
 have h1:(0:Int)<j:=hc
 exact mod_int' (by omega) (by rw[Int.fmod_eq_emod_of_nonneg i (by omega)];exact q)
theorem aW:OpR X (binaryOp .Pow) (rI yU fun i j=> .int (i ^ j.toNat)):=yj fun _ _ _ _ _ _ _ hc q=>pow_int_small hc.1 hc.2.1 hc.2.2 q
theorem CA {f:Value→Sem Value}{g:Int→Int}
  (rule:∀(i:Int) (t:Tok) (s:Shared) (Q:Value→Shared→Prop) (E:Value→Shared→Prop),Q (.int (g i) s.toks) {s with toks:=s.toks+1}→wpAny (model X.prog X.w) X.A (f (.int i t)) Q E s):
  Aj X f (rU fun i=> .int (g i)):=by
 intro pins s σ H x v Q I rx h
 obtain⟨i,rfl,q⟩:=h
 obtain⟨t,rfl⟩:=rx
 exact rule i t s _ _ ⟨.int (g i),H,I.tok _,⟨_,rfl⟩,q⟩
theorem vZ:Aj X (unaryOp .USub) (rU fun i=> .int (-i)):=CA fun _ _ _ _ _ q=>neg_int q
end
def zZ:V→V→Bool
 | .non,.non=>true| .non,.int _=>true| .int _,.non=>true| .non,.bl _=>true| .bl _,.non=>true| .non,.str _=>true| .str _,.non=>true
 | .int _,.int _=>true| .bl _,.bl _=>true| .str _,.str _=>true| .byt _,.byt _=>true
 | .int _,.str _=>true| .str _,.int _=>true| .bl _,.str _=>true| .str _,.bl _=>true
 |_,_=>false
def Aq:R2:=fun x y H Q=>zZ x y=true∧Q (.bl (decide (x=y))) H
def AE:R2:=fun x y H Q=>zZ x y=true∧Q (.bl (!decide (x=y))) H
theorem cF {i j:Int}:decide (V.int i=V.int j)=(i==j):=by
 rw[Bool.eq_iff_iff]
 simp
theorem qj {i j:Bool}:decide (V.bl i=V.bl j)=(i==j):=by
 rw[Bool.eq_iff_iff]
 simp
theorem gY {i j:Str}:decide (V.str i=V.str j)=(i==j):=by
 rw[Bool.eq_iff_iff]
 simp
theorem lR {i j:Array UInt8}:decide (V.byt i=V.byt j)=(i.toList==j.toList):=by
 rw[Bool.eq_iff_iff]
 cases i
 cases j
 simp
section
variable {X:Cx} {a b c:Expr} {ta tb tc:TE} {pos:Pos}
theorem j7 {pins:List (Addr×Obj)}{σ:St}{H:Hp}{s:Shared}{Q:VK}{k k':Bool}(I:Inv X pins σ H s)(q:Q (.bl k) H)(e:k=k'):EP X pins σ Q (.bool k') s:=by
 subst e
 exact⟨.bl k,H,I,rfl,q⟩
theorem op_eq:OpR X (compareOp .Eq) Aq:=by
 intro pins s σ H x y v u Q I rx ry h
 obtain⟨hs,q⟩:=h
 cases x with
 |non=>
  cases rx
  cases y with
  |non=>cases ry;exact PySem.EqNone.eq_none_none (j7 I q (by simp))
  |bl j=>cases ry;exact PySem.EqNone.eq_none_bool (j7 I q (by simp))
  |int j=>obtain⟨t',rfl⟩:=ry;exact PySem.EqNone.eq_none_int (j7 I q (by simp))
  |str j=>obtain⟨t',rfl⟩:=ry;exact PySem.EqNone.eq_none_str (j7 I q (by simp))
  |_=>exact absurd (show false=true from hs) Bool.false_ne_true
 |bl i=>
  cases rx
  cases y with
  |non=>cases ry;exact PySem.EqNone.eq_bool_none (j7 I q (by simp))
  |bl j=>cases ry;exact eq_bool (j7 I q qj)
  |str j=>obtain⟨t',rfl⟩:=ry;exact PySem.EqMixed.eq_bool_str (j7 I q (by simp))
  |_=>exact absurd (show false=true from hs) Bool.false_ne_true
 |int i=>
  obtain⟨t,rfl⟩:=rx
  cases y with
  |non=>cases ry;exact PySem.EqNone.eq_int_none (j7 I q (by simp))
  |int j=>obtain⟨t',rfl⟩:=ry;exact eq_int (j7 I q cF)
  |str j=>obtain⟨t',rfl⟩:=ry;exact PySem.EqMixed.eq_int_str (j7 I q (by simp))
  |_=>exact absurd (show false=true from hs) Bool.false_ne_true
 |str i=>
  obtain⟨t,rfl⟩:=rx
  cases y with
  |non=>cases ry;exact PySem.EqNone.eq_str_none (j7 I q (by simp))
  |bl j=>cases ry;exact PySem.EqMixed.eq_str_bool (j7 I q (by simp))
  |int j=>obtain⟨t',rfl⟩:=ry;exact PySem.EqMixed.eq_str_int (j7 I q (by simp))
  |str j=>obtain⟨t',rfl⟩:=ry;exact eq_str (j7 I q gY)
  |_=>exact absurd (show false=true from hs) Bool.false_ne_true
 |byt i=>
  obtain⟨t,rfl⟩:=rx
  cases y with
  |byt j=>obtain⟨t',rfl⟩:=ry;exact PySem.W.eq_bytes (j7 I q lR)
  |_=>exact absurd (show false=true from hs) Bool.false_ne_true
 |_=>cases y<;>exact absurd (show false=true from hs) Bool.false_ne_true
theorem op_ne:OpR X (compareOp .NotEq) AE:=by
 intro pins s σ H x y v u Q I rx ry h
 obtain⟨hs,q⟩:=h
 cases x with
 |non=>
  cases rx
  cases y with
  |non=>cases ry;exact PySem.EqNone.ne_none_none (j7 I q (by simp))
  |bl j=>cases ry;exact PySem.EqNone.ne_none_bool (j7 I q (by simp))
  |int j=>obtain⟨t',rfl⟩:=ry;exact PySem.EqNone.ne_none_int (j7 I q (by simp))
  |str j=>obtain⟨t',rfl⟩:=ry;exact PySem.EqNone.ne_none_str (j7 I q (by simp))
  |_=>exact absurd (show false=true from hs) Bool.false_ne_true
 |bl i=>
  cases rx
  cases y with
  |non=>cases ry;exact PySem.EqNone.ne_bool_none (j7 I q (by simp))
  |bl j=>cases ry;exact ne_bool (j7 I q (congrArg not qj))
  |str j=>obtain⟨t',rfl⟩:=ry;exact PySem.EqMixed.ne_bool_str (j7 I q (by simp))
  |_=>exact absurd (show false=true from hs) Bool.false_ne_true
 |int i=>
  obtain⟨t,rfl⟩:=rx
  cases y with
  |non=>cases ry;exact PySem.EqNone.ne_int_none (j7 I q (by simp))
  |int j=>obtain⟨t',rfl⟩:=ry;exact ne_int (j7 I q (congrArg not cF))
  |str j=>obtain⟨t',rfl⟩:=ry;exact PySem.EqMixed.ne_int_str (j7 I q (by simp))
  |_=>exact absurd (show false=true from hs) Bool.false_ne_true
 |str i=>
  obtain⟨t,rfl⟩:=rx
  cases y with
  |non=>cases ry;exact PySem.EqNone.ne_str_none (j7 I q (by simp))
  |bl j=>cases ry;exact PySem.EqMixed.ne_str_bool (j7 I q (by simp))
  |int j=>obtain⟨t',rfl⟩:=ry;exact PySem.EqMixed.ne_str_int (j7 I q (by simp))
  |str j=>obtain⟨t',rfl⟩:=ry;exact ne_str (j7 I q (congrArg not gY))
  |_=>exact absurd (show false=true from hs) Bool.false_ne_true
 |byt i=>
  obtain⟨t,rfl⟩:=rx
  cases y with
  |byt j=>obtain⟨t',rfl⟩:=ry;exact PySem.W.ne_bytes (j7 I q (congrArg not lR))
  |_=>exact absurd (show false=true from hs) Bool.false_ne_true
 |_=>cases y<;>exact absurd (show false=true from hs) Bool.false_ne_true
theorem op_lt:OpR X (compareOp .Lt) (uj fun i j=> .bl (decide (i<j))):=zK fun _ _ _ _ _ _ _ q=>lt_int q
theorem iP:OpR X (compareOp .Gt) (uj fun i j=> .bl (decide (j<i))):=zK fun _ _ _ _ _ _ _ q=>gt_int q
theorem nS:OpR X (compareOp .Lt) (fun x y H Q=>∃i j,x= .str i∧y= .str j∧Q (.bl (decide (i.cps.toList<j.cps.toList))) H):=by
 intro pins s σ H x y v u Q I rx ry h
 obtain⟨i,j,rfl,rfl,q⟩:=h
 obtain⟨t,rfl⟩:=rx
 obtain⟨t',rfl⟩:=ry
 exact lt_str (j7 I q rfl)
theorem oW:OpR X (compareOp .In) (fun x y H Q=>∃i j,x= .str i∧y= .str j∧Q (.bl (!(Builtin.Str.occurrences j i 0 j.length 1).isEmpty)) H):=by
 intro pins s σ H x y v u Q I rx ry h
 obtain⟨i,j,rfl,rfl,q⟩:=h
 obtain⟨t,rfl⟩:=rx
 obtain⟨t',rfl⟩:=ry
 exact in_str (j7 I q rfl)
theorem OpR.or {f:Value→Value→Sem Value}{r r':R2}(h:OpR X f r)(h':OpR X f r'):OpR X f (fun x y H Q=>r x y H Q∨r' x y H Q):=by
 intro pins s σ H x y v u Q I rx ry q
 rcases q with q|q
 ·exact h pins s σ H x y v u Q I rx ry q
 ·exact h' pins s σ H x y v u Q I rx ry q
theorem j5 (b:Expr){op:CmpOp}(h:op≠ .In:=by decide)(h2:op≠ .NotIn:=by decide):behindInMarks op b=false:=by
 have e1:(op==CmpOp.In)=false:=by cases op<;>first|rfl|exact absurd rfl h
 have e2:(op==CmpOp.NotIn)=false:=by cases op<;>first|rfl|exact absurd rfl h2
 cases b<;>simp [behindInMarks,e1,e2]
theorem sG {op:CmpOp}{r:R2}(ho:OpR X (compareOp op) r)(ha:PE X a ta)(hb:PE X b tb)(hm:behindInMarks op b=false):PE X (.Compare a [op] [b] pos) (sj r ta tb):=by
 intro pins s σ H Q I h
 exact wpAny_Compare1 (xc ha hb I h fun v u s2 x y H2 I2 rx ry q=>ho pins s2 σ H2 x y v u Q I2 rx ry q) hm
def pO (t:TE):TT:=fun σ H Q=>t σ H fun x H'=>∃k,x= .bl k∧Q k H'
theorem ud {op:CmpOp}{r:R2}(ho:OpR X (compareOp op) r)(ha:PE X a ta)(hb:PE X b tb)(hm:behindInMarks op b=false):PT X (.Compare a [op] [b] pos) (pO (sj r ta tb)):=by
 intro pins s σ H Q I h
 refine wpAny_isTrue_Compare1 (B7 (ha pins s σ H _ I h) fun v s1 ⟨x,H1,I1,r1,q1⟩=>B7 (hb pins s1 σ H1 _ I1 q1) fun u s2 ⟨y,H2,I2,r2,q2⟩=>
  B7 (ho pins s2 σ H2 x y v u _ I2 r1 r2 q2) fun c s3 ⟨z,H3,I3,r3,k,e,q3⟩=>?_) hm
 subst e
 cases r3
 exact wpAny_truthy_bool ⟨H3,I3,q3⟩
def rf (K:PySem.W.Frag)(x:V)(H:Hp)(k:Bool):Prop:=
 match x with
 | .non=>k=false
 | .bl b=>k=b
 | .int i=>k=(i !=0)
 | .str y=>y.length≤sizeLine∧k=((y.length:Int) !=0)
 | .byt y=>y.size≤sizeLine∧k=((y.size:Int) !=0)
 | .ref p=>(∃xs,SqL K H p xs∧k=!xs.isEmpty)∨(∃xs,SqT K H p xs∧k=!xs.isEmpty)∨∃kvs,H p=some (.dK kvs)∧k=!kvs.isEmpty
 |_=>False
theorem kS {κ:Type}{kvs:List (κ×V)}{vs:List (κ×Value)}(r:KV kvs vs):(!vs.isEmpty)=!kvs.isEmpty:=by
 cases r<;>rfl
theorem dD {xs:List V}{its:List Value}(r:Vals xs its):(!its.toArray.isEmpty)=!xs.isEmpty:=by
 cases r<;>simp
theorem bI:(sizeLine:Nat)<2 ^ 63:=by rw[sizeLine_eq];decide
theorem vI:AI X (fun x H Q=>∃k,rf X.K x H k∧Q k H):=by
 intro pins s σ H x v Q I rx h
 obtain⟨k,e,q⟩:=h
 have hl:=bI
 have hs:sizeLine=16777216:=sizeLine_eq
 cases x with
 |non=>
  cases rx
  have e':k=false:=e
  subst e'
  exact truthy_none ⟨H,I,q⟩
 |bl b=>
  cases rx
  have e':k=b:=e
  subst e'
  exact wpAny_truthy_bool ⟨H,I,q⟩
 |int i=>
  obtain⟨t,rfl⟩:=rx
  have e':k=(i !=0):=e
  subst e'
  exact PySem.P.truthy_int ⟨H,I,q⟩
 |str y=>
  obtain⟨t,rfl⟩:=rx
  obtain⟨hy,e'⟩:y.length≤sizeLine∧k=((y.length:Int) !=0):=e
  subst e'
  exact PySem.P.truthy_str (by omega) ⟨H,I.tok _,q⟩
 |byt y=>
  obtain⟨t,rfl⟩:=rx
  obtain⟨hy,e'⟩:y.size≤sizeLine∧k=((y.size:Int) !=0):=e
  subst e'
  exact PySem.W.truthy_bytes (by omega) ⟨H,I.tok _,q⟩
 |ref p=>
  cases rx
  have e':(∃xs,SqL X.K H p xs∧k=!xs.isEmpty)∨(∃xs,SqT X.K H p xs∧k=!xs.isEmpty)∨∃kvs,H p=some (.dK kvs)∧k=!kvs.isEmpty:=e
  rcases e' with⟨xs,hx,e'⟩|⟨xs,hx,e'⟩|⟨kvs,hx,e'⟩
  ·subst e'
   obtain⟨its,r,pl,hz⟩:=I.list hx
   have hlen:=r.length
   exact wpAny_truthy_list pl.isList (by simp only[List.size_toArray];omega) ⟨H,I.tok _,by rw[dD r];exact q⟩
  ·subst e'
   obtain⟨its,r,pl,hz⟩:=I.tuple hx
   have hlen:=r.length
   exact truthy_tuple pl (by simp only[List.size_toArray];omega) ⟨H,I.tok _,by rw[dD r];exact q⟩
  ·subst e'
   obtain⟨hz,hS,vs,r,m⟩:kvs.length≤sizeLine∧(p==sysModules)=false∧∃vs,KV kvs vs∧s.heap.DictOf (i8 X.prog X.w) p vs:=I.hok p _ hx
   have hlen:kvs.length=vs.length:=Paired.length r
   exact wpAny_truthy_dict hS m (by omega) ⟨H,I.tok _,by rw[kS r];exact q⟩
 |_=>exact(show False from e).elim
theorem rn (ha:PE X a ta)(he:∀whole,isTrue a X.env whole=(do let v←whole;standAt a.pos;holding [v] (truthy v))):
  PT X a (fun σ H Q=>ta σ H fun x H'=>∃k,rf X.K x H' k∧Q k H'):=by
 intro pins s σ H Q I h
 exact isTrue_plain (B7 (ha pins s σ H _ I h) fun v s1 ⟨x,H1,I1,r1,q1⟩=>vI pins s1 σ H1 x v Q I1 r1 q1) (he _)
theorem op_add_str:OpR X (binaryOp .Add) (fun x y H Q=>∃i j,x= .str i∧y= .str j∧i.length+j.length≤sizeLine∧Q (.str (i++j)) H):=by
 intro pins s σ H x y v u Q I rx ry h
 obtain⟨i,j,rfl,rfl,hz,q⟩:=h
 obtain⟨t,rfl⟩:=rx
 obtain⟨t',rfl⟩:=ry
 exact add_str (fun t' tk=>⟨.str (i++j),H,I.tok _,⟨_,rfl⟩,q⟩) hz
theorem D0 {x:V}{us:List Value}(r:Vals [x] us):∃u,us=[u]∧RelV x u:=by
 cases r with
 |cons r1 r2=>cases r2;exact⟨_,rfl,r1⟩
theorem Y6 {x y:V}{us:List Value}(r:Vals [x,y] us):∃u w',us=[u,w']∧RelV x u∧RelV y w':=by
 cases r with
 |cons r1 r2=>
  cases r2 with
  |cons r3 r4=>cases r4;exact⟨_,_,rfl,r1,r3⟩
theorem oA (hc:X.calm=true):CallR X (.builtin "min") (fun xs H Q=>∃i j,xs=[.int i,.int j]∧Q (.int (if j<i then j else i)) H):=by
 intro pins s σ H xs us Q I r h
 obtain⟨i,j,rfl,q⟩:=h
 obtain⟨u,w',rfl,⟨t,rfl⟩,⟨t',rfl⟩⟩:=Y6 r
 refine min_two_ints (I.ok.hd hc) fun h' tk k=>⟨_,H,I.kept k,?_,q⟩
 by_cases hj:j<i
 ·rw[if_pos hj,if_pos hj];exact⟨_,rfl⟩
 ·rw[if_neg hj,if_neg hj];exact⟨_,rfl⟩
theorem fO:CallR X (.type "int") (fun xs H Q=>(∃i,xs=[.int i]∧Q (.int i) H)∨∃k,xs=[.bl k]∧Q (.int (if k then 1 else 0)) H):=by
 intro pins s σ H xs us Q I r h
 rcases h with⟨i,rfl,q⟩|⟨k,rfl,q⟩
 ·obtain⟨u,rfl,t,rfl⟩:=D0 r
  exact call_int_int ⟨.int i,H,I,⟨_,rfl⟩,q⟩
 ·obtain⟨u,rfl,r1⟩:=D0 r
  cases r1
  exact call_int_bool ⟨.int (if k then 1 else 0),H,I.tok _,⟨_,rfl⟩,q⟩
def zp (K:PySem.W.Frag)(x:V)(H:Hp)(n:Nat):Prop:=
 match x with
 | .str y=>y.length≤sizeLine∧n=y.length
 | .byt y=>y.size≤sizeLine∧n=y.size
 | .ref p=>(∃xs,SqL K H p xs∧n=xs.length)∨∃xs,SqT K H p xs∧n=xs.length
 |_=>False
theorem call_len:CallR X (.builtin "len") (fun xs H Q=>∃x n,xs=[x]∧zp X.K x H n∧Q (.int n) H):=by
 intro pins s σ H xs us Q I r h
 obtain⟨x,n,rfl,e,q⟩:=h
 obtain⟨u,rfl,rx⟩:=D0 r
 have hl:=bI
 have hs:sizeLine=16777216:=sizeLine_eq
 cases x with
 |str y=>
  obtain⟨t,rfl⟩:=rx
  obtain⟨hy,e'⟩:y.length≤sizeLine∧n=y.length:=e
  subst e'
  exact len_str (by omega) ⟨.int _,H,I.tok _,⟨_,rfl⟩,q⟩
 |byt y=>
  obtain⟨t,rfl⟩:=rx
  obtain⟨hy,e'⟩:y.size≤sizeLine∧n=y.size:=e
  subst e'
  exact PySem.W.len_bytes (by omega) ⟨.int _,H,I.tok _,⟨_,rfl⟩,q⟩
 |ref p=>
  cases rx
  have e':(∃xs,SqL X.K H p xs∧n=xs.length)∨∃xs,SqT X.K H p xs∧n=xs.length:=e
  rcases e' with⟨xs,hx,e'⟩|⟨xs,hx,e'⟩
  ·subst e'
   obtain⟨its,r',pl,hz⟩:=I.list hx
   have hlen:=r'.length
   exact Calls.call_len_list pl.isList (by simp only[List.size_toArray];omega) ⟨.int xs.length,H,I.tok _,⟨_,by simp only[List.size_toArray];rw[hlen]⟩,q⟩
  ·subst e'
   obtain⟨its,r',pl,hz⟩:=I.tuple hx
   have hlen:=r'.length
   exact len_tuple pl (by simp only[List.size_toArray];omega) ⟨.int xs.length,H,I.tok _,⟨_,by simp only[List.size_toArray];rw[hlen]⟩,q⟩
 |_=>exact(show False from e).elim
end
end L2
namespace L2
open PySem PySem.Spec PyProof.Rows
structure Cb (h:Heap) (x dx C:Addr) (mA:Str→Option Value):Prop where
 obj:h.get? x=some (PySem.W.instObj C dx)
 ns:h.Ns1 dx mA
 ne:dx≠x
section
variable {prog:Program} {w:World} {A:Around} {E:Value→Shared→Prop} {s:Shared} {K:PySem.W.Frag} {x dx C f:Addr} {mA:Str→Option Value} {name:Str} {v:Value}
end
theorem RelO.some_of {v:V}{o:Option Value}(r:RelO (some v) o):∃u,o=some u∧RelV v u:=by
 cases o with
 |none=>exact(show False from r).elim
 |some u=>exact⟨u,rfl,r⟩
section
variable {P:Program} {w:World} {H H':Hp} {h h':Heap} {a C dx:Addr} {fs fs':List (Str×V)}
end
structure Cu (K:PySem.W.Frag) (C:Addr):Prop where
 pg:PySem.W.plainGet K C Str.empty=true
 hd:PySem.W.hasDictIn K C=true
 po:PySem.W.plainOver K C=true
 sa:PySem.W.findIn K (.ref C) "__setattr__"=some (some (.builtin "object.__setattr__"))
structure CG (K:PySem.W.Frag) (C:Addr) (f:Str) (v:V) (u:Value):Prop where
 at_:PySem.W.findIn K (.ref C) f=some (some u)
 rel:RelV v u
 get:PySem.W.specialIn K u "__get__"=some none
 cp:PySem.W.copiedNames.contains f=false
structure Cq (K:PySem.W.Frag) (C:Addr) (m:Str) (f:Addr):Prop where
 at_:PySem.W.findIn K (.ref C) m=some (some (.ref f))
 fn:PySem.W.isFn K (.ref f)=true
 kp:PySem.W.keepIn K (.ref f)=true
section
variable {X:Cx} {pins:List (Addr×Obj)} {σ:St} {H:Hp} {s:Shared} {a C dx:Addr} {fs:List (Str×V)} {f:Str} {v:V} {A:Around} {E:Value→Shared→Prop}
end
section
variable {X:Cx} {o e value:Expr} {f:Str} {pos pos' tpos:Pos} {ta tv:TE}
end
section
variable {X:Cx} {pins:List (Addr×Obj)} {σ:St} {H:Hp} {s:Shared} {A:Around} {E:Value→Shared→Prop} {Q:Value→Shared→Prop} {c:Value} {b:Bool}
inductive dM (K:PySem.W.Frag) (H:Hp):V→Value→Prop where
 |non:dM K H .non (.type "NoneType")
 |bl (x:Bool):dM K H (.bl x) (.type "bool")
 |int (i:Int):dM K H (.int i) (.type "int")
 |str (x:Str):dM K H (.str x) (.type "str")
 |flt (x:UInt64):dM K H (.flt x) (.type "float")
 |lst {a:Addr} {xs:List V} (e:H a=some (.lst xs)):dM K H (.ref a) (.type "list")
 |frz {a:Addr} {o:Obj} {xs:List V} (e:H a=some (.frz o (.lst xs))):dM K H (.ref a) (.type "list")
 |tup {a:Addr} {xs:List V} (e:H a=some (.tup xs)):dM K H (.ref a) (.type "tuple")
 |dK {a:Addr} {kvs:List (h9×V)} (e:H a=some (.dK kvs)):dM K H (.ref a) (.type "dict")
 |dT {a:Addr} {kvs:List (List h9×V)} (e:H a=some (.dT kvs)):dM K H (.ref a) (.type "dict")
 |ins {a C dx:Addr} {fs:List (Str×V)} (e:H a=some (.ins C dx fs)) (cl:Cu K C) (ha:PySem.W.findIn K (.ref C) "__class__"=some (some (.builtin "object.__class__")))
   (hn:PySem.W.specialIn K (.builtin "object.__class__") "__get__"=some (some (.builtin "getset_descriptor.__get__"))) (htk:PySem.W.takesIn K (.builtin "object.__class__")=some true)
   (hm:PySem.W.mroIn K C (.type "object")=some true):dM K H (.ref a) (.ref C)
end
end L2
namespace L2
open PySem PySem.Spec PyProof.Rows
structure Room (k:Nat) (A:Around):Prop where
 hd:A.handled=none
 dp:A.depth+3*k+5<recursionLimit
 un:A.units+16*k+200<cLine
theorem Room.mono {j k:Nat}{A:Around}(r:Room k A)(h:j≤k):Room j A:=⟨r.hd,by have:=r.dp;omega,by have:=r.un;omega⟩
theorem Room.deeper {k:Nat}{A:Around}(r:Room (k+1) A)(env:Env):Room k (A.deeper env):=
 ⟨r.hd,by have:=r.dp;show A.depth+1+3*k+5<_;omega,by have:=r.un;show A.units+3+16*k+200<_;omega⟩
theorem Room.depth {k:Nat}{A:Around}(r:Room k A):A.depth<recursionLimit:=by have:=r.dp;omega
theorem Room.units {k:Nat}{A:Around}(r:Room k A):A.units+64<cLine:=by have:=r.un;omega
def jn:TA:=fun _ H Q=>Q [] H
def lT (ta:TE)(tr:TA):TA:=fun σ H Q=>ta σ H fun x H1=>tr σ H1 fun xs H2=>Q (x::xs) H2
section
variable {X:Cx} {e:Expr} {es:List Expr} {te:TE} {t:TA} {pos:Pos}
theorem xu:PA X [] jn:=fun _ _ _ _ H Q I h=>Calls.spliced_nil ⟨[],H,I,.nil,h⟩
theorem sI (ha:PE X e te)(hr:PA X es t)(hs:starEach (e::es) X.env=(false,eval e X.env)::starEach es X.env:=by rfl):PA X (e::es) (lT te t):=by
 intro pos pins s σ H Q I h
 rw[hs]
 show wpAny _ _ (spliced ((false,eval e X.env)::backTo pos (starEach es X.env))) _ _ s
 refine Calls.spliced_cons (B7 (ha pins s σ H _ I h) fun u s1 ⟨x,H1,I1,r1,q1⟩=>?_)
 exact B7 (hr pos pins s1 σ H1 _ I1 q1) fun us s2 ⟨xs,H2,I2,r2,q2⟩=>⟨x::xs,H2,I2,.cons r1 r2,q2⟩
def xK (t:TA):TE:=fun σ H Q=>t σ H fun xs H1=>xs.length≤sizeLine∧∀p,H1 p=none→Q (.ref p) (upd H1 p (.tup xs))
def vN (t:TA):TE:=fun σ H Q=>t σ H fun xs H1=>xs.length≤sizeLine∧∀p,H1 p=none→Q (.ref p) (upd H1 p (.lst xs))
theorem xg {x1}(h:PA X es t):PE X (.Tuple es x1 pos) (xK t):=by
 intro pins s σ H Q I hq
 refine wpAny_Tuple_spliced (B7 (h pos pins s σ H _ I hq) fun us s1 ⟨xs,H1,I1,r,z,q⟩=>⟨by rw[←r.length];exact z,?_⟩)
 have hf:H1 s1.heap.objs.size=none:=I1.hok.fresh (Nat.le_refl _)
 refine⟨.ref s1.heap.objs.size,upd H1 s1.heap.objs.size (.tup xs),I1.laid (t':=s1.toks) (fun b u e=>Heap.get?_push_of_some _ e) (Nat.le_refl _) ?_,rfl,q _ hf⟩
 exact⟨z,us,r,⟨_,Heap.get?_push_size _ rfl,rfl,_,rfl⟩⟩
theorem wO (h:PA X es t):PE X (.List es pos) (vN t):=by
 intro pins s σ H Q I hq
 refine wpAny_List_spliced (B7 (h pos pins s σ H _ I hq) fun us s1 ⟨xs,H1,I1,r,z,q⟩=>⟨by rw[←r.length];exact z,?_⟩)
 have hf:H1 s1.heap.objs.size=none:=I1.hok.fresh (Nat.le_refl _)
 refine⟨.ref s1.heap.objs.size,upd H1 s1.heap.objs.size (.lst xs),I1.laid (t':=s1.toks) (fun b u e=>Heap.get?_push_of_some _ e) (Nat.le_refl _) ?_,rfl,q _ hf⟩
 exact⟨z,us,0,r,Heap.get?_push_size _ rfl⟩
end
abbrev Sp:=List V→Hp→VK→XK→Prop
abbrev fV:=List Env→Hp→Shared→XK→Value→Shared→Prop
structure ue (P:Program) (w:World) (K:PySem.W.Frag) (mg:Str→Option Value) (base:Heap) (A:Around) (outer:List Env) (s:Shared) (H:Hp):Prop where
 frames:A.frames=some outer
 mod:Mod K mg base
 bs:∀b o,base.get? b=some o→s.heap.get? b=some o∧H b=none
 bsz:base.objs.size≤s.heap.objs.size
 funs:s.heap.FunFrames base outer
 frf:∀b∈K9 outer,H b=none
 hok:HOk P w H s.heap
 bare:AllBare s.gens
def CE (outer:List Env)(P:Program)(w:World)(H:Hp)(s:Shared)(Q:VK)(u:Value)(s':Shared):Prop:=
 ∃v H',s'.os=s.os∧AllBare s'.gens∧Un (K9 outer) [] H H' s.heap s'.heap∧HOk P w H' s'.heap∧RelV v u∧Q v H'
def CR (CX:fV)(outer:List Env)(P:Program)(w:World)(H:Hp)(s:Shared)(Q:VK)(E:XK)(r:Result)(s':Shared):Prop:=
 match r with
 | .ok (.ret u)=>CE outer P w H s Q u s'
 | .ok _=>False
 | .error e=>CX outer H s E e s'
structure j1 (P:Program) (w:World) (K:PySem.W.Frag) (mg:Str→Option Value) (base:Heap) (CX:fV) (k:Nat) (f:Addr) (fd:FuncData) (ps:List Str) (sp:Sp):Prop where
 len:∀vs H Q E,sp vs H Q E→vs.length=ps.length
 run:∀(A:Around) (outer:List Env) (s:Shared) (H:Hp) (args:Args) (us:List Value) (vs:List V) (Q:VK) (E:XK),Room k A→ue P w K mg base A outer s H→BindsTo s fd args (ps.zip us)→Vals vs us→sp vs H Q E→
  codeAny (model P w) A (.call (.ref f) args) (CR CX outer P w H s Q E) s
section
variable {X:Cx} {pins:List (Addr×Obj)} {σ:St} {H:Hp} {s s':Shared}
theorem Inv.env0 (I:Inv X pins σ H s):ue X.prog X.w X.K X.mg X.base X.A X.stack s H:=
 ⟨I.ok.frames,I.ok.mod,I.bs,Nat.le_trans I.ok.bsz I.sz,I.stack,I.stkFree,I.hok,I.bare⟩
theorem Inv.after {Q:VK}{u:Value}(I:Inv X pins σ H s)(h:CE X.stack X.prog X.w H s Q u s'):EP X pins σ Q u s':=by
 obtain⟨v,H',os,bare,un,hok,r,q⟩:=h
 obtain⟨hh,g,d,t,os'⟩:=s'
 obtain rfl:os'=s.os:=os
 exact⟨v,H',I.call (h':=hh) (g':=g) (d':=d) (t':=t) (ch:=[]) un hok bare (fun b z=>absurd z (by simp)),r,q⟩
end
def iR (sp:Sp)(dvs:List V)(E:XK)(t:TA):TE:=fun σ H Q=>t σ H fun vs H1=>sp (vs++dvs) H1 Q E
def Binds (K:PySem.W.Frag)(fd:FuncData)(ps:List Str)(ds:List Value):Prop:=
 ∀(s:Shared) (us:List Value),K.In s.heap→(us++ds).length=ps.length→BindsTo s fd ⟨us,[]⟩ (ps.zip (us++ds))
theorem Binds.all {K:PySem.W.Frag}{fd:FuncData}{ps:List Str}(h:∀us:List Value,us.length=ps.length→bindArgs fd ⟨us,[]⟩=pure (ps.zip us)):Binds K fd ps []:=fun s us _ hl=>by
 rw[List.append_nil] at hl⊢
 exact .of_eq (h us hl)
def ai (CX:fV)(X:Cx)(E:XK):Prop:=∀(pins:List (Addr×Obj)) (σ:St) (H:Hp) (s:Shared) (e:Value) (s':Shared),Inv X pins σ H s→CX X.stack H s E e s'→X.xe e s'
section
variable {X:Cx} {CX:fV} {k:Nat} {f C:Addr} {fd:FuncData} {ps:List Str} {sp:Sp} {dvs:List V} {ds:List Value} {E:XK} {x m:Str} {p pos apos:Pos} {e o:Expr} {es:List Expr} {ta:TE} {t:TA}
theorem vE {pins:List (Addr×Obj)}{σ:St}{H:Hp}{s:Shared}{Q:VK}{us:List Value}{vs:List V}(F:j1 X.prog X.w X.K X.mg X.base CX k f fd ps sp)(hr:Room k X.A)(hb:Binds X.K fd ps ds)(hd:Vals dvs ds)(hx:ai CX X E)
  (I:Inv X pins σ H s) (r:Vals vs us) (h:sp (vs++dvs) H Q E):wpAny (model X.prog X.w) X.A (call (.ref f) us) (EP X pins σ Q) X.xe s:=by
 have r2:Vals (vs++dvs) (us++ds):=r.append hd
 have hl:(us++ds).length=ps.length:=by rw[←r2.length];exact F.len _ _ _ _ h
 refine wpAny_call (codeAny_mono (F.run X.A X.stack s H ⟨us,[]⟩ (us++ds) (vs++dvs) Q E hr I.env0 (hb s us I.kIn hl) r2 h) fun r s' hq=>?_)
 cases r with
 |error e=>exact hx pins σ H s e s' I hq
 |ok fl=>
  cases fl with
  |ret u=>exact I.after hq
  |next=>exact False.elim hq
  |brk=>exact False.elim hq
  |cont=>exact False.elim hq
theorem uz (F:j1 X.prog X.w X.K X.mg X.base CX k f fd ps sp)(hr:Room k X.A)(hg:Gl X x)(hm:X.mg x=some (.ref f))(hk:PySem.W.keepIn X.K (.ref f)=true)(hb:Binds X.K fd ps ds)(hd:Vals dvs ds)(hx:ai CX X E)
  (ha:PA X (e::es) t) (hdb:(x==("__debug__":Str))=false:=by decide) (he:starEach (e::es) X.env=(false,eval e X.env)::starEach es X.env:=by rfl) (hpl:(backTo pos (starEach es X.env)).any (·.1)=false:=by rfl):
  PE X (.Call (.Name x p) (e::es) [] pos) (iR sp dvs E t):=by
 intro pins s σ H Q I h
 refine wpAny_Call_Name_kw (aE I hg hm ?_ hdb)
 refine PySem.W.callWith_K (h₀:=X.base) I.ok.mod.kin hk (B7 (ha pos pins s σ H _ I h) fun us s1 ⟨vs,H1,I1,r,q⟩=>⟨I1.kIn,?_⟩) he hpl
 exact vE F hr hb hd hx I1 r q
structure Mk (K:PySem.W.Frag) (C f:Addr):Prop where
 makes:PySem.W.makesIn K C=true
 init:PySem.W.findIn K (.ref C) "__init__"=some (some (.ref f))
 fn:PySem.W.isFn K (.ref f)=true
 kp:PySem.W.keepIn K (.ref C)=true
end
section
variable {X:Cx} {CX:fV} {k:Nat} {f C:Addr} {fd:FuncData} {ps ks:List Str} {sp:Sp} {E:XK} {x m:Str} {p pos apos kpos:Pos} {e o:Expr} {es:List Expr} {kws:List Keyword} {te ta:TE} {t tk:TA} {nm:Option Str}
structure BF (K:PySem.W.Frag) (fd:FuncData) (ps ks:List Str) (g:List Value→List Value→List Value) (gV:List V→List V→List V):Prop where
 to:∀(s:Shared) (us ws:List Value),K.In s.heap→(g us ws).length=ps.length→BindsTo s fd ⟨us,ks.zip ws⟩ (ps.zip (g us ws))
 rel:∀{vs:List V} {us:List Value} {zs:List V} {ws:List Value},Vals vs us→Vals zs ws→Vals (gV vs zs) (g us ws)
variable {g:List Value→List Value→List Value} {gV:List V→List V→List V}
end
structure b8 (N P:List Str) (sc:Scope):Prop where
 kind:sc.kind= .function
 co:sc.isCoroutine=false
 gen:sc.isGenerator=false
 nd:N.Nodup
 pre:N.take P.length=P
 par:∀x∈P,sc.names.lookup x=some .local∨sc.names.lookup x=some .cell
 nofree:∀y∈sc.names,y.2≠ .free
theorem fL {kindOf:Str→Option NameKind}{x:Str}:∀{binds:List (Str×Value)} {m:Str→Option Value},(∀v,(x,v)∉binds)→bindL kindOf binds m x=m x
 |[],_,_=>rfl
 |(n,v)::r,m,h=>by
  unfold bindL
  rw[fL fun w hw=>h w (List.mem_cons_of_mem _ hw)]
  split
  ·have:x≠n:=by rintro rfl;exact h v List.mem_cons_self
   simp [this]
  ·rfl
theorem fW {kindOf:Str→Option NameKind}{x:Str}:∀{binds:List (Str×Value)} {m:Str→Option Value},(∀v,(x,v)∉binds)→bindC kindOf binds m x=m x
 |[],_,_=>rfl
 |(n,v)::r,m,h=>by
  unfold bindC
  rw[fW fun w hw=>h w (List.mem_cons_of_mem _ hw)]
  split
  ·rfl
  ·have:x≠n:=by rintro rfl;exact h v List.mem_cons_self
   simp [this]
theorem gc {kindOf:Str→Option NameKind}{x:Str}{v:Value}:∀{P:List Str} {vs:List Value} {i:Nat} {m:Str→Option Value},P.Nodup→P[i]?=some x→vs[i]?=some v→kindOf x=some .local→
  bindL kindOf (P.zip vs) m x=some v
 |[],_,_,_,_,h,_,_=>by simp at h
 |_::_,[],_,_,_,_,h,_=>by simp at h
 |p::P,w::vs,0,m,nd,h1,h2,hk=>by
  simp at h1 h2;subst h1;subst h2
  show bindL kindOf ((p,w)::P.zip vs) m p=_
  unfold bindL
  rw[fL fun v hv=>(List.nodup_cons.mp nd).1 (List.of_mem_zip hv).1,if_pos hk]
  simp
 |p::P,w::vs,i+1,m,nd,h1,h2,hk=>by
  show bindL kindOf ((p,w)::P.zip vs) m x=_
  unfold bindL
  exact gc (i:=i) (List.nodup_cons.mp nd).2 (by simpa using h1) (by simpa using h2) hk
theorem fM {kindOf:Str→Option NameKind}{x:Str}{v:Value}:∀{P:List Str} {vs:List Value} {i:Nat} {m:Str→Option Value},P.Nodup→P[i]?=some x→vs[i]?=some v→kindOf x≠some .local→
  bindC kindOf (P.zip vs) m x=some v
 |[],_,_,_,_,h,_,_=>by simp at h
 |_::_,[],_,_,_,_,h,_=>by simp at h
 |p::P,w::vs,0,m,nd,h1,h2,hk=>by
  simp at h1 h2;subst h1;subst h2
  show bindC kindOf ((p,w)::P.zip vs) m p=_
  unfold bindC
  rw[fW fun v hv=>(List.nodup_cons.mp nd).1 (List.of_mem_zip hv).1,if_neg hk]
  simp
 |p::P,w::vs,i+1,m,nd,h1,h2,hk=>by
  show bindC kindOf ((p,w)::P.zip vs) m x=_
  unfold bindC
  exact fM (i:=i) (List.nodup_cons.mp nd).2 (by simpa using h1) (by simpa using h2) hk
def U1 (N:List Str)(vs:List V):St:=vs.map some++List.replicate (N.length -vs.length) none
def bh (CX:fV)(P:Program)(w:World)(K:PySem.W.Frag)(mg:Str→Option Value)(base:Heap)(N:List Str)(qual:Str)(scope:Scope)(f:Addr)(cd:Value)(A:Around)(outer:List Env)(s:Shared)(H:Hp)(E:XK):Cx where
 prog:=P
 w:=w
 K:=K
 mg:=mg
 base:=base
 A:=A.deeper (envOfC qual scope s.heap.objs.size f cd)
 N:=N
 s₀:=s
 H₀:=H
 env:=envOfC qual scope s.heap.objs.size f cd
 outer:=outer
 stack:=envOfC qual scope s.heap.objs.size f cd::outer
 ex:=[]
 calm:=true
 fn:=fun _=>true
 pn:=[]
 xe:=fun e s'=>wpAny (model P w) (A.deeper (envOfC qual scope s.heap.objs.size f cd)) («leaving» (envOfC qual scope s.heap.objs.size f cd) e) (fun _ s''=>CX outer H s E e s'') (fun e' s''=>CX outer H s E e' s'') s'
theorem iB {sc:Scope}{n:Nat}{x:Str}(h:sc.names.lookup x=some .cell):∃c,(cellsFrom n sc.names []).lookup x=some c:=by
 have q:=PySem.W.cellsFrom_some sc.names n [] (.inl h)
 exact Option.isSome_iff_exists.mp q
theorem oR {CX:fV}{P:Program}{w:World}{K:PySem.W.Frag}{mg:Str→Option Value}{base:Heap}{N ps:List Str}{qual:Str}{scope:Scope}{f:Addr}{cd:Value}{A:Around}{outer:List Env}{s s1:Shared}{H:Hp}{E:XK}{us:List Value}{vs:List V}
  (S:b8 N ps scope) (hd:A.handled=none) (e0:ue P w K mg base A outer s H) (hl:vs.length=ps.length) (r:Vals vs us)
  (x:InCallC s s.heap.objs.size (bindL (envOfC qual scope s.heap.objs.size f cd).kindOf (ps.zip us) fun _=>none) (cellsFrom (s.heap.objs.size+1) scope.names []) (bindC (envOfC qual scope s.heap.objs.size f cd).kindOf (ps.zip us) fun _=>none) s1):
  Inv (bh CX P w K mg base N qual scope f cd A outer s H E) [] (U1 N vs) H s1:=by
 have hpl:ps.length≤N.length:=by have:=congrArg List.length S.pre;rw[List.length_take] at this;omega
 obtain⟨h1,tk,rfl,hk⟩:=x.done
 have noA:∀b:Addr,b∉(bh CX P w K mg base N qual scope f cd A outer s H E).ex:=fun b z=>absurd (show b∈([]:List Addr) from z) (by simp)
 refine⟨⟨e0.mod,S.kind,rfl,rfl,Nat.le_refl _,fun y z c h1 h2=>?_,fun y hy=>?_,fun y c _ h=>?_,fun _=>hd,Around.frames_deeper e0.frames,.inr ⟨rfl,rfl⟩,fun b z=>absurd z (noA b),e0.bs,e0.bsz,fun b _ _=>noA b,fun b z=>absurd z (noA b),e0.funs,e0.frf⟩,
  rfl,e0.bare,Un.kept hk,⟨_,x.toInCall.ns,fun i y v h1 h2 h3=>?_⟩,fun y c h=>⟨_,x.cell y c h⟩,e0.hok.fresh (Nat.le_refl _),fun y c h=>?_,fun p hp=>absurd (show p∈([]:List (Addr×Obj)) from hp) (by simp),e0.hok.kept hk,?_⟩
 ·exact name_of_addr x.apart (PySem.mem_of_lookup h1) (PySem.mem_of_lookup h2)
 ·have hy:scope.names.lookup y=some .cell∨scope.names.lookup y=some .free:=hy
  rcases hy with hy|hy
  ·exact iB hy
  ·exact absurd rfl (S.nofree _ (PySem.mem_of_lookup hy))
 ·exact Nat.le_of_lt (x.above y c (PySem.mem_of_lookup h))
 ·have hi:i<vs.length:=by
   unfold U1 at h2
   by_cases hi:i<vs.length
   ·exact hi
   ·rw[List.getElem?_append_right (by simpa using hi)] at h2
    rw[List.getElem?_replicate] at h2
    split at h2<;>cases h2
  have ha:vs[i]?=some v:=by
   unfold U1 at h2
   rw[List.getElem?_append_left (by simpa using hi),List.getElem?_map] at h2
   cases e:vs[i]? with
   |none=>rw[e] at h2;cases h2
   |some a=>rw[e] at h2;cases h2;rfl
  obtain⟨u,hu,rv⟩:=r.get ha
  have hp:ps[i]?=some y:=by
   rw[←S.pre,List.getElem?_take_of_lt (by omega)];exact h1
  have ndP:ps.Nodup:=by rw[←S.pre];exact S.nd.sublist (List.take_sublist _ _)
  refine⟨u,rv,?_⟩
  rcases S.par y (List.mem_of_getElem? hp) with k|k
  ·exact .inl ⟨k,gc ndP hp hu k⟩
  ·obtain⟨c,e⟩:=iB (n:=s.heap.objs.size+1) k
   refine .inr ⟨.inl k,c,e,?_⟩
   have q:=x.cell y c e
   rw[fM ndP hp hu (by show scope.names.lookup y≠_;rw[k];decide)] at q
   exact q
 ·exact e0.hok.fresh (Nat.le_of_lt (x.above y c (PySem.mem_of_lookup h)))
 ·unfold U1
  show _=N.length
  rw[List.length_append,List.length_map,List.length_replicate]
  omega
theorem lN {CX:fV}{P:Program}{w:World}{K:PySem.W.Frag}{mg:Str→Option Value}{base:Heap}{k:Nat}{f:Addr}{name qual:Str}{params:Arguments}{body:List Stmt}{scope:Scope}{dV kV doc pm cdv ct oc:Value}{an od:Option Addr}
  {osl:Array (Option Value)} {N ps:List Str} {sp:Sp} (lk:K.lookup f=some ⟨oc,od,.func (PySem.W.fnOf name qual params body scope dV kV doc pm an cdv ct),osl⟩) (hcd:PySem.W.codeIn K cdv qual=true) (S:b8 N ps scope)
  (len:∀vs H Q E,sp vs H Q E→vs.length=ps.length)
  (hbody:∀(A:Around) (outer:List Env) (s:Shared) (H:Hp) (vs:List V) (Q:VK) (E:XK),Room k (A.deeper (envOfC qual scope s.heap.objs.size f cdv))→sp vs H Q E→
   ∃t,PSs (bh CX P w K mg base N qual scope f cdv A outer s H E) body t∧t {nx:=fun _ H'=>Q .non H',rt:=Q} (U1 N vs) H):
  j1 P w K mg base CX (k+1) f (PySem.W.fnOf name qual params body scope dV kV doc pm an cdv ct) ps sp:=by
 refine⟨len,fun A outer s H args us vs Q E hr e0 hb r hsp=>?_⟩
 have hl:=len _ _ _ _ hsp
 have KX:K.In s.heap:=e0.mod.kin.keeps fun b o e=>(e0.bs b o e).1
 have lim:s.heap.NoLimit:=e0.mod.nolimit.keeps fun b o e=>(e0.bs b o e).1
 have hkind:∀y∈ps.zip us,scope.names.lookup y.1=some .local∨(scope.names.lookup y.1=some .cell∧((cellsFrom (s.heap.objs.size+1) scope.names []).lookup y.1).isSome=true):=fun⟨n,v⟩ hy=>by
  rcases S.par n (List.of_mem_zip hy).1 with q|q
  ·exact .inl q
  ·exact .inr ⟨q,PySem.W.cellsFrom_some _ _ _ (.inl q)⟩
 refine codeAny_call_function hr.depth (KX _ _ lk) rfl S.co S.gen rfl (PySem.W.codeRec_of KX hcd) (hb _ _ _ _ ?_)
 refine wpAny_newFunctionEnv_cells S.kind hkind fun env he s1 x=>?_
 subst he
 refine⟨lim.keeps x.toInCall.keep,codeAny_func ?_⟩
 obtain⟨t,ht,hq⟩:=hbody A outer s H vs Q E (hr.deeper _) hsp
 have I:Inv (bh CX P w K mg base N qual scope f cdv A outer s H E) [] (U1 N vs) H s1:=oR S hr.hd e0 hl r x
 refine wpAny_mono (ht [] s1 (U1 N vs) H _ I hq) (fun fl s' hs=>?_) fun e s' hs=>hs
 have fin:∀{σ':St} {H':Hp} {v:V} {u:Value},Inv (bh CX P w K mg base N qual scope f cdv A outer s H E) [] σ' H' s'→RelV v u→Q v H'→CE outer P w H s Q u s':=
  fun{σ' H' v u} J rv q=>⟨v,H',J.os,J.bare,J.base,J.hok,rv,q⟩
 cases fl with
 |ret u=>
  obtain⟨v,σ',H',J,rv,q⟩:=hs
  exact fin J rv q
 |next=>
  obtain⟨σ',H',J,q⟩:=hs
  exact fin (v:=V.non) (u:=Value.none) J rfl q
 |brk=>
  obtain⟨_,_,_,q⟩:=hs
  exact False.elim q
 |cont=>
  obtain⟨_,_,_,q⟩:=hs
  exact False.elim q
end L2
namespace L2
open PySem PySem.Spec PyProof.Rows
section
variable {X:Cx} {x:Str} {p pos:Pos} {e:Expr} {es:List Expr} {t:TA} {id T:String} {r:List V→Hp→VK→Prop}
def vU (r:List V→Hp→VK→Prop)(t:TA):TE:=fun σ H Q=>t σ H fun vs H1=>r vs H1 Q
theorem qt (hc:CallR X (.builtin id) r)(hg:Gl X x)(hm:X.mg x=none)(hv:bootBuiltins x=some (.builtin id))(ha:PA X (e::es) t)(hn:x≠"__name__":=by decide)(hdb:(x==("__debug__":Str))=false:=by decide)
  (he:starEach (e::es) X.env=(false,eval e X.env)::starEach es X.env:=by rfl) (hpl:(backTo pos (starEach es X.env)).any (·.1)=false:=by rfl):PE X (.Call (.Name x p) (e::es) [] pos) (vU r t):=by
 intro pins s σ H Q I h
 refine wpAny_Call_Name_kw (bz I hg hm hv ?_ hn hdb)
 exact PyProof.Rows.callWith_builtin1 (B7 (ha pos pins s σ H _ I h) fun us s1 ⟨vs,H1,I1,r1,q1⟩=>hc pins s1 σ H1 vs us Q I1 r1 q1) he hpl
theorem oG (hc:CallR X (.type T) r)(hg:Gl X x)(hm:X.mg x=none)(hv:bootBuiltins x=some (.type T))(ha:PA X (e::es) t)(hn:x≠"__name__":=by decide)(hdb:(x==("__debug__":Str))=false:=by decide)
  (he:starEach (e::es) X.env=(false,eval e X.env)::starEach es X.env:=by rfl) (hpl:(backTo pos (starEach es X.env)).any (·.1)=false:=by rfl):PE X (.Call (.Name x p) (e::es) [] pos) (vU r t):=by
 intro pins s σ H Q I h
 refine wpAny_Call_Name_kw (bz I hg hm hv ?_ hn hdb)
 exact PyProof.Rows.callWith_type1 (B7 (ha pos pins s σ H _ I h) fun us s1 ⟨vs,H1,I1,r1,q1⟩=>hc pins s1 σ H1 vs us Q I1 r1 q1) he hpl
end
end L2
namespace HT
open PySem PyProof.Rows
section
open PySem.SeqAt
open PySem.AutoSeq1 (wpAny_loadPart')
open PySem.MeetsSeq PySem.MeetsSeq2 PySem.MeetsSeq3
end
section
variable {prog:Program} {w:World} {A:Around} {E:Value→Shared→Prop} {s:Shared}
theorem cat_tup {t b:Addr}{vs ws:List Value}{Q:Value→Shared→Prop}(ht:IsTup s.heap t vs.toArray)(hb:IsTup s.heap b ws.toArray)(hv:vs≠[])
  (h1:ws=[]→Q (.ref t) s) (h2:ws≠[]→Q (.ref s.heap.objs.size) {s with heap:=s.heap.push {cls:= .type "tuple",data:= .seq (vs++ws).toArray}})
  (hsz:vs.length+ws.length≤sizeLine):wpAny (model prog w) A (binaryOp .Add (.ref t) (.ref b)) Q E s:=by
 obtain⟨⟨cls,dd,data,sl⟩,ho,hc,n,hd⟩:=id ht
 obtain⟨⟨cls2,dd2,data2,sl2⟩,ho2,hc2,n2,hd2⟩:=id hb
 simp only at hc hd hc2 hd2
 subst hc hd hc2 hd2
 have e:vs.toArray++ws.toArray=(vs++ws).toArray:=by simp
 by_cases hw:ws=[]
 ·exact concat_meets ⟨_,ho,rfl⟩ ⟨_,ho2,rfl⟩ noFill_tuple_add seq_tuple_add PySem.F.slot_tuple_add PySem.F.entry_tuple_add (PySem.F.args_tuple_add_2 _ _)
   (tuple_addW1 t b vs.toArray ws.toArray n n2 dd dd2 sl sl2 (by simpa using hv) (by simp [hw])) ⟨ho,ho2,h1 hw⟩
 ·refine concat_meets ⟨_,ho,rfl⟩ ⟨_,ho2,rfl⟩ noFill_tuple_add seq_tuple_add PySem.F.slot_tuple_add PySem.F.entry_tuple_add (PySem.F.args_tuple_add_2 _ _)
   (tuple_addW2 t b vs.toArray ws.toArray n n2 dd dd2 sl sl2 (by simpa using hv) (by simpa using hw) (by rw[List.size_toArray,List.size_toArray];exact hsz)) ⟨ho,ho2,?_⟩
  rw[e]
  exact h2 hw
def sIx (n d:Nat):Option Int→Nat
 |none=>d
 |some v=>if v<0 then(v+(n:Int)).toNat else min v.toNat n
theorem sIx_none (n d:Nat):sIx n d none=d:=rfl
theorem sIx_nat (n d k:Nat):sIx n d (some (k:Int))=min k n:=by
 show(if(k:Int)<0 then((k:Int)+(n:Int)).toNat else min (k:Int).toNat n)=min k n
 rw[if_neg (by omega),Int.toNat_natCast]
theorem vC (n d:Nat)(hd:d≤n)(o:Option Int):sIx n d o≤n:=by
 cases o with
 |none=>exact hd
 |some v=>
  show(if v<0 then(v+(n:Int)).toNat else min v.toNat n)≤n
  by_cases hv:v<0
  ·rw[if_pos hv];omega
  ·rw[if_neg hv];exact Nat.min_le_right _ _
theorem mB (v:Int)(n d:Nat):(if v<0 then max (v+(n:Int)) 0 else min v (n:Int))=((sIx n d (some v):Nat):Int):=by
 show(if v<0 then max (v+(n:Int)) 0 else min v (n:Int))=(((if v<0 then(v+(n:Int)).toNat else min v.toNat n):Nat):Int)
 by_cases hv:v<0
 ·simp only[if_pos hv];omega
 ·simp only[if_neg hv];omega
theorem kW (lo hi:Option Int)(n:Nat):Builtin.Slice.sliceAdjust lo hi 1 (n:Int)=(((sIx n 0 lo:Nat):Int),((sIx n n hi:Nat):Int)):=by
 have h1:¬((1:Int)<0):=by omega
 unfold Builtin.Slice.sliceAdjust
 simp only[h1,if_false]
 refine Prod.ext ?_ ?_
 ·cases lo with
  |none=>rfl
  |some v=>exact mB v n 0
 ·cases hi with
  |none=>rfl
  |some v=>exact mB v n n
theorem jL (i j:Nat):Builtin.Slice.slicePlaces (i:Int) (j:Int) 1=j -i:=by
 unfold Builtin.Slice.slicePlaces
 have h1:(1:Int)>0:=by omega
 simp only[h1,if_true,Int.ediv_one]
 split<;>omega
theorem eM {v:Value}{o:Option Int}{Q:Option Int→Shared→Prop}(p:IsPart v o)(h:Q o s):wpAny (model prog w) A (Builtin.Slice.slicePartIndex v) Q E s:=by
 cases p with
 |none=>exact slicePart_none h
 |int i t=>exact slicePart_int h
theorem bL {sl:Addr}{vl vu:Value}{lo hi:Option Int}{n:Nat}{Q:Int×Int×Nat→Shared→Prop}(hs:s.heap.IsSliceOf sl vl vu .none)(pl:IsPart vl lo)(pu:IsPart vu hi)
  (h:Q (((sIx n 0 lo:Nat):Int),1,sIx n n hi -sIx n 0 lo) s):wpAny (model prog w) A (Builtin.Slice.sliceApplied (.ref sl) (pure (n:Int))) Q E s:=by
 obtain⟨os,hos,hcs,hds⟩:=id hs
 unfold Builtin.Slice.sliceApplied Builtin.Slice.sliceFields
 refine wpAny_bind (wpAny_bind (wpAny_field hos hds (x:=vl) rfl (wpAny_bind (wpAny_field hos hds (x:=vu) rfl (wpAny_bind (wpAny_field hos hds (x:= .none) rfl (wpAny_pure ?_)))))))
 refine wpAny_bind (slicePart_none ?_)
 show wpAny _ _ (if((1:Int)==0)=true then _ else _) _ _ s
 rw[if_neg (by decide)]
 refine wpAny_bind (eM pl (wpAny_bind (eM pu (wpAny_bind (wpAny_pure ?_)))))
 show wpAny _ _ (match Builtin.Slice.sliceAdjust lo hi 1 (n:Int) with|(lo,hi)=>pure (lo,(1:Int),Builtin.Slice.slicePlaces lo hi 1)) _ _ s
 rw[kW lo hi n]
 show wpAny _ _ (pure (((sIx n 0 lo:Nat):Int),(1:Int),Builtin.Slice.slicePlaces ((sIx n 0 lo:Nat):Int) ((sIx n n hi:Nat):Int) 1)) _ _ s
 rw[jL]
 exact wpAny_pure h
theorem rG (xs:Array Value)(i k:Nat):((List.range k).filterMap fun(m:Nat)=>xs[((i:Int)+(m:Int)*1).toNat]?).toArray=((xs.toList.drop i).take k).toArray:=by
 have e:(fun(m:Nat)=>xs[((i:Int)+(m:Int)*1).toNat]?)=fun m=>xs[i+m]?:=by
  funext m
  have:((i:Int)+(m:Int)*1).toNat=i+m:=by omega
  rw[this]
 rw[e]
 have:=pick_run xs i k
 rw[List.filterMap_map] at this
 have e2:((fun x=>xs[x]?)∘fun x=>i+x)=fun m=>xs[i+m]?:=rfl
 rw[e2] at this
 rw[this]
theorem getItem_tuple_cut {t sl:Addr}{items:Array Value}{vl vu:Value}{lo hi:Option Int}{Q:Value→Shared→Prop}(ht:IsTup s.heap t items)(hs:s.heap.IsSliceOf sl vl vu .none)(pl:IsPart vl lo)(pu:IsPart vu hi)
  (hw:¬(sIx items.size 0 lo=0∧sIx items.size items.size hi=items.size))
  (h:Q (.ref s.heap.objs.size) {s with heap:=s.heap.push {cls:= .type "tuple",data:= .seq ((items.toList.drop (sIx items.size 0 lo)).take (sIx items.size items.size hi -sIx items.size 0 lo)).toArray}})
  (hsz:items.size≤sizeLine):wpAny (model prog w) A (getItem (.ref t) (.ref sl)) Q E s:=by
 have htake:sizeOk (.seq ((items.toList.drop (sIx items.size 0 lo)).take (sIx items.size items.size hi -sIx items.size 0 lo)).toArray):=by
  show((items.toList.drop (sIx items.size 0 lo)).take (sIx items.size items.size hi -sIx items.size 0 lo)).toArray.size≤sizeLine
  rw[List.size_toArray,List.length_take,List.length_drop,Array.length_toList]
  omega
 have hj:sIx items.size items.size hi≤items.size:=vC _ _ (Nat.le_refl _) hi
 obtain⟨os,hos,hcs,hds⟩:=id hs
 have hTs:s.TypeIs (.ref sl) "slice":=⟨os,hos,hcs⟩
 unfold getItem
 try with_reducible refine wpAny_holding ?_
 first|refine wpAny_bind (wpAny_pure ?_)|skip
 refine wpAny_bind (wpAny_sequenceKey ht.typeIs (by decide) ?_)
 refine wpAny_bind (wpAny_callSpecial?_slot (name:=Str.ofString "__getitem__") ht.typeIs PyProof.Rows.slot_tuple_getitem
  (wpAny_call_entry PyProof.Rows.slot_tuple_getitem ht.typeIs entry_tuple_getitem ?_ (args_tuple_getitem _ _)))
 show wpAny _ _ (Builtin.Tuple.tupleItemsOf (.ref t)>>=_) _ _ s
 refine wpAny_bind (tupleItemsOf_ ht ?_)
 refine wpAny_bind (wpAny_typeOf hTs ?_)
 rw[if_pos (by decide)]
 refine wpAny_bind (bL hs pl pu ?_)
 have hno:¬((((sIx items.size 0 lo:Nat):Int)==0&&(1:Int)==1&&(sIx items.size items.size hi -sIx items.size 0 lo)==items.size)=true):=by
  intro q
  rw[Bool.and_eq_true,Bool.and_eq_true] at q
  have q1:((sIx items.size 0 lo:Nat):Int)=0:=eq_of_beq q.1.1
  have q2:sIx items.size items.size hi -sIx items.size 0 lo=items.size:=eq_of_beq q.2
  exact hw ⟨by omega,by omega⟩
 show wpAny _ _ (if(((sIx items.size 0 lo:Nat):Int)==0&&(1:Int)==1&&(sIx items.size items.size hi -sIx items.size 0 lo)==items.size)=true then _ else _) _ _ s
 rw[if_neg hno,rG]
 first
  |exact wpAny_bind (m:=Builtin.Tuple.tupleExact _) (wpAny_newObj_type (wpAny_pure ⟨_,rfl,wpAny_pure h⟩) htake)
  |exact wpAny_bind (m:=Builtin.Tuple.tupleExact _) (wpAny_newObj_type (wpAny_bind (wpAny_pure (wpAny_pure ⟨_,rfl,wpAny_pure h⟩))) htake)
  |exact wpAny_bind (wpAny_bind (m:=Builtin.Tuple.tupleExact _) (wpAny_newObj_type (wpAny_pure (wpAny_pure ⟨_,rfl,wpAny_pure h⟩)) htake))
  |exact wpAny_bind (wpAny_bind (m:=Builtin.Tuple.tupleExact _) (wpAny_newObj_type (wpAny_pure ⟨_,rfl,wpAny_pure h⟩) htake))
end
end HT
namespace L2
open PySem PySem.Spec PyProof.Rows
abbrev TO:=St→Hp→(Option Int→Hp→Prop)→Prop
def PO (X:Cx)(e:Option Expr)(t:TO):Prop:=
 ∀(pins:List (Addr×Obj)) (s:Shared) (σ:St) (H:Hp) (Q:Option Int→Hp→Prop),Inv X pins σ H s→t σ H Q→
  wpAny (model X.prog X.w) X.A (evalPart e X.env) (fun u s'=>∃o H',Inv X pins σ H' s'∧IsPart u o∧Q o H') X.xe s
def ij:TO:=fun _ H Q=>Q none H
def qo (t:TE):TO:=fun σ H Q=>t σ H fun x H1=>∃i,x= .int i∧Q (some i) H1
theorem jN {ns:List Int}:∀{us:List Value},Vals (ns.map V.int) us→IntsAre us ns:=by
 induction ns with
 |nil=>intro us r;rw[List.map_nil] at r;cases r;exact .nil
 |cons n ns ih=>
  intro us r
  rw[List.map_cons] at r
  cases r with
  |cons r1 r2=>
   obtain⟨t,e⟩:=r1
   subst e
   exact .cons n t (ih r2)
section
variable {X:Cx} {e:Expr} {te:TE} {lo hi:Option Expr} {tl th:TO} {pos p2:Pos}
theorem uN:PO X none ij:=by
 intro pins s σ H Q I h
 rw[evalPart_none]
 exact wpAny_pure ⟨none,H,I,.none,h⟩
theorem sY (h:PE X e te):PO X (some e) (qo te):=by
 intro pins s σ H Q I hw
 rw[evalPart_some]
 refine B7 (h pins s σ H _ I hw) fun u s1 ⟨x,H1,I1,r1,q1⟩=>?_
 obtain⟨i,rfl,q⟩:=q1
 obtain⟨t,rfl⟩:=r1
 exact⟨some i,H1,I1,.int i t,q⟩
def SlR (X:Cx)(r:V→Option Int→Option Int→Hp→VK→Prop):Prop:=
 ∀(pins:List (Addr×Obj)) (s:Shared) (σ:St) (H:Hp) (x:V) (v vl vu:Value) (lo hi:Option Int) (sl:Addr) (Q:VK),Inv X pins σ H s→RelV x v→s.heap.IsSliceOf sl vl vu .none→IsPart vl lo→IsPart vu hi→r x lo hi H Q→
  ∃T id,typeLookup (.type T) "__getitem__"=pure (some (.builtin id))∧s.TypeIs v T∧wpAny (model X.prog X.w) X.A (getItem v (.ref sl)) (EP X pins σ Q) X.xe s
theorem SlR.or {r r':V→Option Int→Option Int→Hp→VK→Prop}(h:SlR X r)(h':SlR X r'):SlR X (fun x lo hi H Q=>r x lo hi H Q∨r' x lo hi H Q):=by
 intro pins s σ H x v vl vu lo hi sl Q I rx hs pl pu q
 rcases q with q|q
 ·exact h pins s σ H x v vl vu lo hi sl Q I rx hs pl pu q
 ·exact h' pins s σ H x v vl vu lo hi sl Q I rx hs pl pu q
def AN (r:V→Option Int→Option Int→Hp→VK→Prop)(te:TE)(tl th:TO):TE:=fun σ H Q=>te σ H fun x H1=>tl σ H1 fun l H2=>th σ H2 fun u H3=>r x l u H3 Q
theorem rJ {r:V→Option Int→Option Int→Hp→VK→Prop}(hr:SlR X r)(he:PE X e te)(hl:PO X lo tl)(hu:PO X hi th):PE X (.Subscript e (.Slice lo hi none p2) pos) (AN r te tl th):=by
 intro pins s σ H Q I h
 refine Subscript_ (B7 (he pins s σ H _ I h) fun v s1 ⟨x,H1,I1,r1,q1⟩=>?_)
 refine wpAny_Slice (B7 (hl pins s1 σ H1 _ I1 q1) fun vl s2 ⟨l,H2,I2,pl,q2⟩=>B7 (hu pins s2 σ H2 _ I2 q2) fun vu s3 ⟨u,H3,I3,pu,q3⟩=>?_)
 rw[evalPart_none]
 refine wpAny_pure ?_
 have I4:Inv X pins σ H3 {s3 with heap:=s3.heap.push {cls:= .type "slice",data:= .fields #[vl,vu,.none]}}:=I3.kept (t':=s3.toks) fun b ob q=>Heap.get?_push_of_some _ q
 obtain⟨T,id,hT,ht,hg⟩:=hr pins {s3 with heap:=s3.heap.push {cls:= .type "slice",data:= .fields #[vl,vu,.none]}} σ H3 x v vl vu l u s3.heap.objs.size Q I4 r1 (Heap.IsSliceOf.new ..) pl pu q3
 show wpAny (model X.prog X.w) X.A (subscriptTail e (.Slice lo hi none p2) v (.ref s3.heap.objs.size)) (EP X pins σ Q) X.xe {s3 with heap:=s3.heap.push {cls:= .type "slice",data:= .fields #[vl,vu,.none]}}
 exact tail_any (ops:=[.ref s3.heap.objs.size,v]) ht hT hg (by with_unfolding_all rfl)
def bF (xs:List V)(lo hi:Option Int):List V:=(xs.drop (HT.sIx xs.length 0 lo)).take (HT.sIx xs.length xs.length hi -HT.sIx xs.length 0 lo)
theorem bT (xs:List V)(lo hi:Option Int):(bF xs lo hi).length≤xs.length:=by
 unfold bF
 rw[List.length_take,List.length_drop]
 omega
def yS (K:PySem.W.Frag):V→Option Int→Option Int→Hp→VK→Prop:=fun x lo hi H Q=>∃a xs,x= .ref a∧SqT K H a xs∧
 ¬(HT.sIx xs.length 0 lo=0∧HT.sIx xs.length xs.length hi=xs.length)∧∀p,H p=none→Q (.ref p) (upd H p (.tup (bF xs lo hi)))
theorem sl_tup:SlR X (yS X.K):=by
 intro pins s σ H x v vl vu lo hi sl Q I rx hs pl pu h
 obtain⟨a,xs,rfl,hx,hw,q⟩:=h
 cases rx
 obtain⟨its,r,ht,hz⟩:=I.tuple hx
 have hlen:its.toArray.size=xs.length:=by rw[List.size_toArray];exact r.length.symm
 refine⟨"tuple",_,PyProof.Rows.slot_tuple_getitem.lookup,ht.typeIs,?_⟩
 refine HT.getItem_tuple_cut ht hs pl pu (by rw[hlen];exact hw) ?_ (by rw[hlen];exact hz)
 rw[hlen]
 refine⟨.ref s.heap.objs.size,_,I.laid (t':=s.toks) (o:= .tup (bF xs lo hi)) (fun b ob q=>Heap.get?_push_of_some _ q) (Nat.le_refl _) ?_,rfl,q _ (I.hok.fresh (Nat.le_refl _))⟩
 exact⟨Nat.le_trans (bT xs lo hi) hz,_,(r.drop (HT.sIx xs.length 0 lo)).take (HT.sIx xs.length xs.length hi -HT.sIx xs.length 0 lo),IsTup.new _ _⟩
def vp (K:PySem.W.Frag):R2:=fun x y H Q=>∃a b xs ys,x= .ref a∧y= .ref b∧SqT K H a xs∧SqT K H b ys∧xs≠[]∧xs.length+ys.length≤sizeLine∧
 (ys=[]→Q (.ref a) H)∧(ys≠[]→∀p,H p=none→Q (.ref p) (upd H p (.tup (xs++ys))))
theorem Vals.nil_iff {xs:List V}{us:List Value}(r:Vals xs us):us=[]↔xs=[]:=by
 cases r with
 |nil=>simp
 |cons _ _=>simp
theorem tV:OpR X (binaryOp .Add) (vp X.K):=by
 intro pins s σ H x y v u Q I rx ry h
 obtain⟨a,b,xs,ys,rfl,rfl,ha,hb,hx,hz,q1,q2⟩:=h
 cases rx
 cases ry
 obtain⟨its,r1,p1,_⟩:=I.tuple ha
 obtain⟨its2,r2,p2,_⟩:=I.tuple hb
 refine HT.cat_tup p1 p2 (fun z=>hx (r1.nil_iff.mp z)) (fun z=>⟨.ref a,H,I,rfl,q1 (r2.nil_iff.mp z)⟩) (fun z=>?_) (by rw[←r1.length,←r2.length];exact hz)
 refine⟨.ref s.heap.objs.size,_,I.laid (t':=s.toks) (o:= .tup (xs++ys)) (fun b ob q=>Heap.get?_push_of_some _ q) (Nat.le_refl _) ?_,rfl,q2 (fun w=>z (r2.nil_iff.mpr w)) _ (I.hok.fresh (Nat.le_refl _))⟩
 exact⟨by rw[List.length_append];exact hz,_,r1.append r2,IsTup.new _ _⟩
end
end L2
namespace L2
open PySem PySem.Spec PyProof.Rows
def tE (n:Nat)(i:Int):Option Nat:=if 0≤i then(if i<n then some i.toNat else none) else if -(n:Int)≤i then some (i+n).toNat else none
def cz {α:Type}(xs:List α)(i:Int):Option α:=(tE xs.length i).bind fun j=>xs[j]?
theorem mO {n:Nat}{i:Int}{j:Nat}(h:tE n i=some j):seqIndex? i n=some j∧j<n∧-(n:Int)≤i∧i<n:=by
 unfold tE at h
 by_cases h0:0≤i
 ·rw[if_pos h0] at h
  by_cases h1:i<n
  ·rw[if_pos h1] at h
   have e:i.toNat=j:=Option.some.inj h
   exact⟨by rw[seqIndex_of h0 h1,e],by omega,by omega,h1⟩
  ·rw[if_neg h1] at h;cases h
 ·rw[if_neg h0] at h
  by_cases h1: -(n:Int)≤i
  ·rw[if_pos h1] at h
   have e:(i+n).toNat=j:=Option.some.inj h
   exact⟨by rw[seqIndex_neg (by omega) h1,e],by omega,h1,by omega⟩
  ·rw[if_neg h1] at h;cases h
theorem gz {α:Type}{xs:List α}{i:Int}{v:α}(h:cz xs i=some v):∃j,seqIndex? i xs.length=some j∧xs[j]?=some v∧j<xs.length∧-(xs.length:Int)≤i∧i<xs.length:=by
 unfold cz at h
 cases e:tE xs.length i with
 |none=>rw[e] at h;cases h
 |some j=>
  rw[e] at h
  obtain⟨h1,h2,h3,h4⟩:=mO e
  exact⟨j,h1,h,h2,h3,h4⟩
theorem b6 {α:Type}{xs:List α}{j:Nat}{v:α}(h:xs[j]?=some v):cz xs (j:Int)=some v:=by
 have hj:j<xs.length:=(List.getElem?_eq_some_iff.mp h).1
 have e:tE xs.length (j:Int)=some j:=by
  unfold tE
  rw[if_pos (by omega),if_pos (by omega)];simp
 unfold cz;rw[e];exact h
def mh (b:Expr):Prop:=∀o i,subscripted b false o i=operate [o,i] (getItem o i)
def IxR (X:Cx)(r:R2):Prop:=
 ∀(value slice:Expr) (pins:List (Addr×Obj)) (s:Shared) (σ:St) (H:Hp) (x y:V) (v u:Value) (Q:VK),Inv X pins σ H s→RelV x v→RelV y u→r x y H Q→
  subscripted slice false v u=operate [v,u] (getItem v u)→wpAny (model X.prog X.w) X.A (subscriptTail value slice v u) (EP X pins σ Q) X.xe s
def uI (X:Cx)(id:String)(r:V→List V→Hp→VK→Prop):Prop:=
 ∀(pins:List (Addr×Obj)) (s:Shared) (σ:St) (H:Hp) (x:V) (xs:List V) (v:Value) (us:List Value) (Q:VK),Inv X pins σ H s→RelV x v→Vals xs us→r x xs H Q→
  wpAny (model X.prog X.w) X.A (call (.builtin id) (v::us)) (EP X pins σ Q) X.xe s
section
variable {X:Cx} {a b:Expr} {ta tb:TE} {pos:Pos}
theorem IxR.or {r r':R2}(h:IxR X r)(h':IxR X r'):IxR X (fun x y H Q=>r x y H Q∨r' x y H Q):=by
 intro value slice pins s σ H x y v u Q I rx ry q hs
 rcases q with q|q
 ·exact h value slice pins s σ H x y v u Q I rx ry q hs
 ·exact h' value slice pins s σ H x y v u Q I rx ry q hs
theorem zw {r:R2}(hr:IxR X r)(ha:PE X a ta)(hb:PE X b tb)(hs:mh b):PE X (.Subscript a b pos) (sj r ta tb):=by
 intro pins s σ H Q I h
 exact Subscript_ (xc ha hb I h fun v u s2 x y H2 I2 rx ry q=>hr a b pins s2 σ H2 x y v u Q I2 rx ry q (hs _ _))
def ym (K:PySem.W.Frag):R2:=fun x y H Q=>∃p xs i v,x= .ref p∧y= .int i∧SqL K H p xs∧cz xs i=some v∧Q v H
def zr (K:PySem.W.Frag):R2:=fun x y H Q=>∃p xs i v,x= .ref p∧y= .int i∧SqT K H p xs∧cz xs i=some v∧Q v H
def yD:R2:=fun x y H Q=>∃z i c,x= .str z∧y= .int i∧z.length≤sizeLine∧cz z.cps.toList i=some c∧Q (.str ⟨#[c]⟩) H
theorem ix_list:IxR X (ym X.K):=by
 intro value slice pins s σ H x y v u Q I rx ry h hs
 obtain⟨p,xs,i,z,rfl,rfl,hq,he,q⟩:=h
 cases rx
 obtain⟨t,rfl⟩:=ry
 obtain⟨its,r,pl,hz⟩:=I.list hq
 obtain⟨j,h1,h2,h3,h4,h5⟩:=gz he
 obtain⟨w,ew,rw'⟩:=r.get h2
 have hl:=r.length
 have hn:=bI
 have fin:EP X pins σ Q w s:=⟨z,H,I,rw',q⟩
 by_cases h0:0≤i
 ·have hj:i.toNat=j:=by
   rw[seqIndex_of h0 h5] at h1
   exact Option.some.inj h1
  exact item_listR pl.isList h0 (by omega) (by rw[hj];simpa using ew) fin hs
 ·have hj:(i+(its.toArray.size:Int)).toNat=j:=by
   rw[seqIndex_neg (by omega) h4] at h1
   rw[List.size_toArray,←hl]
   exact Option.some.inj h1
  exact subscriptTail_builtinR (x:=w) pl.isList.typeIs slot_list_getitem.lookup
   (wpAny_getItem_list_neg (Q:=fun r s'=>r=w∧EP X pins σ Q r s') pl.isList (by omega) (by rw[List.size_toArray]<;>omega) (by omega) (by rw[hj];simpa using ew) ⟨rfl,fin⟩) hs
theorem ix_tup:IxR X (zr X.K):=by
 intro value slice pins s σ H x y v u Q I rx ry h hs
 obtain⟨p,xs,i,z,rfl,rfl,hq,he,q⟩:=h
 cases rx
 obtain⟨t,rfl⟩:=ry
 obtain⟨its,r,pl,hz⟩:=I.tuple hq
 obtain⟨j,h1,h2,h3,h4,h5⟩:=gz he
 obtain⟨w,ew,rw'⟩:=r.get h2
 have hl:=r.length
 have hn:=bI
 have fin:EP X pins σ Q w s:=⟨z,H,I,rw',q⟩
 exact subscriptTail_builtinR (x:=w) pl.typeIs slot_tuple_getitem.lookup
  (getItem_tuple (j:=j) (Q:=fun r s'=>r=w∧EP X pins σ Q r s') pl (by omega) (by omega) (by rw[List.size_toArray,←hl];exact h1) (by simpa using ew) ⟨rfl,fin⟩) hs
theorem xA:IxR X yD:=by
 intro value slice pins s σ H x y v u Q I rx ry h hs
 obtain⟨z,i,c,rfl,rfl,hz,he,q⟩:=h
 obtain⟨t,rfl⟩:=rx
 obtain⟨t',rfl⟩:=ry
 obtain⟨j,h1,h2,h3,h4,h5⟩:=gz he
 have hl:z.cps.toList.length=z.length:=by simp [Str.length]
 rw[hl] at h1 h4 h5
 have hn:=bI
 exact tail_any (typeIs_str s z t) slot_str_getitem.lookup (getItem_str (c:=c) (by
  have e1:decide (i< -(2 ^ 63:Int))=false:=decide_eq_false (by omega)
  have e2:decide (i≥2 ^ 63)=false:=decide_eq_false (by omega)
  rw[e1,e2,Bool.or_false]) (by rw[h1];simpa using h2) ⟨.str ⟨#[c]⟩,H,I.tok _,⟨_,rfl⟩,q⟩) hs
def BQ (K:PySem.W.Frag):R2:=fun x y H Q=>ym K x y H Q∨zr K x y H Q∨yD x y H Q
theorem ix_seq:IxR X (BQ X.K):=ix_list.or (ix_tup.or xA)
theorem kM (its:List Value)(n j:Nat)(u:Value):Obj.mapSeq (·.setIfInBounds j u) {cls:= .type "list",data:= .seq its.toArray n}={cls:= .type "list",data:= .seq (its.set j u).toArray n}:=by
 simp [Obj.mapSeq]
theorem Inv.lst {pins:List (Addr×Obj)}{σ:St}{H:Hp}{s:Shared}{p:Addr}{xs:List V}(I:Inv X pins σ H s)(h:H p=some (.lst xs)):
  ∃(its:List Value) (n:Nat),Vals xs its∧s.heap.get? p=some {cls:= .type "list",data:= .seq its.toArray n}∧xs.length≤sizeLine:=by
 obtain⟨z,its,n,r,e⟩:=I.hok p _ h
 exact⟨its,n,r,e,z⟩
theorem Inv.lstUpd {pins:List (Addr×Obj)}{σ:St}{H:Hp}{s:Shared}{p:Addr}{xs ys:List V}{its its':List Value}{n n':Nat}{f:Obj→Obj}(I:Inv X pins σ H s)(h:H p=some (.lst xs))
  (ho:s.heap.get? p=some {cls:= .type "list",data:= .seq its.toArray n}) (hf:f {cls:= .type "list",data:= .seq its.toArray n}={cls:= .type "list",data:= .seq its'.toArray n'}) (r:Vals ys its') (hz:ys.length≤sizeLine) (t:Nat):
  Inv X pins σ (upd H p (.lst ys)) {s with heap:=s.heap.update p f,toks:=t}:=by
 have e:(s.heap.update p f).get? p=some {cls:= .type "list",data:= .seq its'.toArray n'}:=by
  rw[Heap.get?_update_self f ho (by rw[hf]<;>rfl),hf]
 refine I.write (x:=p) (e:=p) (by rw[h];trivial) (.inl rfl) (fun b u hb q=>(Heap.get?_update_other _ _ (Ne.symm hb)).trans q) ⟨_,e⟩ ?_
 exact⟨hz,its',n',r,e⟩
def vt:V→V→V→Hp→(Hp→Prop)→Prop:=fun o i v H Q=>∃p xs k j,o= .ref p∧i= .int k∧H p=some (.lst xs)∧tE xs.length k=some j∧Q (upd H p (.lst (xs.set j v)))
theorem rK:nz X vt:=by
 intro pins s σ H o i v ov iv u Q I ro ri rv h
 obtain⟨p,xs,k,j,rfl,rfl,hp,hj,q⟩:=h
 cases ro
 obtain⟨t,rfl⟩:=ri
 obtain⟨its,n,r,ho,hz⟩:=I.lst hp
 obtain⟨h1,h2,h3,h4⟩:=mO hj
 have hl:=r.length
 have hn:=bI
 have I':Inv X pins σ (upd H p (.lst (xs.set j v))) {s with heap:=s.heap.update p (Obj.mapSeq (·.setIfInBounds j u))}:=
  I.lstUpd hp ho (kM its n j u) (r.set rv j) (by rw[List.length_set];exact hz) s.toks
 by_cases h0:0≤k
 ·have hk:k.toNat=j:=by
   rw[seqIndex_of h0 h4] at h1
   exact Option.some.inj h1
  exact PySem.W.ki_setAt ho h0 (by omega) (by rw[List.size_toArray,←hl];exact h4) (by rw[hk];exact⟨_,I',q⟩)
 ·have hk:(k+(its.toArray.size:Int)).toNat=j:=by
   rw[seqIndex_neg (by omega) h3] at h1
   rw[List.size_toArray,←hl]
   exact Option.some.inj h1
  exact PySem.W.ki_setBack ho (by omega) (by rw[List.size_toArray,←hl];exact h3) (by omega) (by rw[hk];exact⟨_,I',q⟩)
theorem gH (lo hi:Option Int)(n:Nat):(sliceBounds lo hi none n).1=((HT.sIx n 0 lo:Nat):Int)∧(sliceBounds lo hi none n).2.1=((HT.sIx n n hi:Nat):Int)∧(sliceBounds lo hi none n).2.2=1:=by
 refine⟨?_,?_,rfl⟩
 ·cases lo with
  |none=>simp [sliceBounds,HT.sIx]
  |some i=>
   simp only[sliceBounds,HT.sIx,Option.getD_none,show(1:Int)>0 by decide,if_true]
   by_cases h:i<0
   ·simp only[h,if_true]<;>omega
   ·simp only[h,if_false]<;>omega
 ·cases hi with
  |none=>simp [sliceBounds,HT.sIx]
  |some i=>
   simp only[sliceBounds,HT.sIx,Option.getD_none,show(1:Int)>0 by decide,if_true]
   by_cases h:i<0
   ·simp only[h,if_true]<;>omega
   ·simp only[h,if_false]<;>omega
theorem fg (its:List Value)(lo hi:Option Int):slicePick its.toArray lo hi none=((its.drop (HT.sIx its.length 0 lo)).take (HT.sIx its.length its.length hi -HT.sIx its.length 0 lo)).toArray:=by
 obtain⟨h1,h2,h3⟩:=gH lo hi its.toArray.size
 unfold slicePick
 rw[h1,h2,h3]
 simp only[sliceRange_one,pick_run,List.size_toArray]<;>rfl
def yL (K:PySem.W.Frag):V→Option Int→Option Int→Hp→VK→Prop:=fun x lo hi H Q=>∃a xs,x= .ref a∧SqL K H a xs∧∀p,H p=none→Q (.ref p) (upd H p (.lst (bF xs lo hi)))
theorem sl_list:SlR X (yL X.K):=by
 intro pins s σ H x v vl vu lo hi sl Q I rx hs pl pu h
 obtain⟨a,xs,rfl,hx,q⟩:=h
 cases rx
 obtain⟨its,r,ht,hz⟩:=I.list hx
 have hlen:=r.length
 refine⟨"list",_,slot_list_getitem.lookup,ht.isList.typeIs,?_⟩
 refine wpAny_getItem_list_slice ht.isList hs pl pu .none (by simp) ?_ (by rw[List.size_toArray]<;>omega)
 rw[fg,←hlen]
 refine⟨.ref s.heap.objs.size,_,I.laid (t':=s.toks) (o:= .lst (bF xs lo hi)) (fun b ob q=>Heap.get?_push_of_some _ q) (Nat.le_refl _) ?_,rfl,q _ (I.hok.fresh (Nat.le_refl _))⟩
 exact⟨Nat.le_trans (bT xs lo hi) hz,_,0,(r.drop (HT.sIx xs.length 0 lo)).take (HT.sIx xs.length xs.length hi -HT.sIx xs.length 0 lo),Heap.get?_push_size _ rfl⟩
def x9:V→Bool
 | .non=>true
 | .bl _=>true
 | .int _=>true
 | .str _=>true
 |_=>false
def bA:V→V→Bool
 | .non,.non=>true
 | .bl a,.bl b=>a==b
 | .bl a,.int b=>(if a then 1 else 0)==b
 | .int a,.bl b=>a==(if b then 1 else 0)
 | .int a,.int b=>a==b
 | .str a,.str b=>a==b
 |_,_=>false
theorem ah {A:Around}{s:Shared}{y x:V}{u v:Value}(ry:RelV y u)(rx:RelV x v)(fy:x9 y=true)(fx:x9 x=true):SeqAt.EqAt A s u v (bA y x):=by
 cases y with
 |non=>
  cases ry
  cases x with
  |non=>cases rx;exact SeqAt.EqAt.same _
  |bl b=>cases rx;exact SeqAt.EqAt.none_bool b
  |int b=>obtain⟨t,rfl⟩:=rx;exact SeqAt.EqAt.none_int b t
  |str b=>obtain⟨t,rfl⟩:=rx;exact SeqAt.EqAt.none_str b t
  |_=>exact absurd (show false=true from fx) Bool.false_ne_true
 |bl a=>
  cases ry
  cases x with
  |non=>cases rx;exact SeqAt.EqAt.bool_none a
  |bl b=>cases rx;exact SeqAt.EqAt.bool_bool a b
  |int b=>obtain⟨t,rfl⟩:=rx;exact SeqAt.EqAt.bool_int a b t
  |str b=>obtain⟨t,rfl⟩:=rx;exact SeqAt.EqAt.bool_str a b t
  |_=>exact absurd (show false=true from fx) Bool.false_ne_true
 |int a=>
  obtain⟨t',rfl⟩:=ry
  cases x with
  |non=>cases rx;exact SeqAt.EqAt.int_none a t'
  |bl b=>cases rx;exact SeqAt.EqAt.int_bool a t' b
  |int b=>obtain⟨t,rfl⟩:=rx;exact SeqAt.EqAt.int_int a t' b t
  |str b=>obtain⟨t,rfl⟩:=rx;exact SeqAt.EqAt.int_str a t' b t
  |_=>exact absurd (show false=true from fx) Bool.false_ne_true
 |str a=>
  obtain⟨t',rfl⟩:=ry
  cases x with
  |non=>cases rx;exact SeqAt.EqAt.str_none a t'
  |bl b=>cases rx;exact SeqAt.EqAt.str_bool a t' b
  |int b=>obtain⟨t,rfl⟩:=rx;exact SeqAt.EqAt.str_int a t' b t
  |str b=>obtain⟨t,rfl⟩:=rx;exact SeqAt.EqAt.str_str a t' b t
  |_=>exact absurd (show false=true from fx) Bool.false_ne_true
 |_=>exact absurd (show false=true from fy) Bool.false_ne_true
def kG (x:V)(u:Value):Bool:=match u with
 | .none=>bA .non x
 | .bool b=>bA (.bl b) x
 | .int i _=>bA (.int i) x
 | .str z _=>bA (.str z) x
 |_=>false
theorem pI {x y:V}{u:Value}(r:RelV y u)(f:x9 y=true):kG x u=bA y x:=by
 cases y with
 |non=>cases r;rfl
 |bl b=>cases r;rfl
 |int i=>obtain⟨t,rfl⟩:=r;rfl
 |str z=>obtain⟨t,rfl⟩:=r;rfl
 |_=>exact absurd (show false=true from f) Bool.false_ne_true
theorem aq {x:V}:∀{xs:List V} {us:List Value},Vals xs us→xs.all x9=true→us.any (kG x)=xs.any fun y=>bA y x
 |_,_,.nil,_=>rfl
 |y::xs,u::us,.cons r t,f=>by
  rw[List.all_cons,Bool.and_eq_true] at f
  rw[List.any_cons,List.any_cons,pI r f.1,aq t f.2]
theorem T7 {A:Around}{s:Shared}{x:V}{v:Value}(rx:RelV x v)(fx:x9 x=true):∀{xs:List V} {us:List Value},Vals xs us→xs.all x9=true→∀u∈us,SeqAt.EqAt A s u v (kG x u)
 |_,_,.nil,_=>fun u hu=>by cases hu
 |y::xs,u::us,.cons r t,f=>fun u' hu=>by
  rw[List.all_cons,Bool.and_eq_true] at f
  rcases List.mem_cons.mp hu with rfl|hu
  ·rw[pI r f.1];exact ah r rx f.1 fx
  ·exact T7 rx fx t f.2 u' hu
def Aw (x:V)(xs:List V):Bool:=xs.any fun y=>bA y x
def Ak (K:PySem.W.Frag)(neg:Bool):R2:=fun x y H Q=>∃p xs,y= .ref p∧(SqL K H p xs∨SqT K H p xs)∧x9 x=true∧xs.all x9=true∧Q (.bl (if neg then !Aw x xs else Aw x xs)) H
theorem op_in_seq:OpR X (compareOp .In) (Ak X.K false):=by
 intro pins s σ H x y v u Q I rx ry h
 obtain⟨p,xs,rfl,hq,fx,fs,q⟩:=h
 cases ry
 rcases hq with hq|hq
 ·obtain⟨its,r,pl,hz⟩:=I.list hq
  refine SeqAt.in_listAt (kG x) pl.isList (fun w hw=>T7 rx fx r fs w (by simpa using hw)) ⟨.bl _,H,I,rfl,?_⟩
  rw[show its.toArray.any (kG x)=its.any (kG x) by simp,aq r fs]
  exact q
 ·obtain⟨its,r,pl,hz⟩:=I.tuple hq
  refine SeqAt.in_tupleAt (kG x) pl (fun w hw=>T7 rx fx r fs w (by simpa using hw)) ⟨.bl _,H,I,rfl,?_⟩
  rw[show its.toArray.any (kG x)=its.any (kG x) by simp,aq r fs]
  exact q
theorem op_notIn_seq:OpR X (compareOp .NotIn) (Ak X.K true):=by
 intro pins s σ H x y v u Q I rx ry h
 obtain⟨p,xs,rfl,hq,fx,fs,q⟩:=h
 cases ry
 rcases hq with hq|hq
 ·obtain⟨its,r,pl,hz⟩:=I.list hq
  refine SeqAt.notIn_listAt (kG x) pl.isList (fun w hw=>T7 rx fx r fs w (by simpa using hw)) ⟨.bl _,H,I,rfl,?_⟩
  rw[show its.toArray.any (kG x)=its.any (kG x) by simp,aq r fs]
  exact q
 ·obtain⟨its,r,pl,hz⟩:=I.tuple hq
  refine SeqAt.notIn_tupleAt (kG x) pl (fun w hw=>T7 rx fx r fs w (by simpa using hw)) ⟨.bl _,H,I,rfl,?_⟩
  rw[show its.toArray.any (kG x)=its.any (kG x) by simp,aq r fs]
  exact q
theorem gP:OpR X (compareOp .NotIn) (fun x y H Q=>∃i j,x= .str i∧y= .str j∧Q (.bl (!(!(Builtin.Str.occurrences j i 0 j.length 1).isEmpty))) H):=by
 intro pins s σ H x y v u Q I rx ry h
 obtain⟨i,j,rfl,rfl,q⟩:=h
 obtain⟨t,rfl⟩:=rx
 obtain⟨t',rfl⟩:=ry
 exact notIn_str ⟨.bl _,H,I,rfl,q⟩
theorem CallR.or {f:Value}{r r':List V→Hp→VK→Prop}(h:CallR X f r)(h':CallR X f r'):CallR X f (fun xs H Q=>r xs H Q∨r' xs H Q):=by
 intro pins s σ H xs us Q I rs q
 rcases q with q|q
 ·exact h pins s σ H xs us Q I rs q
 ·exact h' pins s σ H xs us Q I rs q
theorem call_list_of:CallR X (.type "list") (fun xs H Q=>∃p ys,xs=[.ref p]∧(SqL X.K H p ys∨SqT X.K H p ys)∧∀l,H l=none→Q (.ref l) (upd H l (.lst ys))):=by
 intro pins s σ H xs us Q I r h
 obtain⟨p,ys,rfl,hq,q⟩:=h
 obtain⟨u,rfl,rx⟩:=D0 r
 cases rx
 have fin:∀(its:List Value),Vals ys its→ys.length≤sizeLine→∀(h':Heap) (c':Nat),(∀b o',s.heap.get? b=some o'→h'.get? b=some o')→
   h'.get? s.heap.objs.size=some {cls:= .type "list",dict:=none,data:= .seq its.toArray c',slots:= #[]}→EP X pins σ Q (.ref s.heap.objs.size) {s with heap:=h'}:=fun its r' hz h' c' kp e=>
  ⟨.ref s.heap.objs.size,_,I.laid (t':=s.toks) kp (Nat.le_refl _) (show ObjOk X.prog X.w _ h' _ (.lst ys) from⟨hz,its,c',r',e⟩),rfl,q _ (I.hok.fresh (Nat.le_refl _))⟩
 rcases hq with hq|hq
 ·obtain⟨its,r',pl,hz⟩:=I.list hq
  have hlen:=r'.length
  obtain⟨o,ho,hc,n,hd⟩:=pl.isList
  exact call_list_seq p (.inl rfl) ho hc hd (fun h' c' kp e=>fin its r' hz h' c' kp e) (by simp only[List.size_toArray]<;>omega)
 ·obtain⟨its,r',pl,hz⟩:=I.tuple hq
  have hlen:=r'.length
  obtain⟨o,ho,hc,n,hd⟩:=pl
  exact call_list_seq p (.inr rfl) ho hc hd (fun h' c' kp e=>fin its r' hz h' c' kp e) (by simp only[List.size_toArray]<;>omega)
def zB (K:PySem.W.Frag)(T:String)(x:V)(H:Hp):Prop:=match x with
 | .str _=>T="str"
 | .int _=>T="int"
 | .ref p=>(T="list"∧∃xs,SqL K H p xs)∨(T="tuple"∧∃o,K.lookup p=some o∧o.cls= .type "tuple"∧o.dict=none)∨
   (T="dict"∧((∃kvs,H p=some (.dK kvs))∨∃kvs,H p=some (.dT kvs)))∨(T="set"∧∃S n,H p=some (.set S n))
 |_=>False
theorem pY {pins:List (Addr×Obj)}{σ:St}{H:Hp}{s:Shared}{T:String}{x:V}{v:Value}(I:Inv X pins σ H s)(r:RelV x v)(ty:zB X.K T x H):
  s.TypeIs v T∧∀a,v= .ref a→∃ob,s.heap.get? a=some ob∧ob.dict=none:=by
 cases x with
 |str z=>
  obtain⟨t,rfl⟩:=r
  cases (show T="str" from ty)
  exact⟨typeIs_str s z t,fun _ e=>nomatch e⟩
 |int i=>
  obtain⟨t,rfl⟩:=r
  cases (show T="int" from ty)
  exact⟨typeIs_int s i t,fun _ e=>nomatch e⟩
 |ref p=>
  cases r
  rcases ty with⟨rfl,xs,hq⟩|⟨rfl,o,hk,hc,hd⟩|⟨rfl,hk⟩|⟨rfl,S,n,hk⟩
  ·obtain⟨its,_,pl,_⟩:=I.list hq
   refine⟨pl.isList.typeIs,fun a e=>?_⟩
   cases e
   obtain⟨o,n,e,c,hd,_⟩:=pl
   exact⟨o,e,hd⟩
  ·refine⟨⟨o,I.kIn p o hk,hc⟩,fun a e=>?_⟩
   cases e
   exact⟨o,I.kIn _ o hk,hd⟩
  ·have z:∃o,s.heap.get? p=some o∧o.ExactDict:=by
    rcases hk with⟨kvs,hk⟩|⟨kvs,hk⟩
    ·obtain⟨_,_,_,_,o,_,_,e,ex,_⟩:=I.hok p _ hk
     exact⟨o,e,ex⟩
    ·obtain⟨_,_,_,_,o,_,_,e,ex,_⟩:=I.hok p _ hk
     exact⟨o,e,ex⟩
   obtain⟨o,e,ex⟩:=z
   refine⟨⟨o,e,ex.1⟩,fun a e2=>?_⟩
   cases e2
   exact⟨o,e,ex.2.1⟩
  ·obtain⟨o,_,_,_,e,ex,_⟩:=I.hok p _ hk
   refine⟨⟨o,e,ex.1⟩,fun a e2=>?_⟩
   cases e2
   exact⟨o,e,ex.2.1⟩
 |_=>exact False.elim ty
def wq (K:PySem.W.Frag)(T:String)(r:V→List V→Hp→VK→Prop)(to:TE):TE:=fun σ H Q=>to σ H fun x H1=>zB K T x H1∧r x [] H1 Q
def Bh (K:PySem.W.Frag)(T:String)(r:V→List V→Hp→VK→Prop)(to:TE)(t:TA):TE:=fun σ H Q=>to σ H fun x H1=>zB K T x H1∧t σ H1 fun xs H2=>r x xs H2 Q
variable {o e:Expr} {es:List Expr} {to:TE} {t:TA} {name:Str} {apos cpos:Pos} {T id:String} {r:V→List V→Hp→VK→Prop}
theorem wH (pa:PlainAttrs T)(slot:Slot T name id)(hty:typeOf (.builtin id)=pure (.type "method_descriptor"))(hm:uI X id r)(ho:PE X o to)
  (hbase:attributeBase o name X.env (eval o X.env)=eval o X.env:=by rfl) (hline:(apos.endLine==cpos.line)=true:=by rfl):PE X (.Call (.Attribute o name apos) [] [] cpos) (wq X.K T r to):=by
 intro pins s σ H Q I h
 refine wpAny_Call_method0_late hbase hline (B7 (ho pins s σ H _ I h) fun v s1 ⟨x,H1,I1,r1,ty,q1⟩=>?_)
 obtain⟨h1,h2⟩:=pY I1 r1 ty
 exact⟨T,id,pa,slot,hty,h1,h2,Calls.callWith_builtin rfl (PySem.evalArgs_none (hm pins s1 σ H1 x [] v [] Q I1 r1 .nil q1))⟩
theorem zH (pa:PlainAttrs T)(slot:Slot T name id)(hty:typeOf (.builtin id)=pure (.type "method_descriptor"))(hm:uI X id r)(ho:PE X o to)(ha:PA X (e::es) t)
  (hbase:attributeBase o name X.env (eval o X.env)=eval o X.env:=by rfl)
  (hfew:((backTo cpos (starEach (e::es) X.env)).all (fun x=>!x.1)&&(backToKw cpos (keywordEach [] X.env)).all (fun x=>x.1.isSome)
   &&decide ((e::es).length+([]:List Keyword).length+(if([]:List Keyword).isEmpty then 0 else 1)<30))=true:=by rfl)
  (hline:(apos.endLine==cpos.line)=true:=by rfl) (hs:starEach (e::es) X.env=(false,eval e X.env)::starEach es X.env:=by rfl) (hplain:(backTo cpos (starEach es X.env)).any (·.1)=false:=by rfl):
  PE X (.Call (.Attribute o name apos) (e::es) [] cpos) (Bh X.K T r to t):=by
 intro pins s σ H Q I h
 refine wpAny_Call_method_late hbase hfew hline rfl (B7 (ho pins s σ H _ I h) fun v s1 ⟨x,H1,I1,r1,ty,q1⟩=>?_)
 obtain⟨h1,h2⟩:=pY I1 r1 ty
 refine⟨T,id,pa,slot,hty,h1,h2,?_⟩
 have hA:=ha cpos pins s1 σ H1 _ I1 q1
 rw[hs] at hA⊢
 refine Calls.callWith_builtin (by show(false||(backTo cpos (starEach es X.env)).any (·.1))=false;rw[hplain]<;>rfl) (Calls.evalArgs_plain ?_)
 exact B7 hA fun us s2 ⟨vs,H2,I2,r2,q2⟩=>hm pins s2 σ H2 x vs v us Q I2 r1 r2 q2
end
end L2
namespace L2
open PySem PySem.Spec PyProof.Rows
def Cz (X:Cx)(id:String)(r:V→List V→Hp→VK→Prop):Prop:=
 ∀(pins:List (Addr×Obj)) (s:Shared) (σ:St) (H:Hp) (x:V) (xs:List V) (v:Value) (us:List Value) (Q:VK),Inv X pins σ H s→RelV x v→Vals xs us→r x xs H Q→
  wpAny (model X.prog X.w) X.A (call (.builtin id) (v::us)) (EP X pins σ Q) X.xe s
theorem Vals.one:∀{x:V} {us:List Value},Vals [x] us→∃u,us=[u]∧RelV x u
 |_,_,.cons r .nil=>⟨_,rfl,r⟩
theorem Vals.zero:∀{us:List Value},Vals [] us→us=[]
 |_,.nil=>rfl
section
variable {X:Cx} {pins:List (Addr×Obj)} {σ:St} {H:Hp} {s:Shared} {l b:Addr} {xs ys zs:List V}
theorem Inv.lset {its its':List Value}{n:Nat}{f:Array Value→Array Value}{t':Nat}(I:Inv X pins σ H s)(hH:H l=some (.lst xs))
  (e:s.heap.get? l=some {cls:= .type "list",data:= .seq its.toArray n}) (hf:f its.toArray=its'.toArray) (hv:Vals ys its') (hz:ys.length≤sizeLine):
  Inv X pins σ (upd H l (.lst ys)) {s with heap:=s.heap.update l (Obj.mapSeq f),toks:=t'}:=by
 have q:=PySem.IsL.update e f
 rw[hf] at q
 refine I.write (x:=l) (e:=l) (by rw[hH];exact trivial) (.inl rfl) (fun b' u hb hu=>(Heap.get?_update_other s.heap (Obj.mapSeq f) (Ne.symm hb)).trans hu) ⟨_,q⟩ ?_
 exact⟨hz,its',_,hv,q⟩
theorem Inv.lnew {its:List Value}{t':Nat}(I:Inv X pins σ H s)(hv:Vals ys its)(hz:ys.length≤sizeLine):
  Inv X pins σ (upd H s.heap.objs.size (.lst ys)) {s with heap:=s.heap.push {cls:= .type "list",data:= .seq its.toArray},toks:=t'}:=
 I.laid (fun _ _ q=>Heap.get?_push_of_some _ q) (Nat.le_refl _) ⟨hz,its,0,hv,Heap.get?_push_size _ rfl⟩
theorem Inv.fresh (I:Inv X pins σ H s):H s.heap.objs.size=none:=I.hok.fresh (Nat.le_refl _)
theorem Inv.lstM (I:Inv X pins σ H s)(hH:H l=some (.lst xs)):xs.length≤sizeLine∧∃(its:List Value) (n:Nat),Vals xs its∧xs.length=its.length∧s.heap.get? l=some {cls:= .type "list",data:= .seq its.toArray n}:=by
 obtain⟨z,its,n,r,e⟩:=I.hok l _ hH
 exact⟨z,its,n,r,r.length,e⟩
end
section
variable {X:Cx}
def mw:V→List V→Hp→VK→Prop:=fun x vs H Q=>∃l xs y,x= .ref l∧vs=[y]∧H l=some (.lst xs)∧xs.length<sizeLine∧Q .non (upd H l (.lst (xs++[y])))
theorem nu:Cz X "list.append" mw:=by
 intro pins s σ H x vs v us Q I rx rv h
 obtain⟨l,xs,y,rfl,rfl,hH,hz,q⟩:=h
 cases rx
 obtain⟨u,rfl,ru⟩:=rv.one
 obtain⟨z,its,n,r,hl,e⟩:=I.lstM hH
 refine call_meets F.slot_list_append ⟨_,e,rfl⟩ F.entry_list_append (F.args_list_append_2 _ _) (PySem.list_append l its.toArray n u (by rw[List.size_toArray];omega)) ⟨e,?_⟩
 refine⟨.non,_,I.lset (its':=its++[u]) hH e (by simp) (r.append (.cons ru .nil)) ?_,rfl,q⟩
 rw[List.length_append,List.length_singleton]
 omega
def zf:R2:=fun x y H Q=>∃l b xs zs,x= .ref l∧y= .ref b∧H l=some (.lst xs)∧H b=some (.lst zs)∧xs.length+zs.length≤sizeLine∧∀p,H p=none→Q (.ref p) (upd H p (.lst (xs++zs)))
theorem op_cat:OpR X (binaryOp .Add) zf:=by
 intro pins s σ H x y v u Q I rx ry h
 obtain⟨l,b,xs,zs,rfl,rfl,hH,hB,hz,q⟩:=h
 cases rx
 cases ry
 obtain⟨z,its,n,r,hl,e⟩:=I.lstM hH
 obtain⟨z2,its2,n2,r2,hl2,e2⟩:=I.lstM hB
 refine PySem.P.add_list e e2 ?_ (by rw[List.size_toArray,List.size_toArray];omega)
 have ea:its.toArray++its2.toArray=(its++its2).toArray:=by simp
 rw[ea]
 exact⟨.ref _,_,I.lnew (t':=s.toks) (r.append r2) (by rw[List.length_append];omega),rfl,q _ I.fresh⟩
end
section
variable {prog:Program} {w:World} {A:Around} {E:Value→Shared→Prop} {s:Shared}
end
section
variable {X:Cx}
end
end L2
namespace L2
open PySem PySem.Spec PyProof.Rows
section
variable {κ:Type} [DecidableEq κ]
def x8 (kvs:List (κ×V))(k:κ):Option V:=(kvs.find? fun kv=>decide (kv.1=k)).map (·.2)
def B6 (kvs:List (κ×V))(k:κ)(v:V):List (κ×V):=
 if(kvs.any fun kv=>decide (kv.1=k))=true then kvs.map (fun kv=>if kv.1=k then(kv.1,v) else kv) else kvs++[(k,v)]
theorem N1 {p:κ×V}{r:List (κ×V)}{k:κ}(e:p.1=k):x8 (p::r) k=some p.2:=by simp [x8,List.find?_cons,e]
theorem M6 {p:κ×V}{r:List (κ×V)}{k:κ}(e:¬p.1=k):x8 (p::r) k=x8 r k:=by simp [x8,List.find?_cons,e]
theorem U9 (k:κ):∀kvs:List (κ×V),(kvs.any fun kv=>decide (kv.1=k))=(x8 kvs k).isSome
 |[]=>rfl
 |p::r=>by
  rw[List.any_cons]
  by_cases e:p.1=k
  ·simp only[N1 e,decide_eq_true e,Bool.true_or,Option.isSome_some]
  ·rw[M6 e,decide_eq_false e,Bool.false_or];exact U9 k r
theorem J0 (kvs:List (κ×V))(k:κ)(v:V):(B6 kvs k v).length≤kvs.length+1:=by
 unfold B6
 split
 ·rw[List.length_map];omega
 ·rw[List.length_append,List.length_cons,List.length_nil];omega
theorem F5 {kvs:List (κ×V)}{k:κ}(v:V)(h:x8 kvs k=none):B6 kvs k v=kvs++[(k,v)]:=by
 unfold B6
 rw[U9,h]
 exact if_neg (by decide)
theorem RelO.isSome_eq {o:Option V}{u:Option Value}(r:RelO o u):o.isSome=u.isSome:=by
 cases o with
 |none=>cases u with
  |none=>rfl
  |some _=>exact(show False from r).elim
 |some _=>cases u with
  |none=>exact(show False from r).elim
  |some _=>rfl
theorem RelO.getD {o:Option V}{u:Option Value}{d:V}{d':Value}(r:RelO o u)(rd:RelV d d'):RelV (o.getD d) (u.getD d'):=by
 cases o with
 |none=>cases u with
  |none=>exact rd
  |some _=>exact(show False from r).elim
 |some _=>cases u with
  |none=>exact(show False from r).elim
  |some _=>exact r
theorem KV.val {kvs:List (κ×V)}{vs:List (κ×Value)}(r:KV kvs vs)(k:κ):RelO (x8 kvs k) (valueAt vs k):=by
 unfold KV at r
 induction r with
 |nil=>exact True.intro
 | @cons p q ps qs h t ih=>
  obtain⟨h1,h2⟩:=h
  by_cases e:p.1=k
  ·have e':q.1=k:=h1.symm.trans e
   have b:valueAt (q::qs) k=some q.2:=by simp [valueAt,List.find?_cons,e']
   rw[N1 e,b];exact h2
  ·have e':¬q.1=k:=fun z=>e (h1.trans z)
   have b:valueAt (q::qs) k=valueAt qs k:=by simp [valueAt,List.find?_cons,e']
   rw[M6 e,b];exact ih
theorem KV.any {kvs:List (κ×V)}{vs:List (κ×Value)}(r:KV kvs vs)(k:κ):(kvs.any fun kv=>decide (kv.1=k))=vs.any fun kv=>decide (kv.1=k):=by
 unfold KV at r
 induction r with
 |nil=>rfl
 |cons h t ih=>rw[List.any_cons,List.any_cons,ih,h.1]
theorem KV.repl {kvs:List (κ×V)}{vs:List (κ×Value)}(r:KV kvs vs)(k:κ){y:V}{u:Value}(ry:RelV y u):
  KV (kvs.map fun kv=>if kv.1=k then(kv.1,y) else kv) (vs.map fun kv=>if kv.1=k then(kv.1,u) else kv):=by
 unfold KV at r⊢
 induction r with
 |nil=>exact .nil
 | @cons p q ps qs h t ih=>
  rw[List.map_cons,List.map_cons]
  refine .cons ?_ ih
  obtain⟨h1,h2⟩:=h
  by_cases e:p.1=k
  ·rw[if_pos e,if_pos (h1.symm.trans e)];exact⟨h1,ry⟩
  ·rw[if_neg e,if_neg (fun z=>e (h1.trans z))];exact⟨h1,h2⟩
theorem KV.put {kvs:List (κ×V)}{vs:List (κ×Value)}(r:KV kvs vs)(k:κ){y:V}{u:Value}(ry:RelV y u):KV (B6 kvs k y) (stored vs k u):=by
 unfold B6 stored
 rw[r.any k]
 by_cases e:(vs.any fun kv=>decide (kv.1=k))=true
 ·rw[if_pos e,if_pos e];exact r.repl k ry
 ·rw[if_neg e,if_neg e];exact Paired.snoc r ⟨rfl,ry⟩
theorem KV.keys {kvs:List (κ×V)}{vs:List (κ×Value)}(r:KV kvs vs):kvs.map (·.1)=vs.map (·.1):=by
 unfold KV at r
 induction r with
 |nil=>rfl
 |cons h t ih=>rw[List.map_cons,List.map_cons,ih,h.1]
theorem KV.length {kvs:List (κ×V)}{vs:List (κ×Value)}(r:KV kvs vs):kvs.length=vs.length:=Paired.length r
end
theorem eK {P:Program}{w:World}{k:h9}{u:Value}(r:RelV (kV k) u):(i8 P w).is k u=true:=by
 cases k with
 |inl i=>obtain⟨t,e⟩:=(show ∃t,u=Value.int i t from r);subst e;exact iX P w i t
 |inr x=>obtain⟨t,e⟩:=(show ∃t,u=Value.str x t from r);subst e;exact iN P w x t
theorem fN {P:Program}{w:World}:∀{ks:List h9} {us:List Value},Vals (ks.map kV) us→ItemsAre (i8 P w) ks us
 |[],_,r=>by rw[List.map_nil] at r;cases r;exact .nil
 |k::ks,_,r=>by
  rw[List.map_cons] at r
  cases r with
  |cons h t=>exact .cons (eK h) (fN t)
abbrev KT (H:Hp):List (List h9×V)→List (List h9×Addr×Value)→Prop:=Paired fun p q=>p.1=q.1∧H q.2.1=some (.tup (p.1.map kV))∧RelV p.2 q.2.2
theorem KT.val {H:Hp}{kvs:List (List h9×V)}{xs:List (List h9×Addr×Value)}(r:KT H kvs xs)(k:List h9):RelO (x8 kvs k) ((atKey xs k).map (·.2)):=by
 induction r with
 |nil=>exact True.intro
 | @cons p q ps qs h t ih=>
  obtain⟨h1,_,h2⟩:=h
  by_cases e:p.1=k
  ·have e':q.1=k:=h1.symm.trans e
   have b:atKey (q::qs) k=some q.2:=by simp [atKey,List.find?_cons,e']
   rw[N1 e,b];exact h2
  ·have e':¬q.1=k:=fun z=>e (h1.trans z)
   have b:atKey (q::qs) k=atKey qs k:=by simp [atKey,List.find?_cons,e']
   rw[M6 e,b];exact ih
theorem KT.repl {H:Hp}{kvs:List (List h9×V)}{xs:List (List h9×Addr×Value)}(r:KT H kvs xs)(k:List h9){y:V}{u:Value}(ry:RelV y u):
  KT H (kvs.map fun kv=>if kv.1=k then(kv.1,y) else kv) (xs.map (putAt k u)):=by
 induction r with
 |nil=>exact .nil
 | @cons p q ps qs h t ih=>
  rw[List.map_cons,List.map_cons]
  refine .cons ?_ ih
  obtain⟨h1,h2,h3⟩:=h
  unfold putAt
  by_cases e:p.1=k
  ·rw[if_pos e,if_pos (h1.symm.trans e)];exact⟨h1,h2,ry⟩
  ·rw[if_neg e,if_neg (fun z=>e (h1.trans z))];exact⟨h1,h2,h3⟩
theorem KT.put {H:Hp}{kvs:List (List h9×V)}{xs:List (List h9×Addr×Value)}(r:KT H kvs xs)(k:List h9){b:Addr}{y:V}{u:Value}(hb:H b=some (.tup (k.map kV)))(ry:RelV y u):
  KT H (B6 kvs k y) (storedH xs k b u):=by
 have e:(kvs.any fun kv=>decide (kv.1=k))=(atKey xs k).isSome:=by
  rw[U9,(r.val k).isSome_eq,Option.isSome_map]
 unfold B6 storedH
 rw[e]
 by_cases q:(atKey xs k).isSome=true
 ·rw[if_pos q,if_pos q];exact r.repl k ry
 ·rw[if_neg q,if_neg q];exact Paired.snoc r ⟨rfl,hb,ry⟩
theorem KT.keeps {H H':Hp}{kvs:List (List h9×V)}{xs:List (List h9×Addr×Value)}(r:KT H kvs xs)(ht:∀b ys,H b=some (.tup ys)→H' b=some (.tup ys)):KT H' kvs xs:=
 Paired.mapP r fun _ _ z=>⟨z.1,ht _ _ z.2.1,z.2.2⟩
section
variable {P:Program} {w:World} {H:Hp} {h:Heap} {a:Addr}
theorem vn {u:HO}(ok:HOk P w H h)(e:Rd H a u):ObjOk P w H h a u:=e.ok ok
theorem C1 {kvs:List (h9×V)}(ok:HOk P w H h)(e:Rd H a (.dK kvs)):kvs.length≤sizeLine∧(a==sysModules)=false∧∃vs,KV kvs vs∧h.DictOf (i8 P w) a vs:=
 show ObjOk P w H h a (.dK kvs) from vn ok e
theorem vw {kvs:List (h9×V)}(ok:HOk P w H h)(e:H a=some (.dK kvs)):kvs.length≤sizeLine∧(a==sysModules)=false∧∃vs,KV kvs vs∧h.DictOf (i8 P w) a vs:=C1 ok (.inl e)
theorem bw {ks:List h9}(ok:HOk P w H h)(e:H a=some (.tup (ks.map kV))):(tupleKind (i8 P w)).is h ks a:=by
 obtain⟨_,its,r,o,h1,h2,n,h3⟩:=(show ObjOk P w H h a (.tup (ks.map kV)) from ok a _ e)
 exact⟨o,its.toArray,n,h1,h2,h3,by simpa using fN r⟩
theorem dy {kvs:List (List h9×V)}(ok:HOk P w H h)(e:Rd H a (.dT kvs)):kvs.length≤sizeLine∧(a==sysModules)=false∧
  ∃xs,KT H kvs xs∧h.DictOfH (tupleKind (i8 P w)) a xs:=by
 obtain⟨z,y,xs,r,o,es,ep,h1,h2,h3,h4,h5⟩:=(show ObjOk P w H h a (.dT kvs) from vn ok e)
 refine⟨z,y,xs,r,o,es,ep,h1,h2,h3,h4,fun x hx=>?_,h5⟩
 have all:∀{l:List (List h9×V)} {m:List (List h9×Addr×Value)},KT H l m→∀x∈m,(tupleKind (i8 P w)).is h x.1 x.2.1:=by
  intro l m q
  induction q with
  |nil=>intro x hx;exact nomatch hx
  | @cons p q ps qs hq t ih=>
   intro x hx
   rcases List.mem_cons.mp hx with e|hx
   ·subst e
    exact bw ok (by rw[←hq.1];exact hq.2.1)
   ·exact ih x hx
 exact all r x hx
theorem zN {kvs:List (List h9×V)}(ok:HOk P w H h)(e:H a=some (.dT kvs)):kvs.length≤sizeLine∧(a==sysModules)=false∧
  ∃xs,KT H kvs xs∧h.DictOfH (tupleKind (i8 P w)) a xs:=dy ok (.inl e)
end
def U5 (H:Hp)(a:Addr)(y:V)(r:Option V):Prop:=
 (∃kvs k,Rd H a (.dK kvs)∧y=kV k∧r=x8 kvs k)∨∃kvs k b,Rd H a (.dT kvs)∧y= .ref b∧H b=some (.tup (k.map kV))∧r=x8 kvs k
def DPut (H:Hp)(a:Addr)(y v:V)(H':Hp):Prop:=
 (∃kvs k,H a=some (.dK kvs)∧y=kV k∧kvs.length<sizeLine∧H'=upd H a (.dK (B6 kvs k v)))∨
 ∃kvs k b,H a=some (.dT kvs)∧y= .ref b∧H b=some (.tup (k.map kV))∧kvs.length<sizeLine∧H'=upd H a (.dT (B6 kvs k v))
theorem DPut.k {H:Hp}{a:Addr}{kvs:List (h9×V)}{k:h9}{v:V}(e:H a=some (.dK kvs))(hl:kvs.length<sizeLine):DPut H a (kV k) v (upd H a (.dK (B6 kvs k v))):= .inl ⟨kvs,k,e,rfl,hl,rfl⟩
section
variable {X:Cx} {pins:List (Addr×Obj)} {σ:St} {H:Hp} {s:Shared} {a:Addr} {y v:V} {u r:Value} {o:Option V} {A:Around} {E:Value→Shared→Prop}
theorem Inv.big (I:Inv X pins σ H s):sysModules<s.heap.objs.size:=by
 have h:mainGlobals<s.heap.objs.size:=(I.mod.glob.keeps I.bk).lt
 exact Nat.lt_trans (by decide) h
theorem mV {Q:Value→Shared→Prop}(hu:A.units+1<cLine)(I:Inv X pins σ H s)(g:U5 H a y (some v))(ry:RelV y u)(h:∀w' s',Inv X pins σ H s'→RelV v w'→Q w' s'):
  wpAny (model X.prog X.w) A (getItem (.ref a) u) Q E s:=by
 rcases g with⟨kvs,k,e,ey,l⟩|⟨kvs,k,b,e,ey,eb,l⟩
 ·subst ey
  obtain⟨z,hd,vs,rel,dd⟩:=C1 I.hok e
  obtain⟨w',hw,rw'⟩:=RelO.some_of (v:=v) (o:=valueAt vs k) (by rw[l];exact rel.val k)
  exact wpAny_getItem_of (eK ry) dd.mapOf hw (h w' _ (I.tok _) rw')
 ·subst ey
  cases (show u=Value.ref b from ry)
  obtain⟨z,hd,xs,rel,dd⟩:=dy I.hok e
  obtain⟨w',hw,rw'⟩:=RelO.some_of (v:=v) (o:=(atKey xs k).map (·.2)) (by rw[l];exact rel.val k)
  obtain⟨p,hp,hp2⟩:=Option.map_eq_some_iff.mp hw
  refine wpAny_getItem_heap (tupleKind_room_in1 hu) (bw I.hok eb) dd hp ?_
  rw[hp2]
  exact h w' _ (I.tok _) rw'
theorem BE {Q:Value→Shared→Prop}(hu:A.units+1<cLine)(I:Inv X pins σ H s)(g:U5 H a y o)(ry:RelV y u)(h:∀s',Inv X pins σ H s'→Q (.bool o.isSome) s'):
  wpAny (model X.prog X.w) A (compareOp .In u (.ref a)) Q E s:=by
 rcases g with⟨kvs,k,e,ey,l⟩|⟨kvs,k,b,e,ey,eb,l⟩
 ·subst ey
  obtain⟨z,hd,vs,rel,dd⟩:=C1 I.hok e
  refine wpAny_in_of (eK ry) hd dd.mapOf ?_
  rw[←(rel.val k).isSome_eq,←l]
  exact h _ (I.tok _)
 ·subst ey
  cases (show u=Value.ref b from ry)
  obtain⟨z,hd,xs,rel,dd⟩:=dy I.hok e
  refine wpAny_in_heap (tupleKind_room_in1 hu) (bw I.hok eb) hd dd ?_
  have q:=(rel.val k).isSome_eq
  rw[Option.isSome_map] at q
  rw[←q,←l]
  exact h _ (I.tok _)
theorem ua {Q:Value→Shared→Prop}(hu:A.units+1<cLine)(I:Inv X pins σ H s)(g:U5 H a y o)(ry:RelV y u)(h:∀s',Inv X pins σ H s'→Q (.bool (!o.isSome)) s'):
  wpAny (model X.prog X.w) A (compareOp .NotIn u (.ref a)) Q E s:=by
 rcases g with⟨kvs,k,e,ey,l⟩|⟨kvs,k,b,e,ey,eb,l⟩
 ·subst ey
  obtain⟨z,hd,vs,rel,dd⟩:=C1 I.hok e
  refine wpAny_notIn_of (eK ry) hd dd.mapOf ?_
  rw[←(rel.val k).isSome_eq,←l]
  exact h _ (I.tok _)
 ·subst ey
  cases (show u=Value.ref b from ry)
  obtain⟨z,hd,xs,rel,dd⟩:=dy I.hok e
  refine wpAny_notIn_heap (tupleKind_room_in1 hu) (bw I.hok eb) hd dd ?_
  have q:=(rel.val k).isSome_eq
  rw[Option.isSome_map] at q
  rw[←q,←l]
  exact h _ (I.tok _)
theorem gj {h':Heap}{t':Nat}{ob:HO}(I:Inv X pins σ H s)(mu:yt (H a))(hs:Heap.SameBut a s.heap h')(he:∃q,h'.get? a=some q)(new:ObjOk X.prog X.w (upd H a ob) h' a ob):
  Inv X pins σ (upd H a ob) {s with heap:=h',toks:=t'}:=
 I.write (x:=a) (e:=a) mu (.inl rfl) (fun b q hb z=>(hs.2 b hb).trans z) he new
theorem kr {P:Program}{w:World}{H':Hp}{h':Heap}{kvs:List (h9×V)}{vs:List (h9×Value)}(z:kvs.length≤sizeLine)(hd:(a==sysModules)=false)(rel:KV kvs vs)(dd:h'.DictOf (i8 P w) a vs):
  ObjOk P w H' h' a (.dK kvs):=⟨z,hd,vs,rel,dd⟩
theorem nc {H':Hp}{Q:Unit→Shared→Prop}(hu:A.units+1<cLine)(I:Inv X pins σ H s)(g:DPut H a y v H')(ry:RelV y u)(rv:RelV v r)(h:∀s',Inv X pins σ H' s'→Q () s'):
  wpAny (model X.prog X.w) A (setItem (.ref a) u r) Q E s:=by
 rcases g with⟨kvs,k,e,ey,l,eH⟩|⟨kvs,k,b,e,ey,eb,l,eH⟩
 ·subst ey eH
  obtain⟨z,hd,vs,rel,dd⟩:=vw I.hok e
  have hz:vs.length≤sizeLine:=by rw[←rel.length];exact z
  have hl:(B6 kvs k v).length≤sizeLine:=by have:=J0 kvs k v;omega
  refine wpAny_setItem_pairs (hsz:=hz) (eK ry) dd fun h' dd' hs=>h _ ?_
  have he:∃q,h'.get? a=some q:=let ⟨q,_,_,hq,_⟩:=dd';⟨q,hq⟩
  exact gj I (by rw[e];exact True.intro) hs he (kr hl hd (rel.put k rv) dd')
 ·subst ey eH
  cases (show u=Value.ref b from ry)
  obtain⟨z,hd,xs,rel,dd⟩:=zN I.hok e
  have hz:xs.length≤sizeLine:=by rw[←Paired.length rel];exact z
  have hl:(B6 kvs k v).length≤sizeLine:=by have:=J0 kvs k v;omega
  refine wpAny_setItem_heap (hsz:=hz) (tupleKind_room_in1 hu) (bw I.hok eb) dd fun h' dd' hs=>h _ ?_
  obtain⟨q,es,ep,hq,h2,h3,h4,_,h5⟩:=dd'
  refine gj I (by rw[e];exact True.intro) hs ⟨q,hq⟩ ⟨hl,hd,_,(rel.put k eb rv).keeps fun c ys ec=>?_,q,es,ep,hq,h2,h3,h4,h5⟩
  rw[b7 (Af ec e (fun z=>nomatch z))]
  exact ec
end
section
variable {X:Cx} {pins:List (Addr×Obj)} {σ:St} {H:Hp} {s:Shared} {a:Addr} {kvs:List (h9×V)} {k:h9} {u:Value} {A:Around} {E:Value→Shared→Prop}
theorem yp {Q:Value→Shared→Prop}(I:Inv X pins σ H s)(e:Rd H a (.dK kvs))(h:∀t s',Inv X pins σ H s'→Q (.int kvs.length t) s'):wpAny (model X.prog X.w) A (call (.builtin "len") [.ref a]) Q E s:=by
 obtain⟨z,hd,vs,rel,dd⟩:=C1 I.hok e
 refine call_len_dict hd dd (by rw[←rel.length];rw[sizeLine_eq] at z;omega) ?_
 rw[←rel.length]
 exact h _ _ (I.tok _)
end
theorem je {X:Cx}{pins:List (Addr×Obj)}{σ:St}{H:Hp}{s:Shared}{a:Addr}{y:V}{o:Option V}(I:Inv X pins σ H s)(g:U5 H a y o):s.TypeIs (.ref a) "dict":=by
 rcases g with⟨kvs,k,e,_,_⟩|⟨kvs,k,b,e,_,_,_⟩
 ·obtain⟨_,_,vs,_,dd⟩:=C1 I.hok e
  exact dd.typeIs
 ·obtain⟨_,_,xs,_,dd⟩:=dy I.hok e
  exact dd.typeIs
section
variable {X:Cx} {o i e value:Expr} {pos pos' tpos:Pos} {td ty tv:TE}
end
theorem pQ {P:Program}{w:World}{H:Hp}(h:Heap)(hb:sysModules<h.objs.size):ObjOk P w H (h.push {cls:= .type "dict",data:= .dict #[]}) h.objs.size (.dK []):=
 ⟨Nat.zero_le _,beq_eq_false_iff_ne.mpr (Ne.symm (Nat.ne_of_lt hb)),[],.nil,Heap.DictOf.new h⟩
def rm:TE:=fun _ H Q=>∀p,H p=none→Q (.ref p) (upd H p (.dK []))
section
variable {X:Cx} {pos:Pos}
theorem rN:PE X (.Dict [] [] pos) rm:=fun pins s σ H Q I h=>
 wpAny_Dict_empty ⟨.ref s.heap.objs.size,_,I.laid (a:=s.heap.objs.size) (o:= .dK []) (t':=s.toks) (fun _ _ q=>Heap.get?_push_of_some _ q) (Nat.le_refl _) (pQ s.heap I.big),rfl,h _ (I.hok.fresh (Nat.le_refl _))⟩
end
def rR:List (TE×TE)→St→Hp→(List (V×V)→Hp→Prop)→Prop
 |[],_,H,Q=>Q [] H
 |(tk,tv)::r,σ,H,Q=>tk σ H fun x H1=>tv σ H1 fun y H2=>rR r σ H2 fun ps H3=>Q ((x,y)::ps) H3
abbrev VV:List (V×V)→List (Value×Value)→Prop:=Paired fun p q=>RelV p.1 q.1∧RelV p.2 q.2
def CB (X:Cx)(pos:Pos)(keys:List (Option Expr))(values:List Expr)(trs:List (TE×TE)):Prop:=
 ∀(pins:List (Addr×Obj)) (s:Shared) (σ:St) (H:Hp) (Q:List (V×V)→Hp→Prop),Inv X pins σ H s→rR trs σ H Q→
  wpAny (model X.prog X.w) X.A (evalPairs (pairTrees keys values X.env pos)) (fun vs s'=>∃ps H',Inv X pins σ H' s'∧VV ps vs∧Q ps H') X.xe s
structure M1 (X:Cx) (o:Expr) (m:Str) (apos:Pos) (e:Expr) (cpos:Pos):Prop where
 base:attributeBase o m X.env (eval o X.env)=eval o X.env
 few:((backTo cpos (starEach [e] X.env)).all (fun x=>!x.1)&&(backToKw cpos (keywordEach [] X.env)).all (fun x=>x.1.isSome)
  &&decide (([e]:List Expr).length+([]:List Keyword).length+(if([]:List Keyword).isEmpty then 0 else 1)<30))=true
 line:(apos.endLine==cpos.line)=true
 trees:backTo cpos (starEach [e] X.env)=[(false,eval e X.env)]
structure M2 (X:Cx) (o:Expr) (m:Str) (apos:Pos) (e f:Expr) (cpos:Pos):Prop where
 base:attributeBase o m X.env (eval o X.env)=eval o X.env
 few:((backTo cpos (starEach [e,f] X.env)).all (fun x=>!x.1)&&(backToKw cpos (keywordEach [] X.env)).all (fun x=>x.1.isSome)
  &&decide (([e,f]:List Expr).length+([]:List Keyword).length+(if([]:List Keyword).isEmpty then 0 else 1)<30))=true
 line:(apos.endLine==cpos.line)=true
 trees:backTo cpos (starEach [e,f] X.env)=[(false,eval e X.env),(false,eval f X.env)]
def By (H:Hp)(a:Addr):Prop:=(∃kvs,Rd H a (.dK kvs))∨∃kvs,Rd H a (.dT kvs)
theorem xO {X:Cx}{pins:List (Addr×Obj)}{σ:St}{H:Hp}{s:Shared}{a:Addr}(I:Inv X pins σ H s)(d:By H a):
  s.TypeIs (.ref a) "dict"∧(∀b,Value.ref a= .ref b→∃ob,s.heap.get? b=some ob∧ob.dict=none)∧(a==sysModules)=false:=by
 rcases d with⟨kvs,e⟩|⟨kvs,e⟩
 ·obtain⟨_,hd,vs,_,dd⟩:=C1 I.hok e
  refine⟨dd.typeIs,fun b q=>?_,hd⟩
  cases q
  obtain⟨ob,_,_,h1,h2,_⟩:=dd
  exact⟨ob,h1,h2.2.1⟩
 ·obtain⟨_,hd,xs,_,dd⟩:=dy I.hok e
  refine⟨dd.typeIs,fun b q=>?_,hd⟩
  cases q
  obtain⟨ob,_,_,h1,h2,_⟩:=dd
  exact⟨ob,h1,h2.2.1⟩
section
variable {X:Cx} {pins:List (Addr×Obj)} {σ:St} {H:Hp} {s:Shared} {a:Addr} {y d:V} {u r:Value} {o:Option V} {A:Around} {E:Value→Shared→Prop}
theorem vA {Q:Value→Shared→Prop}(hu:A.units+1<cLine)(I:Inv X pins σ H s)(g:U5 H a y o)(ry:RelV y u)(rd:RelV d r)(h:∀w' s',Inv X pins σ H s'→RelV (o.getD d) w'→Q w' s'):
  wpAny (model X.prog X.w) A (call (.builtin "dict.get") [.ref a,u,r]) Q E s:=by
 rcases g with⟨kvs,k,e,ey,l⟩|⟨kvs,k,b,e,ey,eb,l⟩
 ·subst ey
  obtain⟨z,hd,vs,rel,dd⟩:=C1 I.hok e
  refine call_meetsIn PySem.F.slot_dict_get dd.typeIs PySem.F.entry_dict_get (PySem.F.args_dict_get_3 _ _ _) (meets_dict_get_default (i8 X.prog X.w) a (eK ry) hd r) ⟨_,dd.mapOf,h _ _ (I.tok _) ?_⟩
  rw[l]
  exact(rel.val k).getD rd
 ·subst ey
  cases (show u=Value.ref b from ry)
  obtain⟨z,hd,xs,rel,dd⟩:=dy I.hok e
  refine call_meetsIn PySem.F.slot_dict_get dd.typeIs PySem.F.entry_dict_get (PySem.F.args_dict_get_3 _ _ _) (meetsH_dict_get_default (tupleKind (i8 X.prog X.w)) a b hd r) ⟨tupleKind_room_in1 hu,k,xs,bw I.hok eb,dd,h _ _ (I.tok _) ?_⟩
  rw[l]
  exact(rel.val k).getD rd
end
def kX (td ty tx:TE):TE:=fun σ H Q=>td σ H fun x H1=>∃a,x= .ref a∧By H1 a∧ty σ H1 fun y H2=>tx σ H2 fun z H3=>∃o,U5 H3 a y o∧Q (o.getD z) H3
section
variable {X:Cx} {o e f:Expr} {apos cpos:Pos} {td ty tx:TE}
theorem rA (hu:X.A.units+1<cLine)(ho:PE X o td)(he:PE X e ty)(hf:PE X f tx)(m:M2 X o "get" apos e f cpos):PE X (.Call (.Attribute o "get" apos) [e,f] [] cpos) (kX td ty tx):=by
 intro pins s σ H Q I h
 refine wpAny_Call_method m.base m.few m.line PySem.F.plainAttrs_dict PySem.F.slot_dict_get PySem.F.type_dict_get (B7 (ho pins s σ H _ I h) fun u s1 ⟨x,H1,I1,rx,a,ex,d,q1⟩=>?_)
 subst ex
 obtain rfl:u=Value.ref a:=rx
 obtain⟨t1,t2,_⟩:=xO I1 d
 refine⟨t1,t2,?_⟩
 rw[m.trees]
 refine Calls.callWith_builtin rfl (Calls.evalArgs_plain (Calls.spliced_cons (B7 (he pins s1 σ H1 _ I1 q1) fun iv s2 ⟨y,H2,I2,ry,q2⟩=>
  Calls.spliced_cons (B7 (hf pins s2 σ H2 _ I2 q2) fun fv s3 ⟨z,H3,I3,rz,ov,g,q3⟩=>Calls.spliced_nil ?_))))
 exact vA hu I3 g ry rz fun w' s4 I4 rw'=>⟨_,H3,I4,rw',q3⟩
end
section
variable {X:Cx} {pins:List (Addr×Obj)} {σ:St} {H:Hp} {s:Shared} {a:Addr} {kvs:List (h9×V)} {A:Around} {E:Value→Shared→Prop}
theorem qc {Q:Value→Shared→Prop}(I:Inv X pins σ H s)(e:Rd H a (.dK kvs))(h:∀p s',H p=none→Inv X pins σ (upd H p (.dK kvs)) s'→Q (.ref p) s'):wpAny (model X.prog X.w) A (call (.type "dict") [.ref a]) Q E s:=by
 obtain⟨z,hd,vs,rel,dd⟩:=C1 I.hok e
 refine kt_call_dict hd dd (by rw[←rel.length];exact z) fun h' dd' hs=>?_
 refine h _ _ (I.hok.fresh (Nat.le_refl _)) (I.laid (a:=s.heap.objs.size) (o:= .dK kvs) (t':=s.toks) (fun b q hq=>?_) (Nat.le_refl _) (kr z (beq_eq_false_iff_ne.mpr (Ne.symm (Nat.ne_of_lt I.big))) rel dd'))
 exact(hs.2 b (Nat.ne_of_lt (Heap.lt_size hq))).trans (Heap.get?_push_of_some _ hq)
end
section
variable {X:Cx} {pins:List (Addr×Obj)} {σ:St} {H:Hp} {s:Shared} {a:Addr} {y:V} {u:Value} {A:Around} {E:Value→Shared→Prop}
end
end L2
namespace Att
open PySem PySem.W PySem.Calls PyProof.Rows
theorem cg {P:Params}{h:Heap}:∀(ns:List Int) (vs:List Value),WellAll P h vs (ns.map WData.int)→IntsAre vs ns:=by
 intro ns
 induction ns with
 |nil=>
  intro vs w
  rw[List.map_nil] at w
  cases w
  exact .nil
 |cons n ns ih=>
  intro vs w
  rw[List.map_cons] at w
  cases w with
  |cons a b=>
   cases a
   exact .cons _ _ (ih _ b)
theorem pb {l:OpenLaw}{n:Nat}(hn:l.most=some n){P:Params}{h:Heap}{args:List WData}{vals:List Value}
  (hpre:l.row.toRowW.claim.pre args=true) (hwl:WellAll P h vals args):
  ∃a vs ns,vals=[Value.ref a]∧args=[WData.list (ns.map WData.int)]∧h.get? a=some {cls:= .type "list",data:= .seq vs.toArray}∧IntsAre vs ns∧ns.length≤n:=by
 have hsh:WShape.hasAll [] args [.list .int]=true:=(pre_splitW hpre).1
 have hc:l.pre.holds [] {args:=args}=true:=(pre_splitW hpre).2
 obtain⟨d,r,rfl,h1,h2⟩:=hasAllW_cons hsh
 obtain rfl:=hasAllW_nil h2
 obtain⟨xs,rfl,h3⟩:=hasW_list h1
 obtain⟨ns,rfl⟩:=items_int h3
 have hlen:ns.length≤n:=by
  unfold OpenLaw.pre at hc
  have h4:(WTm.not (.lt (.lit (.int (n:Int))) (.len (.arg 0)))).holds [] {args:=[.list (ns.map .int)]}=true:=by
   have h4:=(holds_andW hc).1
   rw[hn] at h4
   exact h4
  have h5:=condW_of h4 (w_not (w_lt w_lit (w_len_list (w_arg rfl))))
  rw[List.length_map] at h5
  refine Nat.le_of_not_lt fun q=>?_
  have q':(n:Int)<((ns.length:Nat):Int):=by omega
  first
   |(rw[decide_eq_true q'] at h5;exact absurd h5 (by decide))
   |(simp at h5;omega)
 cases hwl with
 |cons w1 w2=>
  cases w2
  cases w1 with
  |list ho hall=>exact⟨_,_,ns,rfl,rfl,ho,cg ns _ hall,hlen⟩
theorem oI (l:OpenLaw)(args:List WData):l.row.toRowW.claim.post args (.bool true) args=true:=
 postW_of (r:=l.row.toRowW) (X:=(true==true))
  (show WShape.has [] (.bool true) .bool=true by first|rfl|decide|simp [WShape.has,WShape.arms,WShape.armsAll])
  (show(WTm.eq .res (.lit (.bool true))).value [] {args:=args,res:=some (.bool true),after:=args}=some (.bool (true==true)) from w_eq_bool (w_res rfl) w_lit) rfl
theorem attach_call {l:OpenLaw}{n:Nat}{q:Program}{loose:List Str}{XP:(Str→Option Value)→Heap→Prop}{YP:World→Heap→Prop}{d:DefRec}
  (hn:l.most=some n) (hdf:d.params.defaults=[])
  (call:∀(w:World) (s₀ s₁:Shared) (mg mb:Str→Option Value) (fa:Addr) (o:Obj) (pm cd doc:Value) (a:Addr) (vs:List Value) (ns:List Int),
   Ground q loose [] XP w s₀ mg mb s₁.heap→YP w s₁.heap→
   s₁.heap.get? fa=some o→o.data= .func (docDef d.name d.params d.body d.scope pm cd doc)→s₁.heap.CodeRec cd d.name→mg d.name=some (.ref fa)→
   s₁.heap.get? a=some {cls:= .type "list",data:= .seq vs.toArray}→IntsAre vs ns→ns.length≤n→s₁.gens= #[]→
   codeAny (model l.prog w) callerA (.call (.ref fa) ⟨[.ref a],[]⟩) (fun r s'=>r= .ok (.ret (.bool true))∧OldK s₁.heap s'.heap∧s'.os=s₁.os∧AllBare s'.gens) s₁):
  WalkO q loose XP YP l.row.toRowW d [] (fun f vs=>PySem.call f vs):=by
 intro w s₀ s₁ mg mb G Y fa o pm cd doc dV kV ho hd hcd hD hmg hg args vals as hpre hlay hrd hwl hlo
 obtain rfl:dV= .none:=Dflts.none hD hdf
 obtain rfl:kV= .none:=Dflts.noKw hD
 obtain⟨a,vs,ns,rfl,rfl,hobj,hints,hlen⟩:=pb hn hpre hwl
 refine enter_call (codeAny_mono (call w s₀ s₁ mg mb fa o pm cd doc a vs ns G Y ho (fd_plain hd) hcd hmg hobj hints hlen hg) fun r s' hq=>?_)
 obtain⟨rfl,h2,h3,h4⟩:=hq
 exact⟨.inl ⟨.bool true,.bool true,[],rfl,fun _=>rfl,.bool true,oI l _,fun _=>⟨List.Pairwise.nil,fun _ hm=>(nomatch hm)⟩⟩,h2,h3,h4⟩
section
variable {prog:Program} {w:World} {A:Around} {E:Value→Shared→Prop} {s:Shared} {K:Frag}
end
end Att
namespace L2
open PySem PySem.Spec PyProof.Rows
theorem fT:∀{vs:List Value} {ns:List Int},IntsAre vs ns→Vals (ns.map V.int) vs
 |_,_,.nil=> .nil
 |_,_,.cons n t h=> .cons ⟨t,rfl⟩ (fT h)
def wd (H:Hp):Prop:=∀b,H b=none∨∃o xs,H b=some (.frz o (.lst xs))
theorem qG {P:Program}{w:World}{K:PySem.W.Frag}{mg mb:Str→Option Value}{CX:fV}{k:Nat}{fa a:Addr}{fd:FuncData}{x:Str}{sp:Sp}{s₁:Shared}{vs:List Value}{ns:List Int}
  (KX:K.In s₁.heap) (hns:s₁.heap.Ns mainGlobals mg) (hb:s₁.heap.Ns builtinsNs mb) (hbb:∀x:Str,x≠"__name__"→mb x=bootBuiltins x) (hlim:s₁.heap.NoLimit) (hg:s₁.gens= #[])
  (ha:s₁.heap.get? a=some {cls:= .type "list",data:= .seq vs.toArray}) (hi:IntsAre vs ns) (hl:ns.length≤sizeLine) (hr:Room k callerA)
  (F:∀base:Heap,K.In base→base.Ns mainGlobals mg→j1 P w K mg base CX k fa fd [x] sp) (hbind:∀(s:Shared) (u:Value),BindsTo s fd ⟨[u],[]⟩ [(x,u)])
  (hsp:∀H:Hp,wd H→SqL K H a (ns.map V.int)→sp [.ref a] H (fun v _=>v= .bl true) fun _ _ _=>False)
  (hCX:∀H e s',CX [] H s₁ (fun _ _ _=>False) e s'→False):
  codeAny (model P w) callerA (.call (.ref fa) ⟨[.ref a],[]⟩) (fun r s'=>r= .ok (.ret (.bool true))∧OldK s₁.heap s'.heap∧s'.os=s₁.os∧AllBare s'.gens) s₁:=by
 have rv:=fT hi
 have lenV:=hi.length
 have core:∀H:Hp,wd H→SqL K H a (ns.map V.int)→HOk P w H s₁.heap→(∀b,H b≠none→b=a)→(H a≠none→K.lookup a=none)→
   codeAny (model P w) callerA (.call (.ref fa) ⟨[.ref a],[]⟩) (fun r s'=>r= .ok (.ret (.bool true))∧OldK s₁.heap s'.heap∧s'.os=s₁.os∧AllBare s'.gens) s₁:=by
  intro H hO hS hok hA hK
  have base_of:∀{b:Addr} {o:Obj},s₁.heap.get? b=some o→H b=none→(gp s₁.heap H).get? b=some o:=fun e n=>qf e n
  have noA:∀{b:Addr} {o:Obj} {es:Array DictEntry} {ep:Nat},s₁.heap.get? b=some o→o.data= .dict es ep→H b=none:=fun{b o es ep} e d=>by
   cases q:H b with
   |none=>rfl
   |some u=>
    have e':b=a:=hA b (by rw[q];simp)
    subst e'
    rw[ha] at e;cases e
    have d':Data.seq vs.toArray _=Data.dict es ep:=d
    cases d'
  have nsK:∀{b:Addr} {m:Str→Option Value},s₁.heap.Ns b m→(gp s₁.heap H).Ns b m:=fun{b m} ⟨o,es,ep,e,d,r⟩=>⟨o,es,ep,base_of e (noA e d),d,r⟩
  have hKb:K.In (gp s₁.heap H):=fun b o e=>base_of (KX b o e) (by
   cases q:H b with
   |none=>rfl
   |some u=>
    have e':b=a:=hA b (by rw[q];simp)
    subst e'
    rw[hK (by rw[q];simp)] at e;cases e)
  have hM:Mod K mg (gp s₁.heap H):=⟨hKb,nsK hns,⟨mb,nsK hb,hbb⟩,let ⟨mc,h1,h2⟩:=hlim;⟨mc,nsK h1,h2⟩⟩
  have e0:ue P w K mg (gp s₁.heap H) callerA [] s₁ H:=⟨rfl,hM,fun b o e=>sV e,Nat.le_of_eq (nj _ _),trivial,fun b hb=>absurd (show b∈([]:List Addr) from hb) (by simp),hok,.of_eq hg⟩
  refine codeAny_mono ((F _ hKb (nsK hns)).run callerA [] s₁ H ⟨[.ref a],[]⟩ [.ref a] [.ref a] _ _ hr e0 (hbind s₁ (.ref a)) (.cons rfl .nil) (hsp H hO hS)) fun r s' h=>?_
  cases r with
  |error e=>exact(hCX H e s' h).elim
  |ok fl=>
   cases fl with
   |next=>exact False.elim h
   |brk=>exact False.elim h
   |cont=>exact False.elim h
   |ret u=>
    obtain⟨v,H',os,bare,un,hok',r',q⟩:=h
    have q':v= .bl true:=q
    subst q'
    obtain rfl:u=Value.bool true:=r'
    refine⟨rfl,OldK.of_keep fun b o e=>?_,os,bare⟩
    cases q:H b with
    |none=>exact un.keep b o e q (by intro z;exact absurd (show b∈([]:List Addr) from z) (by simp)) (by simp)
    |some u=>
     rcases hO b with z|⟨ob,xs,z⟩
     ·rw[q] at z;cases z
     ·have z2:=un.frzs b ob _ z
      obtain⟨e1,_⟩:=hok b _ z
      obtain⟨e2,_⟩:=hok' b _ z2
      rw[e] at e1;cases e1
      exact e2
 cases hk:K.lookup a with
 |some o=>
  have e:=KX a o hk
  rw[ha] at e
  cases e
  refine core (fun _=>none) (fun _=> .inl rfl) (.inr ⟨_,vs.toArray,_,hk,rfl,rfl,rfl,by rw[List.size_toArray,lenV];exact hl,by simpa using rv⟩) (fun b u z=>by have z':(none:Option HO)=some u:=z;cases z') (fun b z=>absurd rfl z) fun z=>absurd rfl z
 |none=>
  refine core (fun b=>if b=a then some (.frz {cls:= .type "list",data:= .seq vs.toArray} (.lst (ns.map V.int))) else none) (fun b=>?_) (.inl (.inr ⟨{cls:= .type "list",data:= .seq vs.toArray},if_pos rfl⟩)) (fun b u z=>?_) (fun b z=>?_) fun _=>hk
  ·by_cases hb:b=a
   ·exact .inr ⟨_,_,if_pos hb⟩
   ·exact .inl (if_neg hb)
  ·by_cases hb:b=a
   ·have z':=(if_pos hb).symm.trans z
    cases z'
    subst hb
    exact⟨ha,by rw[List.length_map];exact hl,vs,_,rv,ha⟩
   ·have z':=(if_neg hb).symm.trans z
    cases z'
  ·by_cases hb:b=a
   ·exact hb
   ·exact absurd (if_neg hb) z
end L2
namespace L2
open PySem PySem.Spec PyProof.Rows
theorem walk_of {l:PySem.W.OpenLaw}{n k:Nat}{q:Program}{loose:List Str}{XP:(Str→Option Value)→Heap→Prop}{YP:World→Heap→Prop}{d:DefRec}{K:Params→PySem.W.Frag}{CX:World→fV}{sp:World→Sp}{x:Str}
  (hn:l.most=some n) (hn2:n≤sizeLine) (hdf:d.params.defaults=[]) (hr:Room k callerA)
  (hY:∀(w:World) (h:Heap),YP w h→(K w.params).In h)
  (F:∀(w:World) (mg:Str→Option Value) (fa:Addr) (h:Heap),(K w.params).In h→h.Ns mainGlobals mg→mg d.name=some (.ref fa)→
   ∃fd:FuncData,(∀(s:Shared) (u:Value),BindsTo s fd ⟨[u],[]⟩ [(x,u)])∧
    ∀base:Heap,(K w.params).In base→base.Ns mainGlobals mg→j1 l.prog w (K w.params) mg base (CX w) k fa fd [x] (sp w))
  (hsp:∀(w:World) (H:Hp) (a:Addr) (ns:List Int),ns.length≤n→wd H→SqL (K w.params) H a (ns.map V.int)→sp w [.ref a] H (fun v _=>v= .bl true) fun _ _ _=>False)
  (hCX:∀(w:World) (H:Hp) (s:Shared) (e:Value) (s':Shared),CX w [] H s (fun _ _ _=>False) e s'→False):
  PySem.W.WalkO q loose XP YP l.row.toRowW d [] (fun f vs=>PySem.call f vs):=by
 refine Att.attach_call hn hdf fun w s₀ s₁ mg mb fa o pm cd doc a vs ns G Y ho hd hcd hmg hobj hints hlen hg=>?_
 have KX:=hY w _ Y
 obtain⟨fd,hb,hF⟩:=F w mg fa _ KX G.T.g hmg
 exact qG KX G.T.g G.T.b G.T.builtins G.T.nolimit hg hobj hints (Nat.le_trans hlen hn2) hr hF hb (fun H hO hS=>hsp w H a ns hlen hO hS) fun H e s'=>hCX w H s₁ e s'
end L2
namespace L2
open PySem PySem.Spec PyProof.Rows
def B8 (s:Stmt):Arguments:=match s with
 | .FunctionDef _ a _ _ _ _ _ _ _ _=>a
 |_=>{posonlyargs:=[],args:=[],vararg:=none,kwonlyargs:=[],kw_defaults:=[],kwarg:=none,defaults:=[]}
def u7 (s:Stmt):List Stmt:=match s with
 | .FunctionDef _ _ b _ _ _ _ _ _ _=>b
 |_=>[]
def b0 (s:Stmt):Scope:=match s with
 | .FunctionDef _ _ _ _ _ _ sc _ _ _=>sc
 |_=>{kind:= .function,names:=[],isGenerator:=false,isCoroutine:=false}
abbrev j9:fV:=fun _ _ _ _ _ _=>False
abbrev E0:XK:=fun _ _ _=>False
theorem p7 {X:Cx}:ai j9 X E0:=fun _ _ _ _ _ _ _ h=>h.elim
structure Fun (K:PySem.W.Frag) (x qual:Str) (st:Stmt) (f:Addr) (fd:FuncData):Prop where
 ex:∃(oc:Value) (od:Option Addr) (kV doc pm:Value) (an:Option Addr) (cdv ct:Value) (osl:Array (Option Value)),
  fd=PySem.W.fnOf x qual (B8 st) (u7 st) (b0 st) .none kV doc pm an cdv ct∧K.lookup f=some ⟨oc,od,.func fd,osl⟩∧PySem.W.codeIn K cdv qual=true
 kp:PySem.W.keepIn K (.ref f)=true
section
variable {P:Program} {w:World} {K:PySem.W.Frag} {mg:Str→Option Value} {base:Heap}
theorem Fun.ok {x qual:Str}{st:Stmt}{f:Addr}{fd:FuncData}{N ps:List Str}{k:Nat}{sp:Sp}(F:Fun K x qual st f fd)(S:b8 N ps (b0 st))(len:∀vs H Q E,sp vs H Q E→vs.length=ps.length)
  (hbody:∀(cdv:Value) (A:Around) (outer:List Env) (s:Shared) (H:Hp) (vs:List V) (Q:VK) (E:XK),Room k (A.deeper (envOfC qual (b0 st) s.heap.objs.size f cdv))→sp vs H Q E→
   ∃t,PSs (bh j9 P w K mg base N qual (b0 st) f cdv A outer s H E).nox (u7 st) t∧t {nx:=fun _ H'=>Q .non H',rt:=Q} (U1 N vs) H):j1 P w K mg base j9 (k+1) f fd ps sp:=by
 obtain⟨oc,od,kV,doc,pm,an,cdv,ct,osl,rfl,lk,hcd⟩:=F.ex
 refine lN lk hcd S len fun A outer s H vs Q E hr hsp=>?_
 obtain⟨t,h,q⟩:=hbody cdv A outer s H vs Q E hr hsp
 exact⟨t,h.nox,q⟩
theorem Fun.binds {x qual:Str}{st:Stmt}{f:Addr}{fd:FuncData}{ps:List Str}(F:Fun K x qual st f fd)
  (h:∀(kV doc pm:Value) (an:Option Addr) (cdv ct:Value) (us:List Value),us.length=ps.length→bindArgs (PySem.W.fnOf x qual (B8 st) (u7 st) (b0 st) .none kV doc pm an cdv ct) ⟨us,[]⟩=pure (ps.zip us)):Binds K fd ps []:=by
 obtain⟨oc,od,kV,doc,pm,an,cdv,ct,osl,rfl,lk,hcd⟩:=F.ex
 exact .all (h kV doc pm an cdv ct)
theorem vS {x qual:Str}{st:Stmt}{f:Addr}{oc:Value}{od an:Option Addr}{osl:Array (Option Value)}{kV doc pm cdv ct:Value}(l:K.lookup f=some ⟨oc,od,.func (PySem.W.fnOf x qual (B8 st) (u7 st) (b0 st) .none kV doc pm an cdv ct),osl⟩)
  (c:PySem.W.codeIn K cdv qual=true) (k:PySem.W.keepIn K (.ref f)=true):Fun K x qual st f (PySem.W.fnOf x qual (B8 st) (u7 st) (b0 st) .none kV doc pm an cdv ct):=⟨⟨oc,od,kV,doc,pm,an,cdv,ct,osl,rfl,l,c⟩,k⟩
end
theorem V6 {n:Nat}(h:n≤1000):n<sizeLine:=Nat.lt_of_le_of_lt h (by decide)
section
variable {X:Cx}
end
theorem AQ {A B:Prop}(h:B):if false=true then A else B:=by
 rw[if_neg Bool.false_ne_true]
 exact h
theorem AM {A B:Prop}(h:A):if true=true then A else B:=by
 rw[if_pos rfl]
 exact h
def Same (H H':Hp):Prop:=∀b o,H b=some o→H' b=some o
theorem Same.refl (H:Hp):Same H H:=fun _ _ h=>h
theorem Same.trans {H H1 H2:Hp}(a:Same H H1)(b:Same H1 H2):Same H H2:=fun c o h=>b c o (a c o h)
theorem Same.free {H H':Hp}(e:Same H H'){l:Addr}(h:H' l=Option.none):H l=Option.none:=by
 cases q:H l with
 |none=>rfl
 |some o=>
  rw[e l o q] at h
  cases h
theorem Same.seq {K:PySem.W.Frag}{H H':Hp}{a:Addr}{xs:List V}(e:Same H H')(h:SqL K H a xs):SqL K H' a xs:=by
 rcases h with(h|⟨o,h⟩)|h
 ·exact .inl (.inl (e _ _ h))
 ·exact .inl (.inr ⟨o,e _ _ h⟩)
 ·exact .inr h
section
variable {κ:Type} [DecidableEq κ]
theorem mL {kvs:List (κ×V)}{k:κ}{v:V}(h:x8 kvs k=some v):k∈kvs.map (·.1):=by
 have q:(kvs.any fun kv=>decide (kv.1=k))=true:=by
  rw[U9,h]
  all_goals rfl
 obtain⟨p,hp,e⟩:=List.any_eq_true.mp q
 exact List.mem_map.mpr ⟨p,hp,of_decide_eq_true e⟩
theorem G4:∀{l:List κ} {k:κ},l.Nodup→¬k∈l→(l++[k]).Nodup
 |[],k,_,_=>by simp
 |a::r,k,h,hk=>by
  obtain⟨h1,h2⟩:=List.nodup_cons.mp h
  show(a::(r++[k])).Nodup
  refine List.nodup_cons.mpr ⟨fun m=>?_,G4 h2 fun m=>hk (List.mem_cons.mpr (Or.inr m))⟩
  rcases List.mem_append.mp m with q|q
  ·exact h1 q
  ·exact hk (List.mem_cons.mpr (Or.inl (List.mem_singleton.mp q).symm))
end
end L2
set_option Elab.async false
set_option linter.all false
set_option maxRecDepth 100000
set_option maxHeartbeats 4000000
namespace L2
open PySem PySem.Spec PyProof.Rows
def cw (scope:Scope)(env:Env):List (Str×Addr):=(scope.names.filter fun x=>x.2== .free).reverse.map fun x=>(x.1,(env.cells.lookup x.1).getD 0)
theorem S3 {env:Env}:∀(l:List (Str×NameKind)) (cs:List (Str×Addr)),(∀x∈l,x.2= .free→∃c,env.cells.lookup x.1=some c)→
  (forIn l cs fun(x:Str×NameKind) (r:List (Str×Addr))=>if(x.2==NameKind.free)=true then(do let a←cellOf env x.1;pure (ForInStep.yield ((x.1,a)::r))) else(pure (ForInStep.yield r):Sem (ForInStep (List (Str×Addr)))))=
   pure (((l.filter fun x=>x.2== .free).reverse.map fun x=>(x.1,(env.cells.lookup x.1).getD 0))++cs)
 |[],cs,_=>rfl
 |(n,k)::l,cs,h=>by
  rw[List.forIn_cons]
  by_cases hk:k= .free
  ·subst hk
   obtain⟨c,hc⟩:=h (n,.free) List.mem_cons_self rfl
   simp only[beq_self_eq_true,if_true]
   have hc':env.cells.lookup n=some c:=hc
   have e0:cellOf env n=pure c:=by unfold cellOf;rw[hc']
   simp only[e0,pure_bind]
   rw[S3 l _ fun x hx=>h x (List.mem_cons_of_mem _ hx)]
   rw[List.filter_cons,if_pos (by rfl),List.reverse_cons,List.map_append,List.append_assoc]
   simp only[List.map_cons,List.map_nil,hc',Option.getD_some,List.cons_append,List.nil_append]
  ·have hb:(k==NameKind.free)=false:=by simpa using hk
   simp only[hb,Bool.false_eq_true,if_false,pure_bind]
   rw[S3 l cs fun x hx=>h x (List.mem_cons_of_mem _ hx)]
   rw[List.filter_cons,if_neg (by simp [hb])]
theorem dH {scope:Scope}{env:Env}(h:∀x∈scope.names,x.2= .free→∃c,env.cells.lookup x.1=some c):closureFor scope env=pure (cw scope env):=by
 have e:=S3 (env:=env) scope.names [] h
 rw[List.append_nil] at e
 unfold closureFor cw
 simp only[]
 refine Eq.trans ?_ (congrArg (fun m=>m>>=fun r=>(pure r:Sem (List (Str×Addr)))) e)
 rfl
theorem E1 {env:Env}{x:Str}:∀(l:List (Str×NameKind)),(∀y∈l,∃c,env.cells.lookup y.1=some c)→(x∈l.map (·.1)→(l.map fun y=>(y.1,(env.cells.lookup y.1).getD 0)).lookup x=env.cells.lookup x)∧(x∉l.map (·.1)→(l.map fun y=>(y.1,(env.cells.lookup y.1).getD 0)).lookup x=none)
 |[],_=>⟨fun h=>by simp at h,fun _=>rfl⟩
 |(n,k)::l,h=>by
  have ih:=E1 (x:=x) l fun y hy=>h y (List.mem_cons_of_mem _ hy)
  obtain⟨c,hc⟩:=h (n,k) List.mem_cons_self
  have hc':env.cells.lookup n=some c:=hc
  by_cases e:x=n
  ·subst e
   refine⟨fun _=>?_,fun z=>absurd (by simp) z⟩
   simp [List.lookup_cons,hc']
  ·have eb:(x==n)=false:=by simpa using e
   refine⟨fun hm=>?_,fun hm=>?_⟩
   ·simp only[List.map_cons,List.lookup_cons,eb]
    exact ih.1 (by simpa [e] using hm)
   ·simp only[List.map_cons,List.lookup_cons,eb]
    exact ih.2 (fun z=>hm (by simp [z]))
theorem G0 {scope:Scope}{env:Env}(h:∀x∈scope.names,x.2= .free→∃c,env.cells.lookup x.1=some c){x:Str}{c:Addr}(e:(cw scope env).lookup x=some c):env.cells.lookup x=some c:=by
 have hl:∀y∈(scope.names.filter fun x=>x.2== .free).reverse,∃c,env.cells.lookup y.1=some c:=fun y hy=>by
  obtain⟨h1,h2⟩:=List.mem_filter.mp (List.mem_reverse.mp hy)
  exact h y h1 (by simpa using h2)
 have a:=E1 (x:=x) _ hl
 by_cases hm:x∈(scope.names.filter fun x=>x.2== .free).reverse.map (·.1)
 ·rw[←a.1 hm];exact e
 ·have z:=a.2 hm
  unfold cw at e
  rw[z] at e;cases e
theorem iM {scope:Scope}{env:Env}(h:∀x∈scope.names,x.2= .free→∃c,env.cells.lookup x.1=some c){x:Str}(hx:(x,NameKind.free)∈scope.names):(cw scope env).lookup x=env.cells.lookup x:=by
 have hl:∀y∈(scope.names.filter fun x=>x.2== .free).reverse,∃c,env.cells.lookup y.1=some c:=fun y hy=>by
  obtain⟨h1,h2⟩:=List.mem_filter.mp (List.mem_reverse.mp hy)
  exact h y h1 (by simpa using h2)
 exact(E1 (x:=x) _ hl).1 (List.mem_map.mpr ⟨(x,.free),List.mem_reverse.mpr (List.mem_filter.mpr ⟨hx,rfl⟩),rfl⟩)
theorem ia {scope:Scope}{env:Env}(hc:∀y∈scope.names,y.2≠ .cell){x:Str}(h:(relabel scope env).names.lookup x=some .cell∨(relabel scope env).names.lookup x=some .free):(x,NameKind.free)∈scope.names:=by
 have key:∀(l:List (Str×NameKind)),(∀y∈l,y.2≠ .cell)→∀k,(k=NameKind.cell∨k=NameKind.free)→(l.map fun(n,k)=>if(k==NameKind.free&&env.scope.kind== .function&&env.kindOf n==some .cell) then(n,NameKind.cell) else(n,k)).lookup x=some k→(x,NameKind.free)∈l:=by
  intro l
  induction l with
  |nil=>intro _ k _ e;simp at e
  |cons y r ih=>
   obtain⟨n,k0⟩:=y
   intro hl k hk e
   have ih':=ih (fun y hy=>hl y (List.mem_cons_of_mem _ hy)) k hk
   rw[List.map_cons] at e
   have hk0:k0≠ .cell:=hl (n,k0) List.mem_cons_self
   dsimp only at e
   by_cases hcnd:(k0==NameKind.free&&env.scope.kind== .function&&env.kindOf n==some .cell)=true
   ·rw[if_pos hcnd] at e
    cases hx:x==n with
    |true=>
     have:x=n:=by simpa using hx
     subst this
     have:k0= .free:=by
      simp only[Bool.and_eq_true,beq_iff_eq] at hcnd
      exact hcnd.1.1
     subst this
     exact List.mem_cons_self
    |false=>
     simp only[List.lookup_cons,hx] at e
     exact List.mem_cons_of_mem _ (ih' e)
   ·rw[if_neg hcnd] at e
    cases hx:x==n with
    |true=>
     have:x=n:=by simpa using hx
     subst this
     simp only[List.lookup_cons,hx] at e
     have e':k0=k:=Option.some.inj e
     subst e'
     rcases hk with z|z
     ·exact absurd z hk0
     ·subst z;exact List.mem_cons_self
    |false=>
     simp only[List.lookup_cons,hx] at e
     exact List.mem_cons_of_mem _ (ih' e)
 rcases h with h|h
 ·exact key _ hc _ (.inl rfl) h
 ·exact key _ hc _ (.inr rfl) h
def X9 (X:Cx)(own:List Str)(js:List Nat)(scope:Scope)(C:Addr)(s:Shared)(H:Hp)(fp:List Addr):Cx:=
 {X with N:=own++js.map (fun j=>X.N.getD j Str.empty),s₀:=s,H₀:=H,env:=compEnvC scope (cw scope X.env) C X.env,outer:=X.stack,stack:=X.stack,ex:=fp,fn:=fun _=>false,pn:=[],xe:=fun _ _=>False}
def pG (own:List Str)(js:List Nat)(σ:St):St:=own.map (fun _=>none)++js.map (fun j=>(σ[j]?).join)
def yi (X:Cx)(own:List Str)(js:List Nat)(scope:Scope):Bool:=
 (scope.kind== .function)&&(scope.names.all fun x=>x.2 != .cell)&&(scope.names.all fun x=>x.2 != .local||scope.names.lookup x.1==some .local)&&
 (scope.names.all fun x=>x.2 != .free||(X.env.kindOf x.1==some .cell||X.env.kindOf x.1==some .free))&&
 (js.all fun j=>decide (j<X.N.length)&&scope.names.any (fun y=>y.1==X.N.getD j Str.empty&&y.2== .free))&&
 (scope.names.all fun x=>x.2 != .free||scope.names.lookup x.1 !=some .local)
theorem mQ {own:List Str}{js:List Nat}{σ:St}{X:Cx}{scope:Scope}{C:Addr}{s:Shared}{H:Hp}{fp:List Addr}:(pG own js σ).length=(X9 X own js scope C s H fp).N.length:=by
 show(pG own js σ).length=(own++js.map (fun j=>X.N.getD j Str.empty)).length
 unfold pG;simp
section
variable {X:Cx} {pins:List (Addr×Obj)} {σ:St} {H:Hp} {s:Shared} {own:List Str} {js:List Nat} {scope:Scope} {fp:List Addr} {C D:Addr} {h1:Heap}
structure ScB (X:Cx) (own:List Str) (js:List Nat) (scope:Scope):Prop where
 kind:scope.kind= .function
 nocell:∀y∈scope.names,y.2≠ .cell
 names:∀x∈scope.names,x.2= .local→scope.names.lookup x.1=some .local
 free:∀x∈scope.names,x.2= .free→X.env.kindOf x.1=some .cell∨X.env.kindOf x.1=some .free
 js:∀j∈js,j<X.N.length∧(X.N.getD j Str.empty,NameKind.free)∈scope.names
 one:∀x,(x,NameKind.free)∈scope.names→scope.names.lookup x≠some .local
theorem rY (h:yi X own js scope=true):ScB X own js scope:=by
 unfold yi at h
 simp only[Bool.and_eq_true,List.all_eq_true,Bool.or_eq_true,bne_iff_ne,beq_iff_eq,decide_eq_true_eq,List.any_eq_true] at h
 obtain⟨⟨⟨⟨⟨h1,h2⟩,h3⟩,h4⟩,h5⟩,h6⟩:=h
 refine⟨h1,h2,fun x hx e=>?_,fun x hx e=>?_,fun j hj=>?_,fun x hx=>?_⟩
 ·rcases h3 x hx with z|z
  ·exact absurd e z
  ·exact z
 ·rcases h4 x hx with z|z
  ·exact absurd e z
  ·exact z
 ·obtain⟨a,y,hy,e1,e2⟩:=h5 j hj
  refine⟨a,?_⟩
  obtain⟨n,k⟩:=y
  simp only at e1 e2
  rw[←e1,←e2];exact hy
 ·rcases h6 _ hx with z|z
  ·exact absurd rfl z
  ·exact z
theorem ScB.cells (S:ScB X own js scope)(I:Inv X pins σ H s):∀x∈scope.names,x.2= .free→∃c,X.env.cells.lookup x.1=some c:=fun x hx e=>I.ok.has x.1 (S.free x hx e)
theorem Inv.block (S:ScB X own js scope)(I:Inv X pins σ H s)(hf:∀b∈fp,ay X pins H b)(hob:∀b∈fp,∃o,s.heap.get? b=some o)(hC:s.heap.objs.size≤C){m:Str→Option Value}{t':Nat}(hn:h1.Ns C m)(k:∀b u,s.heap.get? b=some u→h1.get? b=some u):
  Inv (X9 X own js scope C s H fp) (X.pn++pins) (pG own js σ) H {s with heap:=h1,toks:=t'}:=by
 have hcl:=S.cells I
 have below:∀b o,s.heap.get? b=some o→b≠C:=fun b o e=>Nat.ne_of_lt (Nat.lt_of_lt_of_le (Heap.lt_size e) hC)
 have stk:∀b,b≠X.env.locals→b∉X.fs→b∉K9 X.stack:=fun b h1 h2 z=>by
  rcases List.mem_cons.mp (I.stkSub b z) with e|e
  ·exact h1 e
  ·exact h2 e
 have noex:∀b o,X.base.get? b=some o→b∉fp:=fun b o e z=>by
  rcases(hf b z).2.2.2.1 with q|q
  ·exact I.ok.noex b o e q
  ·exact absurd (Nat.lt_of_lt_of_le (Heap.lt_size e) (Nat.le_trans I.ok.bsz q)) (Nat.lt_irrefl _)
 refine⟨⟨I.ok.mod,S.kind,I.ok.glob,I.ok.blt,hC,fun x y c e1 e2=>?_,fun x hx=>?_,fun x c z _=>(Bool.false_ne_true z).elim,I.ok.hd,I.ok.frames,.inl rfl,fun b hb=>⟨?_,fun x c e=>?_⟩,I.bs,Nat.le_trans I.ok.bsz I.sz,noex,fun b hb=>?_,I.stack,I.stkFree⟩,
  rfl,I.bare,Un.kept k,⟨m,hn,fun i x v e1 e2 e3=>?_⟩,fun x c e=>?_,?_,fun x c e=>?_,fun p hp=>?_,I.hok.kept k,mQ⟩
 ·exact I.ok.inj x y c (G0 hcl e1) (G0 hcl e2)
 ·have hm:=ia S.nocell (x:=x) (env:=X.env) hx
  obtain⟨c,e⟩:=hcl (x,.free) hm rfl
  exact⟨c,(iM hcl hm).trans e⟩
 ·obtain⟨o,e⟩:=hob b hb;exact below b o e
 ·exact(hf b hb).2.2.2.2.1 x c (G0 hcl e)
 ·exact stk b (hf b hb).2.1 (hf b hb).2.2.1
 ·have e1':(own++js.map (fun j=>X.N.getD j Str.empty))[i]?=some x:=e1
  unfold pG at e2
  by_cases hi:i<own.length
  ·rw[List.getElem?_append_left (by simpa using hi),List.getElem?_map] at e2
   rw[List.getElem?_eq_getElem hi] at e2
   simp at e2
  ·rw[List.getElem?_append_right (by simpa using hi),List.getElem?_map] at e2
   rw[List.getElem?_append_right (by simpa using hi),List.getElem?_map] at e1'
   have el:(own.map fun _=>(none:Option V)).length=own.length:=by simp
   rw[el] at e2
   cases hj:js[i -own.length]? with
   |none=>rw[hj] at e1';simp at e1'
   |some j=>
    rw[hj] at e1' e2
    simp only[Option.map_some,Option.some.injEq] at e1' e2
    have hjm:j∈js:=List.mem_of_getElem? hj
    obtain⟨hlt,hmem⟩:=S.js j hjm
    have hNj:X.N[j]?=some x:=by
     rw[←e1',List.getD_eq_getElem?_getD,List.getElem?_eq_getElem hlt];simp
    have hσ:σ[j]?=some (some v):=by
     cases q:σ[j]? with
     |none=>rw[q] at e2;simp at e2
     |some w=>rw[q] at e2;simp at e2;rw[e2]
    rw[e1'] at hmem
    obtain⟨m0,hn0,hl0⟩:=I.loc
    have hkx:X.env.kindOf x=some .cell∨X.env.kindOf x=some .free:=S.free (x,.free) hmem rfl
    obtain⟨u,r,l⟩:=hl0 j x v hNj hσ (by rcases hkx with z|z;exact .inr (.inl z);exact .inr (.inr z))
    refine⟨u,r,?_⟩
    rcases l with⟨z,_⟩|⟨_,c,hc,hcell⟩
    ·rcases hkx with q|q
     ·rw[q] at z;cases z
     ·rw[q] at z;cases z
    ·have hc':(cw scope X.env).lookup x=some c:=(iM hcl hmem).trans hc
     obtain⟨oc,hoc,hocd⟩:=hcell
     refine .inr ⟨?_,c,hc',⟨oc,k _ _ hoc,hocd⟩⟩
     rcases e3 with z|z|z
     ·exfalso
      have hmm:(relabel scope X.env).names.lookup x=some .local:=z
      exact absurd hmm (by
       intro hh
       have key:∀l:List (Str×NameKind),(∀y∈l,y.2= .local→scope.names.lookup y.1=some .local)→(l.map fun(n,k)=>if(k==NameKind.free&&X.env.scope.kind== .function&&X.env.kindOf n==some .cell) then(n,NameKind.cell) else(n,k)).lookup x=some .local→scope.names.lookup x=some .local:=by
        intro l
        induction l with
        |nil=>intro _ e;simp at e
        |cons y r ih=>
         obtain⟨n,k0⟩:=y
         intro hl e
         rw[List.map_cons] at e
         dsimp only at e
         by_cases hcnd:(k0==NameKind.free&&X.env.scope.kind== .function&&X.env.kindOf n==some .cell)=true
         ·rw[if_pos hcnd] at e
          cases hx:x==n with
          |true=>simp only[List.lookup_cons,hx] at e;cases e
          |false=>simp only[List.lookup_cons,hx] at e;exact ih (fun y hy=>hl y (List.mem_cons_of_mem _ hy)) e
         ·rw[if_neg hcnd] at e
          cases hx:x==n with
          |true=>
           simp only[List.lookup_cons,hx] at e
           have e':k0= .local:=Option.some.inj e
           have:x=n:=by simpa using hx
           subst this
           exact hl (x,k0) List.mem_cons_self e'
          |false=>simp only[List.lookup_cons,hx] at e;exact ih (fun y hy=>hl y (List.mem_cons_of_mem _ hy)) e
       have a:=key scope.names S.names hh
       exact S.one x hmem a)
     ·exact .inl z
     ·exact .inr z
 ·obtain⟨v,o,ho,hd⟩:=I.cell x c (G0 hcl e)
  exact⟨v,o,k _ _ ho,hd⟩
 ·exact I.hok.fresh hC
 ·exact I.freeC x c (G0 hcl e)
 ·obtain⟨e,n,ne,nf,d⟩:=I.pin p hp
  exact⟨k _ _ e,n,below _ _ e,stk _ ne nf,d⟩
end
end L2
set_option Elab.async false
set_option linter.all false
set_option maxRecDepth 100000
set_option maxHeartbeats 4000000
namespace L2
open PySem PySem.Spec PyProof.Rows
theorem HOk.track {P:Program}{w:World}{H:Hp}{h h':Heap}{a C:Addr}{o:HO}(x:HOk P w H h)(hC:H C=none)(k:∀b,b≠C→h'.get? b=h.get? b)(hn:H a=none)(new:ObjOk P w (upd H a o) h' a o):HOk P w (upd H a o) h':=fun b u e=>by
 by_cases hb:b=a
 ·subst hb;rw[d8] at e;cases e;exact new
 ·rw[b7 hb] at e
  refine(x b u e).stay (fun c v hc q=>?_) (fun c q=>by rw[b7 (c9 q hn)];exact q) fun c xs q=>by rw[b7 (c9 q hn)];exact q
  have hcC:c≠C:=by
   rcases hc with z|z
   ·subst z;exact c9 e hC
   ·exact c9 z hC
  rw[k c hcC];exact q
abbrev qL (ifs:List Expr)(env:Env):Sem Bool:=forIn ifs true fun c r=>if r=true then do let ok←isTrue c env (eval c env);pure (ForInStep.yield ok) else pure (ForInStep.yield r)
def kD (X:Cx)(ifs:List Expr)(t:TT):Prop:=
 ∀(pins:List (Addr×Obj)) (s:Shared) (σ:St) (H:Hp) (Q:Bool→Hp→Prop),Inv X pins σ H s→t σ H Q→wpAny (model X.prog X.w) X.A (qL ifs X.env) (TP X pins σ Q) X.xe s
theorem Bx {X:Cx}:kD X [] (fun _ H Q=>Q true H):=fun pins s σ H Q I h=>wpAny_tests_nil ⟨H,I,h⟩
theorem Bf {X:Cx}{c:Expr}{t:TT}(h:PT X c t):kD X [c] t:=fun pins s σ H Q I hq=>wpAny_tests_one (h pins s σ H Q I hq)
section
variable {X:Cx} {pins:List (Addr×Obj)} {σ:St} {H:Hp} {s:Shared} {own:List Str} {js:List Nat} {scope:Scope}
variable {tg iter elt:Expr} {ifs:List Expr} {pos:Pos} {g:TG} {ti:TT} {te:TE}
structure BlockEnd (X:Cx) (pins:List (Addr×Obj)) (own:List Str) (js:List Nat) (scope:Scope) (σ:St) (H:Hp) (s:Shared) (fp:List Addr) (C D:Addr) (out:List V) (H':Hp) (s':Shared):Prop where
 inv:Inv (X9 X own js scope C s H fp) (X.pn++pins) (pG own js σ) H' s'
 free:H' D=none
 obj:∃(its:List Value) (n:Nat),Vals out its∧s'.heap.get? D=some {cls:= .type "list",data:= .seq its.toArray n}
theorem BlockEnd.out {fp:List Addr}{C D:Addr}{out:List V}{H':Hp}{s':Shared}{h':Heap}(e:BlockEnd X pins own js scope σ H s fp C D out H' s')(I:Inv X pins σ H s)(hf:∀b∈fp,ay X pins H b)(hD:s.heap.objs.size≤D)(hC:s.heap.objs.size≤C)(hDC:D≠C)
  (hl:out.length≤sizeLine) (sb:Heap.SameBut C s'.heap h'):Inv X pins σ (upd H' D (.lst out)) {s' with heap:=h'}:=by
 obtain⟨its,n,rv,ob⟩:=e.obj
 have J:=e.inv
 have U:Un (K9 X.stack) fp H H' s.heap s'.heap:=J.base
 have same:∀b,b≠C→h'.get? b=s'.heap.get? b:=fun b hb=>sb.2 b hb
 have old:∀b o,s.heap.get? b=some o→b≠C∧b≠D:=fun b o q=>⟨Nat.ne_of_lt (Nat.lt_of_lt_of_le (Heap.lt_size q) hC),Nat.ne_of_lt (Nat.lt_of_lt_of_le (Heap.lt_size q) hD)⟩
 have hHC:H' C=none:=J.free
 refine I.call' (s':={s' with heap:=h'}) (ch:=fp) J.os ?_ ?_ J.bare fun b hb=>?_
 ·refine⟨fun b o q n hb hx=>?_,fun b o q n hb hx=>?_,fun b o q n hx=>?_,fun b o q hx=>?_,fun b xs q=>?_,fun b o u q=>?_,fun b ps q=>?_⟩
  ·show h'.get? b=_
   rw[same b (old b o q).1];exact U.keep b o q n hb hx
  ·show ∃sl,h'.get? b=_
   rw[same b (old b o q).1];exact U.slot b o q n hb hx
  ·rw[b7 (old b o q).2];exact U.free b o q n hx
  ·show ∃o',h'.get? b=_
   rw[same b (old b o q).1];exact U.there b o q hx
  ·rw[b7 (c9 (U.tups b xs q) e.free)];exact U.tups b xs q
  ·rw[b7 (c9 (U.frzs b o u q) e.free)];exact U.frzs b o u q
  ·obtain⟨mo,z⟩:=U.tbls b ps q
   exact⟨mo,by rw[b7 (c9 z e.free)];exact z⟩
 ·refine HOk.track J.hok hHC same e.free ?_
  exact⟨hl,its,n,rv,by rw[same D hDC];exact ob⟩
 ·exact⟨(hf b hb).2.2.2.1,(hf b hb).2.1,(hf b hb).2.2.2.2.1,(hf b hb).2.2.2.2.2⟩
theorem fK (S:ScB X own js scope)(hc:X.calm=true){fp:List Addr}{it C D:Addr}{tn:Nat→Heap→Prop}{J:It}(T:aU X.prog X.w X.K tg J fp it tn)(I:Inv X pins σ H s)(hf:∀b∈fp,ay X pins H b)
  (hD:s.heap.objs.size≤D) (hC:s.heap.objs.size≤C) (hDC:D≠C) (hob:∀b∈fp,∃o,s.heap.get? b=some o)
  (hg:PG (X9 X own js scope C s H fp) tg g) (hi:kD (X9 X own js scope C s H fp) ifs ti) (he:PE (X9 X own js scope C s H fp) elt te)
  (W:Nat→Nat→List V→Hp→Prop) {K:List V→Hp→Prop}
  (turn:∀i m out H,W i m out H→(J.stop i H∧(H D=none→out.length≤sizeLine∧K out H))∨
   (J.go i H∧∀x H',J.yld i H x H'→g x (pG own js σ) H' fun σ2 H2=>σ2.drop own.length=js.map (fun j=>(σ[j]?).join)∧ti σ2 H2 fun b H3=>
    if b=true then te σ2 H3 fun v H4=>out.length≤sizeLine∧∃m',m'<m∧W (i+1) m' (out++[v]) H4 else ∃m',m'<m∧W (i+1) m' out H3))
  {R:Result→Shared→Prop} (hR:∀out H' s',BlockEnd X pins own js scope σ H s fp C D out H' s'→out.length≤sizeLine→K out H'→R (.ok .next) s')
  {m0:Nat} {H1:Hp} {s1:Shared} (w0:W 0 m0 [] H1) (B:BlockEnd X pins own js scope σ H s fp C D [] H1 s1) (st:tn 0 s1.heap) (fr:∀b∈fp,H1 b=none):
  codeAny (model X.prog X.w) X.A (.compLoop (.ListComp elt [⟨tg,iter,ifs,0⟩] scope pos) 0 (.ref it) (.ref D) (compEnvC scope (cw scope X.env) C X.env)) R s1:=by
 have stat:∀{H':Hp},(∀b∈fp,H' b=none)→∀b∈fp,ay (X9 X own js scope C s H fp) (X.pn++pins) H' b:=fun hn b hb=>by
  obtain⟨o,ho⟩:=hob b hb
  refine⟨hn b hb,Nat.ne_of_lt (Nat.lt_of_lt_of_le (Heap.lt_size ho) hC),?_,.inl hb,fun x c e=>(hf b hb).2.2.2.2.1 x c (G0 (S.cells I) e),fun p hp=>(hf b hb).2.2.2.2.2 p hp⟩
  intro z
  rcases List.mem_cons.mp (I.stkSub b z) with e|e
  ·exact(hf b hb).2.1 e
  ·exact(hf b hb).2.2.1 e
 have Dfp:D∉fp:=fun z=>by
  obtain⟨o,ho⟩:=hob D z
  exact absurd (Nat.lt_of_lt_of_le (Heap.lt_size ho) hD) (Nat.lt_irrefl _)
 have Dcell:∀x c,(X9 X own js scope C s H fp).env.cells.lookup x=some c→c≠D:=fun x c e z=>by
  obtain⟨v,o,ho,_⟩:=I.cell x c (G0 (S.cells I) e)
  rw[z] at ho
  exact absurd (Nat.lt_of_lt_of_le (Heap.lt_size ho) hD) (Nat.lt_irrefl _)
 have Dpin:∀p∈X.pn++pins,p.1≠D:=fun p hp z=>by
  have ho:=(I.pin p hp).1
  rw[z] at ho
  exact absurd (Nat.lt_of_lt_of_le (Heap.lt_size ho) hD) (Nat.lt_irrefl _)
 have Dfs:D∉(X9 X own js scope C s H fp).fs:=fun z=>by
  obtain⟨_,o,ho,_⟩:=I.stack.mem z
  exact absurd (Nat.lt_of_lt_of_le (Heap.lt_size ho) hD) (Nat.lt_irrefl _)
 refine codeAny_loop rfl (fun n s'=>∃i out H',BlockEnd X pins own js scope σ H s fp C D out H' s'∧tn i s'.heap∧(∀b∈fp,H' b=none)∧W i n out H') (fun n s3 hI=>?_) m0 ⟨0,[],H1,B,st,fr,w0⟩
 obtain⟨i,out,H3,B3,st3,fr3,w3⟩:=hI
 obtain⟨its,nD,rv,obD⟩:=B3.obj
 have pinD:∀{σ':St} {H':Hp} {s':Shared},Inv (X9 X own js scope C s H fp) (X.pn++pins) σ' H' s'→H' D=none→s'.heap.get? D=some {cls:= .type "list",data:= .seq its.toArray nD}→
   Inv (X9 X own js scope C s H fp) (X.pn++pins++[(D,{cls:= .type "list",data:= .seq its.toArray nD})]) σ' H' s':=fun{σ' H' s'} I' n' e'=>I'.pins_of fun p hp=>by
  rcases List.mem_append.mp hp with z|z
  ·exact I'.pin p (by show p∈([]:List (Addr×Obj))++_;exact List.mem_append_right _ z)
  ·have z':p=(D,{cls:= .type "list",data:= .seq its.toArray nD}):=by simpa using z
   subst z'
   exact⟨e',n',hDC,Dfs,fun v q=>by cases q⟩
 have stat':∀{H':Hp},(∀b∈fp,H' b=none)→∀b∈fp,ay (X9 X own js scope C s H fp) (X.pn++pins++[(D,{cls:= .type "list",data:= .seq its.toArray nD})]) H' b:=fun hn b hb=>by
  obtain⟨a1,a2,a3,a4,a5,a6⟩:=stat hn b hb
  refine⟨a1,a2,a3,a4,a5,fun p hp=>?_⟩
  have hp':p∈X.pn++pins++[(D,{cls:= .type "list",data:= .seq its.toArray nD})]:=hp
  rcases List.mem_append.mp hp' with z|z
  ·exact a6 p (by show p∈([]:List (Addr×Obj))++_;exact z)
  ·have z':p=(D,{cls:= .type "list",data:= .seq its.toArray nD}):=by simpa using z
   subst z'
   rintro rfl
   exact Dfp hb
 have thx:∀{α:Type} {t:Sem α} {Q Q':α→Shared→Prop} {E:Value→Shared→Prop} {s:Shared},wpAny (model X.prog X.w) X.A t Q (fun _ _=>False) s→(∀a s,Q a s→Q' a s)→wpAny (model X.prog X.w) X.A t Q' E s:=
  fun h hQ=>wpAny_mono h hQ fun _ _ x=>x.elim
 have unD:∀{pl:List (Addr×Obj)} {σ':St} {H':Hp} {s':Shared},Inv (X9 X own js scope C s H fp) (X.pn++pins++[(D,{cls:= .type "list",data:= .seq its.toArray nD})]++pl) σ' H' s'→Inv (X9 X own js scope C s H fp) (X.pn++pins) σ' H' s'∧H' D=none∧s'.heap.get? D=some {cls:= .type "list",data:= .seq its.toArray nD}:=fun{pl σ' H' s'} I'=>by
  have q:=I'.pin (D,{cls:= .type "list",data:= .seq its.toArray nD}) (List.mem_append_right _ (List.mem_append_left _ (List.mem_append_right _ (by simp))))
  exact⟨I'.unpinned.unpinned,q.2.1,q.1⟩
 show wpAny _ X.A ((compTurn (.ListComp elt [⟨tg,iter,ifs,0⟩] scope pos) 0 (.ref it) (.ref D) (compEnvC scope (cw scope X.env) C X.env)).onRaise (fun x=>do noteFrame x (compEnvC scope (cw scope X.env) C X.env);theTreesLotGoes x)) _ _ s3
 refine wpAny_noted ?_
 rw[compTurn_list]
 refine wpAny_bind (wpAny_standAt (wpAny_bind ?_))
 rcases turn i n out H3 w3 with⟨stop,fin⟩|⟨go,step⟩
 ·refine B7 (T.done (X9 X own js scope C s H fp) rfl rfl rfl hc i _ s3 _ H3 _ (pinD B3.inv B3.free obD) (stat' fr3) st3 stop) fun r s4 ⟨hr,I4⟩=>?_
  subst hr
  obtain⟨J4,n4,o4⟩:=unD (pl:=[]) (by rw[List.append_nil];exact I4)
  obtain⟨hl,k⟩:=fin B3.free
  exact wpAny_pure (hR out H3 s4 ⟨J4,n4,its,nD,rv,o4⟩ hl k)
 ·refine B7 (T.item (X9 X own js scope C s H fp) rfl rfl rfl hc i _ s3 _ H3 _ (pinD B3.inv B3.free obD) (stat' fr3) st3 go) fun r s4 ⟨u,hr,h4⟩=>?_
  subst hr
  refine wpAny_bind (B7 h4 fun _ s5 ⟨x,H5,I5,r5,y5,st5,fr5⟩=>?_)
  have I5':=I5.pinned (stat' fr5) (T.obj _ _ st5)
  refine wpAny_bind (thx (hg _ s5 _ H5 x u _ I5' r5 (step x H5 y5)) fun _ s6 ⟨σ6,H6,I6,q6⟩=>?_)
  obtain⟨ed,q6⟩:=q6
  refine wpAny_bind (thx (hi _ s6 σ6 H6 _ I6 q6) fun ok s7 ⟨H7,I7,q7⟩=>?_)
  have stay:∀{H':Hp} {s':Shared},Inv (X9 X own js scope C s H fp) (X.pn++pins++[(D,{cls:= .type "list",data:= .seq its.toArray nD})]++dz fp s5.heap) σ6 H' s'→tn (i+1) s'.heap∧∀b∈fp,H' b=none:=fun{H' s'} I'=>by
   refine⟨T.keep _ _ _ st5 fun b hb o e=>(I'.pin (b,o) (List.mem_append_right _ (List.mem_append_right _ (P0 hb e)))).1,fun b hb=>?_⟩
   obtain⟨o,e,d⟩:=T.obj _ _ st5 b hb
   exact(I'.pin (b,o) (List.mem_append_right _ (List.mem_append_right _ (P0 hb e)))).2.1
  have wk:∀{H':Hp} {s':Shared},Inv (X9 X own js scope C s H fp) (X.pn++pins) σ6 H' s'→Inv (X9 X own js scope C s H fp) (X.pn++pins) (pG own js σ) H' s':=fun{H' s'} I'=>by
   refine I'.weak (by rw[I'.len];exact mQ) fun k v e=>?_
   unfold pG at e
   by_cases hk:k<own.length
   ·rw[List.getElem?_append_left (by simpa using hk),List.getElem?_map,List.getElem?_eq_getElem hk] at e
    simp at e
   ·rw[List.getElem?_append_right (by simpa using hk)] at e
    have el:(own.map fun _=>(none:Option V)).length=own.length:=by simp
    rw[el,←ed,List.getElem?_drop] at e
    have ek:own.length+(k -own.length)=k:=by lia
    rw[ek] at e
    exact e
  cases ok with
  |false=>
   rw[if_neg Bool.false_ne_true] at q7
   obtain⟨m',hm,w7⟩:=q7
   obtain⟨J7,n7,o7⟩:=unD I7
   exact wpAny_pure ⟨rfl,m',hm,i+1,out,H7,⟨wk J7,n7,its,nD,rv,o7⟩,(stay I7).1,(stay I7).2,w7⟩
  |true=>
   rw[if_pos rfl] at q7
   refine wpAny_bind (wpAny_bind (thx (he _ s7 σ6 H7 _ I7 q7) fun y s8 ⟨v,H8,I8,r8,hl8,m',hm,w8⟩=>?_))
   obtain⟨J8,n8,o8⟩:=unD I8
   have isl:s8.heap.IsList D its.toArray:=⟨_,o8,rfl,nD,rfl⟩
   refine wpAny_bind (wpAny_list_append_plain (hsz:=by have:=rv.length;simp;lia) ⟨nD,o8⟩ fun h' hp' hs'=>?_)
   obtain⟨nn,ob'⟩:=hp'
   have ob2:h'.get? D=some {cls:= .type "list",data:= .seq (its++[y]).toArray nn}:=by
    rw[ob',List.push_toArray]
   have keep:∀b o,b≠D→s8.heap.get? b=some o→h'.get? b=some o:=fun b o hb e=>(hs'.2 b hb).trans e
   have J9:Inv (X9 X own js scope C s H fp) (X.pn++pins) σ6 H8 {s8 with heap:=h'}:=J8.turned (t':=s8.toks) keep n8 hDC (.inr hD) Dcell (fun p hp=>Dpin p (by
    have hp':p∈([]:List (Addr×Obj))++(X.pn++pins):=hp
    rw[List.nil_append] at hp'
    exact hp'))
   refine wpAny_pure (wpAny_pure ⟨rfl,m',hm,i+1,out++[v],H8,⟨wk J9,n8,its++[y],nn,rv.append (.cons r8 .nil),ob2⟩,?_,(stay I8).2,w8⟩)
   exact T.keep _ _ _ (stay I8).1 fun b hb o e=>keep b o (by rintro rfl;exact Dfp hb) e
end
end L2
set_option Elab.async false
set_option linter.all false
set_option maxRecDepth 100000
set_option maxHeartbeats 4000000
namespace L2
open PySem PySem.Spec PyProof.Rows
def BV (n:Nat)(PV:Nat→V→Prop):It:=⟨fun i _=>i<n,fun i H x H'=>H'=H∧PV i x,fun i _=>n≤i⟩
theorem lM {M:Model}{A:Around}{E:Value→Shared→Prop}{s:Shared}{tg:Expr}{it:Addr}{u:Value}{Q:Unit→Shared→Prop}(hu:∀a,u≠ .ref a)(hQ:Q () s):wpAny M A (letOwnedTupleGo tg (.ref it) u) Q E s:=by
 unfold letOwnedTupleGo
 cases tg<;>first
  |exact wpAny_pure hQ
  |(cases u<;>first
    |exact wpAny_pure hQ
    |exact absurd rfl (hu _))
theorem cU {P:Program}{w:World}{K:PySem.W.Frag}{tg:Expr}{it:Addr}{n:Nat}{Pv:Nat→Value→Prop}{PV:Nat→V→Prop}{St:Nat→Heap→Prop}
  (W:∀A:Around,A.handled=none→Walks P w A it [it] [it] n Pv St) (hv:∀i u,Pv i u→(∀a,u≠ .ref a)∧∃x,RelV x u∧PV i x)
  (ho:∀i h,St i h→∃o,h.get? it=some o∧∀v,o.data≠ .cell v)
  (hk:∀i h h',St i h→(∀o,h.get? it=some o→h'.get? it=some o)→St i h')
  (hself:∀(A:Around) (i:Nat) (s:Shared) (Q:Value→Shared→Prop) (E:Value→Shared→Prop),St i s.heap→Q (.ref it) s→wpAny (model P w) A (pyIter (.ref it)) Q E s):
  aU P w K tg (BV n PV) [it] it (fun i h=>St i h∧i≤n) where
 mem:=by simp
 obj:=fun i h st b hb=>by
  have e:b=it:=by simpa using hb
  subst e
  exact ho i h st.1
 keep:=fun i h h' st k=>⟨hk i h h' st.1 fun o e=>k it (by simp) o e,st.2⟩
 item:=by
  intro X hP hw hK hc i pins s σ H E I hf st hg
  subst hP hw hK
  obtain⟨f0,f1,f2,f3,f4,f5⟩:=hf it (by simp)
  refine(W X.A (I.ok.hd hc)).item i s _ _ hg st.1 fun v h' tk hv' st' kk=>?_
  obtain⟨hne,x,rx,px⟩:=hv i v hv'
  have I1:Inv X pins σ H {s with heap:=h',toks:=tk}:=I.turned (fun b o hb e=>kk b o (by simpa using hb) e) f0 f1 f3 f4 f5
  exact⟨v,rfl,lM hne ⟨x,H,I1,rx,⟨rfl,px⟩,⟨st',hg⟩,fun b hb=>(hf b hb).1⟩⟩
 done:=by
  intro X hP hw hK hc i pins s σ H E I hf st hg
  subst hP hw hK
  obtain⟨f0,f1,f2,f3,f4,f5⟩:=hf it (by simp)
  have e:i=n:=Nat.le_antisymm st.2 hg
  subst e
  exact(W X.A (I.ok.hd hc)).done s _ _ st.1 fun h' tk kk=>⟨rfl,I.turned (fun b o hb e=>kk b o (by simpa using hb) e) f0 f1 f3 f4 f5⟩
 self:=fun A i s Q E st h=>hself A i s Q E st.1 h
def sy (c:Nat):V:= .str ⟨#[c]⟩
def vd (x:Str)(i:Nat)(v:V):Prop:=∃c,x.cps[i]?=some c∧v=sy c
def Its (x:Str):It:=BV x.cps.size (vd x)
theorem qU {x:Str}{i:Nat}{u:Value}(h:SignAt x i u):(∀a,u≠ .ref a)∧∃v,RelV v u∧vd x i v:=by
 obtain⟨c,t,hc,rfl⟩:=h
 exact⟨fun a z=>(by cases z),sy c,⟨t,rfl⟩,c,hc,rfl⟩
theorem nQ {P:Program}{w:World}{K:PySem.W.Frag}{tg:Expr}(it:Addr)(x:Str)(t:Tok):aU P w K tg (Its x) [it] it (fun i h=>h.IsStrIter it "str_ascii_iterator" x t i∧i≤x.cps.size):=
 cU (fun A hh=>Walks.strAscii hh it x t) (fun i u h=>qU h)
  (fun i h st=>by obtain⟨o,e,c,d⟩:=st;exact⟨o,e,fun v z=>by rw[d] at z;cases z⟩)
  (fun i h h' st k=>let ⟨o,e,r⟩:=st;⟨o,k o e,r⟩)
  (fun A i s Q E st h=>wpAny_pyIter_striter_ascii st h)
theorem nP {P:Program}{w:World}{K:PySem.W.Frag}{tg:Expr}(it:Addr)(x:Str)(t:Tok):aU P w K tg (Its x) [it] it (fun i h=>h.IsStrIter it "str_iterator" x t i∧i≤x.cps.size):=
 cU (fun A hh=>Walks.strWide hh it x t) (fun i u h=>qU h)
  (fun i h st=>by obtain⟨o,e,c,d⟩:=st;exact⟨o,e,fun v z=>by rw[d] at z;cases z⟩)
  (fun i h h' st k=>let ⟨o,e,r⟩:=st;⟨o,k o e,r⟩)
  (fun A i s Q E st h=>wpAny_pyIter_striter_wide st h)
section
variable {X:Cx} {tg:Expr}
def rIter (K:PySem.W.Frag)(v:V)(H:Hp)(R:It→Hp→Prop):Prop:=
 (∃a,v= .ref a∧(∃xs,SqL K H a xs)∧R (Itl K a) H)∨(∃a,v= .ref a∧(∃xs,SqT K H a xs)∧R (BO K a) H)∨(∃x,v= .str x∧R (Its x) H)
theorem rM {pins:List (Addr×Obj)}{σ:St}{H1:Hp}{s1:Shared}{x:V}{v:Value}{R:It→Hp→Prop}(I1:Inv X pins σ H1 s1)(r1:RelV x v)(q1:rIter X.K x H1 R):
  wpAny (model X.prog X.w) X.A (pyIter v) (Am X pins σ tg R) X.xe s1:=by
 have fp0:∀b∈[s1.heap.objs.size],ay X pins H1 b:=fun b hb=>by
  have e:b=s1.heap.objs.size:=by simpa using hb
  subst e
  exact I1.fpOk (Nat.le_refl _) (I1.hok.fresh (Nat.le_refl _))
 rcases q1 with⟨a,e,⟨xs,hq⟩,q⟩|⟨a,e,⟨xs,hq⟩,q⟩|⟨z,e,q⟩
 ·subst e
  cases r1
  obtain⟨its,rv,p,hz⟩:=I1.list hq
  refine wpAny_pyIter_list p.isList ?_
  exact⟨s1.heap.objs.size,[s1.heap.objs.size],_,_,H1,rfl,I1.kept (t':=s1.toks) fun b o e=>Heap.get?_push_of_some _ e,nF a _,⟨_,Heap.get?_push_size _ rfl,rfl,rfl⟩,fp0,q⟩
 ·subst e
  cases r1
  obtain⟨its,rv,p,hz⟩:=I1.tuple hq
  refine wpAny_pyIter_tuple (show s1.heap.IsTuple a its.toArray from p) ?_
  exact⟨s1.heap.objs.size,[s1.heap.objs.size],_,_,H1,rfl,I1.kept (t':=s1.toks) fun b o e=>Heap.get?_push_of_some _ e,jD a _,⟨_,Heap.get?_push_size _ rfl,rfl,rfl⟩,fp0,q⟩
 ·subst e
  obtain⟨t,rfl⟩:=r1
  cases ha:z.cps.all (·<128) with
  |false=>exact wpAny_pyIter_wide ha ⟨s1.heap.objs.size,[s1.heap.objs.size],_,_,H1,rfl,I1.kept (t':=s1.toks) fun b o e=>Heap.get?_push_of_some _ e,nP _ z t,⟨⟨_,Heap.get?_push_size _ rfl,rfl,rfl⟩,Nat.zero_le _⟩,fp0,q⟩
  |true=>exact wpAny_pyIter_ascii ha ⟨s1.heap.objs.size,[s1.heap.objs.size],_,_,H1,rfl,I1.kept (t':=s1.toks) fun b o e=>Heap.get?_push_of_some _ e,nQ _ z t,⟨⟨_,Heap.get?_push_size _ rfl,rfl,rfl⟩,Nat.zero_le _⟩,fp0,q⟩
end
section
variable {X:Cx}
theorem ic:∀{bs:List Bool} {us:List Value},Vals (bs.map V.bl) us→us=bs.map Value.bool
 |[],_,.nil=>rfl
 |b::bs,_,.cons r t=>by
  have e:_=Value.bool b:=r
  rw[e,ic t];rfl
theorem kT (bs:List Bool):((List.range bs.length).all fun i=>(bs[i]?).getD true)=bs.all id:=by
 rw[Bool.eq_iff_iff,List.all_eq_true,List.all_eq_true]
 constructor
 ·intro h b hb
  obtain⟨i,hi,rfl⟩:=List.getElem_of_mem hb
  have:=h i (List.mem_range.mpr hi)
  simpa [List.getElem?_eq_getElem hi] using this
 ·intro h i hi
  have hi':=List.mem_range.mp hi
  simpa [List.getElem?_eq_getElem hi'] using h _ (List.getElem_mem hi')
theorem lh (bs:List Bool):((List.range bs.length).any fun i=>(bs[i]?).getD true)=bs.any id:=by
 rw[Bool.eq_iff_iff,List.any_eq_true,List.any_eq_true]
 constructor
 ·rintro⟨i,hi,e⟩
  have hi':=List.mem_range.mp hi
  simp only[List.getElem?_eq_getElem hi',Option.getD_some] at e
  exact⟨_,List.getElem_mem hi',e⟩
 ·rintro⟨b,hb,e⟩
  obtain⟨i,hi,rfl⟩:=List.getElem_of_mem hb
  exact⟨i,List.mem_range.mpr hi,by simp only[List.getElem?_eq_getElem hi,Option.getD_some];exact e⟩
theorem mT {s:Shared}{h':Heap}{o:Obj}(hk:∀b x,b∉[s.heap.objs.size]→(s.heap.push o).get? b=some x→h'.get? b=some x):∀b x,s.heap.get? b=some x→h'.get? b=some x:=
 fun b x e=>hk b x (fun hm=>by rw[List.mem_singleton.mp hm] at e;exact Nat.lt_irrefl _ (Heap.lt_size e)) (Heap.get?_push_of_some _ e)
def xS (K:PySem.W.Frag):List V→Hp→VK→Prop:=fun xs H Q=>∃(p:Addr) (bs:List Bool),xs=[.ref p]∧SqL K H p (bs.map V.bl)∧Q (.bl (bs.all id)) H
def yv (K:PySem.W.Frag):List V→Hp→VK→Prop:=fun xs H Q=>∃(p:Addr) (bs:List Bool),xs=[.ref p]∧SqL K H p (bs.map V.bl)∧Q (.bl (bs.any id)) H
theorem oE (hc:X.calm=true):CallR X (.builtin "all") (xS X.K):=by
 intro pins s σ H xs us Q I r h
 obtain⟨l,bs,rfl,hx,q⟩:=h
 obtain⟨u,rfl,ru⟩:=D0 r
 cases ru
 obtain⟨its,rv,ht,hz⟩:=I.list hx
 have e:=ic rv
 subst e
 have hl:=ht.isList
 have hlt:l<s.heap.objs.size:=ht.lt
 refine call_all_walk (wpAny_pyIter_list hl ?_)
 refine⟨s.heap.objs.size,[s.heap.objs.size,l],[s.heap.objs.size],(bs.map Value.bool).toArray.size,_,_,fun i=>(bs[i]?).getD true,rfl,Walks.list (A:=X.A.in1) (I.ok.hd hc) _ l (Nat.ne_of_lt hlt) (bs.map Value.bool).toArray,
  ⟨⟨_,Heap.get?_push_size _ rfl,rfl,rfl⟩,hl.push _⟩,fun i v s' Q' E' hP hQ=>?_,fun h' tk hk=>?_⟩
 ·have hP':(bs.map Value.bool)[i]?=some v:=by simpa using hP
  rw[List.getElem?_map] at hP'
  cases e:bs[i]? with
  |none=>rw[e] at hP';cases hP'
  |some b=>
   rw[e] at hP'
   cases hP'
   simp only[e,Option.getD_some] at hQ
   exact wpAny_truthy_bool hQ
 ·have e:((List.range (bs.map Value.bool).toArray.size).all fun i=>(bs[i]?).getD true)=bs.all id:=by
   rw[List.size_toArray,List.length_map];exact kT bs
  rw[e]
  exact⟨.bl (bs.all id),H,I.kept (mT hk),rfl,q⟩
theorem oX (hc:X.calm=true):CallR X (.builtin "any") (yv X.K):=by
 intro pins s σ H xs us Q I r h
 obtain⟨l,bs,rfl,hx,q⟩:=h
 obtain⟨u,rfl,ru⟩:=D0 r
 cases ru
 obtain⟨its,rv,ht,hz⟩:=I.list hx
 have e:=ic rv
 subst e
 have hl:=ht.isList
 have hlt:l<s.heap.objs.size:=ht.lt
 refine call_any_walk (wpAny_pyIter_list hl ?_)
 refine⟨s.heap.objs.size,[s.heap.objs.size,l],[s.heap.objs.size],(bs.map Value.bool).toArray.size,_,_,fun i=>(bs[i]?).getD true,rfl,Walks.list (A:=X.A.in1) (I.ok.hd hc) _ l (Nat.ne_of_lt hlt) (bs.map Value.bool).toArray,
  ⟨⟨_,Heap.get?_push_size _ rfl,rfl,rfl⟩,hl.push _⟩,fun i v s' Q' E' hP hQ=>?_,fun h' tk hk=>?_⟩
 ·have hP':(bs.map Value.bool)[i]?=some v:=by simpa using hP
  rw[List.getElem?_map] at hP'
  cases e:bs[i]? with
  |none=>rw[e] at hP';cases hP'
  |some b=>
   rw[e] at hP'
   cases hP'
   simp only[e,Option.getD_some] at hQ
   exact wpAny_truthy_bool hQ
 ·have e:((List.range (bs.map Value.bool).toArray.size).any fun i=>(bs[i]?).getD true)=bs.any id:=by
   rw[List.size_toArray,List.length_map];exact lh bs
  rw[e]
  exact⟨.bl (bs.any id),H,I.kept (mT hk),rfl,q⟩
def yl:V→Option Int→Option Int→Hp→VK→Prop:=fun x lo hi H Q=>∃z,x= .str z∧z.length≤sizeLine∧Q (.str (Txt.slice z lo hi)) H
theorem xi:SlR X yl:=by
 intro pins s σ H x v vl vu lo hi sl Q I rx hs pl pu h
 obtain⟨z,rfl,hz,q⟩:=h
 obtain⟨t,rfl⟩:=rx
 refine⟨"str",_,F.slot_str_getitem.lookup,typeIs_str _ _ _,?_⟩
 have fin:∀t' k,EP X pins σ Q (.str (Txt.slice z lo hi) t') {s with toks:=k}:=fun t' k=>⟨.str _,H,I.tok _,⟨t',rfl⟩,q⟩
 cases pl with
 |none=>
  cases pu with
  |none=>exact wpAny_getItem_str_slice (l:=none) (u:=none) (st:=none) hs rfl (post_val_or_str ⟨Nat.le_trans (Txt.slice_le z _ _) hz,fin⟩)
  |int j tj=>exact wpAny_getItem_str_slice (l:=none) (u:=some (j,tj)) (st:=none) hs rfl (post_val_or_str ⟨Nat.le_trans (Txt.slice_le z _ _) hz,fin⟩)
 |int i ti=>
  cases pu with
  |none=>exact wpAny_getItem_str_slice (l:=some (i,ti)) (u:=none) (st:=none) hs rfl (post_val_or_str ⟨Nat.le_trans (Txt.slice_le z _ _) hz,fin⟩)
  |int j tj=>exact wpAny_getItem_str_slice (l:=some (i,ti)) (u:=some (j,tj)) (st:=none) hs rfl (post_val_or_str ⟨Nat.le_trans (Txt.slice_le z _ _) hz,fin⟩)
def yN (K:PySem.W.Frag):V→Option Int→Option Int→Hp→VK→Prop:=fun x lo hi H Q=>yL K x lo hi H Q∨yS K x lo hi H Q∨yl x lo hi H Q
theorem xw:SlR X (yN X.K):=sl_list.or (sl_tup.or xi)
theorem RelV.plainB {x:V}{v:Value}(r:RelV x v)(b:Bool):plainIs v (.bool b)=true∧(v==Value.bool b)=decide (x= .bl b):=by
 cases x with
 |non=>cases r;exact⟨rfl,rfl⟩
 |bl c=>cases r;exact⟨rfl,by cases b<;>cases c<;>rfl⟩
 |int _=>obtain⟨t,rfl⟩:=r;exact⟨rfl,rfl⟩
 |str _=>obtain⟨t,rfl⟩:=r;exact⟨rfl,rfl⟩
 |byt _=>obtain⟨t,rfl⟩:=r;exact⟨rfl,rfl⟩
 |flt _=>obtain⟨t,rfl⟩:=r;exact⟨rfl,rfl⟩
 |ref _=>cases r;exact⟨rfl,rfl⟩
 |ty _=>cases r;exact⟨rfl,rfl⟩
def BW (neg:Bool):R2:=fun x y H Q=>(y= .non∨∃b,y= .bl b)∧Q (.bl (if neg then !decide (x=y) else decide (x=y))) H
theorem zi:OpR X (compareOp .Is) (BW false):=by
 intro pins s σ H x y v u Q I rx ry h
 obtain⟨hy,q⟩:=h
 rcases hy with rfl|⟨b,rfl⟩
 ·cases ry;exact is_none_gen ⟨.bl _,H,I,by rw[rx.none_iff];rfl,q⟩
 ·cases ry
  exact wpAny_is_plain (rx.plainB b).1 ⟨.bl _,H,I,by rw[(rx.plainB b).2];rfl,q⟩
def BH (K:PySem.W.Frag)(H:Hp):V→String→Prop
 | .non,t=>t="NoneType"
 | .bl _,t=>t="bool"
 | .int _,t=>t="int"
 | .str _,t=>t="str"
 | .ref a,t=>(t="list"∧∃xs,SqL K H a xs)∨(t="tuple"∧∃xs,SqT K H a xs)∨(t="dict"∧∃kvs,Rd H a (.dK kvs))
 |_,_=>False
def lJ (t T:String):Bool:=t==T||(t=="bool"&&T=="int")
def uF (K:PySem.W.Frag):List V→Hp→VK→Prop:=fun xs H Q=>∃x T t,xs=[x,.ty T]∧BH K H x t∧(T="str"∨T="int"∨T="bool"∨T="list"∨T="tuple"∨T="dict")∧Q (.bl (lJ t T)) H
theorem G6 {K:PySem.W.Frag}{t T:String}(ht:t="NoneType"∨t="bool"∨t="int"∨t="str"∨t="list"∨t="tuple"∨t="dict")(hT:T="str"∨T="int"∨T="bool"∨T="list"∨T="tuple"∨T="dict"):
  PySem.W.kitOne K (.type t) (.type T)=some (lJ t T):=by
 rcases ht with rfl|rfl|rfl|rfl|rfl|rfl|rfl<;>rcases hT with rfl|rfl|rfl|rfl|rfl|rfl<;>rfl
theorem call_isi:CallR X (.builtin "isinstance") (uF X.K):=by
 intro pins s σ H xs us Q I r h
 obtain⟨x,T,t,rfl,ty,hT,q⟩:=h
 obtain⟨u,c,rfl,rx,rc⟩:=Y6 r
 cases rc
 have fin:∀tk,EP X pins σ Q (.bool (lJ t T)) {s with toks:=tk}:=fun tk=>⟨.bl _,H,I.tok tk,rfl,q⟩
 cases x with
 |non=>cases ty;cases (show u=Value.none from rx);exact PySem.W.kia_one PySem.W.kitx_none I.kIn True.intro (G6 (by simp) hT) (fun z=>nomatch z) fin
 |bl y=>cases ty;cases (show u=Value.bool y from rx);exact PySem.W.kia_one PySem.W.kitx_bool I.kIn True.intro (G6 (by simp) hT) (fun z=>nomatch z) fin
 |int i=>cases ty;obtain⟨t,q⟩:=(show ∃t,u=Value.int i t from rx);cases q;exact PySem.W.kia_one PySem.W.kitx_int I.kIn True.intro (G6 (by simp) hT) (fun z=>nomatch z) fin
 |str y=>cases ty;obtain⟨t,q⟩:=(show ∃t,u=Value.str y t from rx);cases q;exact PySem.W.kia_one PySem.W.kitx_str I.kIn True.intro (G6 (by simp) hT) (fun z=>nomatch z) fin
 |byt _=>exact False.elim ty
 |flt _=>exact False.elim ty
 |ty _=>exact False.elim ty
 |ref a=>
  cases (show u=Value.ref a from rx)
  rcases ty with⟨rfl,ys,hy⟩|⟨rfl,ys,hy⟩|⟨rfl,kvs,hy⟩
  ·obtain⟨its,_,⟨o,n,e,c,_,_⟩,_⟩:=I.list hy
   exact PySem.W.kia_one PySem.W.kitx_list I.kIn ⟨o,e,c⟩ (G6 (by simp) hT) (fun z=>nomatch z) fin
  ·obtain⟨its,_,⟨o,e,c,_⟩,_⟩:=I.tuple hy
   exact PySem.W.kia_one PySem.W.kitx_tuple I.kIn ⟨o,e,c⟩ (G6 (by simp) hT) (fun z=>nomatch z) fin
  ·obtain⟨_,_,vs,_,o,es,ep,h1,h2,_⟩:=C1 I.hok hy
   exact PySem.W.kia_one PySem.W.kitx_dict I.kIn ⟨o,h1,h2.1⟩ (G6 (by simp) hT) (fun z=>nomatch z) fin
end
end L2
set_option Elab.async false
set_option linter.all false
set_option maxRecDepth 100000
set_option maxHeartbeats 4000000
namespace L2
open PySem PySem.Spec PyProof.Rows
section
variable {X:Cx}
def iL (K:PySem.W.Frag):R2:=fun x y H Q=>uj (fun i j=> .int (i+j)) x y H Q∨(∃i j,x= .str i∧y= .str j∧i.length+j.length≤sizeLine∧Q (.str (i++j)) H)∨zf x y H Q∨vp K x y H Q
theorem tL:OpR X (binaryOp .Add) (iL X.K):=op_add.or (op_add_str.or (op_cat.or tV))
theorem op_in_sgn:OpR X (compareOp .In) (fun x y H Q=>∃c j,x=sy c∧y= .str j∧Q (.bl (decide (c∈j.cps.toList))) H):=by
 intro pins s σ H x y v u Q I rx ry h
 obtain⟨c,j,rfl,rfl,q⟩:=h
 refine oW pins s σ H _ _ v u Q I rx ry ⟨⟨#[c]⟩,j,rfl,rfl,?_⟩
 rw[StrLaws.found_one];exact q
theorem op_notIn_sgn:OpR X (compareOp .NotIn) (fun x y H Q=>∃c j,x=sy c∧y= .str j∧Q (.bl (!decide (c∈j.cps.toList))) H):=by
 intro pins s σ H x y v u Q I rx ry h
 obtain⟨c,j,rfl,rfl,q⟩:=h
 refine gP pins s σ H _ _ v u Q I rx ry ⟨⟨#[c]⟩,j,rfl,rfl,?_⟩
 rw[StrLaws.found_one];exact q
theorem jJ (hu:X.A.units+1<cLine):OpR X (compareOp .In) (fun y x H Q=>∃a o,x= .ref a∧U5 H a y o∧Q (.bl o.isSome) H):=by
 intro pins s σ H y x v u Q I ry rx h
 obtain⟨a,o,rfl,g,q⟩:=h
 cases rx
 exact BE hu I g ry fun s' I'=>⟨.bl _,H,I',rfl,q⟩
theorem eZ (hu:X.A.units+1<cLine):OpR X (compareOp .NotIn) (fun y x H Q=>∃a o,x= .ref a∧U5 H a y o∧Q (.bl (!o.isSome)) H):=by
 intro pins s σ H y x v u Q I ry rx h
 obtain⟨a,o,rfl,g,q⟩:=h
 cases rx
 exact ua hu I g ry fun s' I'=>⟨.bl _,H,I',rfl,q⟩
def ux (K:PySem.W.Frag):R2:=fun x y H Q=>(∃c j,x=sy c∧y= .str j∧Q (.bl (decide (c∈j.cps.toList))) H)∨Ak K false x y H Q∨(∃a o,y= .ref a∧U5 H a x o∧Q (.bl o.isSome) H)
def aL (K:PySem.W.Frag):R2:=fun x y H Q=>(∃c j,x=sy c∧y= .str j∧Q (.bl (!decide (c∈j.cps.toList))) H)∨Ak K true x y H Q∨(∃a o,y= .ref a∧U5 H a x o∧Q (.bl (!o.isSome)) H)
theorem wV (hu:X.A.units+1<cLine):OpR X (compareOp .In) (ux X.K):=op_in_sgn.or (op_in_seq.or (jJ hu))
theorem oB (hu:X.A.units+1<cLine):OpR X (compareOp .NotIn) (aL X.K):=op_notIn_sgn.or (op_notIn_seq.or (eZ hu))
def zo:R2:=fun x y H Q=>uj (fun i j=> .bl (decide (i<j))) x y H Q∨(∃i j,x= .str i∧y= .str j∧Q (.bl (decide (i.cps.toList<j.cps.toList))) H)
theorem N3:OpR X (compareOp .Lt) zo:=op_lt.or nS
theorem uv (hu:X.A.units+1<cLine):IxR X (fun x y H Q=>∃a v,x= .ref a∧U5 H a y (some v)∧Q v H):=by
 intro value slice pins s σ H x y v u Q I rx ry h hs
 obtain⟨a,z,rfl,g,q⟩:=h
 cases rx
 exact tail_any (je I g) PySem.F.slot_dict_getitem.lookup (mV hu I g ry fun w2 s' I' r'=>⟨z,H,I',r',q⟩) hs
def kI (K:PySem.W.Frag):R2:=fun x y H Q=>BQ K x y H Q∨(∃a v,x= .ref a∧U5 H a y (some v)∧Q v H)
theorem xX (hu:X.A.units+1<cLine):IxR X (kI X.K):=ix_seq.or (uv hu)
def nE (K:PySem.W.Frag):List V→Hp→VK→Prop:=fun xs H Q=>(∃x n,xs=[x]∧zp K x H n∧Q (.int n) H)∨(∃a kvs,xs=[V.ref a]∧Rd H a (.dK kvs)∧Q (.int kvs.length) H)
theorem call_lenX:CallR X (.builtin "len") (nE X.K):=by
 refine call_len.or ?_
 intro pins s σ H xs us Q I r h
 obtain⟨a,kvs,rfl,ha,q⟩:=h
 obtain⟨u,rfl,ru⟩:=D0 r
 cases ru
 exact yp I ha fun t s' I'=>⟨.int kvs.length,H,I',⟨t,rfl⟩,q⟩
end
def A2 (P:Program)(w:World)(K:PySem.W.Frag)(mg:Str→Option Value)(base:Heap)(CX:fV)(k:Nat)(x:Str)(ps:List Str)(dvs:List V)(sp:Sp):Prop:=
 ∃f fd ds,j1 P w K mg base CX k f fd ps sp∧mg x=some (.ref f)∧PySem.W.keepIn K (.ref f)=true∧Binds K fd ps ds∧Vals dvs ds
section
variable {X:Cx} {CX:fV} {k:Nat} {x:Str} {ps:List Str} {dvs:List V} {sp:Sp} {E:XK} {e:Expr} {es:List Expr} {t:TA} {p pos:Pos}
theorem se (C:A2 X.prog X.w X.K X.mg X.base CX k x ps dvs sp)(hr:Room k X.A)(hx:ai CX X E)(ha:PA X (e::es) t)(hg:Gl X x:=by rfl)
  (hdb:(x==("__debug__":Str))=false:=by decide) (he:starEach (e::es) X.env=(false,eval e X.env)::starEach es X.env:=by rfl) (hpl:(backTo pos (starEach es X.env)).any (·.1)=false:=by rfl):
  PE X (.Call (.Name x p) (e::es) [] pos) (iR sp dvs E t):=by
 obtain⟨f,fd,ds,F,hm,hk,hb,hd⟩:=C
 exact uz F hr hg hm hk hb hd hx ha hdb he hpl
def hZ (mg:Str→Option Value)(x:Str)(v:V):Prop:=∃u,mg x=some u∧RelV v u
theorem xD {v:V}(h:hZ X.mg x v)(hg:Gl X x:=by rfl)(hd:(x==("__debug__":Str))=false:=by decide):PE X (.Name x pos) (tC v):=by
 obtain⟨u,hm,r⟩:=h
 exact mv hg hm r hd
theorem q5 {k:Nat}{A:Around}(r:Room k A):A.units+1<cLine:=by have:=r.un;lia
end
section
variable {K:PySem.W.Frag} {σ:St} {H:Hp} {Q:VK} {D:lI} {nx bk ct:St→Hp→Prop} {rt:VK}
theorem yV {i:Nat}{v:V}(h:σ[i]?=some (some v))(q:Q v H):tG i σ H Q:=⟨v,h,q⟩
theorem BX {v:V}(q:Q v H):tC v σ H Q:=q
theorem Be {r:R2}{ta tb:TE}(q:ta σ H fun x H1=>tb σ H1 fun y H2=>r x y H2 Q):sj r ta tb σ H Q:=q
theorem xJ {t:TE}{Qb:Bool→Hp→Prop}(q:t σ H fun x H'=>∃k,x= .bl k∧Qb k H'):pO t σ H Qb:=q
theorem Bz {b:Bool}{Qb:Bool→Prop}(q:Qb b):∃k,V.bl b= .bl k∧Qb k:=⟨b,rfl,q⟩
theorem zP {b:Bool}{Qb:Bool→Prop}(q:Qb b):∃k,rf K (V.bl b) H k∧Qb k:=⟨b,rfl,q⟩
theorem yP {t:TT}{Qb:Bool→Hp→Prop}(q:t σ H fun c H1=>Qb (!c) H1):vG t σ H Qb:=q
theorem yQ {t u:TT}{Qb:Bool→Hp→Prop}(q:t σ H fun c H1=>if c=true then u σ H1 Qb else Qb false H1):wF t u σ H Qb:=q
theorem Bl {t u:TT}{Qb:Bool→Hp→Prop}(q:t σ H fun c H1=>if c=true then Qb true H1 else u σ H1 Qb):Ba t u σ H Qb:=q
theorem xY {ta tb:TE}(q:ta σ H fun x H1=>∃c,x= .bl c∧if c=true then tb σ H1 Q else Q (.bl false) H1):qE ta tb σ H Q:=q
theorem vM {ta:TE}(q:ta σ H fun x H1=>∃c,x= .bl c∧Q (.bl (!c)) H1):rT ta σ H Q:=q
theorem yZ {Qa:List V→Hp→Prop}(q:Qa [] H):jn σ H Qa:=q
theorem wu {ta:TE}{tr:TA}{Qa:List V→Hp→Prop}(q:ta σ H fun x H1=>tr σ H1 fun xs H2=>Qa (x::xs) H2):lT ta tr σ H Qa:=q
theorem wU {sp:Sp}{dvs:List V}{E:XK}{t:TA}(q:t σ H fun vs H1=>sp (vs++dvs) H1 Q E):iR sp dvs E t σ H Q:=q
theorem Bt {r:List V→Hp→VK→Prop}{t:TA}(q:t σ H fun vs H1=>r vs H1 Q):vU r t σ H Q:=q
theorem Bm {r:V→Option Int→Option Int→Hp→VK→Prop}{te:TE}{tl th:TO}(q:te σ H fun x H1=>tl σ H1 fun l H2=>th σ H2 fun u H3=>r x l u H3 Q):AN r te tl th σ H Q:=q
theorem rE {Qo:Option Int→Hp→Prop}(q:Qo none H):ij σ H Qo:=q
theorem vX {t:TE}{Qo:Option Int→Hp→Prop}(q:t σ H fun x H1=>∃i,x= .int i∧Qo (some i) H1):qo t σ H Qo:=q
theorem zT {i:Int}{Qo:Int→Prop}(q:Qo i):∃j,V.int i= .int j∧Qo j:=⟨i,rfl,q⟩
theorem nJ {i j:Int}(q:Q (.int (i+j)) H):iL K (.int i) (.int j) H Q:= .inl ⟨i,j,rfl,rfl,q⟩
theorem E7 {i j:Str}(h:i.length+j.length≤sizeLine)(q:Q (.str (i++j)) H):iL K (.str i) (.str j) H Q:= .inr (.inl ⟨i,j,rfl,rfl,h,q⟩)
theorem AS {g:Int→Int→V}{i j:Int}(q:Q (g i j) H):uj g (.int i) (.int j) H Q:=⟨i,j,rfl,rfl,q⟩
theorem AK {C:Int→Int→Prop}{g:Int→Int→V}{i j:Int}(h:C i j)(q:Q (g i j) H):rI C g (.int i) (.int j) H Q:=⟨i,j,rfl,rfl,h,q⟩
theorem qg {i j:Int}(q:Q (.bl (decide (i<j))) H):zo (.int i) (.int j) H Q:= .inl ⟨i,j,rfl,rfl,q⟩
theorem iE {i j:Int}(q:Q (.bl (decide (i=j))) H):Aq (.int i) (.int j) H Q:=⟨rfl,by rw[cF];rw[show(i==j)=decide (i=j) from Bool.beq_eq_decide_eq i j];exact q⟩
theorem ja {i j:Str}(q:Q (.bl (decide (i=j))) H):Aq (.str i) (.str j) H Q:=⟨rfl,by rw[gY];rw[show(i==j)=decide (i=j) from Bool.beq_eq_decide_eq i j];exact q⟩
theorem pH {c:Nat}{j:Str}(q:Q (.bl (decide (c∈j.cps.toList))) H):ux K (sy c) (.str j) H Q:= .inl ⟨c,j,rfl,rfl,q⟩
theorem iz {c:Nat}{j:Str}(q:Q (.bl (!decide (c∈j.cps.toList))) H):aL K (sy c) (.str j) H Q:= .inl ⟨c,j,rfl,rfl,q⟩
theorem bD {y:Str}(h:y.length≤sizeLine)(q:Q (.int y.length) H):nE K [.str y] H Q:= .inl ⟨.str y,y.length,rfl,⟨h,rfl⟩,q⟩
theorem u4 {p:Addr}{xs:List V}(h:SqL K H p xs)(q:Q (.int xs.length) H):nE K [.ref p] H Q:= .inl ⟨.ref p,xs.length,rfl,.inl ⟨xs,h,rfl⟩,q⟩
theorem D2 {p:Addr}{kvs:List (h9×V)}(h:Rd H p (.dK kvs))(q:Q (.int kvs.length) H):nE K [.ref p] H Q:= .inr ⟨p,kvs,rfl,h,q⟩
theorem b5 {p:Addr}{xs:List V}{i:Int}{v:V}(h:SqL K H p xs)(e:cz xs i=some v)(q:Q v H):kI K (.ref p) (.int i) H Q:= .inl (.inl ⟨p,xs,i,v,rfl,rfl,h,e,q⟩)
theorem b9 {p:Addr}{xs:List V}{i:Int}{v:V}(h:SqT K H p xs)(e:cz xs i=some v)(q:Q v H):kI K (.ref p) (.int i) H Q:= .inl (.inr (.inl ⟨p,xs,i,v,rfl,rfl,h,e,q⟩))
theorem E9 {z:Str}{i:Int}{c:Nat}(hz:z.length≤sizeLine)(e:cz z.cps.toList i=some c)(q:Q (sy c) H):kI K (.str z) (.int i) H Q:= .inl (.inr (.inr ⟨z,i,c,rfl,rfl,hz,e,q⟩))
theorem M7 {p:Addr}{y v:V}(g:U5 H p y (some v))(q:Q v H):kI K (.ref p) y H Q:= .inr ⟨p,v,rfl,g,q⟩
theorem jh {p:Addr}{xs:List V}{lo hi:Option Int}(h:SqL K H p xs)(q:∀p,H p=none→Q (.ref p) (upd H p (.lst (bF xs lo hi)))):yN K (.ref p) lo hi H Q:= .inl ⟨p,xs,rfl,h,q⟩
theorem cT {z:Str}{lo hi:Option Int}(hz:z.length≤sizeLine)(q:Q (.str (Txt.slice z lo hi)) H):yN K (.str z) lo hi H Q:= .inr (.inr ⟨z,rfl,hz,q⟩)
theorem S4 {l b:Addr}{xs zs:List V}(h1:H l=some (.lst xs))(h2:H b=some (.lst zs))(hz:xs.length+zs.length≤sizeLine)(q:∀p,H p=none→Q (.ref p) (upd H p (.lst (xs++zs)))):iL K (.ref l) (.ref b) H Q:= .inr (.inr (.inl ⟨l,b,xs,zs,rfl,rfl,h1,h2,hz,q⟩))
theorem yR {neg:Bool}{x:V}(q:Q (.bl (if neg then !decide (x= .non) else decide (x= .non))) H):BW neg x .non H Q:=⟨.inl rfl,q⟩
theorem vc {x:V}{t T:String}(ty:BH K H x t)(hT:T="str"∨T="int"∨T="bool"∨T="list"∨T="tuple"∨T="dict")(q:Q (.bl (lJ t T)) H):uF K [x,.ty T] H Q:=⟨x,T,t,rfl,ty,hT,q⟩
theorem qb {p:Addr}{bs:List Bool}(h:SqL K H p (bs.map V.bl))(q:Q (.bl (bs.all id)) H):xS K [.ref p] H Q:=⟨p,bs,rfl,h,q⟩
theorem yx {t:TA}(q:t σ H fun xs H1=>xs.length≤sizeLine∧∀p,H1 p=none→Q (.ref p) (upd H1 p (.tup xs))):xK t σ H Q:=q
theorem yA {t:TA}(q:t σ H fun xs H1=>xs.length≤sizeLine∧∀p,H1 p=none→Q (.ref p) (upd H1 p (.lst xs))):vN t σ H Q:=q
theorem G7 {t u:TS}(q:t ⟨u ⟨nx,rt,bk,ct⟩,rt,bk,ct⟩ σ H):oJ t u ⟨nx,rt,bk,ct⟩ σ H:=q
theorem xH (q:nx σ H):qi ⟨nx,rt,bk,ct⟩ σ H:=q
theorem zM {te:TE}(q:te σ H rt):we te ⟨nx,rt,bk,ct⟩ σ H:=q
theorem wy {te:TE}(q:te σ H fun _ H1=>nx σ H1):pW te ⟨nx,rt,bk,ct⟩ σ H:=q
theorem zL {c:TT}{t u:TS}(q:c σ H fun b H1=>if b=true then t ⟨nx,rt,bk,ct⟩ σ H1 else u ⟨nx,rt,bk,ct⟩ σ H1):xI c t u ⟨nx,rt,bk,ct⟩ σ H:=q
theorem zh {te:TE}{g:TG}(q:te σ H fun x H1=>g x σ H1 nx):kz te g ⟨nx,rt,bk,ct⟩ σ H:=q
theorem vD {i:Nat}{v:V}{Qs:St→Hp→Prop}(q:Qs (σ.set i (some v)) H):M0 i v σ H Qs:=q
end
end L2
set_option Elab.async false
set_option linter.all false
set_option maxRecDepth 100000
set_option maxHeartbeats 4000000
namespace L2
open PySem PySem.Spec PyProof.Rows
section
variable {X:Cx} {pins:List (Addr×Obj)} {σ:St} {H:Hp} {s:Shared} {d:Addr} {kvs:List (h9×V)} {o:Obj}
abbrev C3 (d:Addr)(o:Obj)(kvs:List (h9×V))(H:Hp):Hp:=upd H d (.frz o (.dK kvs))
theorem Inv.freeze (I:Inv X pins σ H s)(h:H d=some (.dK kvs))(ho:s.heap.get? d=some o):Inv X pins σ (C3 d o kvs H) s:=by
 have nd:∀b u,H b=some u→u≠ .dK kvs→b≠d:=fun b u e n z=>by
  subst z;rw[h] at e;exact n (Option.some.inj e).symm
 have hok:HOk X.prog X.w (C3 d o kvs H) s.heap:=fun b u e=>by
  have st:∀{a:Addr} {u:HO},ObjOk X.prog X.w H s.heap a u→ObjOk X.prog X.w (C3 d o kvs H) s.heap a u:=fun{a u} x=>
   x.stay (fun c v _ q=>q) (fun c q=>by unfold C3;rw[b7 (nd c _ q (by intro z;cases z))];exact q) fun c xs q=>by unfold C3;rw[b7 (nd c _ q (by intro z;cases z))];exact q
  by_cases hb:b=d
  ·subst hb
   unfold C3 at e
   rw[d8] at e
   cases e
   exact⟨ho,st (I.hok _ _ h)⟩
  ·unfold C3 at e
   rw[b7 hb] at e
   exact st (I.hok b u e)
 have q:=I.un (H':=C3 d o kvs H) (h':=s.heap) (t':=s.toks) ⟨fun b o e n hb hx=>e,fun b o e n hb hx=>⟨o.slots,e⟩,fun b o e n hx=>by
  unfold C3;rw[b7 (fun z=>by subst z;rw[h] at n;cases n)];exact n,fun b o e _=>⟨o,e⟩,fun b xs e=>by unfold C3;rw[b7 (nd b _ e (by intro z;cases z))];exact e,
  fun b o u e=>by unfold C3;rw[b7 (nd b _ e (by intro z;cases z))];exact e,fun b ps e=>⟨#[],by unfold C3;rw[b7 (nd b _ e (by intro z;cases z))];simpa using e⟩⟩ hok
 exact q
def zD:Option HO→Option HO
 |some (.frz _ u)=>some u
 |o=>o
def thaw (d:Addr)(H:Hp):Hp:=fun b=>if b=d then zD (H d) else H b
theorem N5 {b:Addr}(h:b≠d):thaw d H b=H b:=by unfold thaw;rw[if_neg h]
theorem gA {u:HO}(h:H d=some (.frz o u)):thaw d H d=some u:=by unfold thaw;rw[if_pos rfl,h];rfl
theorem qO {u:HO}(h:H d=some (.frz o u)):thaw d H=upd H d u:=by
 funext b
 by_cases hb:b=d
 ·subst hb;rw[gA h,d8]
 ·rw[N5 hb,b7 hb]
theorem mz (h:∀o u,H d≠some (.frz o u)):thaw d H=H:=by
 funext b
 by_cases hb:b=d
 ·subst hb
  unfold thaw
  rw[if_pos rfl]
  cases q:H b with
  |none=>rfl
  |some u=>cases u with
   |frz o u=>exact absurd q (h o u)
   |_=>rfl
 ·exact N5 hb
def uS (X:Cx)(th:Hp→Hp):Prop:=∀(pins:List (Addr×Obj)) (σ:St) (H:Hp) (s:Shared),Inv X pins σ H s→Inv X pins σ (th H) s
theorem cG:uS X id:=fun _ _ _ _ I=>I
theorem oi (hn:∀o u,X.H₀ d≠some (.frz o u)):uS X (thaw d):=fun pins σ H s I=>by
 by_cases hf:∃o u,H d=some (.frz o u)
 ·obtain⟨o,u,h⟩:=hf
  rw[qO h]
  have nd:∀b v,H b=some v→v≠ .frz o u→b≠d:=fun b v e n z=>by
   subst z;rw[h] at e;exact n (Option.some.inj e).symm
  have nn:∀b,H b=none→b≠d:=fun b e z=>by subst z;rw[h] at e;cases e
  have st:∀{a:Addr} {v:HO},ObjOk X.prog X.w H s.heap a v→ObjOk X.prog X.w (upd H d u) s.heap a v:=fun{a v} x=>
   x.stay (fun c v _ q=>q) (fun c q=>by rw[b7 (nd c _ q (by intro z;cases z))];exact q) fun c xs q=>by rw[b7 (nd c _ q (by intro z;cases z))];exact q
  refine⟨I.ok,I.os,I.bare,⟨I.base.keep,I.base.slot,fun b ob e n hx=>?_,I.base.there,fun b xs e=>?_,fun b ob v e=>?_,fun b ps e=>?_⟩,I.loc,I.cell,?_,fun x c e=>?_,fun p hp=>?_,fun b v e=>?_,I.len⟩
  ·have q:=I.base.free b ob e n hx
   rw[b7 (nn b q)];exact q
  ·have q:=I.base.tups b xs e
   rw[b7 (nd b _ q (by intro z;cases z))];exact q
  ·have q:=I.base.frzs b ob v e
   rw[b7 (fun z=>by subst z;exact hn ob v e)];exact q
  ·obtain⟨m,q⟩:=I.base.tbls b ps e
   exact⟨m,by rw[b7 (nd b _ q (by intro z;cases z))];exact q⟩
  ·rw[b7 (nn _ I.free)];exact I.free
  ·have q:=I.freeC x c e
   rw[b7 (nn _ q)];exact q
  ·obtain⟨a1,a2,a3⟩:=I.pin p hp
   exact⟨a1,by rw[b7 (nn _ a2)];exact a2,a3⟩
  ·by_cases hb:b=d
   ·subst hb
    rw[d8] at e
    cases e
    exact st (I.hok _ _ h).2
   ·rw[b7 hb] at e
    exact st (I.hok b v e)
 ·rw[mz fun o u e=>hf ⟨o,u,e⟩];exact I
theorem Same.thaw {H H':Hp}(h:H d=some (.dK kvs))(e:Same (C3 d o kvs H) H'):Same H (thaw d H'):=fun b u q=>by
 by_cases hb:b=d
 ·subst hb
  rw[h] at q;cases q
  have z:=e b _ (show C3 b o kvs H b=some _ from d8)
  exact gA z
 ·rw[N5 hb]
  exact e b u (by unfold C3;rw[b7 hb];exact q)
end
abbrev jz:=St→Hp→(It→(Hp→Hp)→Hp→Prop)→Prop
def sJ (X:Cx)(tg iter:Expr)(wi:jz):Prop:=
 ∀(pins:List (Addr×Obj)) (s:Shared) (σ:St) (H:Hp) (R:It→(Hp→Hp)→Hp→Prop),Inv X pins σ H s→wi σ H R→
  wpAny (model X.prog X.w) X.A (eval iter X.env) (fun v s1=>wpAny (model X.prog X.w) X.A (pyIter v) (Am X pins σ tg fun J H'=>∃th,uS X th∧R J th H') X.xe s1) X.xe s
theorem PI.two {X:Cx}{tg iter:Expr}{wi:TI}(h:PI X tg iter wi):sJ X tg iter (fun σ H R=>wi σ H fun J H'=>R J id H'):=by
 intro pins s σ H R I q
 refine B7 (h pins s σ H _ I q) fun v s1 h1=>B7 h1 fun itv s2 h2=>?_
 obtain⟨it,fp,tn,J,H',e,I',T,st,f,q⟩:=h2
 exact⟨it,fp,tn,J,H',e,I',T,st,f,id,cG,q⟩
def uK (J:It)(th:Hp→Hp)(g:TG)(tb:TS)(nx:St→Hp→Prop)(rt:VK)(σ:St)(H1:Hp):Prop:=∃W:Nat→Nat→St→Hp→Prop,(∃m,W 0 m σ H1)∧∀i m σ H,W i m σ H→
 (J.stop i H∧nx σ (th H))∨(J.go i H∧∃N:St→Hp→Prop,(∀σ' H',N σ' H'→∃m',m'<m∧W (i+1) m' σ' H')∧∀x H',J.yld i H x H'→g x σ H' fun σ2 H2=>tb ⟨N,fun v H=>rt v (th H),fun σ H=>nx σ (th H),N⟩ σ2 H2)
def qP (wi:jz)(g:TG)(tb:TS):TS:=fun D σ H=>wi σ H fun J th H1=>uK J th g tb D.nx D.rt σ H1
theorem uk {X:Cx}{tg iter:Expr}{body:List Stmt}{wi:jz}{g:TG}{tb:TS}{pos:Pos}(hp:PassesOwn (model X.prog X.w) X.A X.env X.xe)(hc:X.calm=true)(hi:sJ X tg iter wi)(hg:PG X tg g)(hb:PSs X body tb)
  (hs:∀x,foldedSetIterable iter X.env x=pure x:=by intro _;rfl):PS X (.For tg iter body [] pos) (qP wi g tb):=by
 intro pins s σ H D I h
 refine wpAny_For (B7 (hi pins s σ H _ I h) fun v s1 h1=>B7 h1 fun itv s2 h2=>?_) hs
 obtain⟨it,fp,tn,J,H2,e,I2,T,st2,f2,th,hth,W,⟨m0,w0⟩,turn⟩:=h2
 subst e
 have stat:∀{H':Hp},(∀b∈fp,H' b=none)→∀b∈fp,ay X pins H' b:=fun hn b hb=>⟨hn b hb,(f2 b hb).2⟩
 refine codeAny_forLoop_any (fun n s'=>∃i σ' H',Inv X pins σ' H' s'∧tn i s'.heap∧(∀b∈fp,H' b=none)∧W i n σ' H') ?_ m0 ⟨0,σ,H2,I2,st2,fun b hb=>(f2 b hb).1,w0⟩
 rintro n s3 ⟨i,σ3,H3,I3,st3,fr3,w3⟩
 rcases turn i n σ3 H3 w3 with⟨stop,qn⟩|⟨go,N,hN,step⟩
 ·refine wpAny_passesOwn hp (B7 (T.done X rfl rfl rfl hc i pins s3 σ3 H3 X.xe I3 (stat fr3) st3 stop) fun r s4 ⟨hr,I4⟩=>?_)
  subst hr
  exact wpAny_execs_nil ⟨σ3,th H3,hth _ _ _ _ I4,qn⟩
 ·refine wpAny_passesOwn hp (B7 (T.item X rfl rfl rfl hc i pins s3 σ3 H3 X.xe I3 (stat fr3) st3 go) fun r s4 ⟨u,hr,h4⟩=>?_)
  subst hr
  refine wpAny_passesOwn hp (B7 h4 fun _ s5 ⟨x,H5,I5,r5,y5,st5,fr5⟩=>?_)
  have I5':=I5.pinned (stat fr5) (T.obj _ _ st5)
  refine wpAny_passesOwn hp (B7 (hg _ s5 σ3 H5 x u _ I5' r5 (step x H5 y5)) fun _ s6 ⟨σ6,H6,I6,q6⟩=>?_)
  refine wpAny_passesOwn hp (B7 (hb _ s6 σ6 H6 _ I6 q6) fun f s7 q7=>?_)
  have again:∀{σ7:St} {H7:Hp},Inv X (pins++dz fp s5.heap) σ7 H7 s7→N σ7 H7→∃m,m<n∧∃i σ' H',Inv X pins σ' H' s7∧tn i s7.heap∧(∀b∈fp,H' b=none)∧W i m σ' H':=fun{σ7 H7} I7 n7=>by
   obtain⟨m',hm,w7⟩:=hN σ7 H7 n7
   refine⟨m',hm,i+1,σ7,H7,I7.unpinned,T.keep _ _ _ st5 fun b hb o e=>(I7.pin (b,o) (List.mem_append_right _ (List.mem_append_right _ (P0 hb e)))).1,fun b hb=>?_,w7⟩
   obtain⟨o,e,d⟩:=T.obj _ _ st5 b hb
   exact(I7.pin (b,o) (List.mem_append_right _ (List.mem_append_right _ (P0 hb e)))).2.1
  cases f with
  |next=>obtain⟨σ7,H7,I7,n7⟩:=q7;exact again I7 n7
  |cont=>obtain⟨σ7,H7,I7,n7⟩:=q7;exact again I7 n7
  |brk=>obtain⟨σ7,H7,I7,q7⟩:=q7;exact⟨σ7,th H7,hth _ _ _ _ I7.unpinned,q7⟩
  |ret v=>obtain⟨x7,σ7,H7,I7,r7,q7⟩:=q7;exact⟨x7,σ7,th H7,hth _ _ _ _ I7.unpinned,r7,q7⟩
def mr (own:List Str)(js:List Nat)(J:It)(th:Hp→Hp)(g:TG)(ti:TT)(te:TE)(Q:VK)(σ:St)(H1:Hp):Prop:=∃W:Nat→Nat→List V→Hp→Prop,(∃m,W 0 m [] H1)∧∀i m out H,W i m out H→
 (J.stop i H∧∀D,H D=none→out.length≤sizeLine∧Q (.ref D) (th (upd H D (.lst out))))∨
 (J.go i H∧∀x H',J.yld i H x H'→g x (pG own js σ) H' fun σ2 H2=>σ2.drop own.length=js.map (fun j=>(σ[j]?).join)∧ti σ2 H2 fun b H3=>
  if b=true then te σ2 H3 fun v H4=>out.length≤sizeLine∧∃m',m'<m∧W (i+1) m' (out++[v]) H4 else ∃m',m'<m∧W (i+1) m' out H3)
def ee (own:List Str)(js:List Nat)(wi:jz)(g:TG)(ti:TT)(te:TE):TE:=fun σ H Q=>wi σ H fun J th H1=>mr own js J th g ti te Q σ H1
def uQ:TT:=fun _ H Q=>Q true H
theorem zF {X:Cx}:kD X [] uQ:=Bx
theorem oN {X:Cx}{own:List Str}{js:List Nat}{scope:Scope}{tg iter elt:Expr}{ifs:List Expr}{pos:Pos}{g:TG}{ti:TT}{te:TE}{wi:jz}(S:yi X own js scope=true)(hc:X.calm=true)(hit:sJ X tg iter wi)
  (hg:∀C s H fp,PG (X9 X own js scope C s H fp) tg g) (hi:∀C s H fp,kD (X9 X own js scope C s H fp) ifs ti) (he:∀C s H fp,PE (X9 X own js scope C s H fp) elt te)
  (hs:∀x,foldedSetIterable iter X.env x=pure x:=by intro _;rfl):
  PE X (.ListComp elt [⟨tg,iter,ifs,0⟩] scope pos) (ee own js wi g ti te):=by
 have SB:=rY S
 intro pins s σ H Q I h
 rw[eval_ListComp]
 refine wpAny_comprehension_free (use:=none) rfl hs (dH (SB.cells I)) SB.kind SB.names (B7 (hit pins s σ H _ I h) fun v s1 h1=>B7 h1 fun itv s2 h2=>?_)
 obtain⟨it,fp,tn,J,H2,e,I2,T,st2,f2,th,hth,W,⟨m0,w0⟩,turn⟩:=h2
 subst e
 refine wpAny_newObj_type (wpAny_newFunctionEnv SB.nocell (by intro y hy;simp at hy) (fun h₁ hns₁ hsb₁=>?_) SB.kind)
 dsimp only at hns₁ hsb₁⊢
 generalize hH2:s2.heap.push {cls:= .type "list",dict:=none,data:= .seq ([]:List Value).toArray}=G2 at hns₁ hsb₁⊢
 have hCs:G2.objs.size=s2.heap.objs.size+1:=by rw[←hH2,Heap.size_push]
 have hDC:s2.heap.objs.size≠G2.objs.size:=by rw[hCs];exact Nat.ne_of_lt (Nat.lt_succ_self _)
 have hC:s2.heap.objs.size≤G2.objs.size:=by rw[hCs];exact Nat.le_succ _
 have old:∀b o,s2.heap.get? b=some o→h₁.get? b=some o:=fun b o e=>
  hsb₁.extBut b o (Nat.ne_of_lt (Nat.lt_of_lt_of_le (Heap.lt_size e) hC)) (Heap.get?_push_of_some _ (hH2▸Heap.get?_push_of_some _ e))
 have hob:∀b∈fp,∃o,s2.heap.get? b=some o:=fun b hb=>let ⟨o,e,_⟩:=T.obj _ _ st2 b hb;⟨o,e⟩
 have hacc:h₁.get? s2.heap.objs.size=some {cls:= .type "list",data:= .seq ([]:List Value).toArray}:=
  hsb₁.extBut _ _ hDC (Heap.get?_push_of_some _ (hH2▸Heap.get?_push_size _ rfl))
 have loop:∀s3:Shared,s3={s2 with heap:=h₁,toks:=s2.toks+([]:List (Str×Value)).length}→
   codeAny (model X.prog X.w) X.A (.compLoop (.ListComp elt [⟨tg,iter,ifs,0⟩] scope pos) 0 (.ref it) (.ref s2.heap.objs.size) (compEnvC scope (cw scope X.env) G2.objs.size X.env))
    (compPost (model X.prog X.w) X.A X.xe none (EP X pins σ Q) (.ref s2.heap.objs.size) G2.objs.size) s3:=by
  rintro s3 rfl
  refine fK (K:=fun out H'=>Q (.ref s2.heap.objs.size) (th (upd H' s2.heap.objs.size (.lst out)))) SB hc T I2 f2 (Nat.le_refl _) hC hDC hob (hg _ _ _ _) (hi _ _ _ _) (he _ _ _ _) W (fun i m out H' w=>?_) (fun out H' s' B hl k=>?_) w0
   ⟨Inv.block SB I2 f2 hob hC hns₁ old,I2.hok.fresh (Nat.le_refl _),[],_,.nil,hacc⟩ (T.keep _ _ _ st2 fun b _ o e=>old b o e) (fun b hb=>(f2 b hb).1)
  ·rcases turn i m out H' w with⟨a,b⟩|c
   ·exact .inl ⟨a,fun n=>b _ n⟩
   ·exact .inr c
  ·obtain⟨mm,hn,_⟩:=B.inv.loc
   exact⟨mm,hn,fun h' sb=>⟨.ref s2.heap.objs.size,_,hth _ _ _ _ (B.out I2 f2 (Nat.le_refl _) hC hDC hl sb),rfl,k⟩⟩
 exact codeAny_compStart_list (loop _ rfl) (T.self _ 0 _ _ _ (T.keep _ _ _ st2 fun b _ o e=>old b o e) (loop _ rfl))
theorem O4 {α β : Type} {F : α → β → Prop} : ∀ {l₁ : List α} {l₂ : List β} {i : Nat} {a : α}, Paired F l₁ l₂ → l₁[i]? = some a → ∃ b, l₂[i]? = some b ∧ F a b
 := by
  intro l₁ l₂ i a hp e
  induction hp generalizing i with
  | nil => cases e
  | cons r _ ih => cases i with
    | zero => cases e; exact ⟨_, rfl, r⟩
    | succ i => exact ih e
section
variable {P:Program} {w:World}
theorem cD {k:h9}{v:Value}(h:(i8 P w).is k v=true):RelV (kV k) v:=by
 rcases o3 (show X5 k v=true from h) with⟨i,t,rfl,rfl⟩|⟨x,t,rfl,rfl⟩
 ·exact⟨t,rfl⟩
 ·exact⟨t,rfl⟩
theorem qH {k:h9}{v:Value}(h:(i8 P w).is k v=true):∀a,v≠ .ref a:=by
 rcases o3 (show X5 k v=true from h) with⟨i,t,rfl,rfl⟩|⟨x,t,rfl,rfl⟩<;>exact fun a z=>by cases z
structure rB (P:Program) (w:World) (d:Addr) (o:Obj) (kvs:List (h9×V)) (vs:List (h9×Value)) (ep:Nat):Prop where
 kv:KV kvs vs
 at_:∀h:Heap,h.get? d=some o→h.DictAt (i8 P w) d vs ep
 nd:(kvs.map (·.1)).Nodup
theorem aF {H:Hp}{h:Heap}{d:Addr}{kvs:List (h9×V)}(ok:HOk P w H h)(e:Rd H d (.dK kvs)):(d==sysModules)=false∧∃o vs ep,h.get? d=some o∧rB P w d o kvs vs ep:=by
 obtain⟨z,hd,vs,rel,o,es,ep,h1,r⟩:=C1 ok e
 refine⟨hd,o,vs,ep,h1,rel,fun h' e'=>⟨o,es,e',r⟩,?_⟩
 rw[KV.keys rel]
 exact r.2.2.2.2
def Ar (d:Addr)(o:Obj)(kvs:List (h9×V))(f:h9×V→V):It:=
 ⟨fun i H=>H d=some (.frz o (.dK kvs))∧i<kvs.length,fun i H x H'=>H'=H∧∃kv,kvs[i]?=some kv∧x=f kv,fun i H=>H d=some (.frz o (.dK kvs))∧kvs.length≤i⟩
theorem oM {K:PySem.W.Frag}{tg:Expr}{d:Addr}{o:Obj}{kvs:List (h9×V)}{vs:List (h9×Value)}{ep:Nat}(D:rB P w d o kvs vs ep)(it:Addr):
  aU P w K tg (Ar d o kvs fun kv=>kV kv.1) [it] it (fun i h=>h.IsKeyIter it d i vs.length ep) where
 mem:=by simp
 obj:=fun i h st b hb=>by
  have e:b=it:=by simpa using hb
  subst e
  obtain⟨o,e,c,dd⟩:=st
  exact⟨o,e,fun v z=>by rw[dd] at z;cases z⟩
 keep:=fun i h h' st k=>st.at fun o e=>k it (by simp) o e
 item:=by
  intro X hP hw hK hc i pins s σ H E I hf st hg
  subst hP hw hK
  obtain⟨hfz,hi⟩:=hg
  obtain⟨f0,f1,f2,f3,f4,f5⟩:=hf it (by simp)
  have dat:=D.at_ s.heap (I.hok d _ hfz).1
  have hl:=KV.length D.kv
  obtain⟨kv,hkv⟩:∃kv,kvs[i]?=some kv:=⟨kvs[i],by simp [hi]⟩
  obtain⟨⟨k,x⟩,hx⟩:∃p,vs[i]?=some p:=⟨vs[i]'(by lia),by simp [show i<vs.length by lia]⟩
  have hkk:kv.1=k:=by
   have e1:(kvs.map (·.1))[i]?=some kv.1:=by rw[List.getElem?_map,hkv];rfl
   rw[KV.keys D.kv,List.getElem?_map,hx] at e1
   exact(Option.some.inj e1).symm
  refine wpAny_pyNext_dict_item st dat hx fun key h' hkey hit' hs'=>?_
  have I1:Inv X pins σ H {s with heap:=h'}:=I.turned (t':=s.toks) (fun b o hb e=>hs'.extBut b o hb e) f0 f1 f3 f4 f5
  exact⟨key,rfl,lM (qH hkey) ⟨kV kv.1,H,I1,by rw[hkk];exact cD hkey,⟨rfl,kv,hkv,rfl⟩,hit',fun b hb=>(hf b hb).1⟩⟩
 done:=by
  intro X hP hw hK hc i pins s σ H E I hf st hg
  subst hP hw hK
  obtain⟨hfz,hi⟩:=hg
  obtain⟨f0,f1,f2,f3,f4,f5⟩:=hf it (by simp)
  have dat:=D.at_ s.heap (I.hok d _ hfz).1
  have hl:=KV.length D.kv
  exact wpAny_pyNext_dict_end (I.ok.hd hc) st dat (by simp;lia) fun h' eb=>⟨rfl,I.turned (t':=s.toks) (fun b o hb e=>eb b o hb e) f0 f1 f3 f4 f5⟩
 self:=fun _ _ _ _ _ st h=>wpAny_pyIter_keyiter st h
end
section
variable {X:Cx} {tg:Expr}
def rIterD (mk:Addr→Obj→List (h9×V)→It)(v:V)(H:Hp)(R:It→(Hp→Hp)→Hp→Prop):Prop:=
 ∃d kvs,v= .ref d∧((H d=some (.dK kvs)∧((kvs.map (·.1)).Nodup→∀o,R (mk d o kvs) (thaw d) (C3 d o kvs H)))∨(∃o,H d=some (.frz o (.dK kvs))∧((kvs.map (·.1)).Nodup→R (mk d o kvs) id H)))
theorem rIterD.go {mk:Addr→Obj→List (h9×V)→It}{x:V}{u:Value}{pins:List (Addr×Obj)}{σ:St}{H:Hp}{s:Shared}{R:It→(Hp→Hp)→Hp→Prop}(I:Inv X pins σ H s)(r:RelV x u)(h:rIterD mk x H R):
  ∃d kvs o vs ep th H',u= .ref d∧(d==sysModules)=false∧s.heap.get? d=some o∧rB X.prog X.w d o kvs vs ep∧Inv X pins σ H' s∧uS X th∧R (mk d o kvs) th H':=by
 obtain⟨d,kvs,e,h⟩:=h
 subst e
 cases r
 rcases h with⟨h,q⟩|⟨o,h,q⟩
 ·obtain⟨hd,o,vs,ep,ho,D⟩:=aF I.hok (.inl h)
  refine⟨d,kvs,o,vs,ep,thaw d,_,rfl,hd,ho,D,I.freeze h ho,oi fun ob v z=>?_,q D.nd o⟩
  have z':=I.base.frzs d ob v z
  rw[h] at z';cases z'
 ·obtain⟨hd,o',vs,ep,ho,D⟩:=aF I.hok (.inr ⟨o,h⟩)
  have e:=(I.hok d _ h).1
  rw[ho] at e;cases e
  exact⟨d,kvs,_,vs,ep,id,H,rfl,hd,ho,D,I,cG,q D.nd⟩
theorem rIter.mono {K:PySem.W.Frag}{v:V}{H:Hp}{R R':It→Hp→Prop}(h:rIter K v H R)(k:∀J H,R J H→R' J H):rIter K v H R':=by
 rcases h with⟨a,e,hq,q⟩|⟨a,e,hq,q⟩|⟨x,e,q⟩
 ·exact .inl ⟨a,e,hq,k _ _ q⟩
 ·exact .inr (.inl ⟨a,e,hq,k _ _ q⟩)
 ·exact .inr (.inr ⟨x,e,k _ _ q⟩)
abbrev BS (d:Addr)(o:Obj)(kvs:List (h9×V)):It:=Ar d o kvs fun kv=>kV kv.1
def rH (K:PySem.W.Frag)(v:V)(H:Hp)(R:It→(Hp→Hp)→Hp→Prop):Prop:=rIter K v H (fun J H'=>R J id H')∨rIterD BS v H R
def An (K:PySem.W.Frag)(tl:TE):jz:=fun σ H R=>tl σ H fun v H1=>rH K v H1 R
theorem yY {l:Expr}{tl:TE}(hl:PE X l tl):sJ X tg l (An X.K tl):=by
 intro pins s σ H R I h
 refine B7 (hl pins s σ H _ I h) fun v s1 ⟨x,H1,I1,r1,q1⟩=>?_
 rcases q1 with q1|q1
 ·exact rM I1 r1 (q1.mono fun J H' q=>⟨id,cG,q⟩)
 ·obtain⟨d,kvs,o,vs,ep,th,H',rfl,hd,ho,D,I2,hth,q⟩:=rIterD.go I1 r1 q1
  refine wpAny_pyIter_dict hd (D.at_ _ ho) ?_
  refine⟨s1.heap.objs.size,[s1.heap.objs.size],_,_,H',rfl,I2.kept (t':=s1.toks) fun b o e=>Heap.get?_push_of_some _ e,oM D _,⟨_,Heap.get?_push_size _ rfl,rfl,rfl⟩,fun b hb=>?_,th,hth,q⟩
  have e:b=s1.heap.objs.size:=by simpa using hb
  subst e
  exact I2.fpOk (Nat.le_refl _) (I2.hok.fresh (Nat.le_refl _))
end
end L2
set_option Elab.async false
set_option linter.all false
set_option maxRecDepth 100000
set_option maxHeartbeats 4000000
namespace L2
open PySem PySem.Spec PyProof.Rows
section
variable {J:It} {th:Hp→Hp} {n:Nat} {g:TG} {tb:TS} {nx bk ct:St→Hp→Prop} {rt:VK} {σ:St} {H:Hp} {own:List Str} {js:List Nat} {ti:TT} {te:TE} {Q:VK} {K:PySem.W.Frag}
theorem C7 (Pv:Nat→St→Hp→Prop)(h0:Pv 0 σ H)(hgo:∀i σ H,i<n→Pv i σ H→J.go i H)
  (hs:∀i x σ H H',i<n→Pv i σ H→J.yld i H x H'→g x σ H' fun σ2 H2=>tb ⟨Pv (i+1),fun v H=>rt v (th H),fun σ H=>nx σ (th H),Pv (i+1)⟩ σ2 H2)
  (hd:∀σ H,Pv n σ H→J.stop n H∧nx σ (th H)):
  uK J th g tb nx rt σ H:=by
 refine⟨fun i m σ H=>m=n -i∧i≤n∧Pv i σ H,⟨n,by simp,Nat.zero_le _,h0⟩,?_⟩
 rintro i m σ H ⟨rfl,hi,p⟩
 by_cases hlt:i<n
 ·exact .inr ⟨hgo i σ H hlt p,Pv (i+1),fun σ' H' p'=>⟨n -(i+1),by lia,rfl,hlt,p'⟩,fun x H' y=>hs i x σ H H' hlt p y⟩
 ·have e:i=n:=by lia
  subst e
  exact .inl (hd σ H p)
theorem u6 (Pv:Nat→List V→Hp→Prop)(h0:Pv 0 [] H)(hgo:∀i out H,i<n→Pv i out H→J.go i H)
  (hs:∀(N:List V→Hp→Prop) i x out H H',i<n→Pv i out H→J.yld i H x H'→(∀out' H',Pv (i+1) out' H'→N out' H')→g x (pG own js σ) H' fun σ2 H2=>σ2.drop own.length=js.map (fun j=>(σ[j]?).join)∧ti σ2 H2 fun b H3=>
   if b=true then te σ2 H3 fun v H4=>out.length≤sizeLine∧N (out++[v]) H4 else N out H3)
  (hd:∀out H,Pv n out H→J.stop n H∧∀D,H D=none→out.length≤sizeLine∧Q (.ref D) (th (upd H D (.lst out)))):
  mr own js J th g ti te Q σ H:=by
 refine⟨fun i m out H=>m=n -i∧i≤n∧Pv i out H,⟨n,by simp,Nat.zero_le _,h0⟩,?_⟩
 rintro i m out H ⟨rfl,hi,p⟩
 by_cases hlt:i<n
 ·exact .inr ⟨hgo i out H hlt p,fun x H' y=>hs (fun out' H'=>∃m',m'<n -i∧m'=n -(i+1)∧i+1≤n∧Pv (i+1) out' H') i x out H H' hlt p y fun out' H' q=>⟨n -(i+1),by lia,rfl,hlt,q⟩⟩
 ·have e:i=n:=by lia
  subst e
  exact .inl (hd out H p)
theorem yn {wi:jz}(q:wi σ H fun J th H1=>uK J th g tb nx rt σ H1):qP wi g tb ⟨nx,rt,bk,ct⟩ σ H:=q
theorem xh {wi:jz}(q:wi σ H fun J th H1=>mr own js J th g ti te Q σ H1):ee own js wi g ti te σ H Q:=q
theorem yz {Qb:Bool→Hp→Prop}(q:Qb true H):uQ σ H Qb:=q
theorem Bb {tl:TE}{R:It→(Hp→Hp)→Hp→Prop}(q:tl σ H fun v H1=>rH K v H1 R):An K tl σ H R:=q
theorem iC {x:Str}{R:It→(Hp→Hp)→Hp→Prop}(q:R (Its x) id H):rH K (.str x) H R:= .inl (.inr (.inr ⟨x,rfl,q⟩))
theorem A7 {a:Addr}{xs:List V}{R:It→(Hp→Hp)→Hp→Prop}(h:SqL K H a xs)(q:R (Itl K a) id H):rH K (.ref a) H R:= .inl (.inl ⟨a,rfl,⟨xs,h⟩,q⟩)
theorem jy {d:Addr}{kvs:List (h9×V)}{R:It→(Hp→Hp)→Hp→Prop}(h:H d=some (.dK kvs))(q:(kvs.map (·.1)).Nodup→∀o,R (BS d o kvs) (thaw d) (C3 d o kvs H)):rH K (.ref d) H R:=
 .inr ⟨d,kvs,rfl,.inl ⟨h,q⟩⟩
theorem vV {ta:TA}{R:It→Hp→Prop}(q:ta σ H fun vs H1=>∃j:Int,vs=[.int j]∧-(2 ^ 62)≤j∧j<2 ^ 62∧R (yX 0 j.toNat) H1):qQ ta σ H R:=q
theorem z8 {i:Int}{R:Int→Prop}(h0:0≤i)(h1:i<1000000)(q:R i):∃j:Int,[V.int i]=[.int j]∧-(2 ^ 62)≤j∧j<2 ^ 62∧R j:=⟨i,rfl,by lia,by lia,q⟩
theorem z6 {p:Prop}[Decidable p]{A B:Prop}(h1:p→A)(h2:¬p→B):if decide p=true then A else B:=by
 by_cases h:p
 ·rw[if_pos (decide_eq_true h)];exact h1 h
 ·rw[if_neg (by simp [h])];exact h2 h
theorem jR {p:Prop}[Decidable p]{A B:Prop}(h1:¬p→A)(h2:p→B):if(!decide p)=true then A else B:=by
 by_cases h:p
 ·rw[if_neg (by simp [h])];exact h2 h
 ·rw[if_pos (by simp [h])];exact h1 h
theorem wc {b:Bool}{A B:Prop}(h1:b=true→A)(h2:b=false→B):if b=true then A else B:=by
 cases b with
 |true=>rw[if_pos rfl];exact h1 rfl
 |false=>rw[if_neg Bool.false_ne_true];exact h2 rfl
theorem tZ {b:Bool}{A B:Prop}(h1:b=false→A)(h2:b=true→B):if(!b)=true then A else B:=by
 cases b with
 |true=>rw[if_neg (by simp)];exact h2 rfl
 |false=>rw[if_pos (by simp)];exact h1 rfl
theorem Aa {A B:Prop}(h:A):if(!false)=true then A else B:=by rw[if_pos (by rfl)];exact h
theorem zG {A B:Prop}(h:B):if(!true)=true then A else B:=by rw[if_neg (by decide)];exact h
theorem yH {t u:TS}(P:St→Hp→Prop)(h1:∀σ H,P σ H→u ⟨nx,rt,bk,ct⟩ σ H)(h2:∀nx':St→Hp→Prop,(∀σ H,P σ H→nx' σ H)→t ⟨nx',rt,bk,ct⟩ σ H):oJ t u ⟨nx,rt,bk,ct⟩ σ H:=h2 _ h1
theorem b4 {o:HO}{p:Addr}(hp:H p=none):∃H',upd H p o=H'∧H' p=some o∧Same H H'∧∀b,b≠p→H' b=H b:=⟨_,rfl,d8,fun b u e=>by rw[b7 (c9 e hp)];exact e,fun b hb=>b7 hb⟩
theorem aZ {α:Type}{xs:List α}{i:Int}(h0:0≤i)(h1:i<xs.length):∃v,cz xs i=some v∧xs[i.toNat]?=some v:=by
 obtain⟨j,rfl⟩:=Int.eq_ofNat_of_zero_le h0
 have hj:j<xs.length:=by lia
 exact⟨xs[j],b6 (by simp [hj]),by simp [hj]⟩
theorem tF (x y:Str):(x++y).length=x.length+y.length:=by
 show(x.cps++y.cps).size=_
 simp [Str.length]
theorem ak (c:Nat):(⟨#[c]⟩:Str).length=1:=rfl
theorem kg (x:Str):x.length=x.cps.toList.length:=by simp [Str.length]
theorem c8 {n:Nat}(h:n≤1000):n≤sizeLine:=Nat.le_trans h (by decide)
theorem Same.rd {H H':Hp}{a:Addr}{u:HO}(s:Same H H')(h:Rd H a u):Rd H' a u:=by
 rcases h with h|⟨o,h⟩
 ·exact .inl (s _ _ h)
 ·exact .inr ⟨o,s _ _ h⟩
theorem Same.tup {H H':Hp}{a:Addr}{xs:List V}(s:Same H H')(h:SqT K H a xs):SqT K H' a xs:=by
 rcases h with h|h
 ·exact .inl (s.rd h)
 ·exact .inr h
theorem Its.lt {x:Str}{i:Nat}{H H':Hp}{v:V}(h:(Its x).yld i H v H'):H'=H∧∃c,x.cps.toList[i]?=some c∧v=sy c:=by
 obtain⟨e,c,hc,hv⟩:=h
 exact⟨e,c,by simpa using hc,hv⟩
theorem Itl.get {a:Addr}{xs:List V}{i:Nat}{H H':Hp}{v:V}(h:(Itl K a).yld i H v H')(hx:SqL K H a xs):H'=H∧xs[i]?=some v:=⟨h.1,h.2 xs hx⟩
theorem W7 {α β:Type}{l:List α}{i:Nat}{a:α}(f:α→β)(h:l[i]?=some a):(l.take i).map f++[f a]=(l.take (i+1)).map f:=by
 rw[List.take_succ,h];simp
end
end L2
set_option Elab.async false
set_option linter.all false
set_option maxRecDepth 100000
set_option maxHeartbeats 4000000
namespace L2
open PySem PySem.Spec PyProof.Rows
section
variable {X:Cx} (K:PySem.W.Frag) {a e:Expr} {ta te:TE} {tg:Expr} {pos:Pos}
theorem u9 (h:X.K=K:=by rfl):OpR X (binaryOp .Add) (iL K):=h▸tL
theorem kIn (hu:X.A.units+1<cLine)(h:X.K=K:=by rfl):OpR X (compareOp .In) (ux K):=h▸wV hu
theorem gk (hu:X.A.units+1<cLine)(h:X.K=K:=by rfl):OpR X (compareOp .NotIn) (aL K):=h▸oB hu
theorem j3 (hu:X.A.units+1<cLine)(h:X.K=K:=by rfl):IxR X (kI K):=h▸xX hu
theorem ye (h:X.K=K:=by rfl):SlR X (yN K):=h▸xw
theorem vY (hc:X.calm=true)(h:X.K=K:=by rfl):CallR X (.builtin "all") (xS K):=h▸oE hc
theorem AJ (hc:X.calm=true)(h:X.K=K:=by rfl):CallR X (.builtin "any") (yv K):=h▸oX hc
def xf (ta:TE):TT:=fun σ H Q=>ta σ H fun x H'=>∃k,rf K x H' k∧Q k H'
theorem Bu (ha:PE X a ta)(h:X.K=K:=by rfl)(he:∀whole,isTrue a X.env whole=(do let v←whole;standAt a.pos;holding [v] (truthy v)):=by intro _;rfl):PT X a (xf K ta):=h▸rn ha he
theorem wW {σ:St}{H:Hp}{Qb:Bool→Hp→Prop}(q:ta σ H fun x H'=>∃k,rf K x H' k∧Qb k H'):xf K ta σ H Qb:=q
theorem CD (hl:PE X a ta)(h:X.K=K:=by rfl):sJ X tg a (An K ta):=h▸yY hl
theorem AO {es:List Expr}{k:Nat}{t:jH}{n:Nat}(hc:X.calm=true)(hg:sX X es t)(h:X.K=K:=by rfl)
  (hn:(assignEach es X.env).length=n:=by rfl) (hst:(assignEach es X.env).findIdx? (·.1)=none:=by rfl):PG X (.Tuple es k pos) (qz K n t):=h▸xt hc hg hn hst
end
end L2
set_option Elab.async false
set_option linter.all false
set_option maxRecDepth 100000
set_option maxHeartbeats 4000000
namespace L2
open PySem PySem.Spec PyProof.Rows
def k4:Expr→Bool
 | .Starred _ _=>false
 |_=>true
def k7 (es:List Expr):Bool:=es.all k4
theorem E8 {e:Expr}{es:List Expr}{env:Env}(h:k4 e=true):starEach (e::es) env=(false,eval e env)::starEach es env:=by
 cases e<;>first|rfl|cases h
theorem U4 {env:Env}{pos:Pos}:∀{es:List Expr},k7 es=true→(backTo pos (starEach es env)).any (·.1)=false
 |[],_=>rfl
 |e::es,h=>by
  have h':(k4 e&&k7 es)=true:=h
  rw[Bool.and_eq_true] at h'
  rw[E8 h'.1]
  show(false||(backTo pos (starEach es env)).any (·.1))=false
  rw[U4 h'.2];rfl
theorem mF {e:Expr}{es:List Expr}{env:Env}(h:k4 e=true):assignEach (e::es) env=(false,assign e env)::assignEach es env:=by
 cases e<;>first|rfl|cases h
theorem sf {env:Env}:∀{es:List Expr},k7 es=true→(assignEach es env).length=es.length
 |[],_=>rfl
 |e::es,h=>by
  have h':(k4 e&&k7 es)=true:=h
  rw[Bool.and_eq_true] at h'
  rw[mF h'.1,List.length_cons,sf h'.2,List.length_cons]
theorem rO {env:Env}:∀{es:List Expr},k7 es=true→(assignEach es env).findIdx? (·.1)=none
 |[],_=>rfl
 |e::es,h=>by
  have h':(k4 e&&k7 es)=true:=h
  rw[Bool.and_eq_true] at h'
  rw[mF h'.1,List.findIdx?_cons]
  simp [rO h'.2]
section
variable {X:Cx} {K:PySem.W.Frag} {e:Expr} {es:List Expr} {te:TE} {t:TA} {x:Str} {p pos:Pos} {id T:String} {r:List V→Hp→VK→Prop}
theorem Cp (ha:PE X e te)(hr:PA X es t)(h:k4 e=true:=by rfl):PA X (e::es) (lT te t):=sI ha hr (E8 h)
theorem cB (hc:CallR X (.builtin id) r)(hm:X.mg x=none)(hv:bootBuiltins x=some (.builtin id))(ha:PA X (e::es) t)(hg:Gl X x:=by rfl)(hn:x≠"__name__":=by decide)(hdb:(x==("__debug__":Str))=false:=by decide)
  (h:k7 (e::es)=true:=by rfl):PE X (.Call (.Name x p) (e::es) [] pos) (vU r t):=by
 have h':(k4 e&&k7 es)=true:=h
 rw[Bool.and_eq_true] at h'
 exact qt hc hg hm hv ha hn hdb (E8 h'.1) (U4 h'.2)
theorem Cn (hc:CallR X (.type T) r)(hm:X.mg x=none)(hv:bootBuiltins x=some (.type T))(ha:PA X (e::es) t)(hg:Gl X x:=by rfl)(hn:x≠"__name__":=by decide)(hdb:(x==("__debug__":Str))=false:=by decide)
  (h:k7 (e::es)=true:=by rfl):PE X (.Call (.Name x p) (e::es) [] pos) (vU r t):=by
 have h':(k4 e&&k7 es)=true:=h
 rw[Bool.and_eq_true] at h'
 exact oG hc hg hm hv ha hn hdb (E8 h'.1) (U4 h'.2)
theorem cC {CX:fV}{k:Nat}{ps:List Str}{dvs:List V}{sp:Sp}{E:XK}(C:A2 X.prog X.w X.K X.mg X.base CX k x ps dvs sp)(hr:Room k X.A)(hx:ai CX X E)(ha:PA X (e::es) t)(hg:Gl X x:=by rfl)
  (hdb:(x==("__debug__":Str))=false:=by decide) (h:k7 (e::es)=true:=by rfl):PE X (.Call (.Name x p) (e::es) [] pos) (iR sp dvs E t):=by
 have h':(k4 e&&k7 es)=true:=h
 rw[Bool.and_eq_true] at h'
 exact se C hr hx ha hg hdb (E8 h'.1) (U4 h'.2)
theorem gT {tg:Expr}{k:Nat}{u:jH}(hc:X.calm=true)(hg:sX X es u)(hK:X.K=K:=by rfl)(h:k7 es=true:=by rfl):PG X (.Tuple es k pos) (qz K es.length u):=AO K hc hg hK (sf h) (rO h)
theorem gC {g:TG}{u:jH}(h1:PG X e g)(h2:sX X es u)(h:k4 e=true:=by rfl):sX X (e::es) (mx g u):=pj h1 h2 (by rw[mF h];rfl)
end
end L2
set_option Elab.async false
set_option linter.all false
set_option maxRecDepth 100000
set_option maxHeartbeats 4000000
namespace L2
open PySem PySem.Spec PyProof.Rows
structure QE (X:Cx) (e:Expr) (t:TE):Prop where
 r:PE X e t
structure QT (X:Cx) (e:Expr) (t:TT):Prop where
 r:PT X e t
structure QW (X:Cx) (e:Expr) (t:TT):Prop where
 r:PW X e t
structure QA (X:Cx) (es:List Expr) (t:TA):Prop where
 r:PA X es t
structure QS (X:Cx) (st:Stmt) (t:TS):Prop where
 r:PS X st t
structure QSs (X:Cx) (st:List Stmt) (t:TS):Prop where
 r:PSs X st t
structure QG (X:Cx) (tg:Expr) (t:TG):Prop where
 r:PG X tg t
structure Ag (X:Cx) (tg:List Expr) (t:jH):Prop where
 r:sX X tg t
structure QI (X:Cx) (tg iter:Expr) (t:jz):Prop where
 r:sJ X tg iter t
structure Ap (X:Cx) (ifs:List Expr) (t:TT):Prop where
 r:kD X ifs t
structure QO (X:Cx) (e:Option Expr) (t:TO):Prop where
 r:PO X e t
structure QP (X:Cx) (pos:Pos) (keys:List (Option Expr)) (values:List Expr) (trs:List (TE×TE)):Prop where
 r:CB X pos keys values trs
section
variable {X:Cx} {a b c e o:Expr} {es:List Expr} {ta tb tc te to:TE} {tA tB':TT} {t:TA} {R6:List Expr} {pos apos cpos p2:Pos} {x:Str} {p:Pos} {bid T:String}
theorem xE {j}:QE X (.Constant .none j pos) (tC .non):=⟨wZ⟩
theorem Al {b:Bool}{j}:QE X (.Constant (.bool b) j pos) (tC (.bl b)):=⟨zv⟩
theorem b3 {i:Int}{j}:QE X (.Constant (.int i) j pos) (tC (.int i)):=⟨wB⟩
theorem K7 {x:Str}{j}:QE X (.Constant (.str x) j pos) (tC (.str x)):=⟨xW⟩
theorem qV (i:Nat)(hN:X.N[i]?=some x:=by rfl)(hv:AY X.env.scope x:=by first|exact Or.inl rfl|exact Or.inr (Or.inl rfl)|exact Or.inr (Or.inr rfl))(hd:(x==("__debug__":Str))=false:=by decide)
  (hcd:(x==("__classdict__":Str))=false:=by decide):QE X (.Name x pos) (tG i):=⟨wN hN hv hd hcd⟩
theorem iq {v:V}(h:hZ X.mg x v)(hg:Gl X x:=by rfl)(hd:(x==("__debug__":Str))=false:=by decide):QE X (.Name x pos) (tC v):=⟨xD h hg hd⟩
theorem BU (n:String)(hm:X.mg x=none)(hv:bootBuiltins x=some (.type n))(hg:Gl X x:=by rfl)(hn:x≠"__name__":=by decide)(hd:(x==("__debug__":Str))=false:=by decide):QE X (.Name x pos) (tC (.ty n)):=⟨ui hg hm hv rfl hn hd⟩
theorem j6 {op:Operator}{r:R2}(ho:OpR X (binaryOp op) r)(ha:QE X a ta)(hb:QE X b tb):QE X (.BinOp a op b pos) (sj r ta tb):=⟨yG ho ha.r hb.r⟩
theorem Cj {op:UnaryOp}{r:V→Hp→VK→Prop}(ho:Aj X (unaryOp op) r)(ha:QE X a ta):QE X (.UnaryOp op a pos) (Bj r ta):=⟨Ad ho ha.r⟩
theorem AU (ha:QE X a ta):QE X (.UnaryOp .Not a pos) (rT ta):=⟨xy ha.r⟩
theorem BC {op}(h:QE X a ta):QE X (.BoolOp op [a] pos) ta:=⟨wD h.r⟩
theorem Bp (ha:QE X a ta)(hb:QE X (.BoolOp .And (b::R6) pos) tb):QE X (.BoolOp .And (a::b::R6) pos) (qE ta tb):=⟨xo ha.r hb.r⟩
theorem gv {op:CmpOp}{r:R2}(ho:OpR X (compareOp op) r)(ha:QE X a ta)(hb:QE X b tb)(hm:behindInMarks op b=false):QE X (.Compare a [op] [b] pos) (sj r ta tb):=⟨sG ho ha.r hb.r hm⟩
theorem q8 {op:CmpOp}{r:R2}(ho:OpR X (compareOp op) r)(ha:QE X a ta)(hb:QE X b tb)(hm:behindInMarks op b=false):QT X (.Compare a [op] [b] pos) (pO (sj r ta tb)):=⟨ud ho ha.r hb.r hm⟩
theorem zO:QO X none ij:=⟨uN⟩
theorem wK (h:QE X e te):QO X (some e) (qo te):=⟨sY h.r⟩
theorem yb {lo hi:Option Expr}{tl th:TO}{r:V→Option Int→Option Int→Hp→VK→Prop}(hr:SlR X r)(he:QE X e te)(hl:QO X lo tl)(hu:QO X hi th):QE X (.Subscript e (.Slice lo hi none p2) pos) (AN r te tl th):=⟨rJ hr he.r hl.r hu.r⟩
theorem j4 {r:R2}(hr:IxR X r)(ha:QE X a ta)(hb:QE X b tb)(hs:mh b):QE X (.Subscript a b pos) (sj r ta tb):=⟨zw hr ha.r hb.r hs⟩
theorem R3 (h:QA X es t):QE X (.List es pos) (vN t):=⟨wO h.r⟩
theorem R5 {x1}(h:QA X es t):QE X (.Tuple es x1 pos) (xK t):=⟨xg h.r⟩
theorem vg:QE X (.Dict [] [] pos) rm:=⟨rN⟩
theorem j0:QA X [] jn:=⟨xu⟩
theorem d9 (ha:QE X e te)(hr:QA X es t)(h:k4 e=true:=by rfl):QA X (e::es) (lT te t):=⟨Cp ha.r hr.r h⟩
theorem qB {r:List V→Hp→VK→Prop}(hc:CallR X (.builtin bid) r)(hm:X.mg x=none)(hv:bootBuiltins x=some (.builtin bid))(ha:QA X (e::es) t)(hg:Gl X x:=by rfl)(hn:x≠"__name__":=by decide)(hdb:(x==("__debug__":Str))=false:=by decide)
  (h:k7 (e::es)=true:=by rfl):QE X (.Call (.Name x p) (e::es) [] pos) (vU r t):=⟨cB hc hm hv ha.r hg hn hdb h⟩
theorem ip {r:List V→Hp→VK→Prop}(hc:CallR X (.type T) r)(hm:X.mg x=none)(hv:bootBuiltins x=some (.type T))(ha:QA X (e::es) t)(hg:Gl X x:=by rfl)(hn:x≠"__name__":=by decide)(hdb:(x==("__debug__":Str))=false:=by decide)
  (h:k7 (e::es)=true:=by rfl):QE X (.Call (.Name x p) (e::es) [] pos) (vU r t):=⟨Cn hc hm hv ha.r hg hn hdb h⟩
theorem qC {CX:fV}{k:Nat}{ps:List Str}{dvs:List V}{sp:Sp}{E:XK}(C:A2 X.prog X.w X.K X.mg X.base CX k x ps dvs sp)(hr:Room k X.A)(hx:ai CX X E)(ha:QA X (e::es) t)(hg:Gl X x:=by rfl)
  (hdb:(x==("__debug__":Str))=false:=by decide) (h:k7 (e::es)=true:=by rfl):QE X (.Call (.Name x p) (e::es) [] pos) (iR sp dvs E t):=⟨cC C hr hx ha.r hg hdb h⟩
theorem qM {name:Str}{r:V→List V→Hp→VK→Prop}(pa:PlainAttrs T)(slot:Slot T name bid)(hty:typeOf (.builtin bid)=pure (.type "method_descriptor"))(hm:uI X bid r)(K:PySem.W.Frag)(ho:QE X o to)(ha:QA X (e::es) t)(hK:X.K=K:=by rfl)
  (hbase:attributeBase o name X.env (eval o X.env)=eval o X.env:=by rfl)
  (h:k7 (e::es)=true:=by rfl) (h2:decide ((e::es).length<30)=true:=by rfl) (hline:(apos.endLine==cpos.line)=true:=by rfl):QE X (.Call (.Attribute o name apos) (e::es) [] cpos) (Bh K T r to t):=by
 have h':(k4 e&&k7 es)=true:=h
 rw[Bool.and_eq_true] at h'
 have hall:∀{l:List Expr},k7 l=true→(backTo cpos (starEach l X.env)).all (fun x=>!x.1)=true:=fun{l} hl=>by
  have q:=U4 (env:=X.env) (pos:=cpos) hl
  rw[List.all_eq_true]
  intro y hy
  rw[List.any_eq_false] at q
  simpa using q y hy
 subst hK
 refine⟨zH pa slot hty hm ho.r ha.r hbase ?_ hline (E8 h'.1) (U4 h'.2)⟩
 rw[hall h]
 show(true&&true&&decide ((e::es).length+0+0<30))=true
 simpa using h2
theorem Ce {name:Str}{r:V→List V→Hp→VK→Prop}(pa:PlainAttrs T)(slot:Slot T name bid)(hty:typeOf (.builtin bid)=pure (.type "method_descriptor"))(hm:uI X bid r)(K:PySem.W.Frag)(ho:QE X o to)(hK:X.K=K:=by rfl)
  (hbase:attributeBase o name X.env (eval o X.env)=eval o X.env:=by rfl) (hline:(apos.endLine==cpos.line)=true:=by rfl):QE X (.Call (.Attribute o name apos) [] [] cpos) (wq K T r to):=⟨hK▸wH pa slot hty hm ho.r hbase hline⟩
theorem M3 {own:List Str}{js:List Nat}{scope:Scope}{tg iter elt:Expr}{ifs:List Expr}{g:TG}{ti:TT}{wi:jz}(S:yi X own js scope=true)(hc:X.calm=true)(hit:QI X tg iter wi)
  (hg:∀C s H fp,QG (X9 X own js scope C s H fp) tg g) (hi:∀C s H fp,Ap (X9 X own js scope C s H fp) ifs ti) (he:∀C s H fp,QE (X9 X own js scope C s H fp) elt te)
  (hs:∀x,foldedSetIterable iter X.env x=pure x:=by intro _;rfl):QE X (.ListComp elt [⟨tg,iter,ifs,0⟩] scope pos) (ee own js wi g ti te):=
 ⟨oN S hc hit.r (fun C s H fp=>(hg C s H fp).r) (fun C s H fp=>(hi C s H fp).r) (fun C s H fp=>(he C s H fp).r) hs⟩
theorem bG:Ap X [] uQ:=⟨zF⟩
theorem tJ (h:QT X c tA):Ap X [c] tA:=⟨Bf h.r⟩
theorem lZ (ha:QT X a tA):QT X (.UnaryOp .Not a pos) (vG tA):=⟨vP ha.r⟩
theorem iJ (K:PySem.W.Frag)(ha:QE X a ta)(h:X.K=K:=by rfl)(he:∀whole,isTrue a X.env whole=(do let v←whole;standAt a.pos;holding [v] (truthy v)):=by intro _;rfl):QT X a (xf K ta):=⟨Bu K ha.r h he⟩
theorem tY (h:QW X a tA):QT X a tA:=⟨h.r.pt⟩
theorem bx (ha:QT X a tA):QW X (.BoolOp .And [a] pos) tA:=⟨tX ha.r⟩
theorem pU (ha:QT X a tA):QW X (.BoolOp .Or [a] pos) tA:=⟨xM ha.r⟩
theorem bW (ha:QT X a tA)(hb:QW X (.BoolOp .And (b::R6) pos) tB'):QW X (.BoolOp .And (a::b::R6) pos) (wF tA tB'):=⟨xn ha.r hb.r⟩
theorem uX (ha:QT X a tA)(hb:QW X (.BoolOp .Or (b::R6) pos) tB'):QW X (.BoolOp .Or (a::b::R6) pos) (Ba tA tB'):=⟨Ab ha.r hb.r⟩
theorem M8 {i:Nat}(hN:X.N.Nodup)(hi:X.N[i]?=some x)(hx:vf X.env.scope x)(hf:X.fn x=true∨X.env.scope.names.lookup x=some .local:=by first|exact .inl rfl|exact .inr rfl|assumption):QG X (.Name x pos) (M0 i):=⟨sL hN hi hx hf⟩
theorem Bn:Ag X [] xp:=⟨sE⟩
theorem yc {g:TG}{u:jH}(h1:QG X e g)(h2:Ag X es u)(h:k4 e=true:=by rfl):Ag X (e::es) (mx g u):=⟨gC h1.r h2.r h⟩
theorem Bq (K:PySem.W.Frag){k:Nat}{u:jH}(hc:X.calm=true)(hg:Ag X es u)(hK:X.K=K:=by rfl)(h:k7 es=true:=by rfl):QG X (.Tuple es k pos) (qz K es.length u):=⟨gT (tg:= .Name Str.empty pos) hc hg.r hK h⟩
theorem jM {i:Expr}{ti:TE}{u:lj}(ho:QE X o to)(hi:QE X i ti)(hs:nz X u)
  (ha:∀v,assign (.Subscript o i pos) X.env v=(do
   let ov←holding [v] (eval o X.env)
   let iv←holding [v,ov] (eval i X.env)
   standAt pos
   holding [v,ov,iv] (setItem ov iv v)
   release [v,ov,iv] []):=by intro _;rfl):QG X (.Subscript o i pos) (uB to ti u):=⟨wY ho.r hi.r hs ha⟩
theorem S1 (K:PySem.W.Frag){tg:Expr}(hl:QE X a ta)(h:X.K=K:=by rfl):QI X tg a (An K ta):=⟨CD K hl.r h⟩
def xa (wi:TI):jz:=fun σ H R=>wi σ H fun J H'=>R J id H'
theorem yy {wi:TI}{σ:St}{H:Hp}{R:It→(Hp→Hp)→Hp→Prop}(q:wi σ H fun J H'=>R J id H'):xa wi σ H R:=q
theorem Z8 {tg:Expr}(hm:X.mg "range"=none)(ha:QA X [a] t)(hg:Gl X "range":=by rfl)(h:k4 a=true:=by rfl):QI X tg (.Call (.Name "range" p) [a] [] pos) (xa (qQ t)):=⟨(nT hg hm ha.r (E8 h)).two⟩
variable {st:Stmt} {sts body orelse:List Stmt} {u u':TS} {g:TG}
theorem fR:QSs X [] qi:=⟨uC⟩
theorem x6 (h:QS X st u):QSs X [st] u:=⟨sM h.r⟩
theorem o9 (h1:QS X st u)(h2:QSs X sts u'):QSs X (st::sts) (oJ u u'):=⟨qW h1.r h2.r⟩
theorem j2 {i:Nat}{pos':Pos}(hN:X.N.Nodup)(hi:X.N[i]?=some x)(hx:vf X.env.scope x)(he:QE X e te)(hs:swapsWith e (some (.Name x pos')) pos.line X.env=pure false:=by rfl)(hf:X.fn x=true∨X.env.scope.names.lookup x=some .local:=by first|exact .inl rfl|exact .inr rfl):
  QS X (.Assign [.Name x pos'] e pos) (kz te (M0 i)):=⟨wz hN hi hx he.r hs hf⟩
theorem aa {tg:Expr}(he:QE X e te)(hg:QG X tg g)(hs:swapsWithSole [tg] e pos.line X.env=pure false:=by rfl)(hw:swappedStores [tg] e X.env=pure none:=by rfl)(h:k4 tg=true:=by rfl):QS X (.Assign [tg] e pos) (kz te g):=
 ⟨xP he.r hg.r hs hw (by rw[mF h];rfl)⟩
theorem dm (hc:QT X c tA)(ht:QSs X body u)(he:QSs X orelse u'):QS X (.If c body orelse pos) (xI tA u u'):=⟨zk hc.r ht.r he.r⟩
theorem A1 (he:QE X e te):QS X (.Return (some e) pos) (we te):=⟨vT he.r⟩
theorem um (he:QE X e te)(hs:swapsWith e none pos.line X.env=pure false:=by rfl):QS X (.Expr e pos) (pW te):=⟨uW he.r hs⟩
theorem K5 {tg iter:Expr}{wi:jz}(hp:PassesOwn (model X.prog X.w) X.A X.env X.xe)(hc:X.calm=true)(hi:QI X tg iter wi)(hg:QG X tg g)(hb:QSs X body u)(hs:∀x,foldedSetIterable iter X.env x=pure x:=by intro _;rfl):QS X (.For tg iter body [] pos) (qP wi g u):=
 ⟨uk hp hc hi.r hg.r hb.r hs⟩
end
end L2
set_option Elab.async false
set_option linter.all false
set_option maxRecDepth 100000
set_option maxHeartbeats 4000000
namespace L2
open PySem PySem.Spec PyProof.Rows
theorem P1:∀{ss:List Str} {us:List Value},Vals (ss.map V.str) us→StrsAre us ss
 |[],_,.nil=> .nil
 |x::ss,_,.cons r t=>by
  obtain⟨k,rfl⟩:=r
  exact .cons x k (P1 t)
theorem P5:∀{us:List Value} {ss:List Str},StrsAre us ss→Vals (ss.map V.str) us
 |_,_,.nil=> .nil
 |_,_,.cons y t r=> .cons ⟨t,rfl⟩ (P5 r)
theorem G8:∀{xs:List V} {us:List Value},xs.length=us.length→(∀(i:Nat) x u,xs[i]?=some x→us[i]?=some u→RelV x u)→Vals xs us
 |[],[],_,_=> .nil
 |[],_::_,h,_=>by simp at h
 |_::_,[],h,_=>by simp at h
 |x::xs,u::us,h,k=> .cons (k 0 x u rfl rfl) (G8 (by simpa using h) fun i y v e1 e2=>k (i+1) y v (by simpa using e1) (by simpa using e2))
section
variable {X:Cx}
theorem Inv.newL {pins:List (Addr×Obj)}{σ:St}{H:Hp}{s:Shared}{h':Heap}{tk:Nat}{a:Addr}{xs:List V}{out:Array Value}{e:Nat}(I:Inv X pins σ H s)(k:∀b u,s.heap.get? b=some u→h'.get? b=some u)(ha:s.heap.objs.size≤a)
  (ho:h'.get? a=some {cls:= .type "list",data:= .seq out e}) (rv:Vals xs out.toList) (hz:xs.length≤sizeLine):Inv X pins σ (upd H a (.lst xs)) {s with heap:=h',toks:=tk}:=
 I.laid k ha ⟨hz,out.toList,e,rv,by rw[ho]⟩
theorem ObjOk.live {P:Program}{w:World}{H:Hp}{h:Heap}{a:Addr}{o:HO}(x:ObjOk P w H h a o):∃ob,h.get? a=some ob:=by
 cases o with
 |lst xs=>obtain⟨_,_,_,_,e⟩:=x;exact⟨_,e⟩
 |tup xs=>obtain⟨_,_,_,o,e,_⟩:=x;exact⟨_,e⟩
 |dK kvs=>obtain⟨_,_,_,_,o,_,_,e,_⟩:=x;exact⟨_,e⟩
 |dT kvs=>obtain⟨_,_,_,_,o,_,_,e,_⟩:=x;exact⟨_,e⟩
 |set S n=>obtain⟨o,_,_,_,e,_⟩:=x;exact⟨_,e⟩
 |ins C dx fs=>obtain⟨_,_,_,e,_⟩:=x;exact⟨_,e⟩
 |own y=>exact x
 |xd fs=>obtain⟨_,⟨_,_,_,e,_⟩,_⟩:=x;exact⟨_,e⟩
 |rng lo hi=>obtain⟨_,_,_,e⟩:=x;exact⟨_,e⟩
 |frz ob u=>obtain⟨e,_⟩:=x;exact⟨_,e⟩
 |tbl ps=>exact⟨_,(show h.get? a=some _ from x)⟩
 |met f y=>exact⟨_,(show h.get? a=some _ from x)⟩
 |ext φ=>obtain⟨_,e,_⟩:=x;exact e
theorem Inv.newN {pins:List (Addr×Obj)}{σ:St}{H:Hp}{s:Shared}{h':Heap}{tk:Nat}{a:Addr}{xs:List V}{out:Array Value}{e:Nat}(I:Inv X pins σ H s)(k:∀b u,s.heap.get? b=some u→h'.get? b=some u)(hn:s.heap.get? a=none)
  (ho:h'.get? a=some {cls:= .type "list",data:= .seq out e}) (rv:Vals xs out.toList) (hz:xs.length≤sizeLine):H a=none∧Inv X pins σ (upd H a (.lst xs)) {s with heap:=h',toks:=tk}:=by
 have hH:H a=none:=by
  cases q:H a with
  |none=>rfl
  |some u=>
   obtain⟨ob,z⟩:=(I.hok a u q).live
   rw[hn] at z;cases z
 have na:∀b o,s.heap.get? b=some o→b≠a:=fun b o z w=>by rw[w,hn] at z;cases z
 have nh:∀b u,H b=some u→b≠a:=fun b u z=>c9 z hH
 refine⟨hH,I.un ⟨fun b o z n _ _=>k b o z,fun b o z n _ _=>⟨o.slots,k b o z⟩,fun b o z n _=>by rw[b7 (na b o z)];exact n,fun b o z _=>⟨o,k b o z⟩,fun b ys z=>by rw[b7 (nh b _ z)];exact z,
  fun b ob u z=>by rw[b7 (nh b _ z)];exact z,fun b ps z=>⟨#[],by rw[b7 (nh b _ z)];simpa using z⟩⟩ fun b u z=>?_⟩
 by_cases hb:b=a
 ·subst hb
  rw[d8] at z;cases z
  exact⟨hz,out.toList,e,rv,by rw[ho]⟩
 ·rw[b7 hb] at z
  exact(I.hok b u z).stay (fun c v _ y=>k c v y) (fun c y=>by rw[b7 (nh c _ y)];exact y) fun c ys y=>by rw[b7 (nh c _ y)];exact y
def cE (K:PySem.W.Frag):List V→Hp→VK→Prop:=fun xs H Q=>∃(p:Addr) (ss:List Str),xs=[.ref p]∧(SqL K H p (ss.map V.str)∨∃kvs:List (h9×V),Rd H p (.dK kvs)∧kvs.map (·.1)=ss.map Sum.inr)∧ss.length<64∧
 ∀ss':List Str,ss'.Perm ss→sortedS ss'=true→∀l,H l=none→Q (.ref l) (upd H l (.lst (ss'.map V.str)))
theorem mY {M:Program}{w:World}{A:Around}{E:Value→Shared→Prop}{s:Shared}{a:Addr}{vs:List Value}{ss:List Str}{n:Nat}{Q:Value→Shared→Prop}(ho:s.heap.get? a=some (seqObj "list" vs.toArray n))(hS:StrsAre vs ss)(h64:vs.length<64)
  (h:∀(out:Array Value) (ss':List Str),StrsAre out.toList ss'→ss'.Perm ss→sortedS ss'=true→Q .none {s with heap:=sortedHeap s.heap a vs out}):
  wpAny (model M w) A (call (.builtin "list.sort") [.ref a]) Q E s:=by
 refine wpAny_call_entry PySem.F.slot_list_sort ⟨_,ho,rfl⟩ PySem.F.entry_list_sort ?_ (PySem.F.args_list_sort_1 _)
 refine list_sort_treeK strKind_oneLt ho hS.keysOf (fun v₁ v₂ R6 e=>keyKind_strs (by rw[←e];exact hS)) h64 fun st' hp hs=>?_
 obtain⟨ss',h1,h2,h3⟩:=sorted_out_str hS hp hs
 exact⟨_,rfl,h _ ss' h1 h2 h3⟩
theorem gh (hc:X.calm=true):CallR X (.builtin "sorted") (cE X.K):=by
 intro pins s σ H xs us Q I r h
 obtain⟨p,ss,rfl,hx,h64,q⟩:=h
 obtain⟨u,rfl,ru⟩:=D0 r
 cases ru
 have hsl:(64:Nat)≤sizeLine:=by decide
 rcases hx with hx|⟨kvs,hx,hk⟩
 ·obtain⟨its,rv,ht,hz⟩:=I.list hx
  have hS:=P1 rv
  have hl:its.length=ss.length:=by have:=rv.length;simpa using this.symm
  refine sorted_strs ht.isList hS (by lia) fun out ss' a1 a2 a3=>?_
  obtain⟨e,he⟩:=sortedAll_at s.heap its out
  have hl':=a2.length_eq
  exact⟨.ref (s.heap.objs.size+1),_,I.newL (tk:=s.toks) (fun _ _=>sortedAll_old) (Nat.le_succ _) he (P5 a1) (by rw[List.length_map];lia),rfl,q ss' a2 a3 _ (I.hok.fresh (Nat.le_succ _))⟩
 ·obtain⟨hd,o,vs,ep,ho,D⟩:=aF I.hok hx
  have dat:=D.at_ _ ho
  have hlen:kvs.length=ss.length:=by have:=congrArg List.length hk;simpa using this
  have hlv:=KV.length D.kv
  refine Calls.call_function_entry kind_sorted plain_sorted entry_sorted (args_sorted1 _) ?_
  unfold Builtin.«sorted»
  refine wpAny_bind (m:=checkCount "sorted" 1 1 _) (wpAny_pure ?_)
  refine wpAny_bind (PySem.W.kdu_collect (A:=X.A.in1) (PySem.W.kdl_dict (knd:=i8 X.prog X.w) (kvs:=vs) (ep:=ep) hd) (I.ok.hd hc) dat (by lia) fun h' tk acc hkp hacc=>?_)
  have hl:acc.toList.length=vs.length:=by rw[Array.length_toList];exact hacc.1
  have hS:StrsAre acc.toList ss:=by
   refine P1 (G8 (by rw[List.length_map];lia) fun i x u e1 e2=>?_)
   obtain⟨k,y,hy,hky⟩:=hacc.2 i u (by rw[←Array.getElem?_toList];exact e2)
   have e3:(kvs.map (·.1))[i]?=some k:=by rw[KV.keys D.kv,List.getElem?_map,hy];rfl
   rw[hk,List.getElem?_map] at e3
   rw[List.getElem?_map] at e1
   cases e4:ss[i]? with
   |none=>rw[e4] at e1;cases e1
   |some z=>
    rw[e4] at e1 e3
    cases e1
    cases e3
    exact cD hky
  refine wpAny_bind (wpAny_newList ?_ (by rw[hl];lia))
  refine wpAny_bind (wpAny_holding (mY (s:={s with heap:=h'.push {cls:= .type "list",data:= .seq acc.toList.toArray},toks:=tk}) (n:=0) (Heap.get?_push_size _ rfl) hS (by lia) fun out ss' a1 a2 a3=>?_))
  obtain⟨e,he⟩:=sortedHeap_at (h:=h'.push {cls:= .type "list",data:= .seq acc.toList.toArray}) (a:=h'.objs.size) (vs:=acc.toList) (n:=0) (out:=out) (Heap.get?_push_size _ rfl)
  have hno:s.heap.get? h'.objs.size=none:=by
   cases z:s.heap.get? h'.objs.size with
   |none=>rfl
   |some ob=>exact absurd (Heap.lt_size (hkp _ _ z)) (Nat.lt_irrefl _)
  have hl':=a2.length_eq
  obtain⟨hH,I2⟩:=I.newN (tk:=tk) (h':=sortedHeap (h'.push {cls:= .type "list",data:= .seq acc.toList.toArray}) h'.objs.size acc.toList out) (xs:=ss'.map V.str) (fun b u eb=>by
   have hb:=Heap.lt_size (hkp b u eb)
   rw[sortedHeap_old (b:=b) (Nat.ne_of_lt hb) (by rw[Heap.size_push];exact Nat.lt_succ_of_lt hb)]
   exact Heap.get?_push_of_some _ (hkp b u eb)) hno he (P5 a1) (by rw[List.length_map];lia)
  exact wpAny_pure ⟨_,rfl,.ref h'.objs.size,_,I2,rfl,q ss' a2 a3 _ hH⟩
def iA (K:PySem.W.Frag):List V→Hp→VK→Prop:=fun xs H Q=>(∃p ys,xs=[.ref p]∧(SqL K H p ys∨SqT K H p ys)∧∀l,H l=none→Q (.ref l) (upd H l (.lst ys)))∨
 (∃(p:Addr) (kvs:List (h9×V)),xs=[.ref p]∧Rd H p (.dK kvs)∧∀l,H l=none→Q (.ref l) (upd H l (.lst (kvs.map fun kv=>kV kv.1))))
theorem ki (hc:X.calm=true):CallR X (.type "list") (iA X.K):=by
 refine call_list_of.or ?_
 intro pins s σ H xs us Q I r h
 obtain⟨p,kvs,rfl,hx,q⟩:=h
 obtain⟨u,rfl,ru⟩:=D0 r
 cases ru
 obtain⟨hd,o,vs,ep,ho,D⟩:=aF I.hok hx
 have hlv:=KV.length D.kv
 have hz:kvs.length≤sizeLine:=(C1 I.hok hx).1
 refine PySem.W.kdl_call (PySem.W.kdl_dict (knd:=i8 X.prog X.w) (kvs:=vs) (ep:=ep) hd) (I.ok.hd hc) (D.at_ _ ho) (by lia) fun h' tk acc c hkp hS hacc=>?_
 refine⟨.ref s.heap.objs.size,_,I.newL (tk:=tk) hkp (Nat.le_refl _) hS (G8 (by have:=hacc.1;simp;lia) fun i x u e1 e2=>?_) (by rw[List.length_map];exact hz),rfl,q _ (I.hok.fresh (Nat.le_refl _))⟩
 obtain⟨k,y,hy,hky⟩:=hacc.2 i u (by rw[←Array.getElem?_toList];exact e2)
 rw[List.getElem?_map] at e1
 cases e4:kvs[i]? with
 |none=>rw[e4] at e1;cases e1
 |some kv=>
  rw[e4] at e1
  cases e1
  have e3:(kvs.map (·.1))[i]?=some kv.1:=by rw[List.getElem?_map,e4];rfl
  rw[KV.keys D.kv,List.getElem?_map,hy] at e3
  cases e3
  exact cD hky
def vi:List V→Hp→VK→Prop:=fun xs H Q=>∃(p:Addr) (kvs:List (h9×V)),xs=[.ref p]∧Rd H p (.dK kvs)∧∀l,H l=none→Q (.ref l) (upd H l (.dK kvs))
theorem kK:CallR X (.type "dict") vi:=by
 intro pins s σ H xs us Q I r h
 obtain⟨p,kvs,rfl,hx,q⟩:=h
 obtain⟨u,rfl,ru⟩:=D0 r
 cases ru
 exact qc I hx fun l s' hl I'=>⟨.ref l,_,I',rfl,q l hl⟩
def uO (K:PySem.W.Frag):List V→Hp→VK→Prop:=fun xs H Q=>∃(p:Addr) (ns:List Int),xs=[.ref p]∧SqL K H p (ns.map V.int)∧Q (.int ns.sum) H
theorem oT (hc:X.calm=true):CallR X (.builtin "sum") (uO X.K):=by
 intro pins s σ H xs us Q I r h
 obtain⟨p,ns,rfl,hx,q⟩:=h
 obtain⟨u,rfl,ru⟩:=D0 r
 cases ru
 obtain⟨its,rv,ht,hz⟩:=I.list hx
 have hi:=jN rv
 obtain⟨ys,hy⟩:=hi.allInts.items
 have hl:s.heap.IsList p (intItems ys):=hy▸ht.isList
 refine sum_intListG (I.ok.hd hc) hl fun h' tk t' hk=>?_
 have e1:ns=ys.toList.map (·.1):=by
  rw[←nums_intItems,←hy]
  exact(show numsOf its.toArray.toList=ns from hi.numsOf).symm
 have e2:preSum (numAt ys) ys.size=ns.sum:=by
  rw[preSum_eq,List.take_of_length_le (by simp),e1]
 rw[e2]
 exact⟨.int ns.sum,H,I.kept hk,⟨t',rfl⟩,q⟩
def qK:R2:=fun x y H Q=>rI CMul (fun i j=> .int (i*j)) x y H Q∨(∃z n,x= .str z∧y= .int n∧z.length≤1000∧-1000≤n∧n≤1000∧Q (.str (Txt.mul z n)) H)
theorem op_mulY:OpR X (binaryOp .Mult) qK:=by
 refine op_mul.or ?_
 intro pins s σ H x y v u Q I rx ry h
 obtain⟨z,n,rfl,rfl,h1,h2,h3,q⟩:=h
 obtain⟨t,rfl⟩:=rx
 obtain⟨t',rfl⟩:=ry
 exact SB.mul (mulOk_of 1000 1000 h1 h3 (by lia) (by decide) (by decide)) fun t2 k=>⟨.str _,H,I.tok _,⟨t2,rfl⟩,q⟩
def lS:lj:=fun o i v H Q=>vt o i v H Q∨(∃a H',o= .ref a∧DPut H a i v H'∧Q H')
theorem tI (hu:X.A.units+1<cLine):nz X lS:=by
 intro pins s σ H o i v ov iv u Q I ro ri rv h
 rcases h with h|⟨a,H',rfl,g,q⟩
 ·exact rK pins s σ H o i v ov iv u Q I ro ri rv h
 ·cases ro
  exact nc hu I g ri rv fun s' I'=>⟨H',I',q⟩
end
end L2
set_option Elab.async false
set_option linter.all false
set_option maxRecDepth 100000
set_option maxHeartbeats 4000000
namespace L2
open PySem PySem.Spec PyProof.Rows
section
variable {X:Cx}
theorem Inv.pairNew {pins:List (Addr×Obj)}{σ:St}{H:Hp}{s:Shared}{fp:List Addr}{h':Heap}{tk:Nat}{x y:V}{u v:Value}{e:Nat}(I:Inv X pins σ H s)(hf:∀b∈fp,ay X pins H b)
  (kp:∀b o,b∉fp→s.heap.get? b=some o→h'.get? b=some o) (there:∀b∈fp,b<s.heap.objs.size) (tup:h'.get? s.heap.objs.size=some {cls:= .type "tuple",data:= .seq #[u,v] e}) (rx:RelV x u) (ry:RelV y v):
  H s.heap.objs.size=none∧Inv X pins σ (upd H s.heap.objs.size (.tup [x,y])) {s with heap:=h',toks:=tk}∧∀b∈fp,upd H s.heap.objs.size (.tup [x,y]) b=none:=by
 have fresh:H s.heap.objs.size=none:=I.hok.fresh (Nat.le_refl _)
 have nsz:∀b o,s.heap.get? b=some o→b≠s.heap.objs.size:=fun b o z=>Nat.ne_of_lt (Heap.lt_size z)
 have hH:∀b w,H b=some w→b≠s.heap.objs.size∧b∉fp:=fun b w z=>⟨c9 z fresh,fun m=>by rw[(hf b m).1] at z;cases z⟩
 have hok:HOk X.prog X.w (upd H s.heap.objs.size (.tup [x,y])) h':=fun b w z=>by
  by_cases hb:b=s.heap.objs.size
  ·subst hb
   rw[d8] at z;cases z
   exact⟨by show 2≤sizeLine;decide,[u,v],.cons rx (.cons ry .nil),⟨_,tup,rfl,_,rfl⟩⟩
  ·rw[b7 hb] at z
   refine(I.hok b w z).stay (fun c ob hc q=>kp c ob ?_ q) (fun c q=>by rw[b7 (hH c _ q).1];exact q) fun c ys q=>by rw[b7 (hH c _ q).1];exact q
   rcases hc with m|m
   ·rw[m];exact(hH b _ z).2
   ·exact(hH c _ m).2
 refine⟨fresh,I.call' (s':={s with heap:=h',toks:=tk}) (ch:=fp) rfl ⟨fun b o z n _ hx=>kp b o hx z,fun b o z n _ hx=>⟨o.slots,kp b o hx z⟩,fun b o z n _=>by rw[b7 (nsz b o z)];exact n,
  fun b o z hx=>⟨o,kp b o hx z⟩,fun b ys z=>by rw[b7 (hH b _ z).1];exact z,fun b ob w z=>by rw[b7 (hH b _ z).1];exact z,fun b ps z=>⟨#[],by rw[b7 (hH b _ z).1];simpa using z⟩⟩ hok I.bare fun b hb=>?_,fun b hb=>?_⟩
 ·obtain⟨f0,f1,f2,f3,f4,f5⟩:=hf b hb
  exact⟨f3,f1,f4,f5⟩
 ·rw[b7 (Nat.ne_of_lt (there b hb))];exact(hf b hb).1
theorem Inv.turnedAll {pins:List (Addr×Obj)}{σ:St}{H:Hp}{s:Shared}{fp:List Addr}{h':Heap}{tk:Nat}(I:Inv X pins σ H s)(hf:∀b∈fp,ay X pins H b)
  (kp:∀b o,b∉fp→s.heap.get? b=some o→h'.get? b=some o):Inv X pins σ H {s with heap:=h',toks:=tk}:=by
 have hH:∀b w,H b=some w→b∉fp:=fun b w z m=>by rw[(hf b m).1] at z;cases z
 refine I.call' (s':={s with heap:=h',toks:=tk}) (ch:=fp) rfl ⟨fun b o z n _ hx=>kp b o hx z,fun b o z n _ hx=>⟨o.slots,kp b o hx z⟩,fun b o z n _=>n,
  fun b o z hx=>⟨o,kp b o hx z⟩,fun b ys z=>z,fun b ob w z=>z,fun b ps z=>⟨#[],by simpa using z⟩⟩ (fun b w z=>?_) I.bare fun b hb=>?_
 ·refine(I.hok b w z).stay (fun c ob hc q=>kp c ob ?_ q) (fun c q=>q) fun c ys q=>q
  rcases hc with m|m
  ·rw[m];exact hH b _ z
  ·exact hH c _ m
 ·obtain⟨f0,f1,f2,f3,f4,f5⟩:=hf b hb
  exact⟨f3,f1,f4,f5⟩
end
def Bs (K:PySem.W.Frag)(l:Addr):It:=
 ⟨fun i H=>∃xs x,SqL K H l xs∧xs[i]?=some x,fun i H x H'=>∃t v,(∀xs,SqL K H l xs→xs[i]?=some v)∧H t=none∧x= .ref t∧H'=upd H t (.tup [.int i,v]),fun i H=>∃xs,SqL K H l xs∧xs.length≤i⟩
theorem oD {P:Program}{w:World}{K:PySem.W.Frag}{elts:List Expr}{x1}{tpos:Pos}{en it l:Addr}(hne:en≠it):aU P w K (.Tuple elts x1 tpos) (Bs K l) [en,it] en (fun i h=>∃old,IsEnum h en it i old∧h.IsListIter it l i) where
 mem:=by simp
 obj:=fun i h st b hb=>by
  obtain⟨old,h1,o,e,c,d⟩:=st
  have hb':b=en∨b=it:=by simpa using hb
  rcases hb' with rfl|rfl
  ·exact⟨_,h1,fun v z=>by
    have z':Data.fields _=Data.cell v:=z
    cases z'⟩
  ·exact⟨o,e,fun v z=>by rw[d] at z;cases z⟩
 keep:=fun i h h' st k=>by
  obtain⟨old,h1,h2⟩:=st
  exact⟨old,k en (by simp) _ h1,h2.at fun o e=>k it (by simp) o e⟩
 item:=by
  intro X hP hw hK hc i pins s σ H E I hf st hg
  subst hP hw hK
  obtain⟨old,st1,st2⟩:=st
  obtain⟨xs,x,hq,hx⟩:=hg
  obtain⟨its,rv,p,hz⟩:=I.list hq
  obtain⟨u,hu,ru⟩:=rv.get hx
  have hen:en<s.heap.objs.size:=Heap.lt_size st1
  have hit:it<s.heap.objs.size:=by obtain⟨o,e,_⟩:=st2;exact Heap.lt_size e
  refine wpAny_pyNext_enum_item st1 st2 p.isList (x:=u) (by simpa using hu) hne fun h' heo hit1 ht1 hz1 hk1=>?_
  refine⟨.ref s.heap.objs.size,rfl,wpAny_letOwnedTupleGo_enum (s:={s with heap:=h',toks:=s.toks+1}) heo fun h'' he'' hs''=>?_⟩
  have hs2:Heap.SameBut en h' h'':=hs''
  have tupAt:h''.get? s.heap.objs.size=some {cls:= .type "tuple",data:= .seq #[.int i s.toks,u]}:=hs2.extBut _ _ (Nat.ne_of_gt hen) ht1
  obtain⟨fr,I1,fr2⟩:=I.pairNew (fp:=[en,it]) (h':=h'') (tk:=s.toks+1) (x:= .int i) (y:=x) hf (fun b o hb e=>by
   have hb':b≠en∧b≠it:=by simpa using hb
   exact hs2.extBut b o hb'.1 (hk1 b o hb'.1 hb'.2 e)) (fun b hb=>by
   have hb':b=en∨b=it:=by simpa using hb
   rcases hb' with rfl|rfl
   ·exact hen
   ·exact hit) tupAt ⟨_,rfl⟩ ru
  refine⟨.ref s.heap.objs.size,_,I1,rfl,⟨_,x,fun ys hy=>by rw[I.list_inj hy hq];exact hx,fr,rfl,rfl⟩,⟨_,he'',?_⟩,fr2⟩
  exact hit1.at fun o e=>hs2.extBut it o (Ne.symm hne) e
 done:=by
  intro X hP hw hK hc i pins s σ H E I hf st hg
  subst hP hw hK
  obtain⟨old,st1,st2⟩:=st
  obtain⟨xs,hq,hx⟩:=hg
  obtain⟨its,rv,p,hz⟩:=I.list hq
  have hl:=rv.length
  exact wpAny_pyNext_enum_end (I.ok.hd hc) st1 st2 p.isList (by simp;lia) fun h' eb=>⟨rfl,I.turnedAll (fp:=[en,it]) (tk:=s.toks) hf fun b o hb e=>eb b o (by
   have hb':b≠en∧b≠it:=by simpa using hb
   exact hb'.2) e⟩
 self:=fun _ _ _ _ _ st h=>by
  obtain⟨old,st1,st2⟩:=st
  exact wpAny_pyIter_enum st1 h
section
variable {X:Cx} {a b:Expr} {t:TA} {p pos:Pos}
end
def Bv (K : PySem.W.Frag) (l m : Addr) : It :=
  ⟨fun i H => ∃ xs ys x y, SqL K H l xs ∧ SqL K H m ys ∧ xs[i]? = some x ∧ ys[i]? = some y,
   fun i H v H' => ∃ t x y, (∀ xs, SqL K H l xs → xs[i]? = some x) ∧ (∀ ys, SqL K H m ys → ys[i]? = some y) ∧ H t = none ∧ v = .ref t ∧ H' = upd H t (.tup [x, y]),
   fun i H => ∃ xs ys, SqL K H l xs ∧ SqL K H m ys ∧ (xs.length ≤ i ∨ ys.length ≤ i)⟩
theorem j8 {h:Heap}{a b:Addr}{o u:Obj}(e:h.get? a=some o)(e':h.get? b=some u)(n:o.cls≠u.cls):a≠b:=fun z=>by
 subst z;rw[e] at e';cases e';exact n rfl
theorem pC {P:Program}{w:World}{K:PySem.W.Frag}{elts:List Expr}{x1}{tpos:Pos}{z TI TO i1 i2 l m:Addr}(h12:i1≠i2)(hT:TI≠TO):
  aU P w K (.Tuple elts x1 tpos) (Bv K l m) [z,TI,TO,i1,i2] z (fun i h=>IsZip h z TI TO .none∧IsPair h TI (.ref i1) (.ref i2)∧(∃a b,IsPair h TO a b)∧h.IsListIter i1 l i∧h.IsListIter i2 m i) where
 mem:=by simp
 obj:=fun i h st b hb=>by
  obtain⟨z1,z2,⟨a,c,z3⟩,⟨o4,e4,c4,d4⟩,⟨o5,e5,c5,d5⟩⟩:=st
  have hb':b=z∨b=TI∨b=TO∨b=i1∨b=i2:=by simpa using hb
  rcases hb' with rfl|rfl|rfl|rfl|rfl
  ·exact⟨_,z1,fun v q=>by
    have q':Data.fields _=Data.cell v:=q
    cases q'⟩
  ·exact⟨_,z2,fun v q=>by
    have q':Data.seq _ _=Data.cell v:=q
    cases q'⟩
  ·exact⟨_,z3,fun v q=>by
    have q':Data.seq _ _=Data.cell v:=q
    cases q'⟩
  ·exact⟨o4,e4,fun v q=>by rw[d4] at q;cases q⟩
  ·exact⟨o5,e5,fun v q=>by rw[d5] at q;cases q⟩
 keep:=fun i h h' st k=>by
  obtain⟨z1,z2,⟨a,c,z3⟩,z4,z5⟩:=st
  exact⟨k z (by simp) _ z1,k TI (by simp) _ z2,⟨a,c,k TO (by simp) _ z3⟩,z4.at fun o e=>k i1 (by simp) o e,z5.at fun o e=>k i2 (by simp) o e⟩
 item:=by
  intro X hP hw hK hc i pins s σ H E I hf st hg
  subst hP hw hK
  obtain⟨z1,z2,⟨a,c,z3⟩,z4,z5⟩:=st
  obtain⟨xs,ys,x,y,hq,hq',hx,hy⟩:=hg
  obtain⟨its,rv,p,hz⟩:=I.list hq
  obtain⟨its',rv',p',hz'⟩:=I.list hq'
  obtain⟨u,hu,ru⟩:=rv.get hx
  obtain⟨u',hu',ru'⟩:=rv'.get hy
  obtain⟨o4,e4,c4,d4⟩:=id z4
  obtain⟨o5,e5,c5,d5⟩:=id z5
  obtain⟨o6,n6,e6,c6,_⟩:=id p
  obtain⟨o7,n7,e7,c7,_⟩:=id p'
  have D:ZipApart z TI TO i1 i2 l m:=
   ⟨j8 z2 z1 (by simp),j8 z3 z1 (by simp),j8 e4 z1 (by rw[c4];simp),j8 e5 z1 (by rw[c5];simp),hT,j8 z2 e4 (by rw[c4];simp),j8 z2 e5 (by rw[c5];simp),j8 z3 e4 (by rw[c4];simp),j8 z3 e5 (by rw[c5];simp),h12,
    j8 e6 z1 (by rw[c6];simp),j8 e6 z3 (by rw[c6];simp),j8 e6 e4 (by rw[c6,c4];simp),j8 e6 e5 (by rw[c6,c5];simp),j8 e7 z1 (by rw[c7];simp),j8 e7 z3 (by rw[c7];simp),j8 e7 e4 (by rw[c7,c4];simp),j8 e7 e5 (by rw[c7,c5];simp)⟩
  refine wpAny_pyNext_zip_item D z1 z2 z3 z4 z5 p.isList p'.isList (x:=u) (y:=u') (by simpa using hu) (by simpa using hu') fun h' a1 a2 a3 a4 a5 a6 a7=>?_
  refine⟨.ref s.heap.objs.size,rfl,wpAny_letOwnedTupleGo_zip (s:={s with heap:=h'}) a1 fun h'' b1 b2=>?_⟩
  have hs2:Heap.SameBut z h' h'':=b2
  have lt:∀b∈[z,TI,TO,i1,i2],b<s.heap.objs.size:=fun b hb=>by
   have hb':b=z∨b=TI∨b=TO∨b=i1∨b=i2:=by simpa using hb
   rcases hb' with rfl|rfl|rfl|rfl|rfl
   ·exact Heap.lt_size z1
   ·exact Heap.lt_size z2
   ·exact Heap.lt_size z3
   ·exact Heap.lt_size e4
   ·exact Heap.lt_size e5
  have kp2:∀b o,b≠z→h'.get? b=some o→h''.get? b=some o:=fun b o hb e=>hs2.extBut b o hb e
  obtain⟨fr,I1,fr2⟩:=I.pairNew (fp:=[z,TI,TO,i1,i2]) (h':=h'') (tk:=s.toks) (x:=x) (y:=y) hf (fun b o hb e=>by
   have hb':b≠z∧b≠TI∧b≠TO∧b≠i1∧b≠i2:=by simpa using hb
   exact kp2 b o hb'.1 (a7 b o hb'.1 hb'.2.2.1 hb'.2.2.2.1 hb'.2.2.2.2 e)) lt (kp2 _ _ (Nat.ne_of_gt (Heap.lt_size z1)) a5) ru ru'
  refine⟨.ref s.heap.objs.size,_,I1,rfl,⟨_,x,y,fun zs hs=>by rw[I.list_inj hs hq];exact hx,fun zs hs=>by rw[I.list_inj hs hq'];exact hy,fr,rfl,rfl⟩,⟨b1,?_,⟨u,u',?_⟩,?_,?_⟩,fr2⟩
  ·exact kp2 _ _ D.TIz (a7 TI _ D.TIz D.TITO D.TIi1 D.TIi2 z2)
  ·exact kp2 _ _ D.TOz a2
  ·exact a3.at fun o e=>kp2 _ o D.i1z e
  ·exact a4.at fun o e=>kp2 _ o D.i2z e
 done:=by
  intro X hP hw hK hc i pins s σ H E I hf st hg
  subst hP hw hK
  obtain⟨z1,z2,⟨a,c,z3⟩,z4,z5⟩:=st
  obtain⟨xs,ys,hq,hq',hx⟩:=hg
  obtain⟨its,rv,p,hz⟩:=I.list hq
  obtain⟨its',rv',p',hz'⟩:=I.list hq'
  have hl:=rv.length
  have hl':=rv'.length
  obtain⟨o4,e4,c4,d4⟩:=id z4
  obtain⟨o5,e5,c5,d5⟩:=id z5
  obtain⟨o6,n6,e6,c6,_⟩:=id p
  obtain⟨o7,n7,e7,c7,_⟩:=id p'
  have D:ZipApart z TI TO i1 i2 l m:=
   ⟨j8 z2 z1 (by simp),j8 z3 z1 (by simp),j8 e4 z1 (by rw[c4];simp),j8 e5 z1 (by rw[c5];simp),hT,j8 z2 e4 (by rw[c4];simp),j8 z2 e5 (by rw[c5];simp),j8 z3 e4 (by rw[c4];simp),j8 z3 e5 (by rw[c5];simp),h12,
    j8 e6 z1 (by rw[c6];simp),j8 e6 z3 (by rw[c6];simp),j8 e6 e4 (by rw[c6,c4];simp),j8 e6 e5 (by rw[c6,c5];simp),j8 e7 z1 (by rw[c7];simp),j8 e7 z3 (by rw[c7];simp),j8 e7 e4 (by rw[c7,c4];simp),j8 e7 e5 (by rw[c7,c5];simp)⟩
  refine wpAny_pyNext_zip_end (I.ok.hd hc) D z1 z2 z3 z4 z5 p.isList p'.isList ?_ fun h' eb=>⟨rfl,I.turnedAll (fp:=[z,TI,TO,i1,i2]) (tk:=s.toks) hf fun b o hb e=>?_⟩
  ·rcases hx with hx|hx
   ·exact .inl (by simp;lia)
   ·exact .inr (by simp;lia)
  ·have hb':b≠z∧b≠TI∧b≠TO∧b≠i1∧b≠i2:=by simpa using hb
   exact eb b o hb'.1 hb'.2.2.1 hb'.2.2.2.1 hb'.2.2.2.2 e
 self:=fun _ _ _ _ _ st h=>wpAny_pyIter_zip st.1 h
section
variable {X:Cx} {a b:Expr} {t:TA} {p pos:Pos}
def vJ (K:PySem.W.Frag)(ta:TA):TI:=fun σ H R=>ta σ H fun vs H1=>∃l m xs ys,vs=[.ref l,.ref m]∧SqL K H1 l xs∧SqL K H1 m ys∧R (Bv K l m) H1
theorem wm {elts:List Expr}{x1}{tpos:Pos}(hg:Gl X "zip")(hm:X.mg "zip"=none)(ha:PA X [a,b] t)(hs:starEach [a,b] X.env=[(false,eval a X.env),(false,eval b X.env)])(hs2:starEach [b] X.env=[(false,eval b X.env)]):
  PI X (.Tuple elts x1 tpos) (.Call (.Name "zip" p) [a,b] [] pos) (vJ X.K t):=by
 intro pins s σ H R I h
 refine Call_ (bz I hg hm Boot.«zip» (PyProof.Rows.callWith_type1 (B7 (ha pos pins s σ H _ I h) fun us s1 ⟨vs,H1,I1,r1,q1⟩=>?_) (by rw[hs,hs2]) (by rw[hs2];rfl)))
 obtain⟨l,m,xs,ys,e,hq,hq',q⟩:=q1
 subst e
 obtain⟨u,v,rfl,ru,rv⟩:=Y6 r1
 cases ru
 cases rv
 obtain⟨its,rv,pl,hz⟩:=I1.list hq
 obtain⟨its',rv',pl',hz'⟩:=I1.list hq'
 refine call_zip_2 pl.isList pl'.isList fun h' z1 z2 z3 z4 z5 hsz hk=>?_
 have I2:Inv X pins σ H1 {s1 with heap:=h'}:=I1.kept (t':=s1.toks) hk
 refine wpAny_pyIter_zip (s:={s1 with heap:=h'}) z1 ?_
 refine⟨s1.heap.objs.size+4,[s1.heap.objs.size+4,s1.heap.objs.size+2,s1.heap.objs.size+3,s1.heap.objs.size,s1.heap.objs.size+1],_,_,H1,rfl,I2,pC (l:=l) (m:=m) (show(s1.heap.objs.size:Nat)≠s1.heap.objs.size+1 by lia) (show(s1.heap.objs.size+2:Nat)≠s1.heap.objs.size+3 by lia),⟨z1,z2,⟨_,_,z3⟩,z4,z5⟩,fun c hc=>?_,q⟩
 have hb':c=s1.heap.objs.size+4∨c=s1.heap.objs.size+2∨c=s1.heap.objs.size+3∨c=s1.heap.objs.size∨c=s1.heap.objs.size+1:=by simpa using hc
 have hle:s1.heap.objs.size≤c:=by
  rcases hb' with rfl|rfl|rfl|rfl|rfl<;>first|exact Nat.le_add_right _ _|exact Nat.le_refl _
 exact I1.fpOk hle (I1.hok.fresh hle)
end
section
variable {X:Cx} (K:PySem.W.Frag) {a b:Expr} {t:TA} {p pos:Pos}
theorem C5 (hc:X.calm=true)(h:X.K=K:=by rfl):CallR X (.builtin "sorted") (cE K):=h▸gh hc
theorem AH (hc:X.calm=true)(h:X.K=K:=by rfl):CallR X (.builtin "sum") (uO K):=h▸oT hc
theorem wG {elts:List Expr}{x1}{tpos:Pos}(hm:X.mg "zip"=none)(ha:QA X [a,b] t)(hg:Gl X "zip":=by rfl)(h:k4 a=true:=by rfl)(h':k4 b=true:=by rfl)(hK:X.K=K:=by rfl):QI X (.Tuple elts x1 tpos) (.Call (.Name "zip" p) [a,b] [] pos) (xa (vJ K t)):=
 ⟨hK▸(wm hg hm ha.r (by rw[E8 h,E8 h'];rfl) (E8 h')).two⟩
end
theorem r6 {X:Cx}:uI X "list.append" mw:=nu
section
variable {K:PySem.W.Frag} {σ:St} {H:Hp} {Q:VK}
theorem gy {p:Addr}{ss:List Str}(h:SqL K H p (ss.map V.str))(h64:ss.length<64)(q:∀ss':List Str,ss'.Perm ss→sortedS ss'=true→∀l,H l=none→Q (.ref l) (upd H l (.lst (ss'.map V.str)))):cE K [.ref p] H Q:=⟨p,ss,rfl,.inl h,h64,q⟩
theorem p9 {p:Addr}{kvs:List (h9×V)}{ss:List Str}(h:Rd H p (.dK kvs))(hk:kvs.map (·.1)=ss.map Sum.inr)(h64:ss.length<64)(q:∀ss':List Str,ss'.Perm ss→sortedS ss'=true→∀l,H l=none→Q (.ref l) (upd H l (.lst (ss'.map V.str)))):cE K [.ref p] H Q:=⟨p,ss,rfl,.inr ⟨kvs,h,hk⟩,h64,q⟩
theorem P4 {p:Addr}{kvs:List (h9×V)}(h:Rd H p (.dK kvs))(q:∀l,H l=none→Q (.ref l) (upd H l (.lst (kvs.map fun kv=>kV kv.1)))):iA K [.ref p] H Q:= .inr ⟨p,kvs,rfl,h,q⟩
theorem kl {p:Addr}{xs:List V}(h:SqL K H p xs)(q:∀l,H l=none→Q (.ref l) (upd H l (.lst xs))):iA K [.ref p] H Q:= .inl ⟨p,xs,rfl,.inl h,q⟩
theorem zd {p:Addr}{ns:List Int}(h:SqL K H p (ns.map V.int))(q:Q (.int ns.sum) H):uO K [.ref p] H Q:=⟨p,ns,rfl,h,q⟩
theorem nO {i j:Int}(h:CMul i j)(q:Q (.int (i*j)) H):qK (.int i) (.int j) H Q:= .inl ⟨i,j,rfl,rfl,h,q⟩
theorem vL {to ti:TE}{t:lj}{v:V}{Qs:St→Hp→Prop}(q:to σ H fun o H1=>ti σ H1 fun i H2=>t o i v H2 fun H3=>Qs σ H3):uB to ti t v σ H Qs:=q
theorem k9 {a:Addr}{kvs:List (h9×V)}{k:h9}{v:V}{Qh:Hp→Prop}(h:H a=some (.dK kvs))(hl:kvs.length<sizeLine)(q:Qh (upd H a (.dK (B6 kvs k v)))):lS (.ref a) (kV k) v H Qh:= .inr ⟨a,_,rfl,DPut.k h hl,q⟩
theorem yW {ta:TA}{R:It→Hp→Prop}(q:ta σ H fun vs H1=>∃l m xs ys,vs=[.ref l,.ref m]∧SqL K H1 l xs∧SqL K H1 m ys∧R (Bv K l m) H1):vJ K ta σ H R:=q
theorem lD {n:Nat}{t:jH}{a:Addr}{xs:List V}{Qs:St→Hp→Prop}(h:SqT K H a xs)(hl:xs.length=n)(q:t xs σ H Qs):qz K n t (.ref a) σ H Qs:=⟨a,xs,rfl,h,hl,q⟩
theorem uf {t:TG}{u:jH}{v:V}{r:List V}{Qs:St→Hp→Prop}(q:t v σ H fun σ' H'=>u r σ' H' Qs):mx t u (v::r) σ H Qs:=⟨v,r,rfl,q⟩
theorem wJ {Qs:St→Hp→Prop}(q:Qs σ H):xp [] σ H Qs:=⟨rfl,q⟩
theorem BB {T:String}{r:V→List V→Hp→VK→Prop}{to:TE}{t:TA}(q:to σ H fun x H1=>zB K T x H1∧t σ H1 fun xs H2=>r x xs H2 Q):Bh K T r to t σ H Q:=q
theorem yw {T:String}{r:V→List V→Hp→VK→Prop}{to:TE}(q:to σ H fun x H1=>zB K T x H1∧r x [] H1 Q):wq K T r to σ H Q:=q
theorem aH {p:Addr}{x:V}{o:Option V}(g:U5 H p x o)(q:Q (.bl o.isSome) H):ux K x (.ref p) H Q:= .inr (.inr ⟨p,o,rfl,g,q⟩)
theorem bO {p:Addr}{x:V}{o:Option V}(g:U5 H p x o)(q:Q (.bl (!o.isSome)) H):aL K x (.ref p) H Q:= .inr (.inr ⟨p,o,rfl,g,q⟩)
theorem qY {p:Addr}{xs:List V}{lo hi:Option Int}(h:SqT K H p xs)(hw:¬(HT.sIx xs.length 0 lo=0∧HT.sIx xs.length xs.length hi=xs.length))(q:∀p,H p=none→Q (.ref p) (upd H p (.tup (bF xs lo hi)))):yN K (.ref p) lo hi H Q:= .inr (.inl ⟨p,xs,rfl,h,hw,q⟩)
theorem Z2 {a:Addr}{kvs:List (h9×V)}{k:h9}(e:Rd H a (.dK kvs)):U5 H a (kV k) (x8 kvs k):= .inl ⟨kvs,k,e,rfl,rfl⟩
end
end L2
set_option Elab.async false
set_option linter.all false
set_option maxRecDepth 100000
set_option maxHeartbeats 4000000
namespace L2
open PySem PySem.Spec PyProof.Rows
open PySem.AutoSeq1 (wpAny_loadPart')
def EqP (P:Program)(w:World)(A:Around)(s:Shared)(y x:Value)(b:Bool):Prop:=∀(E:Value→Shared→Prop) (Q:Bool→Shared→Prop),Q b s→wpAny (model P w) A (eqBool y x) Q E s
def RcP (P:Program)(w:World)(A:Around)(s:Shared)(y x:Value)(b:Bool):Prop:=∀(E:Value→Shared→Prop) (Q:Value→Shared→Prop),Q (.bool b) s→wpAny (model P w) A (richCompare .Eq y x) Q E s
theorem EqP.of {P:Program}{w:World}{A:Around}{s:Shared}{y x:Value}{b:Bool}(h:SeqAt.EqAt A s y x b):EqP P w A s y x b:=fun E Q q=>h P w E Q q
theorem EqP.refs {P:Program}{w:World}{A:Around}{s:Shared}{l m:Addr}{k:Bool}(hne:l≠m)(h:RcP P w A s (.ref l) (.ref m) k):EqP P w A s (.ref l) (.ref m) k:=fun E Q q=>by
 unfold eqBool
 refine wpAny_holding (wpAny_ite_split (fun z=>absurd (Value.ref.inj (eq_of_beq z)) hne) fun _=>wpAny_bind (h E _ (wpAny_truthy_bool q)))
theorem vz {P:Program}{w:World}(l m:Addr)(xs ys:Array Value)(n1 n2:Nat)(d1 d2:Option Addr)(s1 s2:Array (Option Value))(f:Nat→Bool):
  MeetsIn P w (Builtin.«tuple.__eq__» ⟨[.ref l,.ref m],[]⟩) (fun A R s=>
   s.heap.get? l=some {cls:= .type "tuple",dict:=d1,data:= .seq xs n1,slots:=s1}∧s.heap.get? m=some {cls:= .type "tuple",dict:=d2,data:= .seq ys n2,slots:=s2}∧
   (∀j (g1:j<xs.size) (g2:j<ys.size),EqP P w A.in1 s xs[j] ys[j] (f j))∧
   R (.ok (.ret (.bool ((List.range (min xs.size ys.size)).all f&&xs.size==ys.size)))) s):=
 .of_wp fun A R s hyp=>by
  obtain⟨hp,gg,dr,tk,os⟩:=s
  obtain⟨e1,e2,he,fin⟩:=hyp
  have sub:=AutoSeq1.sub_tuple_tuple
  have len:(xs.toList.zip ys.toList).length=min xs.size ys.size:=by simp
  wp_walk using wpAny_loadPart' e1,wpAny_loadPart' e2,wpAny_forIn_list _ (fun more acc st=>acc.1=none∧st=⟨hp,gg,dr,tk,os⟩∧∃i,more=(xs.toList.zip ys.toList).drop i∧
   R (.ok (.ret (.bool (((List.range (min xs.size ys.size)).drop i).all f&&xs.size==ys.size)))) ⟨hp,gg,dr,tk,os⟩) _
  case turn=>
   rintro⟨y,x⟩ more acc st ⟨ha,rfl,i,hi,hR⟩
   have lt:i<(xs.toList.zip ys.toList).length:=by
    rcases Nat.lt_or_ge i (xs.toList.zip ys.toList).length with z|z
    ·exact z
    ·rw[List.drop_of_length_le z] at hi
     cases hi
   have lm:i<min xs.size ys.size:=len▸lt
   have lx:i<xs.size:=Nat.lt_of_lt_of_le lm (Nat.min_le_left _ _)
   have ly:i<ys.size:=Nat.lt_of_lt_of_le lm (Nat.min_le_right _ _)
   rw[List.drop_eq_getElem_cons lt] at hi
   injection hi with h1 h2
   have q1:y=xs[i]:=by simpa using congrArg Prod.fst h1
   have q2:x=ys[i]:=by simpa using congrArg Prod.snd h1
   subst q1 q2
   have dr1:(List.range (min xs.size ys.size)).drop i=i::(List.range (min xs.size ys.size)).drop (i+1):=by simp [List.drop_eq_getElem_cons,lm]
   rw[dr1,List.all_cons] at hR
   refine wpAny_bind (he i lx ly _ _ ?_)
   cases hf:f i with
   |true=>
    rw[hf] at hR
    wp_walk
    exact⟨rfl,rfl,i+1,h2,by simpa using hR⟩
   |false=>
    rw[hf] at hR
    wp_walk
    exact⟨_,rfl,by simpa using hR⟩
  case fin=>
   rintro⟨c1,c2⟩ st ⟨ha,rfl,i,hi,hR⟩
   simp only at ha
   subst ha
   have ge:min xs.size ys.size≤i:=by
    rcases Nat.lt_or_ge i (xs.toList.zip ys.toList).length with z|z
    ·rw[List.drop_eq_getElem_cons z] at hi
     cases hi
    ·exact len▸z
   rw[List.drop_of_length_le (by simpa using ge)] at hR
   wp_walk
   exact⟨_,rfl,by simpa [Builtin.Tuple.tupleCompareSizes] using hR⟩
  case h=>
   exact⟨rfl,rfl,0,rfl,by simpa using fin⟩
theorem RcP.tup {P:Program}{w:World}{A:Around}{s:Shared}{l m:Addr}{xs ys:Array Value}{f:Nat→Bool}(hl:s.heap.IsTuple l xs)(hm:s.heap.IsTuple m ys)(hu:A.units<cLine)
  (he:∀j (g1:j<xs.size) (g2:j<ys.size),EqP P w A.in1 s xs[j] ys[j] (f j)):RcP P w A s (.ref l) (.ref m) ((List.range (min xs.size ys.size)).all f&&xs.size==ys.size):=fun E Q q=>by
 obtain⟨⟨c1,d1,a1,s1⟩,o1,k1,n1,t1⟩:=id hl
 obtain⟨⟨c2,d2,a2,s2⟩,o2,k2,n2,t2⟩:=id hm
 simp only at k1 t1 k2 t2
 subst k1 t1 k2 t2
 refine wpAny_richCompare_same_room (op:= .Eq) ⟨_,o1,rfl⟩ ⟨_,o2,rfl⟩ PySem.F.slot_tuple_eq (call_meetsIn PySem.F.slot_tuple_eq ⟨_,o1,rfl⟩ PySem.F.entry_tuple_eq (PySem.F.args_tuple_eq_2 _ _) (vz l m xs ys n1 n2 d1 d2 s1 s2 f) ⟨o1,o2,he,?_⟩) hu
 exact⟨(fun z=>nomatch z),q⟩
def Z5:List V→List V→Bool
 |[],[]=>true
 |x::xs,y::ys=>bA x y&&Z5 xs ys
 |_,_=>false
inductive Eq1 (K:PySem.W.Frag) (H:Hp):V→V→Bool→Prop
 |flat {x y:V}:x9 x=true→x9 y=true→Eq1 K H x y (bA x y)
 |tup {a b:Addr} {xs ys:List V}:SqT K H a xs→SqT K H b ys→xs.all x9=true→ys.all x9=true→Eq1 K H (.ref a) (.ref b) (Z5 xs ys)
 |nt {a:Addr} {xs:List V}:SqT K H a xs→Eq1 K H .non (.ref a) false
 |tn {a:Addr} {xs:List V}:SqT K H a xs→Eq1 K H (.ref a) .non false
theorem ef:∀{x:V},x9 x=true→bA x x=true
 | .non,_=>rfl
 | .bl b,_=>by simp [bA]
 | .int i,_=>by simp [bA]
 | .str x,_=>by simp [bA]
theorem E6:∀{xs:List V},xs.all x9=true→Z5 xs xs=true
 |[],_=>rfl
 |x::xs,h=>by
  rw[List.all_cons,Bool.and_eq_true] at h
  show(bA x x&&Z5 xs xs)=true
  rw[ef h.1,E6 h.2];rfl
theorem D1:∀(xs ys:List V),((List.range (min xs.length ys.length)).all (fun j=>bA (xs.getD j .non) (ys.getD j .non))&&xs.length==ys.length)=Z5 xs ys
 |[],[]=>rfl
 |[],_::_=>by simp [Z5]
 |_::_,[]=>by simp [Z5]
 |x::xs,y::ys=>by
  have ih:=D1 xs ys
  have e:min (x::xs).length (y::ys).length=min xs.length ys.length+1:=by simp
  rw[e,List.range_succ_eq_map,List.all_cons,List.all_map]
  show((bA x y&&(List.range (min xs.length ys.length)).all _)&&(xs.length+1==ys.length+1))=(bA x y&&Z5 xs ys)
  rw[←ih,Bool.and_assoc]
  congr 1
  congr 1
  simp
section
variable {X:Cx} {pins:List (Addr×Obj)} {σ:St} {H:Hp} {s:Shared} {A:Around}
theorem Eq1.at_ {x y:V}{u v:Value}{b:Bool}(I:Inv X pins σ H s)(h:Eq1 X.K H x y b)(rx:RelV x u)(ry:RelV y v)(hu:A.units+8<cLine):SeqAt.EqAt A s u v b:=by
 cases h with
 |flat fx fy=>exact ah rx ry fx fy
 | @tup a c xs ys ha hc fx fy=>
  cases rx
  cases ry
  obtain⟨its,r1,p1,z1⟩:=I.tuple ha
  obtain⟨its',r2,p2,z2⟩:=I.tuple hc
  by_cases hac:a=c
  ·subst hac
   have e:=I.tuple_inj ha hc
   subst e
   rw[E6 fx]
   exact SeqAt.EqAt.same _
  ·have l1:=r1.length
   have l2:=r2.length
   have q:=SeqAt.RcAt.tuples (A:=A) (e:=fun j=>bA (xs.getD j .non) (ys.getD j .non)) (show s.heap.IsTuple a its.toArray from p1) (show s.heap.IsTuple c its'.toArray from p2) (by lia) fun j g1 g2=>by
    have g1':j<its.length:=by simpa using g1
    have g2':j<its'.length:=by simpa using g2
    have x1:xs[j]?=some (xs[j]'(by lia)):=by simp [show j<xs.length by lia]
    have y1:ys[j]?=some (ys[j]'(by lia)):=by simp [show j<ys.length by lia]
    obtain⟨u1,hu1,ru1⟩:=r1.get x1
    obtain⟨u2,hu2,ru2⟩:=r2.get y1
    have e1:its.toArray[j]=u1:=by
     have:=List.getElem?_eq_getElem g1'
     rw[hu1] at this
     simpa using(Option.some.inj this).symm
    have e2:its'.toArray[j]=u2:=by
     have:=List.getElem?_eq_getElem g2'
     rw[hu2] at this
     simpa using(Option.some.inj this).symm
    rw[e1,e2]
    have d1:xs.getD j .non=xs[j]'(by lia):=by rw[List.getD_eq_getElem?_getD,x1];rfl
    have d2:ys.getD j .non=ys[j]'(by lia):=by rw[List.getD_eq_getElem?_getD,y1];rfl
    rw[d1,d2]
    exact ah ru1 ru2 (List.all_eq_true.mp fx _ (List.getElem_mem _)) (List.all_eq_true.mp fy _ (List.getElem_mem _))
   have e3:its.toArray.size=xs.length:=by simp [l1]
   have e4:its'.toArray.size=ys.length:=by simp [l2]
   rw[e3,e4,D1] at q
   exact .of_refs hac q
 | @nt a xs ha=>
  cases rx
  cases ry
  obtain⟨its,r1,p1,z1⟩:=I.tuple ha
  exact SeqAt.EqAt.none_tuple (show s.heap.IsTuple a its.toArray from p1) (by lia)
 | @tn a xs ha=>
  cases rx
  cases ry
  obtain⟨its,r1,p1,z1⟩:=I.tuple ha
  exact SeqAt.EqAt.tuple_none (show s.heap.IsTuple a its.toArray from p1) (by lia)
end
inductive EqH (K:PySem.W.Frag) (H:Hp) (kb:List (h9×V)):List (h9×V)→Bool→Prop
 |nil:EqH K H kb [] true
 |miss {k:h9} {v:V} {r:List (h9×V)}:x8 kb k=none→EqH K H kb ((k,v)::r) false
 |hit {k:h9} {v y:V} {r:List (h9×V)} {e b:Bool}:x8 kb k=some y→Eq1 K H v y e→EqH K H kb r b→EqH K H kb ((k,v)::r) (e&&b)
def EqD (K:PySem.W.Frag)(H:Hp)(a b:Addr)(r:Bool):Prop:=(a=b∧r=true)∨(a≠b∧∃ka kb r0,Rd H a (.dK ka)∧Rd H b (.dK kb)∧EqH K H kb ka r0∧r=(ka.length==kb.length&&r0))
section
variable {X:Cx} {pins:List (Addr×Obj)} {σ:St} {H:Hp} {s:Shared} {A:Around}
theorem EqH.hits {kb:List (h9×V)}{vb:List (h9×Value)}(I:Inv X pins σ H s)(hu:A.units+8<cLine)(rb:KV kb vb){ka:List (h9×V)}{r:Bool}(h:EqH X.K H kb ka r):∀{va:List (h9×Value)},KV ka va→PySem.W.KeqHits A s vb va r:=by
 induction h with
 |nil=>
  intro va t
  cases t
  exact .nil
 | @miss k v r hn=>
  intro va t
  cases t with
  | @cons _ q _ l e t=>
   obtain⟨k',u⟩:=q
   have ek':k=k':=e.1
   subst ek'
   refine .miss ?_
   have z:=KV.val rb k
   rw[hn] at z
   cases e:valueAt vb k with
   |none=>rfl
   |some y=>rw[e] at z;exact False.elim z
 | @hit k v y r e b hy h1 hr ih=>
  intro va t
  cases t with
  | @cons _ q _ l e t=>
   obtain⟨k',u⟩:=q
   have ek':k=k':=e.1
   subst ek'
   have z:=KV.val rb k
   rw[hy] at z
   cases e5:valueAt vb k with
   |none=>rw[e5] at z;exact False.elim z
   |some y'=>
    rw[e5] at z
    exact .hit e5 (h1.at_ I e.2 z hu) (ih t)
theorem EqD.at_ {a b:Addr}{r:Bool}(I:Inv X pins σ H s)(h:EqD X.K H a b r)(hu:A.units+16<cLine):EqP X.prog X.w A s (.ref a) (.ref b) r:=by
 rcases h with⟨rfl,rfl⟩|⟨hne,ka,kb,r0,h1,h2,h3,rfl⟩
 ·exact .of (SeqAt.EqAt.same _)
 ·obtain⟨z1,d1,va,ra,da⟩:=C1 I.hok h1
  obtain⟨z2,d2,vb,rb,db⟩:=C1 I.hok h2
  refine .refs hne fun E Q q=>?_
  have l1:=KV.length ra
  have l2:=KV.length rb
  exact PySem.W.keq_eq (knd:=i8 X.prog X.w) d1 d2 da db (by lia) (fun _=>h3.hits (A:=A.in1) I (by show A.units+1+8<_;lia) rb ra) (by rw[←l1,←l2];exact q)
def zW (K:PySem.W.Frag):R2:=fun x y H Q=>∃a b p q p' q' r r',x= .ref a∧y= .ref b∧SqT K H a [.ref p,.ref q]∧SqT K H b [.ref p',.ref q']∧EqD K H p p' r∧EqD K H q q' r'∧Q (.bl (r&&r')) H
theorem wx (hu:X.A.units+64<cLine):OpR X (compareOp .Eq) (zW X.K):=by
 intro pins s σ H x y v u Q I rx ry h
 obtain⟨a,b,p,q,p',q',r,r',rfl,rfl,ha,hb,h1,h2,k⟩:=h
 cases rx
 cases ry
 obtain⟨its,v1,t1,_⟩:=I.tuple ha
 obtain⟨its',v2,t2,_⟩:=I.tuple hb
 obtain⟨_,_,rfl,e1,e2⟩:=Y6 v1
 obtain⟨_,_,rfl,e3,e4⟩:=Y6 v2
 cases e1
 cases e2
 cases e3
 cases e4
 refine RcP.tup (P:=X.prog) (w:=X.w) (f:=fun j=>if j=0 then r else r') (show s.heap.IsTuple a _ from t1) (show s.heap.IsTuple b _ from t2) (by lia) (fun j g1 g2=>?_) _ _ ⟨.bl (r&&r'),H,I,by show Value.bool _=Value.bool _;simp [List.range_succ],k⟩
 have g:j<2:=by simpa using g1
 match j,g with
 |0,_=>exact h1.at_ I (by show X.A.units+1+16<_;lia)
 |1,_=>exact h2.at_ I (by show X.A.units+1+16<_;lia)
def yE (K:PySem.W.Frag):R2:=fun x y H Q=>∃a b xs ys,x= .ref a∧y= .ref b∧SqL K H a xs∧SqL K H b ys∧xs.all x9=true∧ys.all x9=true∧Q (.bl (Z5 xs ys)) H
theorem dg:∀{xs ys:List V},xs.length≠ys.length→Z5 xs ys=false
 |[],[],h=>absurd rfl h
 |[],_::_,_=>rfl
 |_::_,[],_=>rfl
 |x::xs,y::ys,h=>by
  show(bA x y&&Z5 xs ys)=false
  rw[dg (by simpa using h),Bool.and_false]
theorem xv (hu:X.A.units+64<cLine):OpR X (compareOp .Eq) (yE X.K):=by
 intro pins s σ H x y v u Q I rx ry h
 obtain⟨a,b,xs,ys,rfl,rfl,ha,hb,fx,fy,k⟩:=h
 cases rx
 cases ry
 obtain⟨its,r1,p1,z1⟩:=I.list ha
 obtain⟨its',r2,p2,z2⟩:=I.list hb
 have l1:=r1.length
 have l2:=r2.length
 have e3:its.toArray.size=xs.length:=by simp [l1]
 have e4:its'.toArray.size=ys.length:=by simp [l2]
 by_cases hl:xs.length=ys.length
 ·have q:=SeqAt.RcAt.lists (A:=X.A) (e:=fun j=>bA (xs.getD j .non) (ys.getD j .non)) p1.isList p2.isList (by rw[e3,e4];exact hl) (by lia) fun j g1 g2=>by
   have g1':j<its.length:=by simpa using g1
   have g2':j<its'.length:=by simpa using g2
   have x1:xs[j]?=some (xs[j]'(by lia)):=by simp [show j<xs.length by lia]
   have y1:ys[j]?=some (ys[j]'(by lia)):=by simp [show j<ys.length by lia]
   obtain⟨u1,hu1,ru1⟩:=r1.get x1
   obtain⟨u2,hu2,ru2⟩:=r2.get y1
   have e1:its.toArray[j]=u1:=by
    have:=List.getElem?_eq_getElem g1'
    rw[hu1] at this
    simpa using(Option.some.inj this).symm
   have e2:its'.toArray[j]=u2:=by
    have:=List.getElem?_eq_getElem g2'
    rw[hu2] at this
    simpa using(Option.some.inj this).symm
   rw[e1,e2]
   have d1:xs.getD j .non=xs[j]'(by lia):=by rw[List.getD_eq_getElem?_getD,x1];rfl
   have d2:ys.getD j .non=ys[j]'(by lia):=by rw[List.getD_eq_getElem?_getD,y1];rfl
   rw[d1,d2]
   exact ah ru1 ru2 (List.all_eq_true.mp fx _ (List.getElem_mem _)) (List.all_eq_true.mp fy _ (List.getElem_mem _))
  have e5:=D1 xs ys
  rw[hl,Nat.min_self,beq_self_eq_true,Bool.and_true] at e5
  rw[e3,hl,e5] at q
  exact q X.prog X.w _ _ ⟨.bl _,H,I,rfl,k⟩
 ·refine SeqAt.RcAt.lists_lengths (A:=X.A) p1.isList p2.isList (by rw[e3,e4];simpa using hl) (by lia) X.prog X.w _ _ ⟨.bl _,H,I,?_,k⟩
  rw[dg hl];rfl
def zl (K:PySem.W.Frag):R2:=fun x y H Q=>(∃a b xs ys,x= .ref a∧y= .ref b∧SqT K H a xs∧SqT K H b ys∧xs.all x9=true∧ys.all x9=true∧Q (.bl (Z5 xs ys)) H)∨(∃a xs,x= .non∧y= .ref a∧SqT K H a xs∧Q (.bl false) H)
theorem xx (hu:X.A.units+64<cLine):OpR X (compareOp .Eq) (zl X.K):=by
 intro pins s σ H x y v u Q I rx ry h
 rcases h with⟨a,b,xs,ys,rfl,rfl,ha,hb,fx,fy,k⟩|⟨a,xs,rfl,rfl,ha,k⟩
 ·cases rx
  cases ry
  obtain⟨its,r1,p1,z1⟩:=I.tuple ha
  obtain⟨its',r2,p2,z2⟩:=I.tuple hb
  have l1:=r1.length
  have l2:=r2.length
  have q:=SeqAt.RcAt.tuples (A:=X.A) (e:=fun j=>bA (xs.getD j .non) (ys.getD j .non)) (show s.heap.IsTuple a its.toArray from p1) (show s.heap.IsTuple b its'.toArray from p2) (by lia) fun j g1 g2=>by
   have g1':j<its.length:=by simpa using g1
   have g2':j<its'.length:=by simpa using g2
   have x1:xs[j]?=some (xs[j]'(by lia)):=by simp [show j<xs.length by lia]
   have y1:ys[j]?=some (ys[j]'(by lia)):=by simp [show j<ys.length by lia]
   obtain⟨u1,hu1,ru1⟩:=r1.get x1
   obtain⟨u2,hu2,ru2⟩:=r2.get y1
   have e1:its.toArray[j]=u1:=by
    have:=List.getElem?_eq_getElem g1'
    rw[hu1] at this
    simpa using(Option.some.inj this).symm
   have e2:its'.toArray[j]=u2:=by
    have:=List.getElem?_eq_getElem g2'
    rw[hu2] at this
    simpa using(Option.some.inj this).symm
   rw[e1,e2]
   have d1:xs.getD j .non=xs[j]'(by lia):=by rw[List.getD_eq_getElem?_getD,x1];rfl
   have d2:ys.getD j .non=ys[j]'(by lia):=by rw[List.getD_eq_getElem?_getD,y1];rfl
   rw[d1,d2]
   exact ah ru1 ru2 (List.all_eq_true.mp fx _ (List.getElem_mem _)) (List.all_eq_true.mp fy _ (List.getElem_mem _))
  have e3:its.toArray.size=xs.length:=by simp [l1]
  have e4:its'.toArray.size=ys.length:=by simp [l2]
  rw[e3,e4,D1] at q
  exact q X.prog X.w _ _ ⟨.bl _,H,I,rfl,k⟩
 ·cases rx
  cases ry
  obtain⟨its,r1,p1,z1⟩:=I.tuple ha
  exact SeqAt.RcAt.none_tuple (A:=X.A) (show s.heap.IsTuple a its.toArray from p1) (by lia) X.prog X.w _ _ ⟨.bl false,H,I,rfl,k⟩
def nk (K:PySem.W.Frag):R2:=fun x y H Q=>Aq x y H Q∨yE K x y H Q∨zl K x y H Q∨zW K x y H Q
theorem Cs (K:PySem.W.Frag){k:Nat}(hr:Room k X.A)(h:X.K=K:=by rfl):OpR X (compareOp .Eq) (nk K):=h▸op_eq.or ((xv hr.units).or ((xx hr.units).or (wx hr.units)))
end
section
variable {K:PySem.W.Frag} {H:Hp} {Q:VK}
theorem pT {i j:Int}(q:Q (.bl (decide (i=j))) H):nk K (.int i) (.int j) H Q:= .inl (iE q)
theorem qr {i j:Str}(q:Q (.bl (decide (i=j))) H):nk K (.str i) (.str j) H Q:= .inl (ja q)
end
end L2
set_option Elab.async false
set_option linter.all false
set_option maxRecDepth 100000
set_option maxHeartbeats 4000000
namespace L2
open PySem PySem.Spec PyProof.Rows
section
variable {K:PySem.W.Frag} {σ:St} {H H' H1:Hp} {Q:VK} {d:Addr} {kvs:List (h9×V)} {o:Obj}
theorem iy {i j:Int}(q:Q (.bl (!decide (i=j))) H):AE (.int i) (.int j) H Q:=⟨rfl,by rw[cF];rw[show(i==j)=decide (i=j) from Bool.beq_eq_decide_eq i j];exact q⟩
theorem Bd {r:V→Hp→VK→Prop}{ta:TE}(q:ta σ H fun x H1=>r x H1 Q):Bj r ta σ H Q:=q
theorem zX {i:Int}(q:Q (.int (-i)) H):rU (fun i=> .int (-i)) (.int i) H Q:=⟨i,rfl,q⟩
def nf:HO→Bool
 | .frz _ _=>false
 |_=>true
def Le (H H':Hp):Prop:=∀a u,nf u=true→Rd H a u→Rd H' a u
theorem Le.trans (a:Le H H1)(b:Le H1 H'):Le H H':=fun x u n h=>b x u n (a x u n h)
theorem Same.le (s:Same H H'):Le H H':=fun a u _ h=>s.rd h
theorem ba (h:H d=some (.dK kvs)):Le H (C3 d o kvs H):=fun a u n r=>by
 by_cases e:a=d
 ·subst e
  rcases r with r|⟨o',r⟩
  ·rw[h] at r;cases r
   exact .inr ⟨o,d8⟩
  ·rw[h] at r;cases r
 ·unfold C3 Rd
  rw[b7 e];exact r
theorem tN:Le H (thaw d H):=fun a u n r=>by
 by_cases e:a=d
 ·subst e
  rcases r with r|⟨o',r⟩
  ·rw[mz fun o v z=>by rw[r] at z;cases z;cases n];exact .inl r
  ·exact .inl (gA r)
 ·unfold Rd
  rw[N5 e];exact r
theorem Le.tup {a:Addr}{xs:List V}(l:Le H H')(h:SqT K H a xs):SqT K H' a xs:=by
 rcases h with h|h
 ·exact .inl (l _ _ rfl h)
 ·exact .inr h
theorem Le.dic {a:Addr}(l:Le H H')(h:Rd H a (.dK kvs)):Rd H' a (.dK kvs):=l _ _ rfl h
abbrev M9:=Str×Str×Str
structure G3 where
 pts:List (Str×Str)
 ts:List (Str×M9)
def x5 (pts:List (Str×Str)):List (h9×V):=pts.map fun x=>(Sum.inr x.1,.str x.2)
def jl (t:M9):List V:=[.str t.1,.str t.2.1,.str t.2.2]
def TieAt (K:PySem.W.Frag)(H:Hp)(kv:h9×V)(x:Str×M9):Prop:=kv.1=Sum.inr x.1∧∃a,kv.2= .ref a∧SqT K H a (jl x.2)
def TiesIs (K:PySem.W.Frag)(H:Hp)(kvs:List (h9×V))(ts:List (Str×M9)):Prop:=Paired (TieAt K H) kvs ts
structure WebAt (K:PySem.W.Frag) (H:Hp) (a p q:Addr) (kvs:List (h9×V)) (W:G3):Prop where
 tup:SqT K H a [.ref p,.ref q]
 pts:Rd H p (.dK (x5 W.pts))
 ties:Rd H q (.dK kvs)
 ts:TiesIs K H kvs W.ts
theorem TieAt.mono {kv:h9×V}{x:Str×M9}(l:Le H H')(h:TieAt K H kv x):TieAt K H' kv x:=let ⟨e,a,ea,s⟩:=h;⟨e,a,ea,l.tup s⟩
theorem TiesIs.mono {ts:List (Str×M9)}(l:Le H H')(h:TiesIs K H kvs ts):TiesIs K H' kvs ts:=Paired.imp' (fun _ _ z=>z.mono l) h
theorem WebAt.mono {a p q:Addr}{W:G3}(l:Le H H')(h:WebAt K H a p q kvs W):WebAt K H' a p q kvs W:=⟨l.tup h.tup,l.dic h.pts,l.dic h.ties,h.ts.mono l⟩
theorem TiesIs.length {ts:List (Str×M9)}(h:TiesIs K H kvs ts):kvs.length=ts.length:=Paired.length h
theorem TiesIs.keys {ts:List (Str×M9)}(h:TiesIs K H kvs ts):kvs.map (·.1)=ts.map fun x=>Sum.inr x.1:=by
 unfold TiesIs at h
 induction h with
 |nil=>rfl
 |cons r _ ih=>rw[List.map_cons,List.map_cons,ih,r.1]
theorem TiesIs.get {ts:List (Str×M9)}{i:Nat}{kv:h9×V}(h:TiesIs K H kvs ts)(e:kvs[i]?=some kv):∃x,ts[i]?=some x∧TieAt K H kv x:=O4 h e
theorem TiesIs.val {ts:List (Str×M9)}{n:Str}:∀{kvs:List (h9×V)} {ts:List (Str×M9)},TiesIs K H kvs ts→n∈ts.map (·.1)→∃a x,x8 kvs (Sum.inr n:h9)=some (.ref a)∧(n,x)∈ts∧SqT K H a (jl x)
 |_,_,.nil,h=>by simp at h
 |kv::r,x::ts,.cons t u,h=>by
  obtain⟨e,a,ea,s⟩:=t
  by_cases hn:x.1=n
  ·subst hn
   refine⟨a,x.2,?_,List.mem_cons_self,s⟩
   rw[N1 e,ea]
  ·have h':n∈ts.map (·.1):=by
    rcases List.mem_cons.mp h with z|z
    ·exact absurd z.symm hn
    ·exact z
   obtain⟨b,y,h1,h2,h3⟩:=TiesIs.val (ts:=ts) u h'
   refine⟨b,y,?_,List.mem_cons_of_mem _ h2,h3⟩
   rw[M6 (by rw[e];intro z;exact hn (Sum.inr.inj z))]
   exact h1
theorem A4 (pts:List (Str×Str)):(x5 pts).map (·.1)=pts.map fun x=>Sum.inr x.1:=by
 unfold x5
 rw[List.map_map];rfl
def lt (a b:Str):Bool:=decide (a.cps.toList<b.cps.toList)
end
end L2
set_option Elab.async false
set_option linter.all false
set_option maxRecDepth 100000
set_option maxHeartbeats 4000000
namespace L2
open PySem PySem.Spec PyProof.Rows
theorem Inv.off {X:Cx}{pins:List (Addr×Obj)}{σ:St}{H:Hp}{s:Shared}{C:Addr}{h':Heap}(I:Inv X pins σ H s)(hH:H C=none)(h0:X.s₀.heap.objs.size≤C)(h1:C≠X.env.locals)(h2:∀x c,X.env.cells.lookup x=some c→c≠C)(h3:∀p∈X.pn++pins,p.1≠C)(sb:Heap.SameBut C s.heap h'):Inv X pins σ H {s with heap:=h'}:=by
 refine I.call' (s':={s with heap:=h'}) (ch:=[C]) rfl ?_ ?_ I.bare fun b hb=>?_
 ·have same:∀b,b∉[C]→h'.get? b=s.heap.get? b:=fun b hb=>sb.2 b fun z=>hb (by rw[z];exact List.mem_cons_self)
  refine⟨fun b o q n hb hx=>?_,fun b o q n hb hx=>?_,fun b o q n hx=>n,fun b o q hx=>?_,fun b xs q=>q,fun b o u q=>q,fun b ps q=>⟨#[],by rw[Array.append_empty];exact q⟩⟩
  ·show h'.get? b=_
   rw[same b hx];exact q
  ·exact⟨o.slots,(same b hx).trans q⟩
  ·exact⟨o,(same b hx).trans q⟩
 ·refine fun b ob e=>(I.hok b ob e).stay (fun c w' hc q=>(sb.2 c ?_).trans q) (fun _ q=>q) fun _ _ q=>q
  rintro rfl
  rcases hc with rfl|hc
  ·rw[hH] at e;cases e
  ·rw[hH] at hc;cases hc
 ·rw[List.mem_singleton.mp hb]
  exact⟨.inr h0,h1,h2,h3⟩
theorem kn {X:Cx}{own:List Str}{js:List Nat}{scope:Scope}{tg iter elt:Expr}{ifs:List Expr}{pos spos py:Pos}{g:TG}{ti:TT}{te:TE}{wi:jz}{i:Nat}{y:Str}(hN:X.N.Nodup)(hy:X.N[i]?=some y)(hl:vf X.env.scope y)(S:yi X own js scope=true)(hc:X.calm=true)(hit:sJ X tg iter wi)
  (hg:∀C s H fp,PG (X9 X own js scope C s H fp) tg g) (hi:∀C s H fp,kD (X9 X own js scope C s H fp) ifs ti) (he:∀C s H fp,PE (X9 X own js scope C s H fp) elt te)
  (hsw:swapsWith (.ListComp elt [⟨tg,iter,ifs,0⟩] scope pos) (some (.Name y py)) spos.line X.env=pure true)
  (hf:X.fn y=true∨X.env.scope.names.lookup y=some .local)
  (hs:∀x,foldedSetIterable iter X.env x=pure x):
  PS X (.Assign [.Name y py] (.ListComp elt [⟨tg,iter,ifs,0⟩] scope pos) spos) (kz (ee own js wi g ti te) (M0 i)):=by
 have SB:=rY S
 intro pins s σ H D I h
 rw[exec_Assign_Name_used _ _ _ _ hsw]
 refine wpAny_bind (wpAny_standAt (wpAny_bind ?_))
 show wpAny _ X.A (do let _←comprehension (.ListComp elt [⟨tg,iter,ifs,0⟩] scope pos) scope X.env _ (newList []) false (eval iter X.env) (some (assign (.Name y py) X.env))) _ _ s
 refine wpAny_bind (wpAny_mono (wpAny_comprehension_free (use:=some (assign (.Name y py) X.env)) (Q:=fun _ s'=>SP X pins D .next s') rfl hs (dH (SB.cells I)) SB.kind SB.names (B7 (hit pins s σ H _ I h) fun v s1 h1=>B7 h1 fun itv s2 h2=>?_)) (fun _ s' hq=>wpAny_pure (wpAny_pure hq)) fun _ _ e=>e)
 obtain⟨it,fp,tn,J,H2,e,I2,T,st2,f2,th,hth,W,⟨m0,w0⟩,turn⟩:=h2
 subst e
 refine wpAny_newObj_type (wpAny_newFunctionEnv SB.nocell (by intro y hy;simp at hy) (fun h₁ hns₁ hsb₁=>?_) SB.kind)
 dsimp only at hns₁ hsb₁⊢
 generalize hH2:s2.heap.push {cls:= .type "list",dict:=none,data:= .seq ([]:List Value).toArray}=G2 at hns₁ hsb₁⊢
 have hCs:G2.objs.size=s2.heap.objs.size+1:=by rw[←hH2,Heap.size_push]
 have hDC:s2.heap.objs.size≠G2.objs.size:=by rw[hCs];exact Nat.ne_of_lt (Nat.lt_succ_self _)
 have hC:s2.heap.objs.size≤G2.objs.size:=by rw[hCs];exact Nat.le_succ _
 have old:∀b o,s2.heap.get? b=some o→h₁.get? b=some o:=fun b o e=>
  hsb₁.extBut b o (Nat.ne_of_lt (Nat.lt_of_lt_of_le (Heap.lt_size e) hC)) (Heap.get?_push_of_some _ (hH2▸Heap.get?_push_of_some _ e))
 have off:∀b o,s2.heap.get? b=some o→b≠G2.objs.size:=fun b o e=>Nat.ne_of_lt (Nat.lt_of_lt_of_le (Heap.lt_size e) hC)
 have hob:∀b∈fp,∃o,s2.heap.get? b=some o:=fun b hb=>let ⟨o,e,_⟩:=T.obj _ _ st2 b hb;⟨o,e⟩
 have hacc:h₁.get? s2.heap.objs.size=some {cls:= .type "list",data:= .seq ([]:List Value).toArray}:=
  hsb₁.extBut _ _ hDC (Heap.get?_push_of_some _ (hH2▸Heap.get?_push_size _ rfl))
 have loop:∀s3:Shared,s3={s2 with heap:=h₁,toks:=s2.toks+([]:List (Str×Value)).length}→
   codeAny (model X.prog X.w) X.A (.compLoop (.ListComp elt [⟨tg,iter,ifs,0⟩] scope pos) 0 (.ref it) (.ref s2.heap.objs.size) (compEnvC scope (cw scope X.env) G2.objs.size X.env))
    (compPost (model X.prog X.w) X.A X.xe (some (assign (.Name y py) X.env)) (fun _ s'=>SP X pins D .next s') (.ref s2.heap.objs.size) G2.objs.size) s3:=by
  rintro s3 rfl
  refine fK (K:=fun out H'=>M0 i (.ref s2.heap.objs.size) σ (th (upd H' s2.heap.objs.size (.lst out))) D.nx) SB hc T I2 f2 (Nat.le_refl _) hC hDC hob (hg _ _ _ _) (hi _ _ _ _) (he _ _ _ _) W (fun i m out H' w=>?_) (fun out H' s' B hl' k=>?_) w0
   ⟨Inv.block SB I2 f2 hob hC hns₁ old,I2.hok.fresh (Nat.le_refl _),[],_,.nil,hacc⟩ (T.keep _ _ _ st2 fun b _ o e=>old b o e) (fun b hb=>(f2 b hb).1)
  ·rcases turn i m out H' w with⟨a,b⟩|c
   ·exact .inl ⟨a,fun n=>b _ n⟩
   ·exact .inr c
  ·obtain⟨mm,hn,_⟩:=B.inv.loc
   have hHC:H' G2.objs.size=none:=B.inv.free
   have IJ:=B.out I2 f2 (Nat.le_refl _) hC hDC hl' (h':=s'.heap) (Heap.SameBut.refl _ _)
   show wpAny _ X.A (assign (.Name y py) X.env (.ref s2.heap.objs.size)) _ _ s'
   refine wpAny_assign_Name (fX IJ hN hy hl (v:= .ref s2.heap.objs.size) rfl (fun s'' I'' hx=>?_) hf)
   obtain⟨a,sa,ha⟩:=hx
   have haC:G2.objs.size≠a:=by
    rcases ha with rfl|ha
    ·exact Ne.symm (Nat.ne_of_lt (Nat.lt_of_lt_of_le I2.lt hC))
    ·obtain⟨_,o,ho,_⟩:=I2.cell _ _ ha
     exact Ne.symm (off _ _ ho)
   refine⟨mm,hn.sameBut sa haC,fun h' sb=>⟨_,_,hth _ _ _ _ (I''.off (by rw[b7 (Ne.symm hDC)];exact hHC) (Nat.le_trans I2.sz hC) (Ne.symm (Nat.ne_of_lt (Nat.lt_of_lt_of_le I2.lt hC))) (fun x c e=>?_) (fun p hp=>off _ _ (I2.pin p hp).1) sb),k⟩⟩
   obtain⟨_,o,ho,_⟩:=I2.cell _ _ e
   exact off _ _ ho
 exact codeAny_compStart_list (loop _ rfl) (T.self _ 0 _ _ _ (T.keep _ _ _ st2 fun b _ o e=>old b o e) (loop _ rfl))
theorem ao {X:Cx}{own:List Str}{js:List Nat}{scope:Scope}{tg iter elt:Expr}{ifs:List Expr}{pos spos py:Pos}{g:TG}{ti:TT}{te:TE}{wi:jz}{i:Nat}{y:Str}(hN:X.N.Nodup)(hy:X.N[i]?=some y)(hl:vf X.env.scope y)(S:yi X own js scope=true)(hc:X.calm=true)(hit:QI X tg iter wi)
  (hg:∀C s H fp,QG (X9 X own js scope C s H fp) tg g) (hi:∀C s H fp,Ap (X9 X own js scope C s H fp) ifs ti) (he:∀C s H fp,QE (X9 X own js scope C s H fp) elt te)
  (hsw:swapsWith (.ListComp elt [⟨tg,iter,ifs,0⟩] scope pos) (some (.Name y py)) spos.line X.env=pure true:=by rfl)
  (hf:X.fn y=true∨X.env.scope.names.lookup y=some .local:=by first|exact .inl rfl|exact .inr rfl)
  (hs:∀x,foldedSetIterable iter X.env x=pure x:=by intro _;rfl):QS X (.Assign [.Name y py] (.ListComp elt [⟨tg,iter,ifs,0⟩] scope pos) spos) (kz (ee own js wi g ti te) (M0 i)):=
 ⟨kn hN hy hl S hc hit.r (fun C s H fp=>(hg C s H fp).r) (fun C s H fp=>(hi C s H fp).r) (fun C s H fp=>(he C s H fp).r) hsw hf hs⟩
end L2
set_option Elab.async false
set_option linter.all false
set_option maxRecDepth 100000
set_option maxHeartbeats 4000000
namespace L2
open PySem PySem.Spec PyProof.Rows
open PySem.AutoSeq1 (wpAny_loadPart')
def NcP (P:Program)(w:World)(A:Around)(s:Shared)(y x:Value)(b:Bool):Prop:=∀(E:Value→Shared→Prop) (Q:Value→Shared→Prop),Q (.bool b) s→wpAny (model P w) A (richCompare .NotEq y x) Q E s
theorem xC {P:Program}{w:World}(l m:Addr)(xs ys:Array Value)(n1 n2:Nat)(d1 d2:Option Addr)(s1 s2:Array (Option Value))(f:Nat→Bool):
  MeetsIn P w (Builtin.«tuple.__ne__» ⟨[.ref l,.ref m],[]⟩) (fun A R s=>
   s.heap.get? l=some {cls:= .type "tuple",dict:=d1,data:= .seq xs n1,slots:=s1}∧s.heap.get? m=some {cls:= .type "tuple",dict:=d2,data:= .seq ys n2,slots:=s2}∧
   (∀j (g1:j<xs.size) (g2:j<ys.size),EqP P w A.in1 s xs[j] ys[j] (f j))∧
   R (.ok (.ret (.bool (!((List.range (min xs.size ys.size)).all f&&xs.size==ys.size))))) s):=
 .of_wp fun A R s hyp=>by
  obtain⟨hp,gg,dr,tk,os⟩:=s
  obtain⟨e1,e2,he,fin⟩:=hyp
  have sub:=AutoSeq1.sub_tuple_tuple
  have len:(xs.toList.zip ys.toList).length=min xs.size ys.size:=by simp
  wp_walk using wpAny_loadPart' e1,wpAny_loadPart' e2,wpAny_forIn_list _ (fun more acc st=>acc.1=none∧st=⟨hp,gg,dr,tk,os⟩∧∃i,more=(xs.toList.zip ys.toList).drop i∧
   R (.ok (.ret (.bool (!(((List.range (min xs.size ys.size)).drop i).all f&&xs.size==ys.size))))) ⟨hp,gg,dr,tk,os⟩) _
  case turn=>
   rintro⟨y,x⟩ more acc st ⟨ha,rfl,i,hi,hR⟩
   have lt:i<(xs.toList.zip ys.toList).length:=by
    rcases Nat.lt_or_ge i (xs.toList.zip ys.toList).length with z|z
    ·exact z
    ·rw[List.drop_of_length_le z] at hi
     cases hi
   have lm:i<min xs.size ys.size:=len▸lt
   have lx:i<xs.size:=Nat.lt_of_lt_of_le lm (Nat.min_le_left _ _)
   have ly:i<ys.size:=Nat.lt_of_lt_of_le lm (Nat.min_le_right _ _)
   rw[List.drop_eq_getElem_cons lt] at hi
   injection hi with h1 h2
   have q1:y=xs[i]:=by simpa using congrArg Prod.fst h1
   have q2:x=ys[i]:=by simpa using congrArg Prod.snd h1
   subst q1 q2
   have dr1:(List.range (min xs.size ys.size)).drop i=i::(List.range (min xs.size ys.size)).drop (i+1):=by simp [List.drop_eq_getElem_cons,lm]
   rw[dr1,List.all_cons] at hR
   refine wpAny_bind (he i lx ly _ _ ?_)
   cases hf:f i with
   |true=>
    rw[hf] at hR
    wp_walk
    exact⟨rfl,rfl,i+1,h2,by simpa using hR⟩
   |false=>
    rw[hf] at hR
    wp_walk
    exact⟨_,rfl,by simpa using hR⟩
  case fin=>
   rintro⟨c1,c2⟩ st ⟨ha,rfl,i,hi,hR⟩
   simp only at ha
   subst ha
   have ge:min xs.size ys.size≤i:=by
    rcases Nat.lt_or_ge i (xs.toList.zip ys.toList).length with z|z
    ·rw[List.drop_eq_getElem_cons z] at hi
     cases hi
    ·exact len▸z
   rw[List.drop_of_length_le (by simpa using ge)] at hR
   wp_walk
   exact⟨_,rfl,by simpa [Builtin.Tuple.tupleCompareSizes,bne] using hR⟩
  case h=>
   exact⟨rfl,rfl,0,rfl,by simpa using fin⟩
theorem NcP.tup {P:Program}{w:World}{A:Around}{s:Shared}{l m:Addr}{xs ys:Array Value}{f:Nat→Bool}(hl:s.heap.IsTuple l xs)(hm:s.heap.IsTuple m ys)(hu:A.units<cLine)
  (he:∀j (g1:j<xs.size) (g2:j<ys.size),EqP P w A.in1 s xs[j] ys[j] (f j)):NcP P w A s (.ref l) (.ref m) (!((List.range (min xs.size ys.size)).all f&&xs.size==ys.size)):=fun E Q q=>by
 obtain⟨⟨c1,d1,a1,s1⟩,o1,k1,n1,t1⟩:=id hl
 obtain⟨⟨c2,d2,a2,s2⟩,o2,k2,n2,t2⟩:=id hm
 simp only at k1 t1 k2 t2
 subst k1 t1 k2 t2
 refine wpAny_richCompare_same_room (op:= .NotEq) ⟨_,o1,rfl⟩ ⟨_,o2,rfl⟩ PySem.F.slot_tuple_ne (call_meetsIn PySem.F.slot_tuple_ne ⟨_,o1,rfl⟩ PySem.F.entry_tuple_ne (PySem.F.args_tuple_ne_2 _ _) (xC l m xs ys n1 n2 d1 d2 s1 s2 f) ⟨o1,o2,he,?_⟩) hu
 exact⟨(fun z=>nomatch z),q⟩
section
variable {X:Cx} {pins:List (Addr×Obj)} {σ:St} {H:Hp} {s:Shared} {A:Around}
def zC (K:PySem.W.Frag):R2:=fun x y H Q=>∃a b p q p' q' r r',x= .ref a∧y= .ref b∧SqT K H a [.ref p,.ref q]∧SqT K H b [.ref p',.ref q']∧EqD K H p p' r∧EqD K H q q' r'∧Q (.bl (!(r&&r'))) H
theorem xl (hu:X.A.units+64<cLine):OpR X (compareOp .NotEq) (zC X.K):=by
 intro pins s σ H x y v u Q I rx ry h
 obtain⟨a,b,p,q,p',q',r,r',rfl,rfl,ha,hb,h1,h2,k⟩:=h
 cases rx
 cases ry
 obtain⟨its,v1,t1,_⟩:=I.tuple ha
 obtain⟨its',v2,t2,_⟩:=I.tuple hb
 obtain⟨_,_,rfl,e1,e2⟩:=Y6 v1
 obtain⟨_,_,rfl,e3,e4⟩:=Y6 v2
 cases e1
 cases e2
 cases e3
 cases e4
 refine NcP.tup (P:=X.prog) (w:=X.w) (f:=fun j=>if j=0 then r else r') (show s.heap.IsTuple a _ from t1) (show s.heap.IsTuple b _ from t2) (by lia) (fun j g1 g2=>?_) _ _ ⟨.bl (!(r&&r')),H,I,by show Value.bool _=Value.bool _;simp [List.range_succ],k⟩
 have g:j<2:=by simpa using g1
 match j,g with
 |0,_=>exact h1.at_ I (by show X.A.units+1+16<_;lia)
 |1,_=>exact h2.at_ I (by show X.A.units+1+16<_;lia)
def zt (K:PySem.W.Frag):R2:=fun x y H Q=>∃a b xs ys,x= .ref a∧y= .ref b∧SqL K H a xs∧SqL K H b ys∧xs.all x9=true∧ys.all x9=true∧Q (.bl (!Z5 xs ys)) H
theorem xF (hu:X.A.units+64<cLine):OpR X (compareOp .NotEq) (zt X.K):=by
 intro pins s σ H x y v u Q I rx ry h
 obtain⟨a,b,xs,ys,rfl,rfl,ha,hb,fx,fy,k⟩:=h
 cases rx
 cases ry
 obtain⟨its,r1,p1,z1⟩:=I.list ha
 obtain⟨its',r2,p2,z2⟩:=I.list hb
 have l1:=r1.length
 have l2:=r2.length
 have e3:its.toArray.size=xs.length:=by simp [l1]
 have e4:its'.toArray.size=ys.length:=by simp [l2]
 by_cases hl:xs.length=ys.length
 ·have q:=SeqAt.RcNeAt.lists (A:=X.A) (e:=fun j=>bA (xs.getD j .non) (ys.getD j .non)) p1.isList p2.isList (by rw[e3,e4];exact hl) (by lia) fun j g1 g2=>by
   have g1':j<its.length:=by simpa using g1
   have g2':j<its'.length:=by simpa using g2
   have x1:xs[j]?=some (xs[j]'(by lia)):=by simp [show j<xs.length by lia]
   have y1:ys[j]?=some (ys[j]'(by lia)):=by simp [show j<ys.length by lia]
   obtain⟨u1,hu1,ru1⟩:=r1.get x1
   obtain⟨u2,hu2,ru2⟩:=r2.get y1
   have e1:its.toArray[j]=u1:=by
    have:=List.getElem?_eq_getElem g1'
    rw[hu1] at this
    simpa using(Option.some.inj this).symm
   have e2:its'.toArray[j]=u2:=by
    have:=List.getElem?_eq_getElem g2'
    rw[hu2] at this
    simpa using(Option.some.inj this).symm
   rw[e1,e2]
   have d1:xs.getD j .non=xs[j]'(by lia):=by rw[List.getD_eq_getElem?_getD,x1];rfl
   have d2:ys.getD j .non=ys[j]'(by lia):=by rw[List.getD_eq_getElem?_getD,y1];rfl
   rw[d1,d2]
   exact ah ru1 ru2 (List.all_eq_true.mp fx _ (List.getElem_mem _)) (List.all_eq_true.mp fy _ (List.getElem_mem _))
  have e5:=D1 xs ys
  rw[hl,Nat.min_self,beq_self_eq_true,Bool.and_true] at e5
  rw[e3,hl,e5] at q
  exact q X.prog X.w _ _ ⟨.bl _,H,I,rfl,k⟩
 ·refine SeqAt.RcNeAt.lists_lengths (A:=X.A) p1.isList p2.isList (by rw[e3,e4];simpa using hl) (by lia) X.prog X.w _ _ ⟨.bl _,H,I,?_,k⟩
  rw[dg hl];rfl
def yF (K:PySem.W.Frag):R2:=fun x y H Q=>(∃a b xs ys,x= .ref a∧y= .ref b∧SqT K H a xs∧SqT K H b ys∧xs.all x9=true∧ys.all x9=true∧Q (.bl (!Z5 xs ys)) H)∨(∃a xs,x= .non∧y= .ref a∧SqT K H a xs∧Q (.bl true) H)
theorem wo (hu:X.A.units+64<cLine):OpR X (compareOp .NotEq) (yF X.K):=by
 intro pins s σ H x y v u Q I rx ry h
 rcases h with⟨a,b,xs,ys,rfl,rfl,ha,hb,fx,fy,k⟩|⟨a,xs,rfl,rfl,ha,k⟩
 ·cases rx
  cases ry
  obtain⟨its,r1,p1,z1⟩:=I.tuple ha
  obtain⟨its',r2,p2,z2⟩:=I.tuple hb
  have l1:=r1.length
  have l2:=r2.length
  have q:=SeqAt.RcNeAt.tuples (A:=X.A) (e:=fun j=>bA (xs.getD j .non) (ys.getD j .non)) (show s.heap.IsTuple a its.toArray from p1) (show s.heap.IsTuple b its'.toArray from p2) (by lia) fun j g1 g2=>by
   have g1':j<its.length:=by simpa using g1
   have g2':j<its'.length:=by simpa using g2
   have x1:xs[j]?=some (xs[j]'(by lia)):=by simp [show j<xs.length by lia]
   have y1:ys[j]?=some (ys[j]'(by lia)):=by simp [show j<ys.length by lia]
   obtain⟨u1,hu1,ru1⟩:=r1.get x1
   obtain⟨u2,hu2,ru2⟩:=r2.get y1
   have e1:its.toArray[j]=u1:=by
    have:=List.getElem?_eq_getElem g1'
    rw[hu1] at this
    simpa using(Option.some.inj this).symm
   have e2:its'.toArray[j]=u2:=by
    have:=List.getElem?_eq_getElem g2'
    rw[hu2] at this
    simpa using(Option.some.inj this).symm
   rw[e1,e2]
   have d1:xs.getD j .non=xs[j]'(by lia):=by rw[List.getD_eq_getElem?_getD,x1];rfl
   have d2:ys.getD j .non=ys[j]'(by lia):=by rw[List.getD_eq_getElem?_getD,y1];rfl
   rw[d1,d2]
   exact ah ru1 ru2 (List.all_eq_true.mp fx _ (List.getElem_mem _)) (List.all_eq_true.mp fy _ (List.getElem_mem _))
  have e3:its.toArray.size=xs.length:=by simp [l1]
  have e4:its'.toArray.size=ys.length:=by simp [l2]
  rw[e3,e4,D1] at q
  exact q X.prog X.w _ _ ⟨.bl _,H,I,rfl,k⟩
 ·cases rx
  cases ry
  obtain⟨its,r1,p1,z1⟩:=I.tuple ha
  exact SeqAt.RcNeAt.none_tuple (A:=X.A) (show s.heap.IsTuple a its.toArray from p1) (by lia) X.prog X.w _ _ ⟨.bl true,H,I,rfl,k⟩
def vy (K:PySem.W.Frag):R2:=fun x y H Q=>∃a b ka kb r0,x= .ref a∧y= .ref b∧Rd H a (.dK ka)∧Rd H b (.dK kb)∧EqH K H kb ka r0∧Q (.bl (ka.length==kb.length&&r0)) H
def uY (K:PySem.W.Frag):R2:=fun x y H Q=>∃a b ka kb r0,x= .ref a∧y= .ref b∧Rd H a (.dK ka)∧Rd H b (.dK kb)∧EqH K H kb ka r0∧Q (.bl (!(ka.length==kb.length&&r0))) H
theorem sH (hu:X.A.units+64<cLine):OpR X (compareOp .Eq) (vy X.K):=by
 intro pins s σ H x y v u Q I rx ry h
 obtain⟨a,b,ka,kb,r0,rfl,rfl,h1,h2,h3,k⟩:=h
 cases rx
 cases ry
 obtain⟨z1,d1,va,ra,da⟩:=C1 I.hok h1
 obtain⟨z2,d2,vb,rb,db⟩:=C1 I.hok h2
 have l1:=KV.length ra
 have l2:=KV.length rb
 exact PySem.W.keq_eq (knd:=i8 X.prog X.w) d1 d2 da db (by lia) (fun _=>h3.hits (A:=X.A.in1) I (by show X.A.units+1+8<_;lia) rb ra) ⟨.bl _,H,I,rfl,by rw[←l1,←l2];exact k⟩
theorem uy (hu:X.A.units+64<cLine):OpR X (compareOp .NotEq) (uY X.K):=by
 intro pins s σ H x y v u Q I rx ry h
 obtain⟨a,b,ka,kb,r0,rfl,rfl,h1,h2,h3,k⟩:=h
 cases rx
 cases ry
 obtain⟨z1,d1,va,ra,da⟩:=C1 I.hok h1
 obtain⟨z2,d2,vb,rb,db⟩:=C1 I.hok h2
 have l1:=KV.length ra
 have l2:=KV.length rb
 exact PySem.W.keq_ne (knd:=i8 X.prog X.w) d1 d2 da db (by lia) (fun _=>h3.hits (A:=X.A.in1) I (by show X.A.units+1+8<_;lia) rb ra) ⟨.bl _,H,I,rfl,by rw[←l1,←l2];exact k⟩
def wI (K:PySem.W.Frag):R2:=fun x y H Q=>nk K x y H Q∨vy K x y H Q
theorem AV (K:PySem.W.Frag){k:Nat}(hr:Room k X.A)(h:X.K=K:=by rfl):OpR X (compareOp .Eq) (wI K):=(Cs K hr h).or (h▸sH hr.units)
def mZ (K:PySem.W.Frag):R2:=fun x y H Q=>AE x y H Q∨zt K x y H Q∨yF K x y H Q∨zC K x y H Q∨uY K x y H Q
theorem Cm (K:PySem.W.Frag){k:Nat}(hr:Room k X.A)(h:X.K=K:=by rfl):OpR X (compareOp .NotEq) (mZ K):=h▸op_ne.or ((xF hr.units).or ((wo hr.units).or ((xl hr.units).or (uy hr.units))))
end
section
variable {K:PySem.W.Frag} {H:Hp} {Q:VK}
theorem AF {x y:V}(q:nk K x y H Q):wI K x y H Q:= .inl q
theorem jk {i j:Int}(q:Q (.bl (!decide (i=j))) H):mZ K (.int i) (.int j) H Q:= .inl (iy q)
theorem eN {a b:Addr}{xs ys:List V}(ha:SqL K H a xs)(hb:SqL K H b ys)(fx:xs.all x9=true)(fy:ys.all x9=true)(q:Q (.bl (!Z5 xs ys)) H):mZ K (.ref a) (.ref b) H Q:= .inr (.inl ⟨a,b,xs,ys,rfl,rfl,ha,hb,fx,fy,q⟩)
end
section
variable {X:Cx} {o e f:Expr} {apos cpos:Pos} {td ty tx:TE} {name:Str}
theorem yC (hb:attributeBase o name X.env (eval o X.env)=eval o X.env)(hl:(apos.endLine==cpos.line)=true)(h:k4 e=true)(h':k4 f=true):M2 X o name apos e f cpos:=by
 have z:starEach [e,f] X.env=[(false,eval e X.env),(false,eval f X.env)]:=by rw[E8 (es:=[f]) h,E8 (es:=[]) h'];rfl
 have z2:backTo cpos (starEach [e,f] X.env)=[(false,eval e X.env),(false,eval f X.env)]:=by rw[z];rfl
 exact⟨hb,by rw[z2];rfl,hl,z2⟩
theorem rh (hu:X.A.units+1<cLine)(ho:QE X o td)(he:QE X e ty)(hf:QE X f tx)(hb:attributeBase o "get" X.env (eval o X.env)=eval o X.env:=by rfl)(hl:(apos.endLine==cpos.line)=true:=by rfl)(h:k4 e=true:=by rfl)(h':k4 f=true:=by rfl):
  QE X (.Call (.Attribute o "get" apos) [e,f] [] cpos) (kX td ty tx):=⟨rA hu ho.r he.r hf.r (yC hb hl h h')⟩
end
section
variable {σ:St} {H:Hp} {Q:VK} {td ty tx:TE}
end
end L2
set_option Elab.async false
set_option linter.all false
set_option maxRecDepth 100000
set_option maxHeartbeats 4000000
namespace L2
open PySem PySem.Spec PyProof.Rows
open Sem (wp)
section
variable {prog:Program} {w:World} {KT:Type} [DecidableEq KT] {knd:KeyKind prog w KT} {A:Around} {E:Value→Shared→Prop} {s:Shared}
theorem cu {it d:Addr}{i ep:Nat}{kvs:List (KT×Value)}{k:KT}{v:Value}{Q:Value→Shared→Prop}(hit:s.heap.IsKeyIter it d i kvs.length ep)
  (hm:s.heap.DictAt knd d kvs ep) (hx:kvs[i]?=some (k,v))
  (hQ:∀key h',knd.is k key=true→h'.IsKeyIter it d (i+1) kvs.length ep→Heap.SameBut it s.heap h'→Q key {s with heap:=h'}):
  wpAny (model prog w) A (Builtin.SmallTypes.nextOf (.ref it)) Q E s:=by
 obtain⟨o,ho,hc,hd⟩:=id hit
 obtain⟨od,es,hod,hcd,hdd,hk,hp,hn⟩:=id hm
 have hsz:es.size=kvs.length:=by rw[←hp.length];simp
 have hlt:i<kvs.length:=(List.getElem?_eq_some_iff.mp hx).1
 have hlt':i<es.size:=by rw[hsz];exact hlt
 have hkey:knd.is k es[i].key=true:=(hp.get? (e:=es[i]) (by simp [hlt']) hx).1
 have hown:Builtin.Dict_items.ownsTuple "dict_keyiterator"=false:=by decide
 unfold Builtin.SmallTypes.nextOf
 refine wpAny_bind (wpAny_callSpecial?_slot (name:=Str.ofString "__next__") hit.typeIs F.slot_dict_keyiterator_next
  (wpAny_call_entry F.slot_dict_keyiterator_next hit.typeIs F.entry_dict_keyiterator_next ?_ (F.args_dict_keyiterator_next_1 _)))
 refine wpAny_bind (wpAny_pure (wpAny_bind (wpAny_bind ?_)))
 first|refine wpAny_bind (wpAny_typeNameOfWhole_keyiter hit.typeIs (wpAny_pure ?_))|refine wpAny_bind (wpAny_typeNameOf_keyiter hit.typeIs (wpAny_pure ?_))
 refine wpAny_bind (wpAny_fieldsOf ho hd ?_)
 simp only[hown,Bool.false_eq_true,if_false]
 show wpAny _ _ (if(Value.ref d==Value.none)=true then _ else _) _ _ s
 rw[if_neg (show ¬((Value.ref d==Value.none)=true) from Bool.false_ne_true)]
 refine wpAny_bind (wpAny_pure (wpAny_bind (wpAny_dictEntries hod hdd ?_)))
 rw[if_neg (by rw[hsz];simp)]
 refine wpAny_bind (wpAny_pure (wpAny_bind (wpAny_dictEpoch hod hdd ?_)))
 rw[if_neg (by simp)]
 refine wpAny_pure ?_
 simp only[show ¬((i:Int)<0) from by lia,if_false,Int.toNat_natCast,Array.getElem?_eq_getElem hlt']
 refine wpAny_bind ?_
 first|refine wpAny_bind (wpAny_typeNameOfWhole_keyiter hit.typeIs (wpAny_pure ?_))|refine wpAny_bind (wpAny_typeNameOf_keyiter hit.typeIs (wpAny_pure ?_))
 refine wpAny_bind (wpAny_isOneOf_keyiter hit.typeIs ?_)
 show wpAny _ _ (setField (.ref it) 1 (rawInt ((i:Int)+1))>>=_) _ _ s
 refine wpAny_bind (wpAny_setField ho hd (by simp) ?_)
 have hit':(s.heap.update it (Obj.mapFields (·.setIfInBounds 1 (rawInt ((i:Int)+1))))).IsKeyIter it d (i+1) kvs.length ep:=
  ⟨_,Heap.get?_update_self _ ho (Obj.isFreed_of_fields (Obj.data_mapFields hd _)),(Obj.cls_mapFields ..).trans hc,by rw[Obj.data_mapFields hd];simp [rawInt]⟩
 refine wpAny_bind (wpAny_holding ?_)
 refine wpAny_bind (wpAny_isOneOf_keyiter (s:={s with heap:=s.heap.update it (Obj.mapFields (·.setIfInBounds 1 (rawInt ((i:Int)+1))))}) hit'.typeIs ?_)
 show wpAny _ _ (pure es[i].key) _ _ _
 exact wpAny_pure (wpAny_pure ⟨_,rfl,wpAny_pure (hQ _ _ hkey hit' (Heap.SameBut.update ..))⟩)
theorem cL {it d:Addr}{i ep:Nat}{kvs:List (KT×Value)}{Q:Value→Shared→Prop}(hh:A.handled=none)(hit:s.heap.IsKeyIter it d i kvs.length ep)
  (hm:s.heap.DictAt knd d kvs ep) (hx:kvs[i]?=none)
  (hE:∀h' e,Heap.ExtBut it s.heap h'→(∃o,h'.get? e=some o∧o.cls= .type "StopIteration")→E (.ref e) {s with heap:=h'}):
  wpAny (model prog w) A (Builtin.SmallTypes.nextOf (.ref it)) Q E s:=by
 obtain⟨o,ho,hc,hd⟩:=id hit
 obtain⟨od,es,hod,hcd,hdd,hk,hp,hn⟩:=id hm
 have hsz:es.size=kvs.length:=by rw[←hp.length];simp
 have hge:es.size≤i:=by rw[hsz];simpa using hx
 have hown:Builtin.Dict_items.ownsTuple "dict_keyiterator"=false:=by decide
 unfold Builtin.SmallTypes.nextOf
 refine wpAny_bind (wpAny_callSpecial?_slot (name:=Str.ofString "__next__") hit.typeIs F.slot_dict_keyiterator_next
  (wpAny_call_entry F.slot_dict_keyiterator_next hit.typeIs F.entry_dict_keyiterator_next ?_ (F.args_dict_keyiterator_next_1 _)))
 refine wpAny_bind (wpAny_pure (wpAny_bind (wpAny_bind ?_)))
 first|refine wpAny_bind (wpAny_typeNameOfWhole_keyiter hit.typeIs (wpAny_pure ?_))|refine wpAny_bind (wpAny_typeNameOf_keyiter hit.typeIs (wpAny_pure ?_))
 refine wpAny_bind (wpAny_fieldsOf ho hd ?_)
 simp only[hown,Bool.false_eq_true,if_false]
 show wpAny _ _ (if(Value.ref d==Value.none)=true then _ else _) _ _ s
 rw[if_neg (show ¬((Value.ref d==Value.none)=true) from Bool.false_ne_true)]
 refine wpAny_bind (wpAny_pure (wpAny_bind (wpAny_dictEntries hod hdd ?_)))
 rw[if_neg (by rw[hsz];simp)]
 refine wpAny_bind (wpAny_pure (wpAny_bind (wpAny_dictEpoch hod hdd ?_)))
 rw[if_neg (by simp)]
 refine wpAny_pure ?_
 simp only[show ¬((i:Int)<0) from by lia,if_false,Int.toNat_natCast,Array.getElem?_eq_none hge]
 refine wpAny_bind ?_
 first|refine wpAny_bind (wpAny_typeNameOfWhole_keyiter hit.typeIs (wpAny_pure ?_))|refine wpAny_bind (wpAny_typeNameOf_keyiter hit.typeIs (wpAny_pure ?_))
 show wpAny _ _ (setField (.ref it) 0 .none>>=_) _ _ s
 refine wpAny_bind (wpAny_setField ho hd (by simp) ?_)
 show wpAny _ _ (newExc (.type "StopIteration") []>>=_) _ _ _
 refine wpAny_bind ?_
 simp only[newExc,newTuple]
 refine wpAny_bind (wpAny_newObj_type ?_ (by size_fits))
 refine wpAny_bind (m:=firstArgMember _ _) (wpAny_of_eq (a:=Value.none) (by first|rfl|(simp only[firstArgMember];rfl)) ?_)
 refine wpAny_newObj_type ?_ (by size_fits)
 simp only[raiseNew]
 refine wpAny_bind (wpAny_handled ?_)
 first|rw[show A.in1.handled=none from hh]|rw[hh]
 refine wpAny_bind (wpAny_pure (wpAny_throw ?_))
 exact hE _ _ (((Heap.SameBut.update ..).extBut.push _).push _) ⟨_,Heap.get?_push_size _ rfl,rfl⟩
end
section
variable {prog:Program} {w:World} {KT:Type} [DecidableEq KT] {knd:KeyKind prog w KT} {A:Around} {E:Value→Shared→Prop} {s:Shared}
open PySem.AutoSeq1 (wpAny_loadPart')
abbrev F1 (d:Addr)(n ep:Nat):Obj:={cls:= .type "dict_keyiterator",data:= .fields #[.ref d,.int 0 0,.int n 0,.int ep 0]}
abbrev gw (it:Addr):Obj:={cls:= .type "enumerate",data:= .fields #[.none,.bool false,.ref it,rawInt 0,.none,.none]}
theorem pJ (d:Addr)(kvs:List (KT×Value))(ep:Nat)(hd:(d==sysModules)=false):
  MeetsIn prog w (Builtin.«enumerate.__new__» ⟨[.type "enumerate",.ref d],[]⟩) (fun _ R s=>s.heap.DictAt knd d kvs ep∧
   R (.ok (.ret (.ref (s.heap.push (F1 d kvs.length ep)).objs.size))) {s with heap:=(s.heap.push (F1 d kvs.length ep)).push (gw s.heap.objs.size)}):=
 .of_wp fun A R s h=>by
  obtain⟨hp,g,dr,tk,os⟩:=s;obtain⟨hm,h⟩:=h
  have hsub:=sub_enumerate
  obtain⟨⟨c,dct,dt,sl⟩,es,hod,hcd,hdd,hk,hp',hn⟩:=id hm
  have hc:c= .type "dict":=hcd.1
  subst hc
  wp_walk using wpAny_loadPart' hod
  refine wpAny_stack_any fun st=>wpAny_pure ?_
  split
  ·rename_i c _ _ _ _ _
   cases (c==Value.type "enumerate")
   ·wp_walk using wpAny_loadPart' hod,wpAny_pyIter_dict hd hm
    exact⟨_,rfl,h⟩
   ·wp_walk using wpAny_loadPart' hod,wpAny_pyIter_dict hd hm
    exact⟨_,rfl,h⟩
  ·wp_walk using wpAny_loadPart' hod,wpAny_pyIter_dict hd hm
   exact⟨_,rfl,h⟩
theorem kj {d:Addr}{kvs:List (KT×Value)}{ep:Nat}{Q:Value→Shared→Prop}(hd:(d==sysModules)=false)(hm:s.heap.DictAt knd d kvs ep)
  (h:∀h',IsEnum h' (s.heap.objs.size+1) s.heap.objs.size 0 .none→h'.IsKeyIter s.heap.objs.size d 0 kvs.length ep→h'.objs.size=s.heap.objs.size+2→
   (∀b o,s.heap.get? b=some o→h'.get? b=some o)→Q (.ref (s.heap.objs.size+1)) {s with heap:=h'}):
  wpAny (model prog w) A (call (.type "enumerate") [.ref d]) Q E s:=by
 refine callType_newIn F.called_enumerate (by decide) (F.typeCall_enumerate_1 _) (F.newCall_enumerate_1 _) (fun obj=>F.args_object_init_2 obj _) F.entry_enumerate_new
  (pJ (knd:=knd) d kvs ep hd) ⟨hm,?_⟩
 have hz:(s.heap.push (F1 d kvs.length ep)).objs.size=s.heap.objs.size+1:=Heap.size_push ..
 show _∧_
 rw[hz]
 have he:IsEnum ((s.heap.push (F1 d kvs.length ep)).push (gw s.heap.objs.size)) (s.heap.objs.size+1) s.heap.objs.size 0 .none:=by
  have:=Heap.get?_push_size (s.heap.push (F1 d kvs.length ep)) (o:=gw s.heap.objs.size) rfl
  rw[hz] at this;exact this
 refine⟨⟨_,he,rfl⟩,h _ he ⟨_,Heap.get?_push_of_some _ (Heap.get?_push_size _ rfl),rfl,rfl⟩ (by rw[Heap.size_push,hz]) fun b o x=>Heap.get?_push_of_some _ (Heap.get?_push_of_some _ x)⟩
theorem fB (hh:A.handled=none){it d:Addr}(hne:d≠it)(kvs:List (KT×Value))(ep:Nat):
  Draws prog w A it [it,d] kvs.length (fun i v=>∃k x,kvs[i]?=some (k,x)∧knd.is k v=true) (fun i h=>h.IsKeyIter it d i kvs.length ep∧h.DictAt knd d kvs ep) where
 live:=fun _ _ st=>let ⟨o,ho,_⟩:=st.1;⟨o,ho⟩
 frame:=fun _ _ _ st hk=>⟨st.1.at fun o e=>hk it (by simp) o e,let ⟨o,es,e,r⟩:=st.2;⟨o,es,hk d (by simp) o e,r⟩⟩
 item:=fun i s Q E hi st hQ=>by
  obtain⟨⟨k,x⟩,hx⟩:∃p,kvs[i]?=some p:=⟨kvs[i],by simp [hi]⟩
  refine cu st.1 st.2 hx fun key h' hkey hit' hs'=>?_
  exact hQ key h' s.toks ⟨k,x,hx,hkey⟩ ⟨hit',let ⟨o,es,e,r⟩:=st.2;⟨o,es,hs'.extBut _ _ hne e,r⟩⟩ hs'
 done:=fun s Q E st hE=>cL hh st.1 st.2 (by simp) hE
end
def xr (d:Addr)(o:Obj)(kvs:List (h9×V)):It:=
 ⟨fun i H=>H d=some (.frz o (.dK kvs))∧i<kvs.length,fun i H x H'=>∃t kv,kvs[i]?=some kv∧H t=none∧x= .ref t∧H'=upd H t (.tup [.int i,kV kv.1]),fun i H=>H d=some (.frz o (.dK kvs))∧kvs.length=i⟩
theorem kc {P:Program}{w:World}{K:PySem.W.Frag}{elts:List Expr}{x1}{tpos:Pos}{d:Addr}{o:Obj}{kvs:List (h9×V)}{vs:List (h9×Value)}{ep:Nat}(D:rB P w d o kvs vs ep){en it:Addr}(hne:en≠it):
  aU P w K (.Tuple elts x1 tpos) (xr d o kvs) [en,it] en (fun i h=>∃old,IsEnum h en it i old∧h.IsKeyIter it d i vs.length ep) where
 mem:=by simp
 obj:=fun i h st b hb=>by
  obtain⟨old,h1,o,e,c,dd⟩:=st
  have hb':b=en∨b=it:=by simpa using hb
  rcases hb' with rfl|rfl
  ·exact⟨_,h1,fun v z=>by
    have z':Data.fields _=Data.cell v:=z
    cases z'⟩
  ·exact⟨o,e,fun v z=>by rw[dd] at z;cases z⟩
 keep:=fun i h h' st k=>by
  obtain⟨old,h1,h2⟩:=st
  exact⟨old,k en (by simp) _ h1,h2.at fun o e=>k it (by simp) o e⟩
 item:=by
  intro X hP hw hK hc i pins s σ H E I hf st hg
  subst hP hw hK
  obtain⟨old,st1,st2⟩:=st
  obtain⟨hfz,hi⟩:=hg
  have dat:=D.at_ s.heap (I.hok d _ hfz).1
  have hl:=KV.length D.kv
  have hdi:d≠it:=c9 hfz (hf it (by simp)).1
  have hde:d≠en:=c9 hfz (hf en (by simp)).1
  have hen:en<s.heap.objs.size:=Heap.lt_size st1
  have hit:it<s.heap.objs.size:=by obtain⟨o,e,_⟩:=st2;exact Heap.lt_size e
  obtain⟨kv,hkv⟩:∃kv,kvs[i]?=some kv:=⟨kvs[i],by simp [hi]⟩
  refine wpAny_pyNext_enum_itemD (fB (knd:=i8 X.prog X.w) (A:=X.A.in1) (show X.A.in1.handled=none from I.ok.hd hc) hdi vs ep) st1 ⟨st2,dat⟩ (by lia) hne (by simp;exact⟨hne,Ne.symm hde⟩) fun u h' tk hP heo hst1 ht1 hz1 hk1=>?_
  obtain⟨k,x,hx,hkey⟩:=hP
  have hkk:kv.1=k:=by
   have e1:(kvs.map (·.1))[i]?=some kv.1:=by rw[List.getElem?_map,hkv];rfl
   rw[KV.keys D.kv,List.getElem?_map,hx] at e1
   exact(Option.some.inj e1).symm
  refine⟨.ref s.heap.objs.size,rfl,wpAny_letOwnedTupleGo_enum (s:={s with heap:=h',toks:=tk+1}) heo fun h'' he'' hs''=>?_⟩
  have hs2:Heap.SameBut en h' h'':=hs''
  have tupAt:h''.get? s.heap.objs.size=some {cls:= .type "tuple",data:= .seq #[.int i tk,u]}:=hs2.extBut _ _ (Nat.ne_of_gt hen) ht1
  obtain⟨fr,I1,fr2⟩:=I.pairNew (fp:=[en,it]) (h':=h'') (tk:=tk+1) (x:= .int i) (y:=kV kv.1) hf (fun b o hb e=>by
   have hb':b≠en∧b≠it:=by simpa using hb
   exact hs2.extBut b o hb'.1 (hk1 b o hb'.1 hb'.2 e)) (fun b hb=>by
   have hb':b=en∨b=it:=by simpa using hb
   rcases hb' with rfl|rfl
   ·exact hen
   ·exact hit) tupAt ⟨_,rfl⟩ (by rw[hkk];exact cD hkey)
  refine⟨.ref s.heap.objs.size,_,I1,rfl,⟨_,kv,hkv,fr,rfl,rfl⟩,⟨_,he'',?_⟩,fr2⟩
  exact hst1.1.at fun o e=>hs2.extBut it o (Ne.symm hne) e
 done:=by
  intro X hP hw hK hc i pins s σ H E I hf st hg
  subst hP hw hK
  obtain⟨old,st1,st2⟩:=st
  obtain⟨hfz,hi⟩:=hg
  have dat:=D.at_ s.heap (I.hok d _ hfz).1
  have hl:=KV.length D.kv
  have hdi:d≠it:=c9 hfz (hf it (by simp)).1
  have e:i=vs.length:=by lia
  subst e
  exact wpAny_pyNext_enum_endD (fB (knd:=i8 X.prog X.w) (A:=X.A.in1) (show X.A.in1.handled=none from I.ok.hd hc) hdi vs ep) st1 ⟨st2,dat⟩ fun h' eb=>⟨rfl,I.turnedAll (fp:=[en,it]) (tk:=s.toks) hf fun b o hb e=>eb b o (by
   have hb':b≠en∧b≠it:=by simpa using hb
   exact hb'.2) e⟩
 self:=fun _ _ _ _ _ st h=>by
  obtain⟨old,st1,st2⟩:=st
  exact wpAny_pyIter_enum st1 h
section
variable {X:Cx} {a:Expr} {t:TA} {p pos:Pos}
def lF (K:PySem.W.Frag)(ta:TA):jz:=fun σ H R=>ta σ H fun vs H1=>∃v,vs=[v]∧((∃l xs,v= .ref l∧SqL K H1 l xs∧R (Bs K l) id H1)∨rIterD xr v H1 R)
theorem rC {elts:List Expr}{x1}{tpos:Pos}(hg:Gl X "enumerate")(hm:X.mg "enumerate"=none)(ha:PA X [a] t)(hs:starEach [a] X.env=[(false,eval a X.env)]):sJ X (.Tuple elts x1 tpos) (.Call (.Name "enumerate" p) [a] [] pos) (lF X.K t):=by
 intro pins s σ H R I h
 refine Call_ (bz I hg hm Boot.«enumerate» (PyProof.Rows.callWith_type1 (B7 (ha pos pins s σ H _ I h) fun us s1 ⟨vs,H1,I1,r1,q1⟩=>?_) hs rfl))
 obtain⟨v,e,q⟩:=q1
 subst e
 obtain⟨u,rfl,ru⟩:=D0 r1
 rcases q with⟨l,xs,rfl,hq,q⟩|q
 ·cases ru
  obtain⟨its,rv,pl,hz⟩:=I1.list hq
  refine call_enumerate_list pl.isList fun h' he hit hsz hk=>?_
  have I2:Inv X pins σ H1 {s1 with heap:=h'}:=I1.kept (t':=s1.toks) hk
  refine wpAny_pyIter_enum (s:={s1 with heap:=h'}) he ?_
  refine⟨s1.heap.objs.size+1,[s1.heap.objs.size+1,s1.heap.objs.size],_,_,H1,rfl,I2,oD (l:=l) (Nat.succ_ne_self _),⟨_,he,hit⟩,fun b hb=>?_,id,cG,q⟩
  have hb':b=s1.heap.objs.size+1∨b=s1.heap.objs.size:=by simpa using hb
  rcases hb' with rfl|rfl
  ·exact I1.fpOk (Nat.le_succ _) (I1.hok.fresh (Nat.le_succ _))
  ·exact I1.fpOk (Nat.le_refl _) (I1.hok.fresh (Nat.le_refl _))
 ·obtain⟨d,kvs,o,vs,ep,th,H',rfl,hd,ho,D,I2,hth,q⟩:=rIterD.go I1 ru q
  refine kj (knd:=i8 X.prog X.w) hd (D.at_ _ ho) fun h' he hit hsz hk=>?_
  have I3:Inv X pins σ H' {s1 with heap:=h'}:=I2.kept (t':=s1.toks) hk
  refine wpAny_pyIter_enum (s:={s1 with heap:=h'}) he ?_
  refine⟨s1.heap.objs.size+1,[s1.heap.objs.size+1,s1.heap.objs.size],_,_,H',rfl,I3,kc D (Nat.succ_ne_self _),⟨_,he,hit⟩,fun b hb=>?_,th,hth,q⟩
  have hb':b=s1.heap.objs.size+1∨b=s1.heap.objs.size:=by simpa using hb
  rcases hb' with rfl|rfl
  ·exact I2.fpOk (Nat.le_succ _) (I2.hok.fresh (Nat.le_succ _))
  ·exact I2.fpOk (Nat.le_refl _) (I2.hok.fresh (Nat.le_refl _))
theorem jv (K:PySem.W.Frag){elts:List Expr}{x1}{tpos:Pos}(hm:X.mg "enumerate"=none)(ha:QA X [a] t)(hg:Gl X "enumerate":=by rfl)(h:k4 a=true:=by rfl)(hK:X.K=K:=by rfl):QI X (.Tuple elts x1 tpos) (.Call (.Name "enumerate" p) [a] [] pos) (lF K t):=
 ⟨hK▸rC hg hm ha.r (E8 h)⟩
end
section
variable {K:PySem.W.Frag} {σ:St} {H:Hp} {ta:TA} {R:It→(Hp→Hp)→Hp→Prop}
theorem uV (q:ta σ H fun vs H1=>∃v,vs=[v]∧((∃l xs,v= .ref l∧SqL K H1 l xs∧R (Bs K l) id H1)∨rIterD xr v H1 R)):lF K ta σ H R:=q
end
end L2
set_option Elab.async false
set_option linter.all false
set_option maxRecDepth 100000
set_option maxHeartbeats 4000000
namespace L2
open PySem PySem.Spec PyProof.Rows
open Sem (wp)
theorem gr:typeLookup (.type "list") "keys"=pure none:=by rw[typeLookup_type,builtinLookup_eq_fast];kernel_rfl
section
variable {prog:Program} {w:World} {A:Around} {E:Value→Shared→Prop} {s:Shared}
theorem nX {a:Addr}{o:Obj}{xs:Array Value}{k:Nat}{Q:Option Value→Shared→Prop}
  (hx:s.heap.get? a=some o) (hc:o.cls= .type "list") (hdat:o.data= .seq xs k) (hd:o.dict=none) (hA:A.handled=none)
  (h:∀h' tk,(∀b ob,s.heap.get? b=some ob→h'.get? b=some ob)→Q none {s with heap:=h',toks:=tk}):
  wpAny (model prog w) A (getAttr? (.ref a) "keys") Q E s:=by
 obtain⟨c,dct,dat,sl⟩:=o
 simp only at hc hdat hd
 subst hc hdat hd
 obtain⟨hp,g,d,tk,os⟩:=s
 have hT:∀tk',(⟨hp,g,d,tk',os⟩:Shared).TypeIs (.ref a) "list":=fun _=>⟨_,hx,rfl⟩
 have f1:=sub_AttributeError
 have f3:=F.slot_list_getattribute.lookup
 have f4:=F.slot_list_getattribute.bind (.ref a)
 have f5:=am_list_getattr_none
 unfold getAttr? getAttrBy? getAttrBy
 repeat(any_goals (first|assumption|exact hT _|((with_reducible show wpAny _ _ (call (Value.builtin "list.__getattribute__") _ _) _ _ _);refine call_meets F.slot_list_getattribute (hT _) am_entry_list_getattribute (F.args_list_getattribute_2 _ _) (meets_getattribute_miss_list a xs k sl "keys" _ gr (by decide+kernel) (by decide+kernel)) ⟨hx,hA,fun h' tk' e hx'=>?_⟩)|wp_step))
 obtain⟨t',u',he⟩:=hx'.there
 show wpAny _ _ (getattributeRaised _ _ _ _ _ _ _) _ _ _
 unfold getattributeRaised
 repeat(any_goals (first|assumption|wp_step))
 exact h _ _ hx'.keeps
end
theorem T6:entryFor table "dict.update.loop"=some Builtin.«dict.update.loop»:=entryFor_of_tree (by kernel_rfl)
theorem C6:plainId "dict.update.loop"=true:=by decide+kernel
section
variable {prog:Program} {w:World} {KT:Type} [DecidableEq KT] {knd:KeyKind prog w KT} {A:Around} {E:Value→Shared→Prop}
def PairAt (knd:KeyKind prog w KT)(h:Heap)(d it:Addr)(u:Value)(kv:KT×Value):Prop:=∃t key,u= .ref t∧h.IsTuple t #[key,kv.2]∧knd.is kv.1 key=true∧t≠d∧t≠it
theorem PairAt.keep {h h':Heap}{d it:Addr}{u:Value}{kv:KT×Value}(p:PairAt knd h d it u kv)(k:∀b o,b≠d→b≠it→h.get? b=some o→h'.get? b=some o):PairAt knd h' d it u kv:=by
 obtain⟨t,key,e,⟨o,ho,r⟩,hk,h1,h2⟩:=p
 exact⟨t,key,e,⟨o,k t o h1 h2 ho,r⟩,hk,h1,h2⟩
theorem nI {d it l:Addr}{items:List Value}{res:Value}(hh:A.handled=none)(hdi:d≠it)(hli:l≠it)(hld:l≠d):
  ∀(more:List (KT×Value)) (i:Nat) (s:Shared) (kvs:List (KT×Value)) (R:Result→Shared→Prop),
   s.heap.IsListIter it l i→s.heap.IsList l items.toArray→Paired (PairAt knd s.heap d it) (items.drop i) more→s.heap.DictOf knd d kvs→kvs.length+more.length≤sizeLine→
   (∀h' tk,(∀b o,b≠d→b≠it→s.heap.get? b=some o→h'.get? b=some o)→h'.DictOf knd d (more.foldl (fun a x=>stored a x.1 x.2) kvs)→R (.ok (.ret res)) {s with heap:=h',toks:=tk})→
   codeAny (model prog w) A (.builtin "dict.update.loop" ⟨[.ref d,.ref it,rawInt (i:Int),res],[]⟩) R s:=by
 intro more
 induction more with
 |nil=>
  intro i s kvs R hit hl hp hd hz hR
  have hx:items.toArray[i]?=none:=by
   have hn:items.drop i=[]:=by cases hp':items.drop i with
    |nil=>rfl
    |cons x r=>rw[hp'] at hp;cases hp
   have:=List.drop_eq_nil_iff.mp hn
   simp;lia
  refine codeAny_builtin T6 ?_
  rw[Around.under_plainId C6 _]
  show wpAny _ A.in1 (pyNext (.ref it)>>=_) _ _ s
  refine wpAny_bind (wpAny_pyNext_list_end (A:=A.in1) hh hit hl hx fun h' eb=>?_)
  show wpAny _ A.in1 (Builtin.Dict.addKeywords d []>>=_) _ _ _
  refine wpAny_bind (wpAny_pure (wpAny_pure ?_))
  exact hR h' s.toks (fun b o h1 h2 e=>eb b o h2 e) (hd.extBut eb hdi)
 |cons kv more ih=>
  intro i s kvs R hit hl hp hd hz hR
  obtain⟨x,hx,hp0,hp1⟩:∃x,items.toArray[i]?=some x∧PairAt knd s.heap d it x kv∧Paired (PairAt knd s.heap d it) (items.drop (i+1)) more:=by
   cases hp':items.drop i with
   |nil=>rw[hp'] at hp;cases hp
   |cons x r=>
    rw[hp'] at hp
    cases hp with
    |cons h1 h2=>
     refine⟨x,?_,h1,?_⟩
     ·have z:=congrArg List.head? hp'
      simpa using z
     ·have z:=congrArg List.tail hp'
      rw[List.tail_drop] at z
      rw[z];exact h2
  obtain⟨t,key,rfl,⟨ot,hot,hct,nt,hdt⟩,hkey,h1,h2⟩:=hp0
  refine codeAny_builtin T6 ?_
  rw[Around.under_plainId C6 _]
  show wpAny _ A.in1 (pyNext (.ref it)>>=_) _ _ s
  refine wpAny_bind (wpAny_pyNext_list_item hit hl hx fun h' hit' hs'=>?_)
  have hot':h'.get? t=some ot:=hs'.extBut _ _ h2 hot
  refine wpAny_bind (wpAny_holding (wpAny_bind (wpAny_tryCatch ?_)))
  unfold Builtin.Dict.pairItems
  refine wpAny_bind (wpAny_typeOf (s:={s with heap:=h'}) ⟨_,hot',hct⟩ ?_)
  rw[if_pos (by decide)]
  refine wpAny_bind (wpAny_seqItems (s:={s with heap:=h'}) hot' hdt ?_)
  refine wpAny_pure ?_
  show wpAny _ A.in1 (holding [key,kv.2] (dictSet d key kv.2)) _ _ _
  refine wpAny_holding (wpAny_dictSet_pairs (s:={s with heap:=h'}) (kvs:=kvs) hkey (hd.extBut hs'.extBut hdi) (fun h'' dd hs''=>?_) (by simp only[List.length_cons] at hz;lia))
  have kp:∀b o,b≠d→b≠it→s.heap.get? b=some o→h''.get? b=some o:=fun b o hb1 hb2 e=>hs''.extBut b o hb1 (hs'.extBut b o hb2 e)
  refine wpAny_pure ⟨plainId_quiet C6 _,?_⟩
  refine ih (i+1) _ (stored kvs kv.1 kv.2) R ?_ ?_ (Paired.imp' (fun _ _ z=>z.keep kp) hp1) dd ?_ (fun h3 tk k3 d3=>hR h3 tk (fun b o e1 e2 e=>k3 b o e1 e2 (kp b o e1 e2 e)) d3)
  ·exact hit'.at fun o e=>hs''.extBut it o (Ne.symm hdi) e
  ·obtain⟨ol,hol,r⟩:=hl
   exact⟨ol,kp l ol hld hli hol,r⟩
  ·have z:=stored_length_le kvs kv.1 kv.2
   simp only[List.length_cons] at hz
   lia
theorem ck {l:Addr}{items:List Value}{o:Obj}{n:Nat}{more:List (KT×Value)}{s:Shared}{Q:Value→Shared→Prop}(hh:A.handled=none)(ho:s.heap.get? l=some o)(hc:o.cls= .type "list")(hdat:o.data= .seq items.toArray n)(hdn:o.dict=none)(hz:more.length≤sizeLine)
  (hp:Paired (fun u kv=>∃t key,u= .ref t∧s.heap.IsTuple t #[key,kv.2]∧knd.is kv.1 key=true) items more)
  (h:∀h' tk,h'.DictOf knd s.heap.objs.size (more.foldl (fun a x=>stored a x.1 x.2) [])→(∀b o,s.heap.get? b=some o→h'.get? b=some o)→Q (.ref s.heap.objs.size) {s with heap:=h',toks:=tk}):
  wpAny (model prog w) A (call (.type "dict") [.ref l]) Q E s:=by
 refine callType_codes (Q₁:=fun obj s₁=>obj= .ref s.heap.objs.size∧s₁={s with heap:=s.heap.push {cls:= .type "dict",data:= .dict #[]}}) F.kt_called_dict (F.kt_typeCall_dict_1 _) F.entry_dict_init (kt_code_dict_new _ ⟨rfl,rfl⟩) ?_
 rintro obj s₁ ⟨rfl,rfl⟩
 have hnew:(s.heap.push {cls:= .type "dict",data:= .dict #[]}).DictOf knd s.heap.objs.size []:=Heap.DictOf.new s.heap
 have hl0:l≠s.heap.objs.size:=Nat.ne_of_lt (Heap.lt_size ho)
 refine⟨hnew.typeIs,F.args_dict_init_2 _ _,?_⟩
 unfold Builtin.«dict.__init__»
 refine wpAny_bind ?_
 unfold Builtin.Dict.selfAndRest
 refine wpAny_bind (wpAny_notOrdered_dict hnew.typeIs ?_)
 show wpAny _ _ (pure (s.heap.objs.size,[Value.ref l])) _ _ _
 refine wpAny_pure ?_
 show wpAny _ _ (Builtin.Dict.updateFrom "dict.__init__" s.heap.objs.size (.ref l) [] .none) _ _ _
 unfold Builtin.Dict.updateFrom
 have ho1:(s.heap.push {cls:= .type "dict",data:= .dict #[]}).get? l=some o:=Heap.get?_push_of_some _ ho
 refine wpAny_bind (wpAny_typeOf (s:={s with heap:=s.heap.push {cls:= .type "dict",data:= .dict #[]}}) ⟨_,ho1,hc⟩ ?_)
 rw[if_pos (by decide)]
 refine wpAny_bind (nX (s:={s with heap:=s.heap.push {cls:= .type "dict",data:= .dict #[]}}) ho1 hc hdat hdn hh fun h2 tk2 k2=>?_)
 rw[if_pos (show((none:Option Value).isNone)=true from rfl)]
 have ho2:h2.get? l=some o:=k2 l o ho1
 have hd2:h2.DictOf knd s.heap.objs.size []:=let ⟨od,es,ep,e,r⟩:=hnew;⟨od,es,ep,k2 _ _ e,r⟩
 have hlt:s.heap.objs.size<h2.objs.size:=by obtain⟨od,es,ep,e,r⟩:=hd2;exact Heap.lt_size e
 have up:∀b ob,s.heap.get? b=some ob→(h2.push {cls:= .type "list_iterator",data:= .fields #[.ref l,.int 0 0]}).get? b=some ob:=fun b ob e=>Heap.get?_push_of_some _ (k2 b ob (Heap.get?_push_of_some _ e))
 refine wpAny_bind (wpAny_rule (wpAny_bind (wpAny_pyIter_list (l:=l) (items:=items.toArray) ⟨o,ho2,hc,n,hdat⟩ ?_)))
 refine wpAny_pure ⟨plainId_quiet C6 _,?_⟩
 refine nI (knd:=knd) (l:=l) (items:=items) (A:=A.in1) hh (Nat.ne_of_lt hlt) (Nat.ne_of_lt (Heap.lt_size ho2)) hl0 more 0 _ [] _ ⟨_,Heap.get?_push_size _ rfl,rfl,rfl⟩ ⟨o,Heap.get?_push_of_some _ ho2,hc,n,hdat⟩ ?_ (hd2.push _) (by simpa using hz) fun h3 tk k3 d3=>⟨rfl,h h3 tk d3 fun b ob e=>k3 b ob (Nat.ne_of_lt (Heap.lt_size e)) (Nat.ne_of_lt (Nat.lt_trans (Heap.lt_size e) hlt)) (up b ob e)⟩
 rw[List.drop_zero]
 refine Paired.imp' (fun u kv z=>?_) hp
 obtain⟨t,key,rfl,⟨ot,hot,r⟩,hk⟩:=z
 exact⟨t,key,rfl,⟨ot,up t ot hot,r⟩,hk,Nat.ne_of_lt (Heap.lt_size hot),Nat.ne_of_lt (Nat.lt_trans (Heap.lt_size hot) hlt)⟩
end
section
variable {X:Cx}
def PrV (K:PySem.W.Frag)(H:Hp)(x:V)(kv:h9×V):Prop:=∃t,x= .ref t∧SqT K H t [kV kv.1,kv.2]
def fP (kvs:List (h9×V)):List (h9×V):=kvs.foldl (fun a x=>B6 a x.1 x.2) []
theorem KV.puts:∀{ps:List (h9×V)} {qs:List (h9×Value)} {a:List (h9×V)} {b:List (h9×Value)},KV ps qs→KV a b→KV (ps.foldl (fun a x=>B6 a x.1 x.2) a) (qs.foldl (fun a x=>stored a x.1 x.2) b)
 |_,_,_,_,.nil,h=>h
 |_::_,_::_,a,b,.cons r t,h=>by
  obtain⟨e,rv⟩:=r
  rw[List.foldl_cons,List.foldl_cons]
  refine KV.puts t ?_
  rw[←e]
  exact KV.put h _ rv
theorem bP:∀(ps:List (h9×V)) (a:List (h9×V)),(ps.foldl (fun a x=>B6 a x.1 x.2) a).length≤a.length+ps.length
 |[],a=>Nat.le_refl _
 |p::r,a=>by
  rw[List.foldl_cons,List.length_cons]
  have z:=bP r (B6 a p.1 p.2)
  have z2:=J0 a p.1 p.2
  lia
theorem wg {pins : List (Addr × Obj)} {σ : L2.St} {H : Hp} {s : Shared} (I : Inv X pins σ H s) : ∀ {xs : List V} {kvs : List (h9 × V)} {us : List Value}, Paired (PrV X.K H) xs kvs → Vals xs us → ∃ more : List (h9 × Value), KV kvs more ∧ Paired (fun u kv => ∃ t key, u = Value.ref t ∧ s.heap.IsTuple t #[key, kv.2] ∧ (i8 X.prog X.w).is kv.1 key = true) us more
 := by
  intro xs kvs us hp hv
  induction hp generalizing us with
  | nil => cases hv; exact ⟨[], .nil, .nil⟩
  | @cons x kv l m r t ih => cases hv with
    | cons r' t' =>
      obtain ⟨tt, rfl, sq⟩ := r
      cases r'
      obtain ⟨its, v1, t1, _⟩ := I.tuple sq
      obtain ⟨key, v, rfl, rk, rv⟩ := Y6 v1
      obtain ⟨more, h1, h2⟩ := ih t'
      exact ⟨(kv.1, v) :: more, .cons ⟨rfl, rv⟩ h1, .cons ⟨tt, key, rfl, t1, eK rk⟩ h2⟩
def ql (K:PySem.W.Frag):List V→Hp→VK→Prop:=fun xs H Q=>∃(p:Addr) (ys:List V) (kvs:List (h9×V)),xs=[.ref p]∧SqL K H p ys∧Paired (PrV K H) ys kvs∧kvs.length≤sizeLine∧∀l,H l=none→Q (.ref l) (upd H l (.dK (fP kvs)))
theorem jF (hc:X.calm=true):CallR X (.type "dict") (ql X.K):=by
 intro pins s σ H xs us Q I r h
 obtain⟨p,ys,kvs,rfl,hq,hp,hz,q⟩:=h
 obtain⟨u,rfl,ru⟩:=D0 r
 cases ru
 obtain⟨its,rv,pl,_⟩:=I.list hq
 obtain⟨more,kv,pr⟩:=wg I hp rv
 obtain⟨o,n,e,c,hd,dt⟩:=pl
 have hl:more.length=kvs.length:=(KV.length kv).symm
 refine ck (knd:=i8 X.prog X.w) (I.ok.hd hc) e c dt hd (by lia) pr fun h' tk dd k=>?_
 refine⟨.ref s.heap.objs.size,_,?_,rfl,q _ (I.hok.fresh (Nat.le_refl _))⟩
 refine I.laid (a:=s.heap.objs.size) (o:= .dK (fP kvs)) (t':=tk) k (Nat.le_refl _) (kr ?_ (beq_eq_false_iff_ne.mpr (Ne.symm (Nat.ne_of_lt I.big))) (KV.puts kv .nil) dd)
 have z:=bP kvs []
 unfold fP
 simp only[List.length_nil] at z
 lia
def lB (K:PySem.W.Frag):List V→Hp→VK→Prop:=fun xs H Q=>vi xs H Q∨ql K xs H Q
theorem Y3 (K:PySem.W.Frag)(hc:X.calm=true)(h:X.K=K:=by rfl):CallR X (.type "dict") (lB K):=by
 subst h
 intro pins s σ H xs us Q I r h
 rcases h with h|h
 ·exact kK pins s σ H xs us Q I r h
 ·exact jF hc pins s σ H xs us Q I r h
end
section
variable {K:PySem.W.Frag} {H:Hp} {Q:VK}
theorem z7 {p:Addr}{kvs:List (h9×V)}(h:Rd H p (.dK kvs))(q:∀l,H l=none→Q (.ref l) (upd H l (.dK kvs))):lB K [.ref p] H Q:= .inl ⟨p,kvs,rfl,h,q⟩
theorem lE {p:Addr}{xs:List V}{kvs:List (h9×V)}(h:SqL K H p xs)(hp:Paired (PrV K H) xs kvs)(hz:kvs.length≤sizeLine)(q:∀l,H l=none→Q (.ref l) (upd H l (.dK (fP kvs)))):lB K [.ref p] H Q:= .inr ⟨p,xs,kvs,rfl,h,hp,hz,q⟩
end
end L2
set_option Elab.async false
set_option linter.all false
set_option maxRecDepth 100000
set_option maxHeartbeats 4000000
namespace L2
open PySem PySem.Spec PyProof.Rows
section
variable {X:Cx}
end
end L2
set_option Elab.async false
set_option linter.all false
set_option maxRecDepth 100000
set_option maxHeartbeats 4000000
namespace L2
open PySem PySem.Spec PyProof.Rows
theorem ObjOk.there {P:Program}{w:World}{H:Hp}{h:Heap}{a:Addr}{o:HO}(x:ObjOk P w H h a o):∃u,h.get? a=some u:=by
 induction o with
 |lst xs=>obtain⟨_,_,_,_,e⟩:=x;exact⟨_,e⟩
 |tup xs=>obtain⟨_,_,_,o,e,_⟩:=x;exact⟨_,e⟩
 |dK kvs=>obtain⟨_,_,_,_,o,_,_,e,_⟩:=x;exact⟨_,e⟩
 |dT kvs=>obtain⟨_,_,_,_,o,_,_,e,_⟩:=x;exact⟨_,e⟩
 |set S n=>obtain⟨o,_,_,_,e,_⟩:=x;exact⟨_,e⟩
 |ins C dx fs=>obtain⟨_,_,_,e,_⟩:=x;exact⟨_,e⟩
 |own y=>exact x
 |xd fs=>obtain⟨_,⟨_,_,_,e,_⟩,_⟩:=x;exact⟨_,e⟩
 |rng lo hi=>obtain⟨_,_,_,e⟩:=x;exact⟨_,e⟩
 |frz ob u=>obtain⟨e,_⟩:=x;exact⟨_,e⟩
 |tbl ps=>exact⟨_,show h.get? a=some _ from x⟩
 |met f y=>exact⟨_,show h.get? a=some _ from x⟩
 |ext φ=>obtain⟨_,e,_⟩:=x;exact e
structure Fly (P:Program) (w:World) (outer:List Env) (H:Hp) (s:Shared) (a C:Addr) (a0:Value) (B:Heap) (H':Hp) (s':Shared):Prop where
 fl:Heap.FlyingW B outer a (.ref C) a0 s'.heap
 os:s'.os=s.os
 bare:AllBare s'.gens
 un:Un (K9 outer) [] H H' s.heap s'.heap
 hok:HOk P w H' s'.heap
 kp:∀b o,s.heap.get? b=some o→H b=none→b∉K9 outer→B.get? b=some o
 th:∀b o,s.heap.get? b=some o→b∉K9 outer→∃o',B.get? b=some o'
 tr:∀b o,H' b=some o→∃u,B.get? b=some u
 nw:H' a=none
def eP (P:Program)(w:World):fV:=fun outer H s E e s'=>∃(a C:Addr) (a0:Value) (B:Heap) (H':Hp),e= .ref a∧Fly P w outer H s a C a0 B H' s'∧E (.ref C) (some a) H'
theorem kJ {P:Program}{w:World}{H:Hp}{B h h':Heap}(ok:HOk P w H h)(tr:∀b o,H b=some o→∃u,B.get? b=some u)(k1:B.StaysIn h)(k2:B.StaysIn h'):HOk P w H h':=fun a o e=>
 (ok a o e).stay (fun b u hb q=>by
  have hH:∃o',H b=some o':=by
   rcases hb with rfl|hb
   ·exact⟨_,e⟩
   ·exact⟨_,hb⟩
  obtain⟨o',ho'⟩:=hH
  obtain⟨u',hu'⟩:=tr b o' ho'
  have z:=k1 b u' hu'
  rw[q] at z
  cases z
  exact k2 b _ hu') (fun _ z=>z) fun _ _ z=>z
section
variable {X:Cx} {pins:List (Addr×Obj)} {σ:St} {H:Hp} {s s':Shared}
theorem A6 {base h:Heap}{l:List Env}(F:h.FunFrames base l){b:Addr}{o:Obj}(hb:b∈K9 l)(e:h.get? b=some o):∀vs,o.data≠ .fields vs:=by
 obtain⟨_,o',h1,h2⟩:=F.mem hb
 rw[e] at h1;cases h1;exact h2
theorem Fly.land {a C:Addr}{a0:Value}{B:Heap}{H':Hp}{h':Heap}(I:Inv X pins σ H s)(F:Fly X.prog X.w X.stack H s a C a0 B H' s')(k:B.StaysIn h')(sl:s'.heap.UpToSlots h')(t':Nat):
  Inv X pins σ H' {s' with heap:=h',toks:=t'}:=by
 have fr:=F.fl.2.2.1
 have u:Un (K9 X.stack) [] H H' s.heap h':=by
  refine⟨fun b o e n hb _=>k b o (F.kp b o e n hb),fun b o e n hb _=>?_,F.un.free,fun b o e _=>?_,F.un.tups,F.un.frzs,F.un.tbls⟩
  ·obtain⟨s1,e1⟩:=F.un.slot b o e n hb (by simp)
   obtain⟨s2,e2⟩:=sl b _ e1 (A6 fr hb e1)
   exact⟨s2,e2⟩
  ·by_cases hb:b∈K9 X.stack
   ·obtain⟨o',e1⟩:=F.un.there b o e (by simp)
    obtain⟨s2,e2⟩:=sl b _ e1 (A6 fr hb e1)
    exact⟨_,e2⟩
   ·obtain⟨o',e1⟩:=F.th b o e hb
    exact⟨o',k b o' e1⟩
 have hok:=kJ F.hok F.tr F.fl.1 k
 exact I.call' (s':={s' with heap:=h',toks:=t'}) (ch:=[]) F.os u hok F.bare (fun b z=>absurd z (by simp))
end
section
variable {P:Program} {w:World} {K:PySem.W.Frag} {mg:Str→Option Value} {base:Heap} {N:List Str} {qual:Str} {scope:Scope} {f:Addr} {cd:Value} {A:Around} {outer:List Env} {s0:Shared} {H0:Hp} {E:XK}
theorem aA {b:Addr}(hb:b∈K9 outer):b∈K9 (envOfC qual scope s0.heap.objs.size f cd::outer):=by
 unfold K9 at*
 rw[List.filterMap_cons]
 split
 ·exact hb
 ·exact List.mem_cons_of_mem _ hb
theorem cH {b:Addr}{o:Obj}(e:s0.heap.get? b=some o)(hb:b∉K9 outer):b∉K9 (envOfC qual scope s0.heap.objs.size f cd::outer):=fun z=>by
 unfold K9 at z hb
 rw[List.filterMap_cons] at z
 have hl:=Heap.lt_size e
 rcases List.mem_cons.mp z with z|z
 ·rw[z] at hl;exact absurd hl (Nat.lt_irrefl _)
 ·exact hb z
theorem il {pins:List (Addr×Obj)}{σ:St}{H:Hp}{s:Shared}{h1:Heap}{e C:Addr}{vs:List Value}(I:Inv (bh (eP P w) P w K mg base N qual scope f cd A outer s0 H0 E) pins σ H s)
  (hx:Heap.MadeExcOf s.heap h1 e (.ref C) vs) (q:E (.ref C) (some e) H):(bh (eP P w) P w K mg base N qual scope f cd A outer s0 H0 E).xe (.ref e) {s with heap:=h1}:=by
 have hst:∀env∈(envOfC qual scope s0.heap.objs.size f cd::outer),∀b,env.frame=some b→b∈K9 (envOfC qual scope s0.heap.objs.size f cd::outer):=fun env he b hb=>List.mem_filterMap.mpr ⟨env,he,hb⟩
 have fr:s.heap.FunFrames base (envOfC qual scope s0.heap.objs.size f cd::outer):=I.stack
 have tr:∀b o,H b=some o→∃u,(PySem.W.hideAll s.heap (K9 (envOfC qual scope s0.heap.objs.size f cd::outer))).get? b=some u:=fun b o z=>by
  obtain⟨u,hu⟩:=(I.hok b o z).there
  refine⟨u,PySem.W.hideAll_get _ hu fun hb=>?_⟩
  have:=I.stkFree b hb
  rw[z] at this;cases this
 have nw:H e=none:=by
  cases z:H e with
  |none=>rfl
  |some o=>
   obtain⟨u,hu⟩:=(I.hok e o z).there
   rw[hx.new] at hu;cases hu
 have hb0:Un (K9 outer) [] H0 H s0.heap s.heap:=I.base
 refine wpAny_leaves_madeW (base:=PySem.W.hideAll s.heap (K9 (envOfC qual scope s0.heap.objs.size f cd::outer))) I.ok.frames rfl (fun b o z=>PySem.W.of_hideAll _ z) (PySem.W.funFrames_hide fr hst) hx fun h' t x1 x2 x3 x4=>?_
 have kp:∀b o,s0.heap.get? b=some o→H0 b=none→b∉K9 outer→(PySem.W.hideAll s.heap (K9 (envOfC qual scope s0.heap.objs.size f cd::outer))).get? b=some o:=fun b o z n hb=>
  PySem.W.hideAll_get _ (hb0.keep b o z n hb (by simp)) (cH z hb)
 have th:∀b o,s0.heap.get? b=some o→b∉K9 outer→∃o',(PySem.W.hideAll s.heap (K9 (envOfC qual scope s0.heap.objs.size f cd::outer))).get? b=some o':=fun b o z hb=>by
  obtain⟨o',z'⟩:=hb0.there b o z (by simp)
  exact⟨o',PySem.W.hideAll_get _ z' (cH z hb)⟩
 have hk:=x1.1
 refine⟨e,C,_,_,H,rfl,⟨x1,I.os,I.bare,⟨fun b o z n hb _=>hk b o (kp b o z n hb),fun b o z n hb _=>?_,fun b o z n _=>hb0.free b o z n (by simp),fun b o z _=>?_,hb0.tups,hb0.frzs,hb0.tbls⟩,?_,kp,th,tr,nw⟩,q⟩
 ·obtain⟨s1,e1⟩:=hb0.slot b o z n hb (by simp)
  have nf:=A6 fr (aA hb) e1
  obtain⟨s2,e2⟩:=x4 b _ (hx.keeps _ _ e1) nf
  exact⟨s2,e2⟩
 ·by_cases hb:b∈K9 outer
  ·obtain⟨o',e1⟩:=hb0.there b o z (by simp)
   obtain⟨s2,e2⟩:=x4 b _ (hx.keeps _ _ e1) (A6 fr (aA hb) e1)
   exact⟨_,e2⟩
  ·obtain⟨o',e1⟩:=th b o z hb
   exact⟨o',hk b o' e1⟩
 ·exact kJ I.hok tr (fun b o z=>PySem.W.of_hideAll _ z) hk
theorem zu:ai (eP P w) (bh (eP P w) P w K mg base N qual scope f cd A outer s0 H0 E) E:=by
 intro pins σ H s e s' I h
 obtain⟨a,C,a0,B,H',rfl,F,q⟩:=h
 have fr:=F.fl.2.2.1
 have hb0:Un (K9 outer) [] H0 H s0.heap s.heap:=I.base
 refine wpAny_leaves_onW I.ok.frames rfl F.fl fun h' x1 x2=>?_
 have hk:=x1.1
 have kp:∀b o,s0.heap.get? b=some o→H0 b=none→b∉K9 outer→B.get? b=some o:=fun b o z n hb=>
  F.kp b o (hb0.keep b o z n hb (by simp)) (hb0.free b o z n (by simp)) (cH z hb)
 have th:∀b o,s0.heap.get? b=some o→b∉K9 outer→∃o',B.get? b=some o':=fun b o z hb=>by
  obtain⟨o',z'⟩:=hb0.there b o z (by simp)
  exact F.th b o' z' (cH z hb)
 have ub:Un (K9 (envOfC qual scope s0.heap.objs.size f cd::outer)) [] H H' s.heap s'.heap:=F.un
 refine⟨a,C,a0,B,H',rfl,⟨x1,F.os.trans I.os,F.bare,⟨fun b o z n hb _=>hk b o (kp b o z n hb),fun b o z n hb _=>?_,fun b o z n _=>?_,fun b o z _=>?_,fun b xs z=>ub.tups b xs (hb0.tups b xs z),fun b o u z=>ub.frzs b o u (hb0.frzs b o u z),fun b ps z=>?_⟩,kJ F.hok F.tr F.fl.1 hk,kp,th,F.tr,F.nw⟩,q⟩
 ·obtain⟨s1,e1⟩:=hb0.slot b o z n hb (by simp)
  obtain⟨s2,e2⟩:=ub.slot b _ e1 (hb0.free b o z n (by simp)) (aA hb) (by simp)
  obtain⟨s3,e3⟩:=x2 b _ e2 (A6 fr (aA hb) e2)
  exact⟨s3,e3⟩
 ·obtain⟨o',e1⟩:=hb0.there b o z (by simp)
  exact ub.free b o' e1 (hb0.free b o z n (by simp)) (by simp)
 ·by_cases hb:b∈K9 outer
  ·obtain⟨o',e1⟩:=hb0.there b o z (by simp)
   obtain⟨o2,e2⟩:=ub.there b o' e1 (by simp)
   obtain⟨s3,e3⟩:=x2 b _ e2 (A6 fr (aA hb) e2)
   exact⟨_,e3⟩
  ·obtain⟨o',e1⟩:=th b o z hb
   exact⟨o',hk b o' e1⟩
 ·obtain⟨m1,e1⟩:=hb0.tbls b ps z
  obtain⟨m2,e2⟩:=ub.tbls b _ e1
  exact⟨m1++m2,by rw[e2,Array.append_assoc]⟩
end
def Av:List Value:=[.type "ValueError",.type "Exception",.type "BaseException",.type "object"]
structure ExC (K:PySem.W.Frag) (mg:Str→Option Value) (x:Str) (C:Addr):Prop where
 bound:mg x=some (.ref C)
 exc:PySem.W.excIn K C Av "ValueError.__new__"=true
theorem ExC.own {K:PySem.W.Frag}{mg:Str→Option Value}{x:Str}{C:Addr}{h:Heap}(O:ExC K mg x C)(X:K.In h):OwnCls x C Av "ValueError.__new__" mg h:=by
 have q:=O.exc
 refine⟨O.bound,?_⟩
 unfold PySem.W.excIn at q
 split at q
 ·rename_i g1 g2 g3 lk
  split at q
  ·rename_i c2 l2 i0 i1 i2 i3 nn i5 em es
   simp only[Bool.and_eq_true,beq_iff_eq,Bool.not_eq_true'] at q
   obtain⟨⟨⟨⟨⟨ea,eb⟩,q1⟩,q2⟩,q3⟩,q4⟩:=q
   subst ea
   subst eb
   obtain⟨y1,y2,y3,y4,y5,y6,y7,y8,y9,y10,y11⟩:=g2
   dsimp only at em q1 q3 q4
   subst em q1
   have e3:g3= #[i0,i1,i2,i3,some (.builtin "ValueError.__new__"),i5]:=by
    cases g3 with
    |mk l=>
     have es':l=[i0,i1,i2,i3,some (.builtin "ValueError.__new__"),i5]:=es
     rw[es']
   subst e3
   exact⟨l2,y4,y1,y5,y2,y6,y7,y8,y9,y10,g1,i0,i1,i2,i3,i5,h.nsMap y4,X _ _ lk,Heap.Ns.of_isNs (PySem.W.isNs_of_in X q3),PySem.W.nsMap_none_of_in X q3 q4,PySem.W.tail_of_in X q2⟩
  ·cases q
 ·cases q
def lG (X:Cx)(E:XK):Prop:=∀(pins:List (Addr×Obj)) (σ:St) (H:Hp) (s:Shared) (h1:Heap) (e C:Addr) (vs:List Value),Inv X pins σ H s→Heap.MadeExcOf s.heap h1 e (.ref C) vs→E (.ref C) (some e) H→X.xe (.ref e) {s with heap:=h1}
theorem ib {P:Program}{w:World}{K:PySem.W.Frag}{mg:Str→Option Value}{base:Heap}{N:List Str}{qual:Str}{scope:Scope}{f:Addr}{cd:Value}{A:Around}{outer:List Env}{s0:Shared}{H0:Hp}{E:XK}:
  lG (bh (eP P w) P w K mg base N qual scope f cd A outer s0 H0 E) E:=fun _ _ _ _ _ _ _ _ I hx q=>il I hx q
def jK (C:Addr)(E:XK)(ta:TA):TS:=fun _ σ H=>ta σ H fun vs H1=>vs.length≤sizeLine∧∀e,H1 e=none→E (.ref C) (some e) H1
section
variable {X:Cx} {E:XK} {x:Str} {C:Addr} {np cpos pos:Pos} {e:Expr} {es:List Expr} {ta:TA}
theorem qZ (R:lG X E)(O:ExC X.K X.mg x C)(hc:X.calm=true)(ha:PA X (e::es) ta)(hg:Gl X x:=by rfl)(hdb:(x==("__debug__":Str))=false:=by decide)(h:k7 (e::es)=true:=by rfl):
  PS X (.Raise (some (.Call (.Name x np) (e::es) [] cpos)) none pos) (jK C E ta):=by
 intro pins s σ H D I hw
 have h':(k4 e&&k7 es)=true:=h
 rw[Bool.and_eq_true] at h'
 have h1:starEach (e::es) X.env=(false,eval e X.env)::starEach es X.env:=E8 h'.1
 have h2:(backTo cpos (starEach es X.env)).any (·.1)=false:=U4 h'.2
 obtain⟨tl,y0,y1,y2,y3,y4,y5,y6,y7,y8,y9,u0,u1,u2,u3,u5,mN,hC,hN,hni,T⟩:=(O.own I.ok.mod.kin).obj
 refine wpAny_Raise_call_subT (k5:=u5) (k3:=u3) (k2:=u2) (k1:=u1) (k0:=u0) (dd:=y9) (col:=y8) (ab:=y7) (sub:=y6) (sn:=y5) (hdct:=y4) (bs:=y3) (q:=y2) (nm:=y1) (N:=y0) (C:=C) (bm:=tl) (mN:=mN) PySem.F.excBase_ValueError (T.hasType (by decide)) (I.ok.hd hc) ?_ hni (aE I hg O.bound ⟨rfl,?_⟩ hdb)
 ·rw[h1]
  show(false||(backTo cpos (starEach es X.env)).any (·.1))=false
  rw[h2];rfl
 ·have hw':=ha cpos pins s σ H _ I hw
  rw[h1] at hw'⊢
  refine Calls.evalArgs_plain (B7 hw' fun us s1 ⟨vs,H1,I1,r,q1,q2⟩=>?_)
  refine⟨rfl,by rw[←r.length];exact q1,I1.bk _ _ hC,hN.keeps I1.bk,T.keeps I1.bk,fun h2 e2 hm=>?_⟩
  have nw:H1 e2=none:=by
   cases z:H1 e2 with
   |none=>rfl
   |some o=>
    obtain⟨u,hu⟩:=(I1.hok e2 o z).there
    rw[hm.new] at hu;cases hu
  exact R pins σ H1 s1 h2 e2 C us I1 hm (q2 e2 nw)
theorem kZ (R:lG X E)(O:ExC X.K X.mg x C)(hc:X.calm=true)(ha:QA X (e::es) ta)(hg:Gl X x:=by rfl)(hdb:(x==("__debug__":Str))=false:=by decide)(h:k7 (e::es)=true:=by rfl):
  QS X (.Raise (some (.Call (.Name x np) (e::es) [] cpos)) none pos) (jK C E ta):=⟨qZ R O hc ha.r hg hdb h⟩
end
theorem Fun.okE {P:Program}{w:World}{K:PySem.W.Frag}{mg:Str→Option Value}{base:Heap}{x qual:Str}{st:Stmt}{f:Addr}{fd:FuncData}{N ps:List Str}{k:Nat}{sp:Sp}(F:Fun K x qual st f fd)(S:b8 N ps (b0 st))(len:∀vs H Q E,sp vs H Q E→vs.length=ps.length)
  (hbody:∀(cdv:Value) (A:Around) (outer:List Env) (s:Shared) (H:Hp) (vs:List V) (Q:VK) (E:XK),Room k (A.deeper (envOfC qual (b0 st) s.heap.objs.size f cdv))→sp vs H Q E→
   ∃t,PSs (bh (eP P w) P w K mg base N qual (b0 st) f cdv A outer s H E) (u7 st) t∧t {nx:=fun _ H'=>Q .non H',rt:=Q} (U1 N vs) H):j1 P w K mg base (eP P w) (k+1) f fd ps sp:=by
 obtain⟨oc,od,kV,doc,pm,an,cdv,ct,osl,rfl,lk,hcd⟩:=F.ex
 exact lN lk hcd S len fun A outer s H vs Q E hr hsp=>hbody cdv A outer s H vs Q E hr hsp
end L2
set_option Elab.async false
set_option linter.all false
set_option maxRecDepth 100000
set_option maxHeartbeats 4000000
namespace L2
open PySem PySem.Spec PyProof.Rows
abbrev Cx.pinned (X:Cx)(pins:List (Addr×Obj)):Cx:={X with pn:=X.pn++pins}
def Co (X:Cx)(pins:List (Addr×Obj))(Es:St→XK):Value→Shared→Prop:=fun e s'=>∃(pins':List (Addr×Obj)) (σ:St) (H:Hp) (s:Shared),Inv (X.pinned pins) pins' σ H s∧eP X.prog X.w X.stack H s (Es σ) e s'
abbrev Cx.tried (X:Cx)(pins:List (Addr×Obj))(Es:St→XK):Cx:={X with pn:=X.pn++pins,xe:=Co X pins Es}
abbrev Cx.suite (X:Cx)(e:Addr):Cx:={X with A:=X.A.mark (some (.ref e)),calm:=false,xe:=fun _ _=>False}
section
variable {X:Cx} {pins pins':List (Addr×Obj)} {Es:St→XK} {σ:St} {H:Hp} {s:Shared} {e:Addr}
theorem Inv.toTried (I:Inv X pins σ H s):Inv (X.tried pins Es) [] σ H s:=
 ⟨⟨I.ok.mod,I.ok.kind,I.ok.glob,I.ok.blt,I.ok.above,I.ok.inj,I.ok.has,I.ok.cab,I.ok.hd,I.ok.frames,I.ok.stk,I.ok.exf,I.ok.bs,I.ok.bsz,I.ok.noex,I.ok.exfs,I.ok.funs,I.ok.frf⟩,
  I.os,I.bare,I.base,I.loc,I.cell,I.free,I.freeC,fun p hp=>I.pin p (by simpa using hp),I.hok,I.len⟩
theorem Inv.ofTried (I:Inv (X.tried pins Es) pins' σ H s):Inv X pins σ H s:=
 ⟨⟨I.ok.mod,I.ok.kind,I.ok.glob,I.ok.blt,I.ok.above,I.ok.inj,I.ok.has,I.ok.cab,I.ok.hd,I.ok.frames,I.ok.stk,I.ok.exf,I.ok.bs,I.ok.bsz,I.ok.noex,I.ok.exfs,I.ok.funs,I.ok.frf⟩,
  I.os,I.bare,I.base,I.loc,I.cell,I.free,I.freeC,fun p hp=>I.pin p (List.mem_append_left _ hp),I.hok,I.len⟩
theorem Inv.ofPinned (I:Inv (X.pinned pins) pins' σ H s):Inv X pins σ H s:=
 ⟨⟨I.ok.mod,I.ok.kind,I.ok.glob,I.ok.blt,I.ok.above,I.ok.inj,I.ok.has,I.ok.cab,I.ok.hd,I.ok.frames,I.ok.stk,I.ok.exf,I.ok.bs,I.ok.bsz,I.ok.noex,I.ok.exfs,I.ok.funs,I.ok.frf⟩,
  I.os,I.bare,I.base,I.loc,I.cell,I.free,I.freeC,fun p hp=>I.pin p (List.mem_append_left _ hp),I.hok,I.len⟩
theorem Inv.triedPinned (I:Inv (X.tried pins Es) pins' σ H s):Inv (X.pinned pins) pins' σ H s:=
 ⟨⟨I.ok.mod,I.ok.kind,I.ok.glob,I.ok.blt,I.ok.above,I.ok.inj,I.ok.has,I.ok.cab,I.ok.hd,I.ok.frames,I.ok.stk,I.ok.exf,I.ok.bs,I.ok.bsz,I.ok.noex,I.ok.exfs,I.ok.funs,I.ok.frf⟩,
  I.os,I.bare,I.base,I.loc,I.cell,I.free,I.freeC,I.pin,I.hok,I.len⟩
theorem iV (A:Around)(h:Option Value):(A.mark h).frames=A.frames:=rfl
theorem Inv.toSuite (I:Inv X pins σ H s):Inv (X.suite e) pins σ H s:=
 ⟨⟨I.ok.mod,I.ok.kind,I.ok.glob,I.ok.blt,I.ok.above,I.ok.inj,I.ok.has,I.ok.cab,(fun z=>nomatch z),(iV _ _).trans I.ok.frames,I.ok.stk,I.ok.exf,I.ok.bs,I.ok.bsz,I.ok.noex,I.ok.exfs,I.ok.funs,I.ok.frf⟩,
  I.os,I.bare,I.base,I.loc,I.cell,I.free,I.freeC,I.pin,I.hok,I.len⟩
theorem Inv.ofSuite (ok:X.Ok)(I:Inv (X.suite e) pins σ H s):Inv X pins σ H s:=
 ⟨ok,I.os,I.bare,I.base,I.loc,I.cell,I.free,I.freeC,I.pin,I.hok,I.len⟩
def IsExc (a C:Addr)(h:Heap):Prop:=∃o vs,h.get? a=some o∧o.cls= .ref C∧o.data= .fields vs
theorem pS {P:Program}{w:World}{H:Hp}{h:Heap}{a C:Addr}(x:IsExc a C h):ObjOk P w H h a (.ext (IsExc a C)):=by
 obtain⟨o,vs,e,c,d⟩:=x
 refine⟨⟨o,vs,e,c,d⟩,⟨o,e⟩,fun h1 h2 ⟨o',vs',e',c',d'⟩ k=>⟨o',vs',k _ e',c',d'⟩⟩
theorem Inv.track {a C:Addr}(I:Inv X pins σ H s)(hn:H a=none)(x:IsExc a C s.heap)(h0:X.s₀.heap.get? a=none)(hp:∀p∈X.pn++pins,p.1≠a):Inv X pins σ (upd H a (.ext (IsExc a C))) s:=by
 obtain⟨o,vs,e,c,d⟩:=id x
 have ne0:∀b ob,X.s₀.heap.get? b=some ob→b≠a:=fun b ob z q=>by rw[q,h0] at z;cases z
 refine⟨I.ok,I.os,I.bare,⟨I.base.keep,I.base.slot,fun b ob z n hx=>?_,I.base.there,fun b xs z=>?_,fun b ob u z=>?_,fun b ps z=>?_⟩,I.loc,I.cell,?_,fun y c' z=>?_,fun p hq=>?_,fun b u z=>?_,I.len⟩
 ·rw[b7 (ne0 b ob z)];exact I.base.free b ob z n hx
 ·have z':=I.base.tups b xs z
  rw[b7 fun q=>by rw[q,hn] at z';cases z'];exact z'
 ·have z':=I.base.frzs b ob u z
  rw[b7 fun q=>by rw[q,hn] at z';cases z'];exact z'
 ·obtain⟨more,z'⟩:=I.base.tbls b ps z
  exact⟨more,by rw[b7 fun q=>by rw[q,hn] at z';cases z'];exact z'⟩
 ·obtain⟨m,⟨oL,es,ep,hL,dL,_⟩,_⟩:=I.loc
  rw[b7 fun q=>?_]
  ·exact I.free
  ·rw[q,e] at hL;cases hL;rw[d] at dL;cases dL
 ·obtain⟨v,oc,hoc,hod⟩:=I.cell y c' z
  rw[b7 fun q=>?_]
  ·exact I.freeC y c' z
  ·rw[q,e] at hoc;cases hoc;rw[d] at hod;cases hod
 ·obtain⟨p1,p2,p3,p4,p5⟩:=I.pin p hq
  exact⟨p1,by rw[b7 (hp p hq)];exact p2,p3,p4,p5⟩
 ·by_cases q:b=a
  ·subst q
   rw[d8] at z;cases z
   exact pS x
  ·rw[b7 q] at z
   refine(I.hok b u z).stay (fun _ _ _ q=>q) (fun b' q'=>?_) fun b' xs q'=>?_
   ·rw[b7 fun k=>by rw[k,hn] at q';cases q'];exact q'
   ·rw[b7 fun k=>by rw[k,hn] at q';cases q'];exact q'
theorem V8 {M:Model}{A:Around}{E:Value→Shared→Prop}{i:Nat}{n:Str}{pos:Pos}{Q:Unit→Shared→Prop}(I:Inv X pins σ H s)(hN:X.N.Nodup)(hi:X.N[i]?=some n)(hl:X.env.scope.names.lookup n=some .local)
  (h:∀s',Inv X pins (σ.set i none) H s'→Q () s'):wpAny M A (do bindName X.env n .none;unbindBehindTheSuite X.env n pos) Q E s:=by
 obtain⟨m,hn,hm⟩:=id I.loc
 have hcls:(X.env.scope.kind== .class||(X.env.scope.kind== .module&&X.env.locals !=X.env.globals))=false:=by rw[I.ok.kind];rfl
 have hiσ:i<σ.length:=by rw[I.len];exact(List.getElem?_eq_some_iff.mp hi).1
 refine wpAny_nameGoes_keeps hl hn hcls fun h' v hn' hs=>h _ ?_
 have nL:∀b o,X.s₀.heap.get? b=some o→b≠X.env.locals:=fun b o e=>Nat.ne_of_lt (Nat.lt_of_lt_of_le (Heap.lt_size e) I.ok.above)
 refine⟨I.ok,I.os,I.bare,⟨fun b o e n hb hx=>?_,fun b o e n hb hx=>?_,I.base.free,fun b o e hx=>?_,I.base.tups,I.base.frzs,I.base.tbls⟩,⟨_,hn',fun j y v' e1 e2 e3=>?_⟩,fun y c e=>?_,I.free,I.freeC,fun p hp=>?_,fun b ob e=>?_,by simpa using I.len⟩
 ·exact(hs.2 b (nL b o e)).trans (I.base.keep b o e n hb hx)
 ·obtain⟨sl,e1⟩:=I.base.slot b o e n hb hx
  exact⟨sl,(hs.2 b (nL b o e)).trans e1⟩
 ·obtain⟨o',e1⟩:=I.base.there b o e hx
  exact⟨o',(hs.2 b (nL b o e)).trans e1⟩
 ·by_cases hj:j=i
  ·subst hj
   rw[List.getElem?_set_self hiσ] at e2
   cases e2
  ·rw[List.getElem?_set_ne (Ne.symm hj)] at e2
   obtain⟨u',r',q⟩:=hm j y v' e1 e2 e3
   refine⟨u',r',?_⟩
   rcases q with⟨k,e⟩|⟨k,c,e,z⟩
   ·refine .inl ⟨k,?_⟩
    have hy:y≠n:=fun e=>hj (eL hN e1 (e▸hi))
    show(if y=n then v else m y)=some u'
    rw[if_neg hy];exact e
   ·exact .inr ⟨k,c,e,z.sameBut hs (I.cne y c e)⟩
 ·obtain⟨w',z⟩:=I.cell y c e
  exact⟨w',z.sameBut hs (I.cne y c e)⟩
 ·obtain⟨e,n,ne,nf,d⟩:=I.pin p hp
  exact⟨(hs.2 p.1 ne).trans e,n,ne,nf,d⟩
 ·refine(I.hok b ob e).stay (fun c w' hc q=>(hs.2 c ?_).trans q) (fun _ q=>q) fun _ _ q=>q
  rintro rfl
  have f:=I.free
  rcases hc with rfl|hc
  ·rw[f] at e;cases e
  ·rw[f] at hc;cases hc
end
def qv (sp:Sp)(dvs:List V)(Es:St→XK)(t:TA):TE:=fun σ H Q=>t σ H fun vs H1=>sp (vs++dvs) H1 Q (Es σ)
section
variable {X:Cx} {pins:List (Addr×Obj)} {Es:St→XK} {k:Nat} {ps:List Str} {dvs:List V} {sp:Sp} {x:Str} {p pos:Pos} {e:Expr} {es:List Expr} {t:TA}
theorem Ci (C:A2 X.prog X.w X.K X.mg X.base (eP X.prog X.w) k x ps dvs sp)(hr:Room k X.A)(ha:QA (X.tried pins Es) (e::es) t)(hg:Gl X x:=by rfl)
  (hdb:(x==("__debug__":Str))=false:=by decide) (h:k7 (e::es)=true:=by rfl):QE (X.tried pins Es) (.Call (.Name x p) (e::es) [] pos) (qv sp dvs Es t):=⟨by
 have h':(k4 e&&k7 es)=true:=h
 rw[Bool.and_eq_true] at h'
 obtain⟨f,fd,ds,F,hm,hk,hb,hd⟩:=C
 intro pins' s σ H Q I hw
 refine wpAny_Call_Name_kw (aE I hg hm ?_ hdb)
 refine PySem.W.callWith_K (h₀:=X.base) I.ok.mod.kin hk (B7 (ha.r pos pins' s σ H _ I hw) fun us s1 ⟨vs,H1,I1,r,q⟩=>⟨I1.kIn,?_⟩) (E8 h'.1) (U4 h'.2)
 have r2:Vals (vs++dvs) (us++ds):=r.append hd
 have hl:(us++ds).length=ps.length:=by rw[←r2.length];exact F.len _ _ _ _ q
 refine wpAny_call (codeAny_mono (F.run X.A X.stack s1 H1 ⟨us,[]⟩ (us++ds) (vs++dvs) Q (Es σ) hr I1.env0 (hb s1 us I1.kIn hl) r2 q) fun r s' hq=>?_)
 cases r with
 |error e=>exact⟨pins',σ,H1,s1,I1.triedPinned,hq⟩
 |ok fl=>
  cases fl with
  |ret u=>exact I1.after hq
  |next=>exact False.elim hq
  |brk=>exact False.elim hq
  |cont=>exact False.elim hq⟩
end
theorem iG {M:Model}{A:Around}{E:Value→Shared→Prop}{K:PySem.W.Frag}{s:Shared}{a C T:Addr}{b:Bool}{Q:Bool→Shared→Prop}(X:K.In s.heap)(x:IsExc a C s.heap)(hm:PySem.W.typeIn K (.ref T)=some (.type "type"))
  (he:PySem.W.subIn K (.ref T) (.type "BaseException")=some true) (hc:(PySem.W.clsIn K T).isSome=true) (hs:PySem.W.subIn K (.ref C) (.ref T)=some b) (q:Q b s):wpAny M A (excMatches (.ref a) (.ref T)) Q E s:=by
 obtain⟨oe,vs,ex,ec,ed⟩:=x
 have L1:PySem.W.Looks M s.heap (isInstance (.ref T) (.type "tuple")) false:=(PySem.W.looks_typeIn X hm).andThen (PySem.W.Looks.of_pure tc_notTuple)
 have L2:PySem.W.Looks M s.heap (isType (.ref T)) true:=by
  unfold PySem.W.clsIn at hc
  split at hc
  ·rename_i lk
   intro A' Q' E' s' k q'
   unfold isType loadHead
   exact wpAny_bind (wpAny_loadPart (k _ _ (X _ _ lk)) (wpAny_pure q'))
  ·cases hc
 have L3:=PySem.W.looks_subIn (M:=M) X he
 have L4:PySem.W.Looks M s.heap (typeOf (.ref a)) (.ref C):=by
  have z:PySem.W.Looks M s.heap (typeOf (.ref a)) oe.cls:=(PySem.W.Looks.ld ex).andThen .now
  rw[ec] at z;exact z
 have L5:=PySem.W.looks_subIn (M:=M) X hs
 unfold excMatches
 refine wpAny_bind (L1.here ?_)
 simp only[Bool.false_eq_true,if_false]
 have LX:PySem.W.Looks M s.heap (isExcClass (.ref T)) true:=by
  unfold isExcClass
  exact L2.andThen (by simpa using L3)
 refine wpAny_bind (wpAny_pure ?_)
 refine wpAny_bind ?_
 rw[List.forIn_cons]
 refine wpAny_bind (wpAny_bind (LX.here ?_))
 simp only[Bool.not_true,Bool.false_eq_true,if_false]
 refine wpAny_pure ?_
 simp only[List.forIn_nil]
 refine wpAny_pure ?_
 refine wpAny_bind (L4.here ?_)
 refine wpAny_bind ?_
 rw[List.forIn_cons]
 refine wpAny_bind (wpAny_bind (L5.here ?_))
 cases b with
 |true=>
  simp only[if_true]
  exact wpAny_pure (wpAny_pure (wpAny_pure q))
 |false=>
  simp only[Bool.false_eq_true,if_false]
  refine wpAny_pure ?_
  simp only[List.forIn_nil]
  exact wpAny_pure (wpAny_pure q)
structure AX (K:PySem.W.Frag) (mg:Str→Option Value) (x:Str) (T:Addr):Prop where
 bound:mg x=some (.ref T)
 ty:PySem.W.typeIn K (.ref T)=some (.type "type")
 exc:PySem.W.subIn K (.ref T) (.type "BaseException")=some true
 cls:(PySem.W.clsIn K T).isSome=true
def wA (K:PySem.W.Frag)(T:Addr)(i:Nat)(tb:(St→XK)→TS)(ts:TS):TS:=fun D σ H=>
 tb (fun σ' c oa H'=>∃C a,c= .ref C∧oa=some a∧PySem.W.subIn K (.ref C) (.ref T)=some true∧
  ts {nx:=fun σ2 H2=>D.nx (σ2.set i none) H2,rt:=D.rt,bk:=fun σ2 H2=>D.bk (σ2.set i none) H2,ct:=fun σ2 H2=>D.ct (σ2.set i none) H2} (σ'.set i (some (.ref a))) (upd H' a (.ext (IsExc a C)))) D σ H
section
variable {X:Cx} {x n:Str} {T:Addr} {np hpos pos:Pos} {i:Nat} {b₀:Stmt} {body suite:List Stmt} {tb:(St→XK)→TS} {ts:TS}
theorem xB (O:AX X.K X.mg x T)(hN:X.N.Nodup)(hi:X.N[i]?=some n)(hl:X.env.scope.names.lookup n=some .local)(hb:∀pins Es,PSs (X.tried pins Es) body (tb Es))(hs:∀e,PSs (X.suite e) (b₀::suite) ts)
  (hst:X.stack=X.env::X.outer) (hfr:X.env.frame=some X.env.locals) (hex:X.ex=[]) (hg:Gl X x:=by rfl) (hdb:(x==("__debug__":Str))=false:=by decide):
  PS X (.Try body [.ExceptHandler (some (.Name x np)) (some n) (b₀::suite) hpos] [] [] pos) (wA X.K T i tb ts):=by
 intro pins s σ H D I hw
 refine wpAny_Try_except (wpAny_mono (hb pins _ [] s σ H D I.toTried hw) (fun f s1 q=>?_) fun e s1 q=>?_)
 ·cases f with
  |next=>obtain⟨σ',H',I',q'⟩:=q;exact wpAny_execs_nil ⟨σ',H',I'.ofTried,q'⟩
  |brk=>obtain⟨σ',H',I',q'⟩:=q;exact⟨σ',H',I'.ofTried,q'⟩
  |cont=>obtain⟨σ',H',I',q'⟩:=q;exact⟨σ',H',I'.ofTried,q'⟩
  |ret u=>obtain⟨v,σ',H',I',r',q'⟩:=q;exact⟨v,σ',H',I'.ofTried,r',q'⟩
 ·obtain⟨pins',σ',H1,s2,I2',a,C',a0,B,H',rfl,F,C,a',ec,ea,hsub,hts⟩:=q
  cases ec
  cases ea
  have I2:=I2'.ofPinned
  have hfl:=F.fl
  rw[hst] at hfl
  refine wpAny_looks_onW (by rw[I.ok.frames,hst]) hfr hfl fun h4 held4 sm4=>?_
  refine wpAny_landsW held4 fun h5 hfl5 sm5=>?_
  have I5:Inv X pins σ' H' {s1 with heap:=h5}:=F.land I2 hfl5.1 (sm4.trans sm5) s1.toks
  have hx5:IsExc a C' h5:=by
   obtain⟨oe,vs,z1,z2,z3,_⟩:=hfl5.first
   exact⟨oe,vs,z1,z2,z3⟩
  refine wpAny_handleBy_cons (codeAny_handlers_test ?_) (by intro q;cases q)
  refine aE (X:=X.suite a) (I5.toSuite (e:=a)) hg O.bound ?_ hdb
  refine iG I5.kIn hx5 O.ty O.exc O.cls hsub ?_
  refine codeAny_handlers_suite_as ?_
  refine lands_againW hfl5 fun h6 hfl6 sm6=>?_
  have I6:Inv X pins σ' H' {s1 with heap:=h6}:=F.land I2 hfl6.1 ((sm4.trans sm5).trans sm6) s1.toks
  have hx6:IsExc a C' h6:=by
   obtain⟨oe,vs,z1,z2,z3,_⟩:=hfl6.first
   exact⟨oe,vs,z1,z2,z3⟩
  have nB:B.get? a=none:=hfl6.2.1
  have nfr:a∉K9 X.stack:=fun hb=>by
   obtain⟨oe,vs,z1,z2,z3⟩:=hx6
   rw[hst] at hb
   exact A6 hfl6.2.2.1 hb z1 vs z3
  have n2:s2.heap.get? a=none:=by
   cases z:s2.heap.get? a with
   |none=>rfl
   |some o=>
    obtain⟨o',z'⟩:=F.th a o z nfr
    rw[nB] at z';cases z'
  have n0:X.s₀.heap.get? a=none:=by
   cases z:X.s₀.heap.get? a with
   |none=>rfl
   |some o=>
    obtain⟨o',z'⟩:=I2.base.there a o z (by rw[hex];simp)
    rw[n2] at z';cases z'
  have I7:=(I6.track F.nw hx6 n0 fun p hp q=>by
   have z:=(I2.pin p hp).1
   rw[q,n2] at z;cases z).toSuite (e:=a)
  refine eu (X:=X.suite a) I7 hN hi (.inl hl) (v:= .ref a) rfl (fun s8 I8=>?_) (.inr hl)
  refine wpAny_mono (hs a pins s8 _ _ _ I8 hts) (fun f s9 q=>?_) fun _ _ z=>z.elim
  cases f with
  |next=>
   obtain⟨σ9,H9,I9,q9⟩:=q
   exact V8 (I9.ofSuite I.ok) hN hi hl fun s10 I10=>⟨_,_,I10,q9⟩
  |brk=>
   obtain⟨σ9,H9,I9,q9⟩:=q
   exact V8 (I9.ofSuite I.ok) hN hi hl fun s10 I10=>⟨_,_,I10,q9⟩
  |cont=>
   obtain⟨σ9,H9,I9,q9⟩:=q
   exact V8 (I9.ofSuite I.ok) hN hi hl fun s10 I10=>⟨_,_,I10,q9⟩
  |ret u=>
   obtain⟨v9,σ9,H9,I9,r9,q9⟩:=q
   exact V8 (I9.ofSuite I.ok) hN hi hl fun s10 I10=>⟨_,_,_,I10,r9,q9⟩
theorem Bo (O:AX X.K X.mg x T)(hN:X.N.Nodup)(hi:X.N[i]?=some n)(hb:∀pins Es,QSs (X.tried pins Es) body (tb Es))(hs:∀e,QSs (X.suite e) (b₀::suite) ts)(hl:X.env.scope.names.lookup n=some .local:=by rfl)
  (hst:X.stack=X.env::X.outer:=by rfl) (hfr:X.env.frame=some X.env.locals:=by rfl) (hex:X.ex=[]:=by rfl) (hg:Gl X x:=by rfl) (hdb:(x==("__debug__":Str))=false:=by decide):
  QS X (.Try body [.ExceptHandler (some (.Name x np)) (some n) (b₀::suite) hpos] [] [] pos) (wA X.K T i tb ts):=⟨xB O hN hi hl (fun p E=>(hb p E).r) (fun e=>(hs e).r) hst hfr hex hg hdb⟩
end
end L2
set_option Elab.async false
set_option linter.all false
set_option maxRecDepth 100000
set_option maxHeartbeats 4000000
namespace L2
open PySem PySem.Spec PyProof.Rows PySem.W
def cV:Value→V→Prop
 | .ref T,v=>v= .ref T
 | .type n,v=>v= .ty n
 |_,_=>False
section
variable {X:Cx}
end
def cA (K:Frag)(x:Str):Addr:=match nsIn K mainGlobals x with
 |some (some (.ref C))=>C
 |_=>0
section
variable {K:Frag} {σ:St} {H:Hp} {Q:VK} {D:lI}
theorem tP {C:Addr}{E:XK}{ta:TA}(q:ta σ H fun vs H1=>vs.length≤sizeLine∧∀e,H1 e=none→E (.ref C) (some e) H1):jK C E ta D σ H:=q
theorem zj {T:Addr}{i:Nat}{tb:(St→XK)→TS}{ts:TS}(q:tb (fun σ' c oa H'=>∃C a,c= .ref C∧oa=some a∧PySem.W.subIn K (.ref C) (.ref T)=some true∧
  ts {nx:=fun σ2 H2=>D.nx (σ2.set i none) H2,rt:=D.rt,bk:=fun σ2 H2=>D.bk (σ2.set i none) H2,ct:=fun σ2 H2=>D.ct (σ2.set i none) H2} (σ'.set i (some (.ref a))) (upd H' a (.ext (IsExc a C)))) D σ H):wA K T i tb ts D σ H:=q
theorem tW {sp:Sp}{dvs:List V}{Es:St→XK}{t:TA}(q:t σ H fun vs H1=>sp (vs++dvs) H1 Q (Es σ)):qv sp dvs Es t σ H Q:=q
end
section
variable {X:Cx}
def yr (K:Frag):R2:=fun x y H Q=>(∃a xs i,x= .ref a∧y= .int i∧SqT K H a xs∧Q (.bl true) H)∨(∃a xs i,x= .int i∧y= .ref a∧SqT K H a xs∧Q (.bl true) H)
theorem vR (hu:X.A.units+64<cLine):OpR X (compareOp .NotEq) (yr X.K):=by
 intro pins s σ H x y v u Q I rx ry h
 rcases h with⟨a,xs,i,rfl,rfl,ha,k⟩|⟨a,xs,i,rfl,rfl,ha,k⟩
 ·cases rx
  obtain⟨t,rfl⟩:=(show ∃t,u=Value.int i t from ry)
  obtain⟨its,r1,p1,z1⟩:=I.tuple ha
  exact SeqAt.RcNeAt.tuple_int (A:=X.A) i t (show s.heap.IsTuple a its.toArray from p1) (by lia) X.prog X.w _ _ ⟨.bl true,H,I,rfl,k⟩
 ·cases ry
  obtain⟨t,rfl⟩:=(show ∃t,v=Value.int i t from rx)
  obtain⟨its,r1,p1,z1⟩:=I.tuple ha
  exact SeqAt.RcNeAt.int_tuple (A:=X.A) i t (show s.heap.IsTuple a its.toArray from p1) (by lia) X.prog X.w _ _ ⟨.bl true,H,I,rfl,k⟩
def tf (K:Frag):R2:=fun x y H Q=>mZ K x y H Q∨yr K x y H Q
theorem Br (K:Frag){k:Nat}(hr:Room k X.A)(h:X.K=K:=by rfl):OpR X (compareOp .NotEq) (tf K):=(Cm K hr h).or (h▸vR hr.units)
end
section
variable {K:Frag} {H:Hp} {Q:VK}
theorem BD {x y:V}(q:mZ K x y H Q):tf K x y H Q:= .inl q
theorem rV {i j:Int}(q:Q (.bl (!decide (i=j))) H):tf K (.int i) (.int j) H Q:= .inl (jk q)
end
end L2
set_option Elab.async false
set_option linter.all false
set_option maxRecDepth 100000
set_option maxHeartbeats 4000000
namespace L2
open PySem PySem.Spec PyProof.Rows
section
variable {X:Cx}
end
section
open PySem.Builtin PySem.Builtin.Str
theorem pM (x:Str)(l u:Option Int):(Txt.slice x l u).length≤(strSliceIndices l u 1 x.length).length:=by
 unfold Txt.slice
 split
 ·next h=>
  have h':(strSliceIndices l u 1 x.length).length=x.length:=by simpa using h
  lia
 ·show(List.filterMap _ (strSliceIndices l u 1 x.length)).toArray.size≤_
  rw[List.size_toArray]
  exact List.length_filterMap_le _ _
end
end L2
set_option Elab.async false
set_option linter.all false
set_option maxRecDepth 100000
set_option maxHeartbeats 4000000
namespace L2
open PySem PySem.Spec PyProof.Rows
section
variable {prog:Program} {w:World} {A:Around} {E:Value→Shared→Prop}
def StrsAre:List Value→List Str→Prop:=Paired fun u x=>∃t,u= .str x t
end
section
variable {prog:Program} {w:World} {A:Around} {E:Value→Shared→Prop}
end
def xU (a:Addr)(n:Nat)(h:Heap):Prop:=∃o es ep t,h.get? a=some o∧o.ExactSet∧o.data= .set es ep t∧t.fits es.size=true∧es.size=n
section
variable {X:Cx}
def vx (K:PySem.W.Frag):List V→Hp→VK→Prop:=fun xs H Q=>nE K xs H Q∨∃p n,xs=[V.ref p]∧H p=some (.ext (xU p n))∧n≤1000∧Q (.int n) H
theorem call_lenS:CallR X (.builtin "len") (vx X.K):=by
 refine call_lenX.or ?_
 intro pins s σ H xs us Q I r h
 obtain⟨p,n,rfl,hp,hn,q⟩:=h
 obtain⟨u,rfl,ru⟩:=D0 r
 cases ru
 obtain⟨o,es,ep,t,h1,h2,h3,h4,h5⟩:=(I.hok p _ hp).1
 exact call_len_set h1 h2 h3 h4 (by lia) ⟨.int n,H,I.tok _,⟨_,by rw[h5]⟩,q⟩
end
end L2
set_option Elab.async false
set_option linter.all false
set_option maxRecDepth 100000
set_option maxHeartbeats 4000000
namespace L2
open PySem PySem.Spec PyProof.Rows
open PySem.AutoSeq1 (wpAny_loadPart')
open PySem.MeetsSeq PySem.MeetsSeq2 PySem.MeetsSeq3
theorem iI:plainId "list.__eq__.loop"=true:=plain_eq_loop
section
variable {P:Program} {w:World}
theorem jq (l m:Addr)(xs ys:Array Value)(n1 n2:Nat)(d1 d2:Option Addr)(s1 s2:Array (Option Value))(hz:xs.size=ys.size)(f:Nat→Bool)(md:Int)(hmd:md=2∨md=3):∀(k i:Nat),xs.size -i=k→
  MeetsIn P w (Builtin.«list.__eq__.loop» ⟨[.ref l,.ref m,rawInt i,rawInt md],[]⟩) (fun A R s=>
   s.heap.get? l=some {cls:= .type "list",dict:=d1,data:= .seq xs n1,slots:=s1}∧s.heap.get? m=some {cls:= .type "list",dict:=d2,data:= .seq ys n2,slots:=s2}∧
   (∀j (g1:j<xs.size) (g2:j<ys.size),EqP P w A.in1 s xs[j] ys[j] (f j))∧
   R (.ok (.ret (.bool (if md=2 then((List.range xs.size).drop i).all f else !((List.range xs.size).drop i).all f)))) s):=by
 intro k
 induction k with
 |zero=>
  intro i hk
  intro A R s hyp
  obtain⟨hp,gg,dr,tk,os⟩:=s
  obtain⟨e1,e2,he,fin⟩:=hyp
  have x1:xs[((i:Nat):Int).toNat]?=none:=by simp;lia
  have x2:ys[((i:Nat):Int).toNat]?=none:=by simp;lia
  have x3:(List.range xs.size).drop i=[]:=by simp;lia
  rw[x3] at fin
  rcases hmd with rfl|rfl
  ·wp_walk using wpAny_loadPart' e1,wpAny_loadPart' e2
   rw[x1,x2]
   wp_walk using wpAny_loadPart' e1,wpAny_loadPart' e2
   show R (.ok (.ret (.bool (xs.size==ys.size)))) _
   rw[hz];simpa using fin
  ·wp_walk using wpAny_loadPart' e1,wpAny_loadPart' e2
   rw[x1,x2]
   wp_walk using wpAny_loadPart' e1,wpAny_loadPart' e2
   show R (.ok (.ret (.bool (xs.size !=ys.size)))) _
   rw[hz];simpa using fin
 |succ k ih=>
  intro i hk
  intro A R s hyp
  have ih:=ih (i+1) (by lia)
  obtain⟨hp,gg,dr,tk,os⟩:=s
  obtain⟨e1,e2,he,fin⟩:=hyp
  have l1:i<xs.size:=by lia
  have l2:i<ys.size:=by lia
  have x1:xs[((i:Nat):Int).toNat]?=some xs[i]:=by simp [l1]
  have x2:ys[((i:Nat):Int).toNat]?=some ys[i]:=by simp [l2]
  have x3:(List.range xs.size).drop i=i::(List.range xs.size).drop (i+1):=by simp [List.drop_eq_getElem_cons,l1]
  have x4:((i:Int)+1)=((i+1:Nat):Int):=by push_cast;rfl
  rw[x3,List.all_cons] at fin
  rcases hmd with rfl|rfl
  ·wp_walk using wpAny_loadPart' e1,wpAny_loadPart' e2
   rw[x1,x2]
   refine wpAny_bind (he i l1 l2 _ _ ?_)
   cases hf:f i with
   |true=>
    rw[hf] at fin
    wp_walk
    rw[x4]
    refine⟨plainId_quiet iI _,codeAny_builtin entry_eq_loop ?_⟩
    rw[Around.under_plainId iI _]
    exact ih A R _ ⟨e1,e2,he,by simpa using fin⟩
   |false=>
    rw[hf] at fin
    wp_walk using wpAny_loadPart' e1,wpAny_loadPart' e2
    rw[x1,x2]
    wp_walk
    simpa using fin
  ·wp_walk using wpAny_loadPart' e1,wpAny_loadPart' e2
   rw[x1,x2]
   refine wpAny_bind (he i l1 l2 _ _ ?_)
   cases hf:f i with
   |true=>
    rw[hf] at fin
    wp_walk
    rw[x4]
    refine⟨plainId_quiet iI _,codeAny_builtin entry_eq_loop ?_⟩
    rw[Around.under_plainId iI _]
    exact ih A R _ ⟨e1,e2,he,by simpa using fin⟩
   |false=>
    rw[hf] at fin
    wp_walk using wpAny_loadPart' e1,wpAny_loadPart' e2
    rw[x1,x2]
    wp_walk
    simpa using fin
theorem wR (l m:Addr)(xs ys:Array Value)(n1 n2:Nat)(d1 d2:Option Addr)(s1 s2:Array (Option Value))(hz:xs.size=ys.size)(f:Nat→Bool):
  MeetsIn P w (Builtin.«list.__eq__» ⟨[.ref l,.ref m],[]⟩) (fun A R s=>
   s.heap.get? l=some {cls:= .type "list",dict:=d1,data:= .seq xs n1,slots:=s1}∧s.heap.get? m=some {cls:= .type "list",dict:=d2,data:= .seq ys n2,slots:=s2}∧
   (∀j (g1:j<xs.size) (g2:j<ys.size),EqP P w A.in1 s xs[j] ys[j] (f j))∧R (.ok (.ret (.bool ((List.range xs.size).all f)))) s):=by
 intro A R s hyp
 obtain⟨hp,gg,dr,tk,os⟩:=s
 obtain⟨e1,e2,he,fin⟩:=hyp
 have q1:=AutoSeq1.sub_list_list;have q2:¬(xs.size !=ys.size)=true:=by simp [hz]
 wp_walk using wpAny_loadPart' e1,wpAny_loadPart' e2
 refine⟨plainId_quiet iI _,codeAny_builtin entry_eq_loop ?_⟩
 rw[Around.under_plainId iI _]
 exact jq l m xs ys n1 n2 d1 d2 s1 s2 hz f 2 (.inl rfl) _ 0 rfl A R _ ⟨e1,e2,he,by simpa using fin⟩
theorem xk (l m:Addr)(xs ys:Array Value)(n1 n2:Nat)(d1 d2:Option Addr)(s1 s2:Array (Option Value))(hz:xs.size=ys.size)(f:Nat→Bool):
  MeetsIn P w (Builtin.«list.__ne__» ⟨[.ref l,.ref m],[]⟩) (fun A R s=>
   s.heap.get? l=some {cls:= .type "list",dict:=d1,data:= .seq xs n1,slots:=s1}∧s.heap.get? m=some {cls:= .type "list",dict:=d2,data:= .seq ys n2,slots:=s2}∧
   (∀j (g1:j<xs.size) (g2:j<ys.size),EqP P w A.in1 s xs[j] ys[j] (f j))∧R (.ok (.ret (.bool (!(List.range xs.size).all f)))) s):=by
 intro A R s hyp
 obtain⟨hp,gg,dr,tk,os⟩:=s
 obtain⟨e1,e2,he,fin⟩:=hyp
 have q1:=AutoSeq1.sub_list_list;have q2:¬(xs.size !=ys.size)=true:=by simp [hz]
 wp_walk using wpAny_loadPart' e1,wpAny_loadPart' e2
 refine⟨plainId_quiet iI _,codeAny_builtin entry_eq_loop ?_⟩
 rw[Around.under_plainId iI _]
 exact jq l m xs ys n1 n2 d1 d2 s1 s2 hz f 3 (.inr rfl) _ 0 rfl A R _ ⟨e1,e2,he,by simpa using fin⟩
theorem RcP.lst {A:Around}{s:Shared}{l m:Addr}{xs ys:Array Value}{f:Nat→Bool}(hl:s.heap.IsList l xs)(hm:s.heap.IsList m ys)(hz:xs.size=ys.size)(hu:A.units<cLine)
  (he:∀j (g1:j<xs.size) (g2:j<ys.size),EqP P w A.in1 s xs[j] ys[j] (f j)):RcP P w A s (.ref l) (.ref m) ((List.range xs.size).all f):=fun E Q q=>by
 obtain⟨⟨c1,d1,a1,s1⟩,o1,k1,n1,t1⟩:=id hl
 obtain⟨⟨c2,d2,a2,s2⟩,o2,k2,n2,t2⟩:=id hm
 simp only at k1 t1 k2 t2
 subst k1 t1 k2 t2
 refine wpAny_richCompare_same_room (op:= .Eq) ⟨_,o1,rfl⟩ ⟨_,o2,rfl⟩ PySem.F.slot_list_eq (call_meetsIn PySem.F.slot_list_eq ⟨_,o1,rfl⟩ PySem.F.entry_list_eq (PySem.F.args_list_eq_2 _ _) (wR l m xs ys n1 n2 d1 d2 s1 s2 hz f) ⟨o1,o2,he,?_⟩) hu
 exact⟨(fun z=>nomatch z),q⟩
theorem NcP.lst {A:Around}{s:Shared}{l m:Addr}{xs ys:Array Value}{f:Nat→Bool}(hl:s.heap.IsList l xs)(hm:s.heap.IsList m ys)(hz:xs.size=ys.size)(hu:A.units<cLine)
  (he:∀j (g1:j<xs.size) (g2:j<ys.size),EqP P w A.in1 s xs[j] ys[j] (f j)):NcP P w A s (.ref l) (.ref m) (!(List.range xs.size).all f):=fun E Q q=>by
 obtain⟨⟨c1,d1,a1,s1⟩,o1,k1,n1,t1⟩:=id hl
 obtain⟨⟨c2,d2,a2,s2⟩,o2,k2,n2,t2⟩:=id hm
 simp only at k1 t1 k2 t2
 subst k1 t1 k2 t2
 refine wpAny_richCompare_same_room (op:= .NotEq) ⟨_,o1,rfl⟩ ⟨_,o2,rfl⟩ PySem.F.slot_list_ne (call_meetsIn PySem.F.slot_list_ne ⟨_,o1,rfl⟩ PySem.F.entry_list_ne (PySem.F.args_list_ne_2 _ _) (xk l m xs ys n1 n2 d1 d2 s1 s2 hz f) ⟨o1,o2,he,?_⟩) hu
 exact⟨(fun z=>nomatch z),q⟩
end
def EqN (K:PySem.W.Frag)(H:Hp):Nat→V→V→Bool→Prop
 |0,x,y,b=>Eq1 K H x y b∨∃a c,x= .ref a∧y= .ref c∧EqD K H a c b
 |n+1,x,y,b=>EqN K H n x y b∨∃(a c:Addr) (xs ys:List V) (bs:List Bool),x= .ref a∧y= .ref c∧a≠c∧((SqT K H a xs∧SqT K H c ys)∨(SqL K H a xs∧SqL K H c ys))∧xs.length=ys.length∧bs.length=xs.length∧
   (∀(j:Nat) (x' y':V) (b':Bool),xs[j]?=some x'→ys[j]?=some y'→bs[j]?=some b'→EqN K H n x' y' b')∧b=bs.all id
theorem z9:∀(bs:List Bool),(List.range bs.length).all (fun j=>bs.getD j true)=bs.all id
 |[]=>rfl
 |b::r=>by
  rw[List.length_cons,List.range_succ_eq_map,List.all_cons,List.all_map]
  show(b&&(List.range r.length).all fun j=>r.getD j true)=(b&&r.all id)
  rw[z9 r]
section
variable {X:Cx} {pins:List (Addr×Obj)} {σ:St} {H:Hp} {s:Shared}
theorem aX {n:Nat}{xs ys:List V}{bs:List Bool}{us vs:List Value}{A:Around}(r1:Vals xs us)(r2:Vals ys vs)(hl:xs.length=ys.length)(hb:bs.length=xs.length)
  (he:∀(j:Nat) (x' y':V) (b':Bool),xs[j]?=some x'→ys[j]?=some y'→bs[j]?=some b'→EqN X.K H n x' y' b')
  (at_:∀{x y:V} {u v:Value} {b:Bool},EqN X.K H n x y b→RelV x u→RelV y v→EqP X.prog X.w A.in1 s u v b):
  ∀j (g1:j<us.toArray.size) (g2:j<vs.toArray.size),EqP X.prog X.w A.in1 s us.toArray[j] vs.toArray[j] (bs.getD j true):=fun j g1 g2=>by
 have l1:=r1.length
 have l2:=r2.length
 have g1':j<us.length:=by simpa using g1
 have g2':j<vs.length:=by simpa using g2
 have x1:xs[j]?=some (xs[j]'(by lia)):=List.getElem?_eq_getElem _
 have y1:ys[j]?=some (ys[j]'(by lia)):=List.getElem?_eq_getElem _
 have b1:bs[j]?=some (bs[j]'(by lia)):=List.getElem?_eq_getElem _
 obtain⟨u1,hu1,ru1⟩:=r1.get x1
 obtain⟨u2,hu2,ru2⟩:=r2.get y1
 have e1:us.toArray[j]=u1:=by
  have:=List.getElem?_eq_getElem g1'
  rw[hu1] at this
  simpa using(Option.some.inj this).symm
 have e2:vs.toArray[j]=u2:=by
  have:=List.getElem?_eq_getElem g2'
  rw[hu2] at this
  simpa using(Option.some.inj this).symm
 rw[e1,e2,List.getD_eq_getElem?_getD,b1]
 exact at_ (he j _ _ _ x1 y1 b1) ru1 ru2
theorem EqN.at_ (I:Inv X pins σ H s):∀{n:Nat} {A:Around} {x y:V} {u v:Value} {b:Bool},EqN X.K H n x y b→RelV x u→RelV y v→A.units+32+n<cLine→EqP X.prog X.w A s u v b:=by
 intro n
 induction n with
 |zero=>
  intro A x y u v b h rx ry hu
  rcases h with h|⟨a,c,rfl,rfl,h⟩
  ·exact .of (h.at_ I rx ry (by lia))
  ·cases rx
   cases ry
   exact h.at_ I (by lia)
 |succ n ih=>
  intro A x y u v b h rx ry hu
  rcases h with h|⟨a,c,xs,ys,bs,rfl,rfl,hne,hh,hl,hb,he,rfl⟩
  ·exact ih h rx ry (by lia)
  ·cases rx
   cases ry
   have hin:A.in1.units=A.units+1:=rfl
   rcases hh with⟨h1,h2⟩|⟨h1,h2⟩
   ·obtain⟨us,r1,p1,z1⟩:=I.tuple h1
    obtain⟨vs,r2,p2,z2⟩:=I.tuple h2
    have l1:=r1.length
    have l2:=r2.length
    have q:=RcP.tup (P:=X.prog) (w:=X.w) (A:=A) (f:=fun j=>bs.getD j true) (show s.heap.IsTuple a us.toArray from p1) (show s.heap.IsTuple c vs.toArray from p2) (by lia) (aX r1 r2 hl hb he fun z q1 q2=>ih z q1 q2 (by lia))
    have e3:min us.toArray.size vs.toArray.size=bs.length:=by simp;lia
    have e4:(us.toArray.size==vs.toArray.size)=true:=by simp;lia
    rw[e3,e4,z9,Bool.and_true] at q
    exact .refs hne q
   ·obtain⟨us,r1,p1,z1⟩:=I.list h1
    obtain⟨vs,r2,p2,z2⟩:=I.list h2
    have l1:=r1.length
    have l2:=r2.length
    have q:=RcP.lst (P:=X.prog) (w:=X.w) (A:=A) (f:=fun j=>bs.getD j true) p1.isList p2.isList (by simp;lia) (by lia) (aX r1 r2 hl hb he fun z q1 q2=>ih z q1 q2 (by lia))
    have e3:us.toArray.size=bs.length:=by simp;lia
    rw[e3,z9] at q
    exact .refs hne q
end
def AG (K:PySem.W.Frag)(H:Hp)(x y:V)(bs:List Bool):Prop:=∃(a c:Addr) (xs ys:List V),x= .ref a∧y= .ref c∧((SqT K H a xs∧SqT K H c ys)∨(SqL K H a xs∧SqL K H c ys))∧xs.length=ys.length∧bs.length=xs.length∧
 ∀(j:Nat) (x' y':V) (b':Bool),xs[j]?=some x'→ys[j]?=some y'→bs[j]?=some b'→EqN K H 8 x' y' b'
section
variable {X:Cx}
def yK (K:PySem.W.Frag):R2:=fun x y H Q=>∃bs,AG K H x y bs∧Q (.bl (bs.all id)) H
def yT (K:PySem.W.Frag):R2:=fun x y H Q=>∃bs,AG K H x y bs∧Q (.bl (!bs.all id)) H
theorem xm (hu:X.A.units+64<cLine):OpR X (compareOp .Eq) (yK X.K):=by
 intro pins s σ H x y v u Q I rx ry h
 obtain⟨bs,⟨a,c,xs,ys,rfl,rfl,hh,hl,hb,he⟩,k⟩:=h
 cases rx
 cases ry
 have hin:X.A.in1.units=X.A.units+1:=rfl
 rcases hh with⟨h1,h2⟩|⟨h1,h2⟩
 ·obtain⟨us,r1,p1,z1⟩:=I.tuple h1
  obtain⟨vs,r2,p2,z2⟩:=I.tuple h2
  have l1:=r1.length
  have l2:=r2.length
  have q:=RcP.tup (P:=X.prog) (w:=X.w) (A:=X.A) (f:=fun j=>bs.getD j true) (show s.heap.IsTuple a us.toArray from p1) (show s.heap.IsTuple c vs.toArray from p2) (by lia) (aX r1 r2 hl hb he fun z q1 q2=>EqN.at_ I z q1 q2 (by lia))
  have e3:min us.toArray.size vs.toArray.size=bs.length:=by simp;lia
  have e4:(us.toArray.size==vs.toArray.size)=true:=by simp;lia
  rw[e3,e4,z9,Bool.and_true] at q
  exact q _ _ ⟨.bl _,H,I,rfl,k⟩
 ·obtain⟨us,r1,p1,z1⟩:=I.list h1
  obtain⟨vs,r2,p2,z2⟩:=I.list h2
  have l1:=r1.length
  have l2:=r2.length
  have q:=RcP.lst (P:=X.prog) (w:=X.w) (A:=X.A) (f:=fun j=>bs.getD j true) p1.isList p2.isList (by simp;lia) (by lia) (aX r1 r2 hl hb he fun z q1 q2=>EqN.at_ I z q1 q2 (by lia))
  have e3:us.toArray.size=bs.length:=by simp;lia
  rw[e3,z9] at q
  exact q _ _ ⟨.bl _,H,I,rfl,k⟩
theorem xj (hu:X.A.units+64<cLine):OpR X (compareOp .NotEq) (yT X.K):=by
 intro pins s σ H x y v u Q I rx ry h
 obtain⟨bs,⟨a,c,xs,ys,rfl,rfl,hh,hl,hb,he⟩,k⟩:=h
 cases rx
 cases ry
 have hin:X.A.in1.units=X.A.units+1:=rfl
 rcases hh with⟨h1,h2⟩|⟨h1,h2⟩
 ·obtain⟨us,r1,p1,z1⟩:=I.tuple h1
  obtain⟨vs,r2,p2,z2⟩:=I.tuple h2
  have l1:=r1.length
  have l2:=r2.length
  have q:=NcP.tup (P:=X.prog) (w:=X.w) (A:=X.A) (f:=fun j=>bs.getD j true) (show s.heap.IsTuple a us.toArray from p1) (show s.heap.IsTuple c vs.toArray from p2) (by lia) (aX r1 r2 hl hb he fun z q1 q2=>EqN.at_ I z q1 q2 (by lia))
  have e3:min us.toArray.size vs.toArray.size=bs.length:=by simp;lia
  have e4:(us.toArray.size==vs.toArray.size)=true:=by simp;lia
  rw[e3,e4,z9,Bool.and_true] at q
  exact q _ _ ⟨.bl _,H,I,rfl,k⟩
 ·obtain⟨us,r1,p1,z1⟩:=I.list h1
  obtain⟨vs,r2,p2,z2⟩:=I.list h2
  have l1:=r1.length
  have l2:=r2.length
  have q:=NcP.lst (P:=X.prog) (w:=X.w) (A:=X.A) (f:=fun j=>bs.getD j true) p1.isList p2.isList (by simp;lia) (by lia) (aX r1 r2 hl hb he fun z q1 q2=>EqN.at_ I z q1 q2 (by lia))
  have e3:us.toArray.size=bs.length:=by simp;lia
  rw[e3,z9] at q
  exact q _ _ ⟨.bl _,H,I,rfl,k⟩
def qy (K:PySem.W.Frag):R2:=fun x y H Q=>tf K x y H Q∨yT K x y H Q
theorem mR (K:PySem.W.Frag){k:Nat}(hr:Room k X.A)(h:X.K=K:=by rfl):OpR X (compareOp .NotEq) (qy K):=(Br K hr h).or (h▸xj hr.units)
def iT (K:PySem.W.Frag):R2:=fun x y H Q=>wI K x y H Q∨yK K x y H Q
theorem G5 (K:PySem.W.Frag){k:Nat}(hr:Room k X.A)(h:X.K=K:=by rfl):OpR X (compareOp .Eq) (iT K):=(AV K hr h).or (h▸xm hr.units)
end
end L2
set_option Elab.async false
set_option linter.all false
set_option maxRecDepth 100000
set_option maxHeartbeats 4000000
namespace L2
open PySem PySem.Spec PyProof.Rows
def kP (v d:Addr)(h:Heap):Prop:=h.IsValuesView v d
theorem uJ {P:Program}{w:World}{H:Hp}{h:Heap}{v d:Addr}(x:kP v d h):ObjOk P w H h v (.ext (kP v d)):=by
 obtain⟨o,e,r⟩:=x
 exact⟨⟨o,e,r⟩,⟨o,e⟩,fun h1 h2 ⟨o',e',r'⟩ k=>⟨o',k _ e',r'⟩⟩
section
variable {X:Cx}
def tT:V→List V→Hp→VK→Prop:=fun x vs H Q=>∃d kvs,x= .ref d∧vs=[]∧Rd H d (.dK kvs)∧∀v,H v=none→Q (.ref v) (upd H v (.ext (kP v d)))
theorem cy:uI X "dict.values" tT:=by
 intro pins s σ H x vs v us Q I rx rv h
 obtain⟨d,kvs,rfl,rfl,hd,q⟩:=h
 cases rx
 have hus:=rv.zero
 subst hus
 obtain⟨z,hs,ws,rel,dd⟩:=C1 I.hok hd
 refine call_meetsIn PySem.F.slot_dict_values dd.typeIs PySem.F.entry_dict_values (PySem.F.args_dict_values_1 _) (meets_dict_values (i8 X.prog X.w) d hs) ⟨⟨ws,dd⟩,?_⟩
 refine⟨.ref s.heap.objs.size,_,?_,rfl,q _ (I.hok.fresh (Nat.le_refl _))⟩
 exact I.laid (a:=s.heap.objs.size) (t':=s.toks) (fun b u e=>Heap.get?_push_of_some _ e) (Nat.le_refl _) (uJ ⟨_,Heap.get?_push_size _ rfl,rfl,rfl⟩)
def gM (K:PySem.W.Frag):List V→Hp→VK→Prop:=fun xs H Q=>iA K xs H Q∨∃(v d:Addr) (kvs:List (h9×V)),xs=[.ref v]∧H v=some (.ext (kP v d))∧Rd H d (.dK kvs)∧∀l,H l=none→Q (.ref l) (upd H l (.lst (kvs.map (·.2))))
theorem kx (hc:X.calm=true):CallR X (.type "list") (gM X.K):=by
 refine(ki hc).or ?_
 intro pins s σ H xs us Q I r h
 obtain⟨v,d,kvs,rfl,hv,hx,q⟩:=h
 obtain⟨u,rfl,ru⟩:=D0 r
 cases ru
 have hvv:kP v d s.heap:=(I.hok v _ hv).1
 obtain⟨hd,o,vs,ep,ho,D⟩:=aF I.hok hx
 have hlv:=KV.length D.kv
 have hz:kvs.length≤sizeLine:=(C1 I.hok hx).1
 refine PySem.W.kdl_call (PySem.W.kdl_values (knd:=i8 X.prog X.w) (kvs:=vs) (ep:=ep)) (I.ok.hd hc) ⟨hvv,D.at_ _ ho⟩ (by lia) fun h' tk acc c hkp hS hacc=>?_
 refine⟨.ref s.heap.objs.size,_,I.newL (tk:=tk) hkp (Nat.le_refl _) hS (G8 (by have:=hacc.1;simp;lia) fun i x u e1 e2=>?_) (by rw[List.length_map];exact hz),rfl,q _ (I.hok.fresh (Nat.le_refl _))⟩
 obtain⟨k,hy⟩:=hacc.2 i u (by rw[←Array.getElem?_toList];exact e2)
 rw[List.getElem?_map] at e1
 obtain⟨kv,e4,rfl⟩:=Option.map_eq_some_iff.mp e1
 obtain⟨q1,hq1,q2,q3⟩:=O4 (show Paired _ kvs vs from D.kv) e4
 rw[hy] at hq1
 cases hq1
 exact q3
theorem bJ (K:PySem.W.Frag)(hc:X.calm=true)(h:X.K=K:=by rfl):CallR X (.type "list") (gM K):=h▸kx hc
end
section
variable {K:PySem.W.Frag} {H:Hp} {Q:VK}
theorem di {xs:List V}(h:iA K xs H Q):gM K xs H Q:= .inl h
theorem ju {v d:Addr}{kvs:List (h9×V)}(hv:H v=some (.ext (kP v d)))(hd:Rd H d (.dK kvs))(q:∀l,H l=none→Q (.ref l) (upd H l (.lst (kvs.map (·.2))))):gM K [.ref v] H Q:= .inr ⟨v,d,kvs,rfl,hv,hd,q⟩
end
section
variable {prog:Program} {w:World} {A:Around} {E:Value→Shared→Prop}
end
section
variable {X:Cx}
end
end L2
set_option Elab.async false
set_option linter.all false
set_option maxRecDepth 100000
set_option maxHeartbeats 4000000
namespace L2
open PySem PySem.Spec PyProof.Rows
section
variable {prog:Program} {w:World} {A:Around} {E:Value→Shared→Prop} {s:Shared}
theorem nY {Q:Int→Shared→Prop}(h:Q 0xFCA86420 {s with toks:=s.toks+1}):wpAny (model prog w) A (pyHash .none) Q E s:=by
 have hT:s.TypeIs Value.none "NoneType":=rfl
 unfold pyHash pyHashByItsType
 refine wpAny_bind ?_
 rw[cRoomFor,if_neg (show ¬([Value.none].any Value.onHeap)=true by decide)]
 refine wpAny_pure (wpAny_bind (wpAny_specialOf hT PySem.F.slot_NoneType_hash.lookup ?_))
 refine(show wpAny _ _ (if(some (Value.builtin "NoneType.__hash__")==some Value.none)=true then _ else _) Q E s from ?_)
 rw[if_neg (by decide)]
 refine wpAny_bind (wpAny_specialOf hT PySem.F.slot_NoneType_hash.lookup ?_)
 refine(show wpAny _ _ (callSpecialIfBoundUnlessNone? Value.none "__hash__" _>>=_) Q E s from ?_)
 refine wpAny_bind (wpAny_callSpecialIfBoundUnlessNone?_slot hT PySem.F.slot_NoneType_hash (wpAny_call_entry PySem.F.slot_NoneType_hash hT PySem.F.entry_NoneType_hash (show wpAny _ _ (do ret (←mkInt 0xFCA86420)) _ _ s from wpAny_ret_mkInt ?_) (PySem.F.args_NoneType_hash_1 _)))
 refine(show wpAny _ _ (if(decide (-(2:Int) ^ 63≤0xFCA86420)&&decide ((0xFCA86420:Int)<2 ^ 63))=true then _ else _) Q E _ from ?_)
 rw[if_pos (by decide)]
 exact wpAny_pure h
end
abbrev fe:=Option h9
def BM:fe→Value→Bool
 |none,.none=>true
 |none,_=>false
 |some k,v=>X5 k v
theorem D3:∀{k:fe} {v:Value},BM k v=true→(k=none∧v=Value.none)∨(∃i t,k=some (Sum.inl i)∧v=Value.int i t)∨(∃x t,k=some (Sum.inr x)∧v=Value.str x t)
 |none,v,h=>by cases v<;>first|exact .inl ⟨rfl,rfl⟩|cases h
 |some k,v,h=>by
  rcases o3 (show X5 k v=true from h) with⟨i,t,rfl,rfl⟩|⟨x,t,rfl,rfl⟩
  ·exact .inr (.inl ⟨i,t,rfl,rfl⟩)
  ·exact .inr (.inr ⟨x,t,rfl,rfl⟩)
def zI (w:World):fe→Int
 |none=>0xFCA86420
 |some k=>zq w k
def aS (prog:Program)(w:World):PySem.KeyKind prog w fe where
 is:=BM
 hash:=zI w
 inj:=fun v a b ha hb=>by
  rcases D3 ha with⟨rfl,rfl⟩|⟨i,t,rfl,rfl⟩|⟨x,t,rfl,rfl⟩<;>rcases D3 hb with⟨rfl,e⟩|⟨j,u,rfl,e⟩|⟨y,u,rfl,e⟩<;>first|rfl|(cases e<;>rfl)
 byValue:=fun k v h=>by
  rcases D3 h with⟨rfl,rfl⟩|⟨i,t,rfl,rfl⟩|⟨x,t,rfl,rfl⟩<;>rfl
 pyHash:=fun hv h=>by
  rcases D3 hv with⟨rfl,rfl⟩|⟨i,t,rfl,rfl⟩|⟨x,t,rfl,rfl⟩
  ·exact nY h
  ·exact wpAny_pyHash_int h
  ·exact wpAny_pyHash_str h
 eqBool:=fun{A E s a b u v Q} hu hv h=>by
  have dk:∀{k k':h9},decide ((some k:fe)=some k')=decide (k=k'):=fun{k k'}=>by
   by_cases e:k=k'
   ·subst e;simp
   ·rw[decide_eq_false e,decide_eq_false fun z=>e (Option.some.inj z)]
  rcases D3 hu with⟨rfl,rfl⟩|⟨i,t,rfl,rfl⟩|⟨x,t,rfl,rfl⟩<;>rcases D3 hv with⟨rfl,rfl⟩|⟨j,t',rfl,rfl⟩|⟨y,t',rfl,rfl⟩
  ·exact SeqAt.EqAt.same _ _ _ _ _ (by simpa using h)
  ·exact SeqAt.EqAt.none_int j t' _ _ _ _ (by simpa using h)
  ·exact SeqAt.EqAt.none_str y t' _ _ _ _ (by simpa using h)
  ·exact SeqAt.EqAt.int_none i t _ _ _ _ (by simpa using h)
  ·rw[dk,qS] at h;exact wpAny_eqBool_int h
  ·rw[dk,pF] at h;exact SeqAt.EqAt.int_str i t y t' _ _ _ _ h
  ·exact SeqAt.EqAt.str_none x t _ _ _ _ (by simpa using h)
  ·rw[dk,pz] at h;exact SeqAt.EqAt.str_int x t j t' _ _ _ _ h
  ·rw[dk,qh] at h;exact wpAny_eqBool_str h
 «strs»:=fun k x t v h=>by
  rcases D3 h with⟨rfl,e⟩|⟨i,u,rfl,e⟩|⟨y,u,rfl,e⟩
  ·exact nomatch e
  ·exact nomatch e
  ·injection e with e1 _
   subst e1
   cases v<;>rfl
def aG (P:Program)(w:World)(a:Addr)(n:Nat)(h:Heap):Prop:=(a==sysModules)=false∧∃vs,h.DictOf (aS P w) a vs∧vs.length=n
theorem lA {P P':Program}{w w':World}{H:Hp}{h:Heap}{a:Addr}{n:Nat}(x:aG P w a n h):ObjOk P' w' H h a (.ext (aG P w a n)):=by
 obtain⟨hs,vs,⟨o,es,ep,e,r⟩,hl⟩:=x
 exact⟨⟨hs,vs,⟨o,es,ep,e,r⟩,hl⟩,⟨o,e⟩,fun h1 h2 ⟨hs',vs',⟨o',es',ep',e',r'⟩,hl'⟩ k=>⟨hs',vs',⟨o',es',ep',k _ e',r'⟩,hl'⟩⟩
theorem dY {P:Program}{w:World}:∀{es:List DictEntry} {vs:List (h9×Value)},Pairs (i8 P w) es vs→Pairs (aS P w) es (vs.map fun x=>(some x.1,x.2))
 |_,_,.nil=> .nil
 |_,_,.cons h e t=> .cons h e (dY t)
theorem uE {P:Program}{w:World}{h:Heap}{a:Addr}{vs:List (h9×Value)}(dd:h.DictOf (i8 P w) a vs):h.DictOf (aS P w) a (vs.map fun x=>(some x.1,x.2)):=by
 obtain⟨o,es,ep,h1,h2,h3,h4,h5,h6⟩:=dd
 refine⟨o,es,ep,h1,h2,h3,fun e he=>?_,dY h5,?_⟩
 ·obtain⟨k,q1,q2⟩:=h4 e he
  exact⟨some k,q1,q2⟩
 ·rw[List.map_map]
  have e:((fun x:fe×Value=>x.1)∘fun x:h9×Value=>((some x.1:fe),x.2))=(fun k:h9=>(some k:fe))∘fun x:h9×Value=>x.1:=rfl
  rw[e,←List.map_map]
  exact List.Pairwise.map _ (fun a b h z=>h (Option.some.inj z)) h6
theorem jI {vs:List (h9×Value)}{v:Value}:stored (vs.map fun x=>((some x.1:fe),x.2)) none v=(vs.map fun x=>((some x.1:fe),x.2))++[(none,v)]:=by
 unfold stored
 rw[if_neg]
 intro z
 obtain⟨x,hx,e⟩:=List.any_eq_true.mp z
 obtain⟨y,_,rfl⟩:=List.mem_map.mp hx
 cases of_decide_eq_true e
section
variable {X:Cx}
def qe (P:Program)(w:World):lj:=fun o i v H Q=>lS o i v H Q∨∃a kvs,o= .ref a∧i= .non∧H a=some (.dK kvs)∧kvs.length<1000∧Q (upd H a (.ext (aG P w a (kvs.length+1))))
theorem pA (hu:X.A.units+1<cLine):nz X (qe X.prog X.w):=by
 intro pins s σ H o i v ov iv u Q I ro ri rv h
 rcases h with h|⟨a,kvs,rfl,rfl,hA,hl,q⟩
 ·exact tI hu pins s σ H o i v ov iv u Q I ro ri rv h
 ·cases ro
  cases ri
  obtain⟨z,hd,vs,rel,dd⟩:=vw I.hok hA
  have hlv:=rel.length
  refine wpAny_setItem_pairs (knd:=aS X.prog X.w) (k:=none) (hsz:=by rw[List.length_map];lia) rfl (uE dd) fun h' dd' hs=>?_
  rw[jI] at dd'
  have he:∃q,h'.get? a=some q:=let ⟨q,_,_,hq,_⟩:=dd';⟨q,hq⟩
  exact⟨_,gj I (by rw[hA];exact True.intro) hs he (lA ⟨hd,_,dd',by rw[List.length_append,List.length_map,hlv];rfl⟩),q⟩
def mM (K:PySem.W.Frag)(P:Program)(w:World):List V→Hp→VK→Prop:=fun xs H Q=>vx K xs H Q∨∃p n,xs=[V.ref p]∧H p=some (.ext (aG P w p n))∧n≤1000∧Q (.int n) H
theorem oh:CallR X (.builtin "len") (mM X.K X.prog X.w):=by
 refine call_lenS.or ?_
 intro pins s σ H xs us Q I r h
 obtain⟨p,n,rfl,hp,hn,q⟩:=h
 obtain⟨u,rfl,ru⟩:=D0 r
 cases ru
 obtain⟨hs,vs,dd,hl⟩:=(I.hok p _ hp).1
 refine call_len_dict hs dd (by lia) ?_
 rw[hl]
 exact⟨.int n,H,I.tok _,⟨_,rfl⟩,q⟩
theorem za (K:PySem.W.Frag)(h:X.K=K:=by rfl):CallR X (.builtin "len") (mM K X.prog X.w):=h▸oh
def lQ (K:PySem.W.Frag)(P:Program)(w:World):List V→Hp→VK→Prop:=fun xs H Q=>uF K xs H Q∨∃p n T,xs=[V.ref p,.ty T]∧H p=some (.ext (aG P w p n))∧(T="str"∨T="int"∨T="bool"∨T="list"∨T="tuple"∨T="dict")∧Q (.bl (lJ "dict" T)) H
theorem oQ:CallR X (.builtin "isinstance") (lQ X.K X.prog X.w):=by
 refine call_isi.or ?_
 intro pins s σ H xs us Q I r h
 obtain⟨p,n,T,rfl,hp,hT,q⟩:=h
 obtain⟨u,c,rfl,rx,rc⟩:=Y6 r
 cases rx
 cases rc
 obtain⟨hs,vs,⟨o,es,ep,h1,h2,r⟩,hl⟩:=(I.hok p _ hp).1
 exact PySem.W.kia_one PySem.W.kitx_dict I.kIn ⟨o,h1,h2.1⟩ (G6 (by simp) hT) (fun z=>nomatch z) fun tk=>⟨.bl _,H,I.tok tk,rfl,q⟩
theorem yJ (K:PySem.W.Frag)(h:X.K=K:=by rfl):CallR X (.builtin "isinstance") (lQ K X.prog X.w):=h▸oQ
end
section
variable {K:PySem.W.Frag} {P:Program} {w:World} {H:Hp} {Q:VK}
theorem B4 {xs:List V}(h:nE K xs H Q):mM K P w xs H Q:= .inl (.inl h)
theorem vo {xs:List V}(h:uF K xs H Q):lQ K P w xs H Q:= .inl h
theorem D9 {o i v:V}{Qh:Hp→Prop}(h:lS o i v H Qh):qe P w o i v H Qh:= .inl h
theorem zQ {x y:V}(h:nk K x y H Q):iT K x y H Q:= .inl (AF h)
theorem pN {i j:Int}(q:Q (.bl (decide (i=j))) H):iT K (.int i) (.int j) H Q:=zQ (pT q)
theorem pP {i j:Str}(q:Q (.bl (decide (i=j))) H):iT K (.str i) (.str j) H Q:=zQ (qr q)
theorem vF {x y:V}(h:mZ K x y H Q):qy K x y H Q:= .inl (BD h)
theorem rZ {i j:Int}(q:Q (.bl (!decide (i=j))) H):qy K (.int i) (.int j) H Q:= .inl (rV q)
end
theorem yI {X:Cx}(K:PySem.W.Frag)(P:Program)(w:World)(h:X.K=K:=by rfl)(hp:X.prog=P:=by rfl)(hw:X.w=w:=by rfl):CallR X (.builtin "isinstance") (lQ K P w):=by subst hp hw;exact yJ K h
theorem C8 {X:Cx}(K:PySem.W.Frag)(P:Program)(w:World)(h:X.K=K:=by rfl)(hp:X.prog=P:=by rfl)(hw:X.w=w:=by rfl):CallR X (.builtin "len") (mM K P w):=by subst hp hw;exact za K h
theorem p6 {X:Cx}(P:Program)(w:World)(hu:X.A.units+1<cLine)(hp:X.prog=P:=by rfl)(hw:X.w=w:=by rfl):nz X (qe P w):=by subst hp hw;exact pA hu
end L2
set_option Elab.async false
set_option linter.all false
set_option maxRecDepth 100000
namespace L2
open PySem PySem.Spec PyProof.Rows
section
variable {X:Cx} {a b:Expr} {ta:TA} {x y:Str} {pos:Pos}
end
section
variable {σ:St} {H:Hp} {nx:St→Hp→Prop} {rt:VK} {bk ct:St→Hp→Prop} {ta:TA}
end
end L2
set_option Elab.async false
set_option linter.all false
set_option maxRecDepth 100000
set_option maxHeartbeats 4000000
namespace L2
open PySem PySem.Spec PyProof.Rows
section
variable {P:Program} {w:World}
theorem oH {K:PySem.W.Frag}{tg:Expr}{d:Addr}{o:Obj}{kvs:List (h9×V)}{vs:List (h9×Value)}{ep:Nat}(D:rB P w d o kvs vs ep)(it:Addr):
  aU P w K tg (Ar d o kvs fun kv=>kv.2) [it] it (fun i h=>h.IsValIter it d i vs.length ep) where
 mem:=by simp
 obj:=fun i h st b hb=>by
  have e:b=it:=by simpa using hb
  subst e
  obtain⟨o,e,c,dd⟩:=st
  exact⟨o,e,fun v z=>by rw[dd] at z;cases z⟩
 keep:=fun i h h' st k=>let ⟨o,e,r⟩:=st;⟨o,k it (by simp) o e,r⟩
 item:=by
  intro X hP hw hK hc i pins s σ H E I hf st hg
  subst hP hw hK
  obtain⟨hfz,hi⟩:=hg
  obtain⟨f0,f1,f2,f3,f4,f5⟩:=hf it (by simp)
  have dat:=D.at_ s.heap (I.hok d _ hfz).1
  have hl:=KV.length D.kv
  obtain⟨kv,hkv⟩:∃kv,kvs[i]?=some kv:=⟨kvs[i],by simp [hi]⟩
  obtain⟨⟨k,x⟩,hx⟩:∃p,vs[i]?=some p:=⟨vs[i]'(by lia),by simp [show i<vs.length by lia]⟩
  obtain⟨hkk,rx⟩:kv.1=k∧RelV kv.2 x:=by
   have q:=O4 D.kv hkv
   obtain⟨p,hp,r⟩:=q
   rw[hx] at hp;cases hp
   exact r
  refine wpAny_pyNext_values_item st dat hx fun h' st' hs'=>?_
  have I1:Inv X pins σ H {s with heap:=h'}:=I.turned (t':=s.toks) (fun b o hb e=>hs'.extBut b o hb e) f0 f1 f3 f4 f5
  obtain⟨oo,e,c,dd⟩:=id st'
  exact⟨x,rfl,mG (s:={s with heap:=h'}) e c dd (by decide) ⟨kv.2,H,I1,rx,⟨rfl,kv,hkv,rfl⟩,st',fun b hb=>(hf b hb).1⟩⟩
 done:=by
  intro X hP hw hK hc i pins s σ H E I hf st hg
  subst hP hw hK
  obtain⟨hfz,hi⟩:=hg
  obtain⟨f0,f1,f2,f3,f4,f5⟩:=hf it (by simp)
  have dat:=D.at_ s.heap (I.hok d _ hfz).1
  have hl:=KV.length D.kv
  exact wpAny_pyNext_values_end (I.ok.hd hc) st dat (by simp;lia) fun h' eb=>⟨rfl,I.turned (t':=s.toks) (fun b o hb e=>eb b o hb e) f0 f1 f3 f4 f5⟩
 self:=fun _ _ _ _ _ st h=>wpAny_pyIter_valiter st h
end
section
variable {X:Cx} {tg:Expr}
abbrev BP (d:Addr)(o:Obj)(kvs:List (h9×V)):It:=Ar d o kvs fun kv=>kv.2
def gK (tl:TE):jz:=fun σ H R=>tl σ H fun v H1=>rIterD BP v H1 R
theorem ow {o:Expr}{tl:TE}{apos cpos:Pos}(ho:PE X o tl)
  (hbase:attributeBase o "values" X.env (eval o X.env)=eval o X.env:=by rfl) (hline:(apos.endLine==cpos.line)=true:=by rfl):
  sJ X tg (.Call (.Attribute o "values" apos) [] [] cpos) (gK tl):=by
 intro pins s σ H R I h
 refine wpAny_Call_method0_late hbase hline (B7 (ho pins s σ H _ I h) fun v s1 ⟨x,H1,I1,r1,q1⟩=>?_)
 obtain⟨d,kvs,ob,vs,ep,th,H',rfl,hd,hob,D,I2,hth,q⟩:=rIterD.go I1 r1 q1
 have dof:=(D.at_ _ hob).dictOf
 refine⟨"dict","dict.values",F.plainAttrs_dict,F.slot_dict_values,F.type_dict_values,dof.typeIs,dof.mapOf.noDict,Calls.callWith_builtin rfl (PySem.evalArgs_none ?_)⟩
 refine call_meetsIn F.slot_dict_values dof.typeIs F.entry_dict_values (F.args_dict_values_1 _) (meets_dict_values (i8 X.prog X.w) d hd) ⟨⟨vs,dof⟩,?_⟩
 have I3:Inv X pins σ H' {s1 with heap:=s1.heap.push {cls:= .type "dict_values",data:= .fields #[.ref d]}}:=I2.kept (t':=s1.toks) fun b o e=>Heap.get?_push_of_some _ e
 refine wpAny_pyIter_values (s:={s1 with heap:=s1.heap.push {cls:= .type "dict_values",data:= .fields #[.ref d]}}) (knd:=i8 X.prog X.w) ⟨_,Heap.get?_push_size _ rfl,rfl,rfl⟩ (D.at_ _ (Heap.get?_push_of_some _ hob)) ?_
 generalize hG:s1.heap.push {cls:= .type "dict_values",data:= .fields #[.ref d]}=G at I3⊢
 refine⟨G.objs.size,[G.objs.size],_,_,H',rfl,I3.kept (t':=s1.toks) fun b o e=>Heap.get?_push_of_some _ e,oH D _,⟨_,Heap.get?_push_size _ rfl,rfl,rfl⟩,fun b hb=>?_,th,hth,q⟩
 have e:b=G.objs.size:=by simpa using hb
 subst e
 exact I3.fpOk (Nat.le_refl _) (I3.hok.fresh (Nat.le_refl _))
theorem dS {tg o:Expr}{to:TE}{apos cpos:Pos}(ho:QE X o to)
  (hbase:attributeBase o "values" X.env (eval o X.env)=eval o X.env:=by rfl) (hline:(apos.endLine==cpos.line)=true:=by rfl):QI X tg (.Call (.Attribute o "values" apos) [] [] cpos) (gK to):=⟨ow ho.r hbase hline⟩
theorem oy {tl:TE}{σ:St}{H:Hp}{R:It→(Hp→Hp)→Hp→Prop}(q:tl σ H fun v H1=>rIterD BP v H1 R):gK tl σ H R:=q
end
end L2
set_option Elab.async false
set_option linter.all false
namespace L2
open PySem PySem.Spec PyProof.Rows
section
variable {J:It} {th:Hp→Hp} {n:Nat} {g:TG} {tb:TS} {nx:L2.St→Hp→Prop} {rt:VK} {σ:L2.St} {H:Hp}
theorem V2 (Pv:Nat→L2.St→Hp→Prop)(h0:Pv 0 σ H)(hgo:∀i σ H,i<n→Pv i σ H→J.go i H)
  (hs:∀(bk:L2.St→Hp→Prop) i x σ H H',i<n→Pv i σ H→J.yld i H x H'→g x σ H' fun σ2 H2=>tb ⟨Pv (i+1),fun v H=>rt v (th H),bk,Pv (i+1)⟩ σ2 H2)
  (hd:∀σ H,Pv n σ H→J.stop n H∧nx σ (th H)):uK J th g tb nx rt σ H:=C7 Pv h0 hgo (hs fun σ H=>nx σ (th H)) hd
end
end L2
set_option Elab.async false
set_option linter.all false
set_option maxRecDepth 100000
set_option maxHeartbeats 4000000
namespace L2
open PySem PySem.Spec PyProof.Rows PySem.Builtin PySem.Builtin.Str
theorem mi:∀{ts:List Str} {its:List Value},Vals (ts.map V.str) its→∃l:List (Str×Tok),its=strValues l∧l.map (·.1)=ts
 |[],_,.nil=>⟨[],rfl,rfl⟩
 |t::ts,_,.cons ⟨tk,e⟩ r=>by
  obtain⟨l,e1,e2⟩:=mi r
  exact⟨(t,tk)::l,by rw[e,e1];rfl,by rw[List.map_cons,e2]⟩
section
variable {X:Cx}
def vh (K:PySem.W.Frag):V→List V→Hp→VK→Prop:=fun x vs H Q=>∃(a:Str) (l:Addr) (ts:List Str),x= .str a∧vs=[.ref l]∧SqL K H l (ts.map V.str)∧a.length≤10∧ts.length≤1000∧(∀y∈ts,y.length≤1000)∧Q (.str (Str.join a ts)) H
theorem gW:uI X "str.join" (vh X.K):=by
 intro pins s σ H x vs v us Q I rx rv h
 obtain⟨a,l,ts,rfl,rfl,hl,ha,hn,hy,q⟩:=h
 obtain⟨t,rfl⟩:=rx
 obtain⟨u,rfl,ru⟩:=D0 rv
 cases ru
 obtain⟨its,r,pl,hz⟩:=I.list hl
 obtain⟨l2,rfl,e2⟩:=mi r
 refine SC.join pl.isList e2 ?_ fun t' k=>⟨.str (PySem.Txt.join a ts),H,I.tok k,⟨t',rfl⟩,?_⟩
 ·unfold JoinOk
  rw[Bool.not_eq_true']
  refine StrLaws.joinFits hy ?_
  have e1:ts.length*a.length≤ts.length*10:=Nat.mul_le_mul_left _ ha
  omega
 ·show Q (.str (glued a ts)) H
  rw[StrLaws.glued_eq_join]
  exact q
theorem ik {X:Cx}(K:PySem.W.Frag)(h:X.K=K:=by rfl):uI X "str.join" (vh K):=h▸gW
def BR:List TE→Str→TE
 |[],acc=>fun _ H Q=>Q (.str acc) H
 |te::r,acc=>fun σ H Q=>te σ H fun v H1=>∃y:Str,v= .str y∧(acc++y).length≤1000∧BR r (acc++y) σ H1 Q
structure QF (X:Cx) (es:List Expr) (ts:List TE):Prop where
 r:∀(pins:List (Addr×Obj)) (s:Shared) (σ:St) (H:Hp) (acc:Str) (Q:VK),Inv X pins σ H s→acc.length≤1000→BR ts acc σ H Q→wpAny (model X.prog X.w) X.A (joinParts acc (evalEach es X.env)) (EP X pins σ Q) X.xe s
end
end L2
set_option Elab.async false
set_option linter.all false
set_option maxRecDepth 100000
set_option maxHeartbeats 4000000
namespace L2
open PySem PySem.Spec PyProof.Rows
section
variable {prog:Program} {w:World} {A:Around} {E:Value→Shared→Prop} {s:Shared}
end
end L2
set_option Elab.async false
set_option linter.all false
set_option maxRecDepth 100000
set_option maxHeartbeats 4000000
namespace L2
open PySem PySem.Spec PyProof.Rows
section
variable {X:Cx}
end
section
variable {K:PySem.W.Frag} {P:Program} {w:World} {H:Hp} {Q:VK} {σ:L2.St}
end
end L2
set_option Elab.async false
set_option linter.all false
set_option maxRecDepth 100000
set_option maxHeartbeats 4000000
namespace L2
open PySem PySem.Spec PyProof.Rows
section
variable {X:Cx}
end
section
variable {X:Cx} {a:Expr} {t:TA} {p pos:Pos} {tg:Expr}
end
section
variable {K:PySem.W.Frag} {σ:L2.St} {H:Hp} {ta:TA} {R:It→(Hp→Hp)→Hp→Prop}
end
end L2
set_option Elab.async false
set_option linter.all false
set_option maxRecDepth 100000
set_option maxHeartbeats 4000000
namespace L2
open PySem PySem.Spec PyProof.Rows
abbrev zb (h:Heap)(z TI TO:Addr)(f0:Value)(b:Bool):Prop:=h.get? z=some {cls:= .type "zip",dict:=none,data:= .fields #[f0,.bool b,.bool false,.ref TI,.ref TO],slots:= #[]}
section
variable {prog:Program} {w:World} {A:Around} {E:Value→Shared→Prop} {s:Shared}
end
section
variable {prog:Program} {w:World} {A:Around} {E:Value→Shared→Prop} {s:Shared}
end
end L2
set_option Elab.async false
set_option linter.all false
set_option maxRecDepth 100000
set_option maxHeartbeats 4000000
namespace L2
open PySem PySem.Spec PyProof.Rows
section
variable {prog:Program} {w:World} {A:Around} {E:Value→Shared→Prop} {s:Shared}
structure BN (h:Heap) (d z TI TO i1 i2 l1 l2:Addr) (k:Nat) (xs ys:Array Value):Prop where
 ti:IsPair h TI (.ref i1) (.ref i2)
 a1:h.IsListIter i1 l1 k
 a2:h.IsListIter i2 l2 k
 b1:h.IsList l1 xs
 b2:h.IsList l2 ys
 st:(∃a b,IsZip h z TI TO .none∧IsPair h TO a b)∨∃(T:Addr) (b:Bool) (ot:Obj),zb h z TI TO (rawInt T) b∧h.get? T=some ot∧T≠z∧T≠i1∧T≠i2∧T≠d
structure Bk (d z TI TO i1 i2 l1 l2:Addr):Prop where
 z:z≠d
 TI:TI≠d
 TO:TO≠d
 i1:i1≠d
 i2:i2≠d
 l1:l1≠d
 l2:l2≠d
end
section
variable {prog:Program} {w:World} {KT:Type} [DecidableEq KT] {knd:KeyKind prog w KT} {A:Around} {E:Value→Shared→Prop}
end
end L2
set_option Elab.async false
set_option linter.all false
set_option maxRecDepth 100000
set_option maxHeartbeats 4000000
namespace L2
open PySem PySem.Spec PyProof.Rows
section
variable {prog:Program} {w:World} {KT:Type} [DecidableEq KT] {knd:KeyKind prog w KT} {A:Around} {E:Value→Shared→Prop}
end
section
variable {X:Cx} {a b:Expr} {t:TA} {p pos p2 pos2:Pos}
end
end L2
set_option Elab.async false
set_option linter.all false
set_option maxRecDepth 100000
set_option maxHeartbeats 4000000
namespace L2
open PySem PySem.Spec PyProof.Rows
open PySem.AutoSeq1 (wpAny_loadPart')
open PySem.MeetsSeq PySem.MeetsSeq2 PySem.MeetsSeq3
section
variable {X:Cx} {pins:List (Addr×Obj)} {σ:St} {H:Hp} {s:Shared} {A:Around}
end
section
variable {X:Cx}
end
section
variable {P:Program} {w:World}
end
section
variable {X:Cx}
end
section
variable {K:PySem.W.Frag} {H:Hp} {Q:VK} {x y:V}
end
end L2
set_option Elab.async false
set_option linter.all false
set_option maxRecDepth 100000
set_option maxHeartbeats 4000000
namespace PySem
section
variable {prog:Program} {w:World} {K:Type} [DecidableEq K] {A:Around} {E:Value→Shared→Prop} {s:Shared}
end
end PySem
namespace L2
open PySem PySem.Spec PyProof.Rows
section
variable {X:Cx}
end
section
variable {X:Cx}
end
structure FunD (K:PySem.W.Frag) (x qual:Str) (st:Stmt) (T:Addr) (f:Addr) (fd:FuncData):Prop where
 ex:∃(oc:Value) (od:Option Addr) (kV doc pm:Value) (an:Option Addr) (cdv ct:Value) (osl:Array (Option Value)),
  fd=PySem.W.fnOf x qual (B8 st) (u7 st) (b0 st) (.ref T) kV doc pm an cdv ct∧K.lookup f=some ⟨oc,od,.func fd,osl⟩∧PySem.W.codeIn K cdv qual=true
 kp:PySem.W.keepIn K (.ref f)=true
section
variable {P:Program} {w:World} {K:PySem.W.Frag} {mg:Str→Option Value} {base:Heap}
theorem FunD.ok {x qual:Str}{st:Stmt}{T f:Addr}{fd:FuncData}{N ps:List Str}{k:Nat}{sp:Sp}(F:FunD K x qual st T f fd)(S:b8 N ps (b0 st))(len:∀vs H Q E,sp vs H Q E→vs.length=ps.length)
  (hbody:∀(cdv:Value) (A:Around) (outer:List Env) (s:Shared) (H:Hp) (vs:List V) (Q:VK) (E:XK),Room k (A.deeper (envOfC qual (b0 st) s.heap.objs.size f cdv))→sp vs H Q E→
   ∃t,PSs (bh j9 P w K mg base N qual (b0 st) f cdv A outer s H E).nox (u7 st) t∧t {nx:=fun _ H'=>Q .non H',rt:=Q} (U1 N vs) H):j1 P w K mg base j9 (k+1) f fd ps sp:=by
 obtain⟨oc,od,kV,doc,pm,an,cdv,ct,osl,rfl,lk,hcd⟩:=F.ex
 refine lN lk hcd S len fun A outer s H vs Q E hr hsp=>?_
 obtain⟨t,h,q⟩:=hbody cdv A outer s H vs Q E hr hsp
 exact⟨t,h.nox,q⟩
theorem lO {x qual:Str}{st:Stmt}{T f:Addr}{oc:Value}{od an:Option Addr}{osl:Array (Option Value)}{kV doc pm cdv ct:Value}(l:K.lookup f=some ⟨oc,od,.func (PySem.W.fnOf x qual (B8 st) (u7 st) (b0 st) (.ref T) kV doc pm an cdv ct),osl⟩)
  (c:PySem.W.codeIn K cdv qual=true) (k:PySem.W.keepIn K (.ref f)=true):FunD K x qual st T f (PySem.W.fnOf x qual (B8 st) (u7 st) (b0 st) (.ref T) kV doc pm an cdv ct):=⟨⟨oc,od,kV,doc,pm,an,cdv,ct,osl,rfl,l,c⟩,k⟩
end
end L2
set_option Elab.async false
set_option linter.all false
set_option maxRecDepth 100000
set_option maxHeartbeats 4000000
namespace L2
open PySem PySem.Spec PyProof.Rows
open PySem.AutoSeq1 (wpAny_loadPart')
open PySem.MeetsSeq PySem.MeetsSeq2 PySem.MeetsSeq3
section
variable {P:Program} {w:World}
end
section
variable {X:Cx}
end
end L2
set_option Elab.async false
set_option linter.all false
set_option maxRecDepth 100000
set_option maxHeartbeats 4000000
namespace L2
open PySem PySem.Spec PyProof.Rows
section
variable {α β:Type}
end
def Cd (rk:Value→Int)(p:Keyed):Keyed:=(.int (rk p.1) 0,p.2)
def kA (rk:Value→Int)(st:SortSt)(i:Nat):Int:=K ((arrOf st).map (Cd rk)) i
structure TB (kd:SortKind) (base:Array Keyed) (st:SortSt):Prop where
 pm:(arrOf st).Perm base
 kd:kindOf st=kd
 fl:failedOf st=none
 pe:pendingOf st= #[]
section
variable {prog:Program} {w:World} {A:Around} {E:Value→Shared→Prop} {s:Shared} {rk:Value→Int} {kd:SortKind} {base:Array Keyed} {st:SortSt}
def Cg (rk:Value→Int)(st:SortSt)(n:Nat):Prop:=∀i j,i≤j→j<n→kA rk st i≤kA rk st j
end
end L2
set_option Elab.async false
set_option linter.all false
set_option maxRecDepth 100000
set_option maxHeartbeats 4000000
namespace L2
open PySem PySem.Spec PyProof.Rows
section
variable {prog:Program} {w:World} {A:Around} {E:Value→Shared→Prop} {s:Shared} {rk:Value→Int} {kd:SortKind} {base:Array Keyed} {st:SortSt}
structure TD (rk:Value→Int) (base:Array Keyed) (st:SortSt):Prop where
 pm:(arrOf st).Perm base
 fl:failedOf st=none
 pe:pendingOf st= #[(0,base.size,0)]
 up:Cg rk st base.size
end
def AD:V→List Nat
 | .str a=>a.cps.toList
 | .bl b=>[b.toNat]
 |_=>[]
abbrev BL (xs:List V):List (List Nat):=xs.map AD
section
variable {P:Program} {w:World} {A:Around} {E:Value→Shared→Prop} {s:Shared}
end
end L2
set_option Elab.async false
set_option linter.all false
set_option maxRecDepth 100000
set_option maxHeartbeats 4000000
namespace L2
open PySem PySem.Spec PyProof.Rows
abbrev Cc:=List (List Nat)
section
variable {P:Program} {w:World} {A:Around} {E:Value→Shared→Prop} {s:Shared}
structure Cw (h:Heap) (kf:Value→Cc) (v:Value):Prop where
 at_:∃(a:Addr) (us:List Value) (xs:List V) (x:Str) (r:List V),v= .ref a∧h.IsTuple a us.toArray∧Vals xs us∧xs= .str x::r∧kf v=BL xs
end
end L2
set_option Elab.async false
set_option linter.all false
set_option maxRecDepth 100000
set_option maxHeartbeats 4000000
namespace L2
open PySem PySem.Spec PyProof.Rows
section
variable {P:Program} {w:World} {A:Around} {E:Value→Shared→Prop} {s:Shared}
end
section
variable {X:Cx}
end
end L2
set_option Elab.async false
set_option linter.all false
set_option maxRecDepth 100000
set_option maxHeartbeats 4000000
namespace L2
open PySem PySem.Spec PyProof.Rows
abbrev Lk:=Str×Bool×Bool
def CC (c:Lk):List V:=[.str c.1,.bl c.2.1,.bl c.2.2]
def yO (K:PySem.W.Frag)(H:Hp)(xs:List V)(cs:List Lk):Prop:=Paired (fun v c=>∃t,v=V.ref t∧SqT K H t (CC c)) xs cs
structure CF (K:PySem.W.Frag) (H:Hp) (u:V) (kd:Str) (cs:List Lk):Prop where
 ex:∃(a l:Addr) (xs:List V),u= .ref a∧SqT K H a [.str kd,.ref l]∧SqL K H l xs∧yO K H xs cs
section
variable {X:Cx} {pins:List (Addr×Obj)} {σ:St} {H:Hp} {s:Shared}
end
section
variable {X:Cx}
end
end L2
set_option Elab.async false
set_option linter.all false
set_option maxRecDepth 100000
set_option maxHeartbeats 4000000
namespace L2
open PySem PySem.Spec PyProof.Rows
open PySem.AutoSeq1 (wpAny_loadPart')
open PySem.MeetsSeq PySem.MeetsSeq2 PySem.MeetsSeq3
section
variable {P:Program} {w:World}
end
section
variable {X:Cx}
end
end L2
set_option Elab.async false
set_option linter.all false
set_option maxRecDepth 100000
set_option maxHeartbeats 4000000
namespace L2
open PySem PySem.Spec PyProof.Rows
structure FnIn (K:PySem.W.Frag) (n:Str) (st:Stmt) (f:Addr):Prop where
 a:PySem.W.nsIn K mainGlobals n=some (some (.ref f))
 F:∃fd,Fun K n n st f fd
theorem FnIn.mk' {K:PySem.W.Frag}{n:Str}{st:Stmt}{f:Addr}{oc:Value}{od an:Option Addr}{osl:Array (Option Value)}{kV doc pm cdv ct:Value}(a:PySem.W.nsIn K mainGlobals n=some (some (.ref f)))(l:K.lookup f=some ⟨oc,od,.func (PySem.W.fnOf n n (B8 st) (u7 st) (b0 st) .none kV doc pm an cdv ct),osl⟩)
  (c:PySem.W.codeIn K cdv n=true) (k:PySem.W.keepIn K (.ref f)=true):FnIn K n st f:=⟨a,_,vS l c k⟩
theorem h7 {P:Program}{w:World}{K:PySem.W.Frag}{mg:Str→Option Value}{base h:Heap}{CX:fV}{k:Nat}{n:Str}{st:Stmt}{ps:List Str}{sp:Sp}{f:Addr}(X:K.In h)(G:h.Ns mainGlobals mg)(a:FnIn K n st f)(ok:∀{f fd},Fun K n n st f fd→j1 P w K mg base CX k f fd ps sp)
  (b:∀(kV doc pm:Value) (an:Option Addr) (cdv ct:Value) (us:List Value),us.length=ps.length→bindArgs (PySem.W.fnOf n n (B8 st) (u7 st) (b0 st) .none kV doc pm an cdv ct) ⟨us,[]⟩=pure (ps.zip us)):A2 P w K mg base CX k n ps [] sp:=by
 obtain⟨fd,F⟩:=a.F
 exact⟨f,_,[],ok F,PySem.W.mg_of X G a.a,F.kp,F.binds b,.nil⟩
theorem vW {P:Program}{w:World}{K:PySem.W.Frag}{mg:Str→Option Value}{h:Heap}{CX:fV}{k:Nat}{st:Stmt}{p:Str}{sp:Sp}{f fa:Addr}(X:K.In h)(G:h.Ns mainGlobals mg)(hfa:mg "law"=some (.ref fa))(a:FnIn K "law" st f)(ok:∀{base f fd},Fun K "law" "law" st f fd→j1 P w K mg base CX k f fd [p] sp)
  (b:∀(kV doc pm:Value) (an:Option Addr) (cdv ct:Value) (s:Shared) (v:Value),BindsTo s (PySem.W.fnOf "law" "law" (B8 st) (u7 st) (b0 st) .none kV doc pm an cdv ct) ⟨[v],[]⟩ [(p,v)]):
  ∃fd:FuncData,(∀(s:Shared) (v:Value),BindsTo s fd ⟨[v],[]⟩ [(p,v)])∧∀base:Heap,K.In base→base.Ns mainGlobals mg→j1 P w K mg base CX k fa fd [p] sp:=by
 obtain⟨fd,F⟩:=a.F
 have e:=hfa.symm.trans (PySem.W.mg_of X G a.a)
 cases e
 obtain⟨oc,od,kV,doc,pm,an,cdv,ct,osl,rfl,lk,hcd⟩:=id F.ex
 exact⟨_,fun s v=>b _ _ _ _ _ _ s v,fun base _ _=>ok F⟩
section
variable {fd:FuncData} {ps:List Str} {us:List Value}
theorem uc {us:List Value}{n:Nat}(h:us.length=n+1):∃a r,us=a::r∧r.length=n:=by
 cases us with
 |nil=>cases h
 |cons a r=>exact⟨a,r,rfl,Nat.succ.inj h⟩
theorem Ct (h:us.length=1)(g:∀a:Value,bindArgs fd ⟨[a],[]⟩=pure (ps.zip [a])):bindArgs fd ⟨us,[]⟩=pure (ps.zip us):=by
 obtain⟨a,us,rfl,h1⟩:=uc h;cases us with
 |nil=>exact g a
 |cons _ _=>cases h1
theorem BY (h:us.length=2)(g:∀a b:Value,bindArgs fd ⟨[a,b],[]⟩=pure (ps.zip [a,b])):bindArgs fd ⟨us,[]⟩=pure (ps.zip us):=by
 obtain⟨a,us,rfl,h1⟩:=uc h;obtain⟨b,us,rfl,h2⟩:=uc h1;cases us with
 |nil=>exact g a b
 |cons _ _=>cases h2
theorem Cv (h:us.length=3)(g:∀a b c:Value,bindArgs fd ⟨[a,b,c],[]⟩=pure (ps.zip [a,b,c])):bindArgs fd ⟨us,[]⟩=pure (ps.zip us):=by
 obtain⟨a,us,rfl,h1⟩:=uc h;obtain⟨b,us,rfl,h2⟩:=uc h1;obtain⟨c,us,rfl,h3⟩:=uc h2;cases us with
 |nil=>exact g a b c
 |cons _ _=>cases h3
theorem Ca (h:us.length=4)(g:∀a b c d:Value,bindArgs fd ⟨[a,b,c,d],[]⟩=pure (ps.zip [a,b,c,d])):bindArgs fd ⟨us,[]⟩=pure (ps.zip us):=by
 obtain⟨a,us,rfl,h1⟩:=uc h;obtain⟨b,us,rfl,h2⟩:=uc h1;obtain⟨c,us,rfl,h3⟩:=uc h2;obtain⟨d,us,rfl,h4⟩:=uc h3;cases us with
 |nil=>exact g a b c d
 |cons _ _=>cases h4
theorem Cy (h:us.length=5)(g:∀a b c d e:Value,bindArgs fd ⟨[a,b,c,d,e],[]⟩=pure (ps.zip [a,b,c,d,e])):bindArgs fd ⟨us,[]⟩=pure (ps.zip us):=by
 obtain⟨a,us,rfl,h1⟩:=uc h;obtain⟨b,us,rfl,h2⟩:=uc h1;obtain⟨c,us,rfl,h3⟩:=uc h2;obtain⟨d,us,rfl,h4⟩:=uc h3;obtain⟨e,us,rfl,h5⟩:=uc h4;cases us with
 |nil=>exact g a b c d e
 |cons _ _=>cases h5
theorem Cr (h:us.length=6)(g:∀a b c d e f:Value,bindArgs fd ⟨[a,b,c,d,e,f],[]⟩=pure (ps.zip [a,b,c,d,e,f])):bindArgs fd ⟨us,[]⟩=pure (ps.zip us):=by
 obtain⟨a,us,rfl,h1⟩:=uc h;obtain⟨b,us,rfl,h2⟩:=uc h1;obtain⟨c,us,rfl,h3⟩:=uc h2;obtain⟨d,us,rfl,h4⟩:=uc h3;obtain⟨e,us,rfl,h5⟩:=uc h4;obtain⟨f,us,rfl,h6⟩:=uc h5;cases us with
 |nil=>exact g a b c d e f
 |cons _ _=>cases h6
end
section
variable {J:It} {th:Hp→Hp} {g:V→St→Hp→(St→Hp→Prop)→Prop} {tb:TS} {nx:St→Hp→Prop} {rt:V→Hp→Prop} {σ:St} {H:Hp} {n:Nat}
end
end L2
set_option Elab.async false
set_option linter.all false
set_option maxRecDepth 100000
set_option maxHeartbeats 4000000
namespace L2
open PySem PySem.Spec PyProof.Rows
section
variable {X:Cx} {x:Str} {T:Addr} {np hpos pos:Pos} {b₀:Stmt} {body suite:List Stmt} {tb:(St→XK)→TS} {ts:TS}
end
section
variable {X:Cx} {e:Expr} {te:TE} {pos p2 p3 p4:Pos} {j:Nat}
end
section
variable {X:Cx} {pins:List (Addr×Obj)} {σ:St} {H:Hp} {s:Shared} {h':Heap}
end
section
variable {X:Cx}
end
section
variable {K:PySem.W.Frag} {H:Hp} {Q:VK}
end
end L2
set_option Elab.async false
set_option linter.all false
set_option maxRecDepth 100000
set_option maxHeartbeats 4000000
namespace L2
open PySem PySem.Spec PyProof.Rows
def vj:R2:=fun x y H Q=>qK x y H Q∨rI IntMulOk (fun i j=> .int (i*j)) x y H Q
theorem sZ {X:Cx}:OpR X (binaryOp .Mult) vj:=op_mulY.or (yj fun _ _ _ _ _ _ _ hc q=>mul_int q hc)
theorem lP {i:Int}{n:Nat}(h:i.natAbs<2 ^ n):Builtin.Int.intBits i≤n:=by
 unfold Builtin.Int.intBits
 split
 ·exact Nat.zero_le _
 ·rename_i hz
  have hp:i.natAbs≠0:=fun e=>hz (by rw[Int.natAbs_eq_zero.mp e];rfl)
  exact(Nat.log2_lt hp).mpr h
theorem uh {i j:Int}(h1:i.natAbs<2 ^ 1000)(h2:j.natAbs<2 ^ 1000):IntMulOk i j:=by
 have e1:=lP h1
 have e2:=lP h2
 unfold IntMulOk
 have e3:Builtin.Int.intTooBig (Builtin.Int.intBits i+Builtin.Int.intBits j:Nat)=false:=by
  unfold Builtin.Int.intTooBig
  refine decide_eq_false (Int.not_lt.mpr ?_)
  have h:((2000:Nat):Int)≤bitsLine:=by decide
  exact Int.le_trans (Int.ofNat_le.mpr (by omega)) h
 intro h
 rw[Bool.and_eq_true] at h
 have h2:=h.2
 first
 |(rw[e3] at h2;cases h2)
 |(rw[show((Builtin.Int.intBits i:Int)+(Builtin.Int.intBits j:Int))=((Builtin.Int.intBits i+Builtin.Int.intBits j:Nat):Int) by simp,e3] at h2;cases h2)
theorem vK {i j:Int}{H:Hp}{Q:VK}(h:IntMulOk i j)(q:Q (.int (i*j)) H):vj (.int i) (.int j) H Q:= .inr ⟨i,j,rfl,rfl,h,q⟩
end L2
set_option Elab.async false
set_option linter.all false
set_option maxRecDepth 100000
set_option maxHeartbeats 4000000
namespace L2
open PySem PySem.Spec PyProof.Rows PySem.W
section
open PySem.Calls PySem.Builtin PySem.Builtin.ObjectAttr PySem.Builtin.Getset_descriptor
theorem nH {K:Frag}{M:Model}{h:Heap}{x C:Addr}{n:Str}{a g:Value}(X:K.In h)(h1:findIn K (.ref C) n=some (some a))(h2:specialIn K a "__get__"=some (some g))(h3:takesIn K a=some true):Looks M h (find (.ref x) (.ref C) n) (.bind g a):=
 (looks_findIn X h1).andThen ((looks_specialIn X h2).andThen ((show Looks M h (dataDescriptor? (some a) (some g)) (some (g,a)) from(looks_takesIn X h3).andThen .now).andThen (Looks.tag .now)))
structure ExN (K:Frag) (C:Addr):Prop where
 g:findIn K (.ref C) "__getattribute__"=some (some (.builtin "BaseException.__getattribute__"))
 h:findIn K (.ref C) "__getattr__"=some none
 a:findIn K (.ref C) "__class__"=some (some (.builtin "object.__class__"))
 n:specialIn K (.builtin "object.__class__") "__get__"=some (some (.builtin "getset_descriptor.__get__"))
 t:takesIn K (.builtin "object.__class__")=some true
 m:mroIn K C (.type "object")=some true
 e:mroIn K C (.type "BaseException")=some true
section
variable {P:Program} {w:World} {A:Around} {E:Value→Shared→Prop} {s:Shared} {K:Frag} {a C:Addr}
theorem IsExc.ty {M:Model}{h:Heap}(x:IsExc a C h):Looks M h (typeOf (.ref a)) (.ref C):=by
 obtain⟨o,vs,e,c,d⟩:=x
 exact c▸(Looks.ld e).andThen .now
theorem tS {R:Result→Shared→Prop}{tp:Value}(N:ExN K C)(X:K.In s.heap)(x:IsExc a C s.heap)(k:R (.ok (.ret (.ref C))) s):codeAny (model P w) A (.call (.builtin "getset_descriptor.__get__") ⟨[.builtin "object.__class__",.ref a,tp],[]⟩) R s:=by
 obtain⟨h0,g0,d0,t0,o0⟩:=s
 have l0:=IsExc.ty (M:=model P w) x;have l1:=looks_mroIn (M:=model P w) X N.m
 refine codeAny_call_builtin KF.slot_gs.plain KF.entry_gs (KF.slot_gs.check _ _ _ _ _ _ _ _ KF.type_class (KF.args_gs _ _ _) ?_)
 unfold Builtin.«getset_descriptor.__get__» descrGet;rw[dga_obj];refine wpAny_bind (wpAny_pure ?_)
 unfold descrGetter descrCheckInstance descrNameAndClass isInstance;simp only[KF.owner_class];repeat lk
 refine⟨Code.quiet_builtin _ (by decide+kernel),codeAny_builtin KF.entry_class ?_⟩;unfold Builtin.«object.__class__» shownTypeOf;repeat lk
 exact k
theorem sP {tk:Tok}{Q:Fin→Shared→Prop}(N:ExN K C)(X:K.In s.heap)(x:IsExc a C s.heap)(k:Q (.done (.ret (.ref C))) s):wpAny (model P w) A (Builtin.«object.__getattribute__» ⟨[.ref a,.str "__class__" tk],[]⟩) Q E s:=by
 obtain⟨h0,g0,d0,t0,o0⟩:=s
 have l0:=IsExc.ty (M:=model P w) x;have l1:=nH (M:=model P w) (x:=a) X N.a N.n N.t
 unfold Builtin.«object.__getattribute__»
 repeat(first|with_reducible refine Looks.at (by assumption) ?_|with_reducible refine wpAny_bind ?_|with_reducible refine wpAny_holding ?_|with_reducible refine wpAny_call ?_|k_node)
 exact tS N X x (wpAny_pure k)
theorem uP {M:Model}{v:Value}{Q:Unit→Shared→Prop}(N:ExN K C)(X:K.In s.heap)(x:IsExc a C s.heap)(k:Q () s):wpAny M A (checkBuiltinCall "BaseException.__getattribute__" ⟨[.ref a,v],[]⟩) Q E s:=by
 obtain⟨h0,g0,d0,t0,o0⟩:=s
 have l0:=IsExc.ty (M:=M) x;have l1:=looks_mroIn (M:=M) X N.e
 have z1:builtinKind "BaseException.__getattribute__"=some .slot:=by decide+kernel
 have z2:splitId "BaseException.__getattribute__"=some ("BaseException","__getattribute__"):=by decide+kernel
 have z3:=PySem.F.args_bexc_ga (.ref a) v
 simp only[checkBuiltinCall,z1,z2];refine wpAny_bind ?_;unfold isInstance;repeat lk
 exact k
theorem tw {Q:Option Value→Shared→Prop}(N:ExN K C)(X:K.In s.heap)(x:IsExc a C s.heap)(k:Q (some (.ref C)) {s with toks:=s.toks+1}):wpAny (model P w) A (getAttr? (.ref a) "__class__") Q E s:=by
 obtain⟨h0,g0,d0,t0,o0⟩:=s
 have l0:=IsExc.ty (M:=model P w) x;have l1:=looks_findIn (M:=model P w) X N.g;have l2:=looks_findIn (M:=model P w) X N.h
 have f3:=PySem.F.excAttr_ValueError.ga.bind (.ref a)
 unfold getAttr? getAttrBy? getAttrBy;refine wpAny_bind (wpAny_mkText (wpAny_bind (wpAny_attempt (wpAny_holding (wpAny_bind (l0.at (wpAny_bind (l1.at ?_))))))));show wpAny _ _ (getAttrByItsOwn _ _ _ _ _ _) _ _ _
 unfold getAttrByItsOwn hookBefore callGetattribute boundAndCalled
 refine wpAny_bind (l2.at (wpAny_bind (wpAny_attempt (wpAny_holding ?_))))
 rw[if_neg (by decide),f3]
 refine wpAny_bind (wpAny_pure (wpAny_call (codeAny_call_builtin PySem.F.excAttr_ValueError.ga.plain PySem.F.entry_bexc_ga (uP N X x (sP (s:=⟨h0,g0,d0,t0+1,o0⟩) N X x ?_)))))
 exact handed_on rfl (wpAny_pure k)
theorem sR (N:ExN K C):KitX K (.ref a) (.ref C) (IsExc a C):=by
 obtain⟨cd,hc,_⟩:=Option.bind_eq_some_iff.mp N.m
 refine⟨fun _ _ _ x=>IsExc.ty x,fun M h X _=>?_,fun h tp dd its n sl X htp=>?_,fun X x k=>tw N X x k⟩
 ·unfold clsIn at hc
  split at hc
  ·rename_i ho;intro A' Q' E' s' k q;unfold isType loadHead
   exact wpAny_bind (wpAny_loadPart (k _ _ (X _ _ ho)) (wpAny_pure q))
  ·cases hc
 ·refine Bool.eq_false_iff.mpr fun q=>?_
  cases Value.ref.inj (beq_iff_eq.mp q)
  unfold clsIn at hc
  split at hc
  ·rename_i ho;rw[X _ _ ho] at htp;cases htp
  ·cases hc
end
end
def ve (K:Frag):List V→Hp→VK→Prop:=fun xs H Q=>∃(a C:Addr) (c:Value) (v:V) (b:Bool),xs=[.ref a,v]∧cV c v∧H a=some (.ext (IsExc a C))∧ExN K C∧kitOne K (.ref C) c=some b∧Q (.bl b) H
theorem nV {X:Cx}:CallR X (.builtin "isinstance") (ve X.K):=by
 intro pins s σ H xs us Q I r h
 obtain⟨a,C,c,v,b,rfl,hc,hH,N,hk,q⟩:=h
 obtain⟨u,c',rfl,rx,rc⟩:=Y6 r
 cases (show u=Value.ref a from rx)
 have he:IsExc a C s.heap:=(I.hok a _ hH).1
 have ec:c'=c:=by
  cases c with
  |ref T=>cases (show v= .ref T from hc);exact rc
  |type n=>cases (show v= .ty n from hc);exact rc
  |_=>exact hc.elim
 subst ec
 exact kia_one (sR N) I.kIn he hk (fun z=>nomatch z) fun tk=>⟨.bl b,H,I.tok tk,rfl,q⟩
theorem I0 (K:Frag){X:Cx}(h:X.K=K:=by rfl):CallR X (.builtin "isinstance") (ve K):=h▸nV
end L2
set_option Elab.async false
set_option linter.all false
set_option maxRecDepth 100000
set_option maxHeartbeats 4000000
namespace L2
open PySem PySem.Spec PyProof.Rows PySem.Builtin PySem.Builtin.Str
section
variable {X:Cx}
end
end L2
set_option Elab.async false
set_option linter.all false
set_option maxRecDepth 100000
set_option maxHeartbeats 4000000
namespace L2
open PySem PySem.Spec PyProof.Rows
def Ay (mg:Str→Option Value)(x:Str):Addr:=match mg x with|some (.ref f)=>f|_=>0
theorem wQ {mg:Str→Option Value}{x:Str}{f:Addr}(h:mg x=some (.ref f)):Ay mg x=f:=by unfold Ay;rw[h]
section
variable {X:Cx} {CX:fV} {k k':Nat} {x y:Str} {ps ps':List Str} {sp sp':Sp} {E:XK} {e c i:Expr} {es:List Expr} {t:TA} {p pos:Pos} {tc:TE}
def Ai (mg:Str→Option Value)(x:Str):TE:=fun _ H Q=>Q (.ref (Ay mg x)) H
theorem Ck {dvs:List V}(C:A2 X.prog X.w X.K X.mg X.base CX k x ps dvs sp)(hg:Gl X x:=by rfl)(hd:(x==("__debug__":Str))=false:=by decide):QE X (.Name x pos) (Ai X.mg x):=by
 obtain⟨f,fd,ds,F,hm,_⟩:=C
 refine⟨?_⟩
 have z:=mv (X:=X) (v:= .ref f) (pos:=pos) hg hm (show RelV (.ref f) (.ref f) from rfl) hd
 unfold Ai
 rw[wQ hm]
 exact z
end
section
variable {X:Cx} {pins:List (Addr×Obj)} {Es:St→XK} {k k':Nat} {x y:Str} {ps ps':List Str} {sp sp':Sp} {e c i:Expr} {es:List Expr} {t:TA} {p pos:Pos} {tc:TE}
theorem AA {CX:fV}{dvs:List V}(C:A2 X.prog X.w X.K X.mg X.base CX k x ps dvs sp)(hg:Gl X x:=by rfl)(hd:(x==("__debug__":Str))=false:=by decide):QE (X.tried pins Es) (.Name x pos) (Ai X.mg x):=Ck (X:=X.tried pins Es) C hg hd
end
section
variable {X:Cx}
end
end L2
set_option Elab.async false
set_option linter.all false
set_option maxRecDepth 100000
set_option maxHeartbeats 4000000
namespace L2
open PySem PySem.Spec PyProof.Rows
structure Fl (B:Heap) (l:List Env) (e:Addr) (cls a0 fl:Value) (h:Heap):Prop where
 st:B.StaysIn h
 nw:B.get? e=none
 fr:h.FunFrames B l
 tr:h.TracedAtW B e cls a0 fl
section
variable {M:Model} {A:Around} {E:Value→Shared→Prop} {s:Shared} {B:Heap} {l:List Env} {L e:Addr} {cls a0 fl:Value}
end
section
variable {P:Program} {w:World} {K:PySem.W.Frag} {mg:Str→Option Value} {base:Heap} {N:List Str} {qual:Str} {scope:Scope} {f:Addr} {cd:Value} {A:Around} {outer:List Env} {s0:Shared} {H0:Hp} {E:XK}
structure Cf (P:Program) (w:World) (st:List Env) (c:Addr) (H:Hp) (s:Shared) (a C:Addr) (a0 fl:Value) (B:Heap) (H':Hp) (s':Shared):Prop where
 fl:Fl B st a (.ref C) a0 fl s'.heap
 os:s'.os=s.os
 bare:AllBare s'.gens
 un:Un (K9 st) [c] H H' s.heap s'.heap
 hok:HOk P w H' s'.heap
 kp:∀b o,s.heap.get? b=some o→H b=none→b∉K9 st→b≠c→B.get? b=some o
 th:∀b o,s.heap.get? b=some o→b∉K9 st→b≠c→∃o',B.get? b=some o'
 tr:∀b o,H' b=some o→∃u,B.get? b=some u
 nw:H' a=none
end
section
variable {X:Cx} {pins:List (Addr×Obj)} {σ:St} {H:Hp} {s:Shared} {own:List Str} {js:List Nat} {scope:Scope} {C:Addr} {sb:Shared} {Hb:Hp} {fp:List Addr} {E:XK}
end
section
variable {X:Cx} {pins:List (Addr×Obj)} {σ:St} {H:Hp} {s:Shared} {own:List Str} {js:List Nat} {scope:Scope}
variable {tg iter elt:Expr} {ifs:List Expr} {pos:Pos} {g:TG} {ti:TT} {te:TE}
end
end L2
set_option Elab.async false
set_option linter.all false
set_option maxRecDepth 100000
set_option maxHeartbeats 4000000
namespace L2
open PySem PySem.Spec PyProof.Rows PySem.Builtin PySem.Builtin.Str
section
variable {X:Cx}
def iw:V→List V→Hp→VK→Prop:=fun x vs H Q=>∃a b:Str,x= .str a∧vs=[.str b]∧Q (.bl (PySem.Txt.startswith a b)) H
theorem Z3:uI X "str.startswith" iw:=by
 intro pins s σ H x vs v us Q I rx rv h
 obtain⟨a,b,rfl,rfl,q⟩:=h
 obtain⟨t,rfl⟩:=rx
 obtain⟨u,rfl,tu,rfl⟩:=D0 rv
 exact call_gives F.slot_str_startswith (typeIs_str _ _ _) F.entry_str_startswith (F.args_str_startswith_2 _ _) (gives_str_startswith a b t tu) ⟨.bl (PySem.Txt.startswith a b),H,I,rfl,q⟩
def BZ:TS:=fun _ _ _=>False
theorem Bw {b:List Stmt}:QSs X b BZ:=⟨fun _ _ _ _ _ _ h=>h.elim⟩
end
theorem FunD.okE {P:Program}{w:World}{K:PySem.W.Frag}{mg:Str→Option Value}{base:Heap}{x qual:Str}{st:Stmt}{T f:Addr}{fd:FuncData}{N ps:List Str}{k:Nat}{sp:Sp}(F:FunD K x qual st T f fd)(S:b8 N ps (b0 st))(len:∀vs H Q E,sp vs H Q E→vs.length=ps.length)
  (hbody:∀(cdv:Value) (A:Around) (outer:List Env) (s:Shared) (H:Hp) (vs:List V) (Q:VK) (E:XK),Room k (A.deeper (envOfC qual (b0 st) s.heap.objs.size f cdv))→sp vs H Q E→
   ∃t,PSs (bh (eP P w) P w K mg base N qual (b0 st) f cdv A outer s H E) (u7 st) t∧t {nx:=fun _ H'=>Q .non H',rt:=Q} (U1 N vs) H):j1 P w K mg base (eP P w) (k+1) f fd ps sp:=by
 obtain⟨oc,od,kV,doc,pm,an,cdv,ct,osl,rfl,lk,hcd⟩:=F.ex
 exact lN lk hcd S len fun A outer s H vs Q E hr hsp=>hbody cdv A outer s H vs Q E hr hsp
end L2
set_option Elab.async false
set_option linter.all false
set_option maxRecDepth 100000
set_option maxHeartbeats 1000000
namespace K68
open PySem PySem.Spec PyProof.Rows L2
def B5 (i:Nat):Stmt:=PySem.Challenge.pw_gluework_k68_endings_refused.main.body.getD i (.Pass ⟨0,0,0,0⟩)
abbrev O8:Stmt:=B5 20
theorem sc_is_text_of:b8 ["thing","signs","most"] ["thing","signs","most"] (b0 O8):=⟨rfl,rfl,rfl,by decide+kernel,rfl,by decide+kernel,by decide+kernel⟩
abbrev bE:Stmt:=B5 21
theorem sc_is_name:b8 ["thing"] ["thing"] (b0 bE):=⟨rfl,rfl,rfl,by decide+kernel,rfl,by decide+kernel,by decide+kernel⟩
abbrev bM:Stmt:=B5 22
theorem sc_is_mark:b8 ["thing"] ["thing"] (b0 bM):=⟨rfl,rfl,rfl,by decide+kernel,rfl,by decide+kernel,by decide+kernel⟩
abbrev Z6:Stmt:=B5 23
theorem sc_in_order:b8 ["named"] ["named"] (b0 Z6):=⟨rfl,rfl,rfl,by decide+kernel,rfl,by decide+kernel,by decide+kernel⟩
abbrev cJ:Stmt:=B5 24
theorem sc_copied:b8 ["web"] ["web"] (b0 cJ):=⟨rfl,rfl,rfl,by decide+kernel,rfl,by decide+kernel,by decide+kernel⟩
abbrev eI:Stmt:=B5 25
theorem sc_things:b8 ["web"] ["web"] (b0 eI):=⟨rfl,rfl,rfl,by decide+kernel,rfl,by decide+kernel,by decide+kernel⟩
abbrev aV:Stmt:=B5 26
theorem kh:b8 ["web","names","points","ties","name"] ["web","names"] (b0 aV):=⟨rfl,rfl,rfl,by decide+kernel,rfl,by decide+kernel,by decide+kernel⟩
abbrev du:Stmt:=B5 27
theorem ng:b8 ["web","more","points","ties"] ["web","more"] (b0 du):=⟨rfl,rfl,rfl,by decide+kernel,rfl,by decide+kernel,by decide+kernel⟩
abbrev K8:Stmt:=B5 28
theorem eh:b8 ["tie","names"] ["tie","names"] (b0 K8):=⟨rfl,rfl,rfl,by decide+kernel,rfl,by decide+kernel,by decide+kernel⟩
abbrev bg:Stmt:=B5 29
theorem kY:b8 ["web","names","points","ties"] ["web","names"] (b0 bg):=⟨rfl,rfl,rfl,by decide+kernel,rfl,by decide+kernel,by decide+kernel⟩
abbrev Z7:Stmt:=B5 31
theorem ji:b8 ["piece","web","match","names"] ["piece","web","match"] (b0 Z7):=⟨rfl,rfl,rfl,by decide+kernel,rfl,by decide+kernel,by decide+kernel⟩
abbrev km:Stmt:=B5 32
theorem tH:b8 ["piece","match"] ["piece","match"] (b0 km):=⟨rfl,rfl,rfl,by decide+kernel,rfl,by decide+kernel,by decide+kernel⟩
abbrev E5:Stmt:=B5 33
theorem jG:b8 ["piece","web","fixed"] ["piece","web","fixed"] (b0 E5):=⟨rfl,rfl,rfl,by decide+kernel,rfl,by decide+kernel,by decide+kernel⟩
abbrev K0:Stmt:=B5 34
theorem dA:b8 ["piece","web","fixed"] ["piece","web","fixed"] (b0 K0):=⟨rfl,rfl,rfl,by decide+kernel,rfl,by decide+kernel,by decide+kernel⟩
abbrev J2:Stmt:=B5 35
theorem dI:b8 ["piece","web","piece_looks","web_looks","fixed","told"] ["piece","web","piece_looks","web_looks","fixed"] (b0 J2):=⟨rfl,rfl,rfl,by decide+kernel,rfl,by decide+kernel,by decide+kernel⟩
abbrev gm:Stmt:=B5 36
theorem rP:b8 ["piece","web","piece_looks","web_looks","fixed","most","told","choices","places","names"] ["piece","web","piece_looks","web_looks","fixed","most"] (b0 gm):=⟨rfl,rfl,rfl,by decide+kernel,rfl,by decide+kernel,by decide+kernel⟩
abbrev ez:Stmt:=B5 37
theorem oq:b8 ["name","image","fixed"] ["name","image","fixed"] (b0 ez):=⟨rfl,rfl,rfl,by decide+kernel,rfl,by decide+kernel,by decide+kernel⟩
abbrev E2:Stmt:=B5 38
theorem bj:b8 ["piece_looks","web_looks","fixed","choices","name","look","alike"] ["piece_looks","web_looks","fixed"] (b0 E2):=⟨rfl,rfl,rfl,by decide+kernel,rfl,by decide+kernel,by decide+kernel⟩
abbrev P6:Stmt:=B5 39
theorem fh:b8 ["piece","web","fixed","places","name","tie","there","image","other"] ["piece","web","fixed"] (b0 P6):=⟨rfl,rfl,rfl,by decide+kernel,rfl,by decide+kernel,by decide+kernel⟩
abbrev cS:Stmt:=B5 40
theorem nW:b8 ["lists"] ["lists"] (b0 cS):=⟨rfl,rfl,rfl,by decide+kernel,rfl,by decide+kernel,by decide+kernel⟩
abbrev gN:Stmt:=B5 41
theorem rD:b8 ["piece","choices","places","most","names","told","waiting","begun","image"] ["piece","choices","places","most"] (b0 gN):=⟨rfl,rfl,rfl,by decide+kernel,rfl,by decide+kernel,by decide+kernel⟩
abbrev dU:Stmt:=B5 42
theorem nU:b8 ["piece","choices","places","begun","names","name","put","unlike"] ["piece","choices","places","begun"] (b0 dU):=⟨rfl,rfl,rfl,by decide+kernel,rfl,by decide+kernel,by decide+kernel⟩
abbrev J3:Stmt:=B5 43
theorem de:b8 ["piece","places","put","name","ends"] ["piece","places","put","name"] (b0 J3):=⟨rfl,rfl,rfl,by decide+kernel,rfl,by decide+kernel,by decide+kernel⟩
abbrev Z9:Stmt:=B5 44
theorem jx:b8 ["piece","places","put","name","image","longer","due"] ["piece","places","put","name","image"] (b0 Z9):=⟨rfl,rfl,rfl,by decide+kernel,rfl,by decide+kernel,by decide+kernel⟩
abbrev jW:Stmt:=B5 46
theorem sc_both:b8 ["web","other"] ["web","other"] (b0 jW):=⟨rfl,rfl,rfl,by decide+kernel,rfl,by decide+kernel,by decide+kernel⟩
abbrev hU:Stmt:=B5 47
theorem sc_alone:b8 ["web","other"] ["web","other"] (b0 hU):=⟨rfl,rfl,rfl,by decide+kernel,rfl,by decide+kernel,by decide+kernel⟩
abbrev jX:Stmt:=B5 48
theorem sc_kept:b8 ["rule"] ["rule"] (b0 jX):=⟨rfl,rfl,rfl,by decide+kernel,rfl,by decide+kernel,by decide+kernel⟩
abbrev gq:Stmt:=B5 49
theorem sc_taken:b8 ["rule"] ["rule"] (b0 gq):=⟨rfl,rfl,rfl,by decide+kernel,rfl,by decide+kernel,by decide+kernel⟩
abbrev Z4:Stmt:=B5 50
theorem sc_fresh_of:b8 ["rule"] ["rule"] (b0 Z4):=⟨rfl,rfl,rfl,by decide+kernel,rfl,by decide+kernel,by decide+kernel⟩
abbrev L0:Stmt:=B5 51
theorem cP:b8 ["rule"] ["rule"] (b0 L0):=⟨rfl,rfl,rfl,by decide+kernel,rfl,by decide+kernel,by decide+kernel⟩
abbrev cR:Stmt:=B5 53
theorem oK:b8 ["put","names"] ["put","names"] (b0 cR):=⟨rfl,rfl,rfl,by decide+kernel,rfl,by decide+kernel,by decide+kernel⟩
abbrev cO:Stmt:=B5 54
theorem oF:b8 ["web","rule","match","number","bar","told"] ["web","rule","match"] (b0 cO):=⟨rfl,rfl,rfl,by decide+kernel,rfl,by decide+kernel,by decide+kernel⟩
abbrev T8:Stmt:=B5 55
theorem gQ:b8 ["step"] ["step"] (b0 T8):=⟨rfl,rfl,rfl,by decide+kernel,rfl,by decide+kernel,by decide+kernel⟩
abbrev J1:Stmt:=B5 56
theorem dv:b8 ["web","rule","fresh","names"] ["web","rule","fresh"] (b0 J1):=⟨rfl,rfl,rfl,by decide+kernel,rfl,by decide+kernel,by decide+kernel⟩
abbrev bu:Stmt:=B5 57
theorem jQ:b8 ["web","step","rule","rest"] ["web","step"] (b0 bu):=⟨rfl,rfl,rfl,by decide+kernel,rfl,by decide+kernel,by decide+kernel⟩
abbrev ko:Stmt:=B5 58
theorem uA:b8 ["web","step","rule","rest"] ["web","step"] (b0 ko):=⟨rfl,rfl,rfl,by decide+kernel,rfl,by decide+kernel,by decide+kernel⟩
abbrev dZ:Stmt:=B5 59
theorem ou:b8 ["step","rule","put"] ["step"] (b0 dZ):=⟨rfl,rfl,rfl,by decide+kernel,rfl,by decide+kernel,by decide+kernel⟩
abbrev Q1:Stmt:=B5 60
theorem eY:b8 ["rule","match","mark"] ["rule","match","mark"] (b0 Q1):=⟨rfl,rfl,rfl,by decide+kernel,rfl,by decide+kernel,by decide+kernel⟩
abbrev K6:Stmt:=B5 61
theorem cX:b8 ["step","rule"] ["step"] (b0 K6):=⟨rfl,rfl,rfl,by decide+kernel,rfl,by decide+kernel,by decide+kernel⟩
abbrev bC:Stmt:=B5 63
theorem sc_weighed:b8 ["web","weights","kinds"] ["web","weights"] (b0 bC):=⟨rfl,rfl,rfl,by decide+kernel,rfl,by decide+kernel,by decide+kernel⟩
abbrev gS:Stmt:=B5 64
theorem sc_falls:b8 ["rule","weights"] ["rule","weights"] (b0 gS):=⟨rfl,rfl,rfl,by decide+kernel,rfl,by decide+kernel,by decide+kernel⟩
abbrev K4:Stmt:=B5 66
theorem dX:b8 ["web","rule","match"] ["web","rule","match"] (b0 K4):=⟨rfl,rfl,rfl,by decide+kernel,rfl,by decide+kernel,by decide+kernel⟩
abbrev bK:Stmt:=B5 67
theorem jZ:b8 ["web","rules","told","number","rule"] ["web","rules"] (b0 bK):=⟨rfl,rfl,rfl,by decide+kernel,rfl,by decide+kernel,by decide+kernel⟩
abbrev K1:Stmt:=B5 68
theorem sc_refuse_mark:b8 ["web","mark"] ["web","mark"] (b0 K1):=⟨rfl,rfl,rfl,by decide+kernel,rfl,by decide+kernel,by decide+kernel⟩
abbrev T4:Stmt:=B5 69
theorem gi:b8 ["hand","number","told","own"] ["hand","number","told"] (b0 T4):=⟨rfl,rfl,rfl,by decide+kernel,rfl,by decide+kernel,by decide+kernel⟩
abbrev V4:Stmt:=B5 70
theorem sc_ended:b8 ["web","rules","weights","hand","mark","own_rules","end","row","told","number","picked","step"] ["web","rules","weights","hand","mark"] (b0 V4):=⟨rfl,rfl,rfl,by decide+kernel,rfl,by decide+kernel,by decide+kernel⟩
abbrev P7:Stmt:=B5 72
theorem sc__law_cells:b8 ["_law_script","_law_start","_law_many"] ["_law_script","_law_start","_law_many"] (b0 P7):=⟨rfl,rfl,rfl,by decide+kernel,rfl,by decide+kernel,by decide+kernel⟩
abbrev F0:Stmt:=B5 73
theorem sc__law_cell_at:b8 ["_law_script","_law_k"] ["_law_script","_law_k"] (b0 F0):=⟨rfl,rfl,rfl,by decide+kernel,rfl,by decide+kernel,by decide+kernel⟩
abbrev O5:Stmt:=B5 74
theorem sc__law_kinds:b8 ["_law_cell","_law_letters","_law_size","_law_at","_law_kinds_here","_law_k","_law_kind","_law_j"] ["_law_cell"] (b0 O5):=⟨rfl,rfl,rfl,by decide+kernel,rfl,by decide+kernel,by decide+kernel⟩
abbrev N9:Stmt:=B5 75
theorem sc__law_names:b8 ["_law_cell","_law_many","_law_letters","_law_size","_law_at","_law_signs","_law_names_here","_law_k","_law_name","_law_j"] ["_law_cell","_law_many"] (b0 N9):=⟨rfl,rfl,rfl,by decide+kernel,rfl,by decide+kernel,by decide+kernel⟩
abbrev Q0:Stmt:=B5 76
theorem sc__law_words:b8 ["_law_cell","_law_many","_law_letters","_law_size","_law_at","_law_words_here","_law_k","_law_word","_law_j","_law_step"] ["_law_cell","_law_many"] (b0 Q0):=⟨rfl,rfl,rfl,by decide+kernel,rfl,by decide+kernel,by decide+kernel⟩
abbrev J6:Stmt:=B5 77
theorem sc__law_digits:b8 ["_law_cell","_law_many","_law_number","_law_digits_here","_law_k"] ["_law_cell","_law_many"] (b0 J6):=⟨rfl,rfl,rfl,by decide+kernel,rfl,by decide+kernel,by decide+kernel⟩
abbrev ae:Stmt:=B5 78
theorem sc__law_web:b8 ["_law_cells_here","_law_names_here","_law_kinds_here","_law_points","_law_ties","_law_k","_law_cell","_law_ends","_law_start"] ["_law_cells_here","_law_names_here","_law_kinds_here"] (b0 ae):=⟨rfl,rfl,rfl,by decide+kernel,rfl,by decide+kernel,by decide+kernel⟩
abbrev F6:Stmt:=B5 79
theorem sc__law_planted:b8 ["_law_web_here","_law_piece","_law_names_here","_law_put","_law_name","_law_new","_law_points","_law_ties","_law_tie"] ["_law_web_here","_law_piece","_law_names_here"] (b0 F6):=⟨rfl,rfl,rfl,by decide+kernel,rfl,by decide+kernel,by decide+kernel⟩
abbrev S2:Stmt:=B5 80
theorem sc__law_left:b8 ["_law_digits_here","_law_words_here","_law_kinds_here","_law_points","_law_ties","_law_many","_law_k","_law_start","_law_end"] ["_law_digits_here","_law_words_here","_law_kinds_here"] (b0 S2):=⟨rfl,rfl,rfl,by decide+kernel,rfl,by decide+kernel,by decide+kernel⟩
abbrev O1:Stmt:=B5 81
theorem sc__law_right:b8 ["_law_left_here","_law_digits_here","_law_words_here","_law_kinds_here","_law_points","_law_ties","_law_k","_law_name","_law_tie","_law_ends","_law_start"] ["_law_left_here","_law_digits_here","_law_words_here","_law_kinds_here"] (b0 O1):=⟨rfl,rfl,rfl,by decide+kernel,rfl,by decide+kernel,by decide+kernel⟩
abbrev U7:Stmt:=B5 82
theorem sc__law_rule:b8 ["_law_cell","_law_words_here","_law_kinds_here","_law_digits_here","_law_left_here","_law_bars","_law_points","_law_ties","_law_ends"] ["_law_cell","_law_words_here","_law_kinds_here"] (b0 U7):=⟨rfl,rfl,rfl,by decide+kernel,rfl,by decide+kernel,by decide+kernel⟩
abbrev F7:Stmt:=B5 83
theorem sc__law_weights:b8 ["_law_cell","_law_kinds_here","_law_weights_here","_law_k","_law_number"] ["_law_cell","_law_kinds_here"] (b0 F7):=⟨rfl,rfl,rfl,by decide+kernel,rfl,by decide+kernel,by decide+kernel⟩
abbrev J5:Stmt:=B5 84
theorem sc__law_weight:b8 ["_law_web_here","_law_weights_here","_law_many","_law_kind","_law_tie"] ["_law_web_here","_law_weights_here"] (b0 J5):=⟨rfl,rfl,rfl,by decide+kernel,rfl,by decide+kernel,by decide+kernel⟩
abbrev N8:Stmt:=B5 85
theorem sc__law_falls:b8 ["_law_rule_here","_law_weights_here"] ["_law_rule_here","_law_weights_here"] (b0 N8):=⟨rfl,rfl,rfl,by decide+kernel,rfl,by decide+kernel,by decide+kernel⟩
abbrev S8:Stmt:=B5 86
theorem sc__law_mark:b8 ["_law_web_here","_law_cell","_law_letters","_law_firsts","_law_free","_law_mark_here","_law_k"] ["_law_web_here","_law_cell"] (b0 S8):=⟨rfl,rfl,rfl,by decide+kernel,rfl,by decide+kernel,by decide+kernel⟩
abbrev Q2:Stmt:=B5 87
theorem sc__law_marks:b8 ["_law_e","_law_some"] ["_law_e"] (b0 Q2):=⟨rfl,rfl,rfl,by decide+kernel,rfl,by decide+kernel,by decide+kernel⟩
abbrev T3:Stmt:=B5 88
theorem gI:b8 ["_law_step","_law_told"] ["_law_step","_law_told"] (b0 T3):=⟨rfl,rfl,rfl,by decide+kernel,rfl,by decide+kernel,by decide+kernel⟩
abbrev E4:Stmt:=B5 89
theorem sc__law_bad_mark:b8 ["_law_web_here","_law_cell","_law_some","_law_name"] ["_law_web_here","_law_cell"] (b0 E4):=⟨rfl,rfl,rfl,by decide+kernel,rfl,by decide+kernel,by decide+kernel⟩
abbrev F2:Stmt:=B5 90
theorem sc__law_refused:b8 ["_law_web_here","_law_rules","_law_weights_here","_law_mark_here","_law_caught","_law_e"] ["_law_web_here","_law_rules","_law_weights_here","_law_mark_here"] (b0 F2):=⟨rfl,rfl,rfl,by decide+kernel,rfl,by decide+kernel,by decide+kernel⟩
abbrev pv:Stmt:=B5 91
theorem sc_law:b8 ["_law_script","_law_cells_here","_law_kinds_here","_law_words_here","_law_rules","_law_names_here","_law_web_here","_law_weights_here","_law_copies","_law_rule_here","_law_sides","_law_before","_law_bad","_law_good","_law_falling","_law_due","_law_more"] ["_law_script"] (b0 pv):=⟨rfl,rfl,rfl,by decide+kernel,rfl,by decide+kernel,by decide+kernel⟩
abbrev R0:Str:="abcdefghijklmnopqrstuvwxyz"
abbrev aP:Str:="abcdefghijklmnopqrstuvwxyz0123456789."
structure Txt (K:PySem.W.Frag) (mg:Str→Option Value):Prop where
 r_NoFall:ExC K mg "NoFall" (cA K "NoFall")
 r_NoNames:ExC K mg "NoNames" (cA K "NoNames")
 t_GlueError:AX K mg "GlueError" (cA K "GlueError")
 g_Barred:hZ mg "Barred" (.ref (cA K "Barred"))
 g_HasBars:hZ mg "HasBars" (.ref (cA K "HasBars"))
 g_Loose:hZ mg "Loose" (.ref (cA K "Loose"))
 g_NoDeed:hZ mg "NoDeed" (.ref (cA K "NoDeed"))
 g_NoFall:hZ mg "NoFall" (.ref (cA K "NoFall"))
 g_NoMatch:hZ mg "NoMatch" (.ref (cA K "NoMatch"))
 g_NoNames:hZ mg "NoNames" (.ref (cA K "NoNames"))
 g_NoOverlap:hZ mg "NoOverlap" (.ref (cA K "NoOverlap"))
 g_NoRow:hZ mg "NoRow" (.ref (cA K "NoRow"))
 g_NoRule:hZ mg "NoRule" (.ref (cA K "NoRule"))
 g_NoText:hZ mg "NoText" (.ref (cA K "NoText"))
 g_NoWeb:hZ mg "NoWeb" (.ref (cA K "NoWeb"))
 g_Open:hZ mg "Open" (.ref (cA K "Open"))
 s_NoFall_Barred:PySem.W.subIn K (.ref (cA K "NoFall")) (.ref (cA K "Barred"))=some false
 s_NoFall_GlueError:PySem.W.subIn K (.ref (cA K "NoFall")) (.ref (cA K "GlueError"))=some true
 s_NoFall_HasBars:PySem.W.subIn K (.ref (cA K "NoFall")) (.ref (cA K "HasBars"))=some false
 s_NoFall_Loose:PySem.W.subIn K (.ref (cA K "NoFall")) (.ref (cA K "Loose"))=some false
 s_NoFall_NoDeed:PySem.W.subIn K (.ref (cA K "NoFall")) (.ref (cA K "NoDeed"))=some false
 s_NoFall_NoFall:PySem.W.subIn K (.ref (cA K "NoFall")) (.ref (cA K "NoFall"))=some true
 s_NoFall_NoMatch:PySem.W.subIn K (.ref (cA K "NoFall")) (.ref (cA K "NoMatch"))=some false
 s_NoFall_NoNames:PySem.W.subIn K (.ref (cA K "NoFall")) (.ref (cA K "NoNames"))=some false
 s_NoFall_NoOverlap:PySem.W.subIn K (.ref (cA K "NoFall")) (.ref (cA K "NoOverlap"))=some false
 s_NoFall_NoRow:PySem.W.subIn K (.ref (cA K "NoFall")) (.ref (cA K "NoRow"))=some false
 s_NoFall_NoRule:PySem.W.subIn K (.ref (cA K "NoFall")) (.ref (cA K "NoRule"))=some false
 s_NoFall_NoText:PySem.W.subIn K (.ref (cA K "NoFall")) (.ref (cA K "NoText"))=some false
 s_NoFall_NoWeb:PySem.W.subIn K (.ref (cA K "NoFall")) (.ref (cA K "NoWeb"))=some false
 s_NoFall_Open:PySem.W.subIn K (.ref (cA K "NoFall")) (.ref (cA K "Open"))=some false
 e_NoFall:ExN K (cA K "NoFall")
 i_NoFall_Barred:PySem.W.kitOne K (.ref (cA K "NoFall")) (.ref (cA K "Barred"))=some false
 i_NoFall_HasBars:PySem.W.kitOne K (.ref (cA K "NoFall")) (.ref (cA K "HasBars"))=some false
 i_NoFall_Loose:PySem.W.kitOne K (.ref (cA K "NoFall")) (.ref (cA K "Loose"))=some false
 i_NoFall_NoDeed:PySem.W.kitOne K (.ref (cA K "NoFall")) (.ref (cA K "NoDeed"))=some false
 i_NoFall_NoFall:PySem.W.kitOne K (.ref (cA K "NoFall")) (.ref (cA K "NoFall"))=some true
 i_NoFall_NoMatch:PySem.W.kitOne K (.ref (cA K "NoFall")) (.ref (cA K "NoMatch"))=some false
 i_NoFall_NoNames:PySem.W.kitOne K (.ref (cA K "NoFall")) (.ref (cA K "NoNames"))=some false
 i_NoFall_NoOverlap:PySem.W.kitOne K (.ref (cA K "NoFall")) (.ref (cA K "NoOverlap"))=some false
 i_NoFall_NoRow:PySem.W.kitOne K (.ref (cA K "NoFall")) (.ref (cA K "NoRow"))=some false
 i_NoFall_NoRule:PySem.W.kitOne K (.ref (cA K "NoFall")) (.ref (cA K "NoRule"))=some false
 i_NoFall_NoText:PySem.W.kitOne K (.ref (cA K "NoFall")) (.ref (cA K "NoText"))=some false
 i_NoFall_NoWeb:PySem.W.kitOne K (.ref (cA K "NoFall")) (.ref (cA K "NoWeb"))=some false
 i_NoFall_Open:PySem.W.kitOne K (.ref (cA K "NoFall")) (.ref (cA K "Open"))=some false
 i_NoFall_ValueError:PySem.W.kitOne K (.ref (cA K "NoFall")) (.type "ValueError")=some true
 s_NoNames_Barred:PySem.W.subIn K (.ref (cA K "NoNames")) (.ref (cA K "Barred"))=some false
 s_NoNames_GlueError:PySem.W.subIn K (.ref (cA K "NoNames")) (.ref (cA K "GlueError"))=some true
 s_NoNames_HasBars:PySem.W.subIn K (.ref (cA K "NoNames")) (.ref (cA K "HasBars"))=some false
 s_NoNames_Loose:PySem.W.subIn K (.ref (cA K "NoNames")) (.ref (cA K "Loose"))=some false
 s_NoNames_NoDeed:PySem.W.subIn K (.ref (cA K "NoNames")) (.ref (cA K "NoDeed"))=some false
 s_NoNames_NoFall:PySem.W.subIn K (.ref (cA K "NoNames")) (.ref (cA K "NoFall"))=some false
 s_NoNames_NoMatch:PySem.W.subIn K (.ref (cA K "NoNames")) (.ref (cA K "NoMatch"))=some false
 s_NoNames_NoNames:PySem.W.subIn K (.ref (cA K "NoNames")) (.ref (cA K "NoNames"))=some true
 s_NoNames_NoOverlap:PySem.W.subIn K (.ref (cA K "NoNames")) (.ref (cA K "NoOverlap"))=some false
 s_NoNames_NoRow:PySem.W.subIn K (.ref (cA K "NoNames")) (.ref (cA K "NoRow"))=some false
 s_NoNames_NoRule:PySem.W.subIn K (.ref (cA K "NoNames")) (.ref (cA K "NoRule"))=some false
 s_NoNames_NoText:PySem.W.subIn K (.ref (cA K "NoNames")) (.ref (cA K "NoText"))=some false
 s_NoNames_NoWeb:PySem.W.subIn K (.ref (cA K "NoNames")) (.ref (cA K "NoWeb"))=some false
 s_NoNames_Open:PySem.W.subIn K (.ref (cA K "NoNames")) (.ref (cA K "Open"))=some false
 e_NoNames:ExN K (cA K "NoNames")
 i_NoNames_Barred:PySem.W.kitOne K (.ref (cA K "NoNames")) (.ref (cA K "Barred"))=some false
 i_NoNames_HasBars:PySem.W.kitOne K (.ref (cA K "NoNames")) (.ref (cA K "HasBars"))=some false
 i_NoNames_Loose:PySem.W.kitOne K (.ref (cA K "NoNames")) (.ref (cA K "Loose"))=some false
 i_NoNames_NoDeed:PySem.W.kitOne K (.ref (cA K "NoNames")) (.ref (cA K "NoDeed"))=some false
 i_NoNames_NoFall:PySem.W.kitOne K (.ref (cA K "NoNames")) (.ref (cA K "NoFall"))=some false
 i_NoNames_NoMatch:PySem.W.kitOne K (.ref (cA K "NoNames")) (.ref (cA K "NoMatch"))=some false
 i_NoNames_NoNames:PySem.W.kitOne K (.ref (cA K "NoNames")) (.ref (cA K "NoNames"))=some true
 i_NoNames_NoOverlap:PySem.W.kitOne K (.ref (cA K "NoNames")) (.ref (cA K "NoOverlap"))=some false
 i_NoNames_NoRow:PySem.W.kitOne K (.ref (cA K "NoNames")) (.ref (cA K "NoRow"))=some false
 i_NoNames_NoRule:PySem.W.kitOne K (.ref (cA K "NoNames")) (.ref (cA K "NoRule"))=some false
 i_NoNames_NoText:PySem.W.kitOne K (.ref (cA K "NoNames")) (.ref (cA K "NoText"))=some false
 i_NoNames_NoWeb:PySem.W.kitOne K (.ref (cA K "NoNames")) (.ref (cA K "NoWeb"))=some false
 i_NoNames_Open:PySem.W.kitOne K (.ref (cA K "NoNames")) (.ref (cA K "Open"))=some false
 i_NoNames_ValueError:PySem.W.kitOne K (.ref (cA K "NoNames")) (.type "ValueError")=some true
 b_ValueError:mg "ValueError"=none
 b_all:mg "all"=none
 b_any:mg "any"=none
 b_dict:mg "dict"=none
 b_enumerate:mg "enumerate"=none
 b_int:mg "int"=none
 b_isinstance:mg "isinstance"=none
 b_len:mg "len"=none
 b_list:mg "list"=none
 b_min:mg "min"=none
 b_range:mg "range"=none
 b_sorted:mg "sorted"=none
 b_str:mg "str"=none
 b_sum:mg "sum"=none
 b_zip:mg "zip"=none
 c_MOST_MARK_SIGNS:hZ mg "MOST_MARK_SIGNS" (.int 6)
 c_MOST_NAME_SIGNS:hZ mg "MOST_NAME_SIGNS" (.int 24)
 c_NAME_SIGNS:hZ mg "NAME_SIGNS" (.str aP)
 c_SMALL_LETTERS:hZ mg "SMALL_LETTERS" (.str R0)
abbrev kSL:Str:="abcdefghijklmnopqrstuvwxyz"
abbrev kNS:Str:="abcdefghijklmnopqrstuvwxyz0123456789."
def pB (x signs:Str):Bool:=x.cps.toList.all fun c=>decide (c∈signs.cps.toList)
def C0 (x signs:Str)(most:Int):Bool:=decide (1≤(x.length:Int))&&decide ((x.length:Int)≤most)&&pB x signs
def BJ (x signs:Str):Bool:=decide (x.cps.toList.headD 0∈signs.cps.toList)
def X0 (x:Str):Bool:=C0 x kNS 24&&BJ x kSL
def Z0 (x:Str):Bool:=C0 x kSL 8
def Ac (K:PySem.W.Frag)(H:Hp)(v:V):Prop:=∃t,BH K H v t∧t≠"str"
def vm (K:PySem.W.Frag)(f:Str→Bool)(v:V)(H:Hp)(Q:VK):Prop:=
 (∃x,v= .str x∧x.length≤1000∧∀H',Same H H'→Q (.bl (f x)) H')∨(Ac K H v∧∀H',Same H H'→Q (.bl false) H')
def X4 (K:PySem.W.Frag):Sp:=fun vs H Q _=>∃v signs most,vs=[v,.str signs,.int most]∧vm K (fun x=>C0 x signs most) v H Q
def dB (K:PySem.W.Frag):Sp:=fun vs H Q _=>∃v,vs=[v]∧vm K X0 v H Q
def xV (H:Hp)(Q:VK)(P:List Str→Prop):Prop:=∀(p:Addr) (H':Hp) (ss:List Str),H p=none→Same H H'→H' p=some (.lst (ss.map V.str))→P ss→Q (.ref p) H'
def i6 (W:G3):List Str:=W.pts.map (·.1)++W.ts.map (·.1)
structure WebIs (n:Nat) (K:PySem.W.Frag) (H:Hp) (a p q:Addr) (kvs:List (h9×V)) (W:G3):Prop where
 at_:WebAt K H a p q kvs W
 hp:H p=some (.dK (x5 W.pts))
 hq:H q=some (.dK kvs)
 ne:p≠q
 nd:(i6 W).Nodup
 len:(i6 W).length≤n
 ends:∀x∈W.ts,x.2.2.1∈W.pts.map (·.1)∧x.2.2.2∈W.pts.map (·.1)
 nl:∀x∈i6 W,x.length≤100
theorem WebIs.same {n:Nat}{K:PySem.W.Frag}{H H':Hp}{a p q:Addr}{kvs:List (h9×V)}{W:G3}(h:WebIs n K H a p q kvs W)(s:Same H H'):WebIs n K H' a p q kvs W:=⟨h.at_.mono s.le,s _ _ h.hp,s _ _ h.hq,h.ne,h.nd,h.len,h.ends,h.nl⟩
def cW (K:PySem.W.Frag):Sp:=fun vs H Q _=>False
def gb (K:PySem.W.Frag):Sp:=fun vs H Q _=>False
def R8 (K:PySem.W.Frag):Sp:=fun vs H Q _=>False
def dN (K:PySem.W.Frag):Sp:=fun vs H Q _=>False
def bX (K:PySem.W.Frag):Sp:=fun vs H Q _=>False
def lU (K:PySem.W.Frag):Sp:=fun vs H Q _=>False
def Z1 (K:PySem.W.Frag):Sp:=fun vs H Q _=>False
def T1 (K:PySem.W.Frag):Sp:=fun vs H Q _=>False
def V3 (K:PySem.W.Frag):Sp:=fun vs H Q _=>False
def jc (K:PySem.W.Frag):Sp:=fun vs H Q _=>False
def fJ (K:PySem.W.Frag):Sp:=fun vs H Q _=>False
def N0 (K:PySem.W.Frag):Sp:=fun vs H Q _=>False
def Y5 (K:PySem.W.Frag):Sp:=fun vs H Q _=>False
def fY (K:PySem.W.Frag):Sp:=fun vs H Q _=>False
def iD (K:PySem.W.Frag):Sp:=fun vs H Q _=>False
def fS (K:PySem.W.Frag):Sp:=fun vs H Q _=>False
def U6 (K:PySem.W.Frag):Sp:=fun vs H Q _=>False
def bU (K:PySem.W.Frag):Sp:=fun vs H Q _=>False
def S7 (K:PySem.W.Frag):Sp:=fun vs H Q _=>False
def fI (K:PySem.W.Frag):Sp:=fun vs H Q _=>False
def fG (K:PySem.W.Frag):Sp:=fun vs H Q _=>False
def aR (K:PySem.W.Frag):Sp:=fun vs H Q _=>False
def U0 (K:PySem.W.Frag):Sp:=fun vs H Q _=>False
def cM (K:PySem.W.Frag):Sp:=fun vs H Q _=>False
def ml (K:PySem.W.Frag):Sp:=fun vs H Q _=>False
def fU (K:PySem.W.Frag):Sp:=fun vs H Q _=>False
def Y4 (K:PySem.W.Frag):Sp:=fun vs H Q _=>False
def R7 (K:PySem.W.Frag):Sp:=fun vs H Q _=>False
def T5 (K:PySem.W.Frag):Sp:=fun vs H Q _=>False
def dn (K:PySem.W.Frag):Sp:=fun vs H Q _=>False
def aB (K:PySem.W.Frag):Sp:=fun vs H Q _=>False
def ax (K:PySem.W.Frag):Sp:=fun vs H Q _=>False
local macro_rules| `(tactic|walk_at "b")=> `(tactic|(intro _ _ _ _ _ _ us hl;first|exact bn0 hl rfl|exact Ct hl fun _=>rfl|exact BY hl fun _ _=>rfl|exact Cv hl fun _ _ _=>rfl|exact Ca hl fun _ _ _ _=>rfl|exact Cy hl fun _ _ _ _ _=>rfl|exact Cr hl fun _ _ _ _ _ _=>rfl))
local macro_rules| `(tactic|walk_at "E")=> `(tactic|first
 |(with_reducible (first|refine r_par ?_|refine tP ?_|refine r_fs ?_|refine tW ?_|refine zh ?_|refine vD ?_|refine BX ?_|refine Be ?_|refine zL ?_|refine zM ?_|refine wy ?_|refine xH ?_|refine yn ?_|refine xh ?_|refine Bb ?_|refine r_items ?_|refine oy ?_|refine r_rev ?_|refine r_dz ?_|refine vV ?_|refine yy ?_|refine yz ?_|refine xJ ?_|refine Bz ?_|refine zP ?_|refine yP ?_|refine yQ ?_|refine Bl ?_|refine xY ?_|refine r_orV ?_|refine vM ?_|refine r_if ?_|refine yZ ?_|refine wu ?_|refine wU ?_|refine Bt ?_|refine Bm ?_|refine rE ?_|refine vX ?_|refine zT ?_|refine r_chain ?_|refine nJ ?_|refine AS ?_|refine qg ?_|refine r_lt_str ?_|refine iE ?_|refine r_eq_bl ?_|refine ja ?_|refine pH ?_|refine iz ?_|refine r_is ?_|refine pN ?_|refine w_eq_bl ?_|refine pP ?_|refine iy ?_|refine rZ ?_|refine w_ne_bl ?_|refine w_ne_str ?_|refine jk ?_|refine n_ne_bl ?_|refine n_ne_str ?_|refine r_get ?_|refine uV ?_|refine vL ?_|refine r_enum ?_|refine yW ?_|refine uf ?_|refine wJ ?_|refine BB ?_|refine yw ?_|refine Bd ?_|refine zX ?_|refine yR ?_|refine iC ?_|refine yx ?_|refine yA ?_|refine AM ?_|refine AQ ?_|refine Aa ?_|refine zG ?_))
 |((with_reducible refine' yV ?h ?_);(case h=>rfl))
 |with_reducible refine wW _ ?_
 |((with_reducible refine' nO ?c ?_);(case c=>(unfold CMul;omega)))
 |((with_reducible refine' AK ?c ?_);(case c=>(first|omega|(dsimp only<;>omega)|(unfold CMul;omega)|(unfold zV;omega)|(unfold yU;decide)|exact Int.pow_pos (by decide)))))
local macro_rules| `(tactic|walk_at "R")=> `(tactic|first|with_reducible refine G7 ?_|with_reducible refine zj ?_|walk_at "E")
local macro_rules| `(tactic|walk_at "r")=> `(tactic|repeat walk_at "R")
local macro_rules| `(tactic|walk_at "e")=> `(tactic|repeat walk_at "E")
local macro_rules| `(tactic|walk_at "l")=> `(tactic|first|exact Or.inl rfl|exact Or.inr rfl)
section
variable {P:Program} {w:World} {K:PySem.W.Frag} {mg:Str→Option Value} {base:Heap}
def R4 (i:Int):Nat:=("abcdefghijklmnopqrstuvwxyz":Str).cps.toList.getD i.toNat 0
theorem jB (i:Int)(h0:0≤i)(h1:i<26):cz ("abcdefghijklmnopqrstuvwxyz":Str).cps.toList i=some (R4 i):=by
 have hl:("abcdefghijklmnopqrstuvwxyz":Str).cps.toList.length=26:=by decide+kernel
 obtain⟨v,hv,hv2⟩:=aZ (xs:=("abcdefghijklmnopqrstuvwxyz":Str).cps.toList) h0 (by rw[hl];exact h1)
 rw[hv]
 unfold R4
 rw[List.getD_eq_getElem?_getD,hv2];rfl
theorem qq:∀i j:Nat,i<26→j<26→R4 i=R4 j→i=j:=by
 have h:∀i,i<26→∀j,j<26→R4 (i:Nat)=R4 (j:Nat)→i=j:=by decide+kernel
 exact fun i j hi hj=>h i hi j hj
theorem dO {f:Nat→Str}:∀{n:Nat},(∀i j,i<n→j<n→f i=f j→i=j)→((List.range n).map f).Nodup
 |0,_=>List.nodup_nil
 |n+1,h=>by
  rw[List.range_succ,List.map_append]
  refine G4 (dO fun i j hi hj=>h i j (by omega) (by omega)) fun m=>?_
  obtain⟨i,hi,e⟩:=List.mem_map.mp m
  have hi':=List.mem_range.mp hi
  have z:=h i n (by omega) (by omega) e
  omega
theorem V9:("abcdefghijklmnopqrstuvwxyz":Str).length≤sizeLine:=by decide+kernel
theorem pq (ss:List Str):(ss.map V.str).all x9=true:=by
 rw[List.all_map,List.all_eq_true];intro _ _;rfl
theorem qA {F:h9×V→Prop}{kvs:List (h9×V)}{k:h9}{v:V}(h:∀kv∈kvs,F kv)(h':F (k,v)):∀kv∈B6 kvs k v,F kv:=by
 intro kv hkv
 unfold B6 at hkv
 split at hkv
 ·obtain⟨x,hx,e⟩:=List.mem_map.mp hkv
  split at e
  ·next e'=>rw[←e,e'];exact h'
  ·rw[←e];exact h x hx
 ·rcases List.mem_append.mp hkv with z|z
  ·exact h kv z
  ·rw[List.mem_singleton.mp z];exact h'
theorem O9 {K:PySem.W.Frag}{H:Hp}{d:Addr}{k1 k2 kv:_}{x:Str×M9}(h:H d=some (.dK k1))(t:TieAt K H kv x):TieAt K (upd H d (.dK k2)) kv x:=by
 obtain⟨e,a,ea,s⟩:=t
 refine⟨e,a,ea,?_⟩
 rcases s with s|s
 ·refine .inl ?_
  by_cases z:a=d
  ·subst z
   rcases s with s|⟨_,s⟩<;>(rw[h] at s;cases s)
  ·unfold Rd
   rw[b7 z];exact s
 ·exact .inr s
theorem A0 {H H1:Hp}{d:Addr}{o:HO}(s:Same H H1)(h:H d=none):Same H (upd H1 d o):=fun b u e=>by
 rw[b7 (c9 e h)];exact s _ _ e
theorem k8 {ss:List Str}{i:Int}(h0:0≤i)(h1:i<ss.length):∃x,cz (ss.map V.str) i=some (.str x)∧x∈ss:=by
 obtain⟨v,hv,hv2⟩:=aZ (xs:=ss.map V.str) h0 (by rw[List.length_map];exact h1)
 rw[List.getElem?_map] at hv2
 obtain⟨x,hx,e⟩:=Option.map_eq_some_iff.mp hv2
 exact⟨x,by rw[hv,e],List.mem_of_getElem? hx⟩
theorem t5 {α:Type}(l:List (Str×α)):(l.map (·.1)).map (Sum.inr:Str→h9)=l.map fun x=>Sum.inr x.1:=by rw[List.map_map];rfl
theorem N6 {l:List Str}{n:Str}(h:(Sum.inr n:h9)∈l.map (Sum.inr:Str→h9)):n∈l:=by
 obtain⟨x,hx,e⟩:=List.mem_map.mp h
 rw[←Sum.inr.inj e];exact hx
theorem B9 {kvs:List (h9×V)}{k:h9}(h:k∉kvs.map (·.1)):x8 kvs k=none:=by
 cases e:x8 kvs k with
 |none=>rfl
 |some v=>exact absurd (mL e) h
theorem qm {a:List (Str×Str)}{b:List (Str×M9)}{n:Str}{t:M9}(h:(a.map (·.1)++b.map (·.1)).Nodup)(f:n∉a.map (·.1)++b.map (·.1)):(a.map (·.1)++(b++[(n,t)]).map (·.1)).Nodup:=by
 rw[List.map_append,←List.append_assoc];exact G4 h f
theorem pD {a:List (Str×Str)}{b:List (Str×M9)}{n s:Str}(h:(a.map (·.1)++b.map (·.1)).Nodup)(f:n∉a.map (·.1)++b.map (·.1)):((a++[(n,s)]).map (·.1)++b.map (·.1)).Nodup:=by
 have z:=G4 h f
 refine(List.Perm.nodup_iff ?_).mpr z
 rw[List.map_append,List.append_assoc,List.append_assoc]
 exact List.Perm.append_left _ List.perm_append_comm
theorem mP {a:List (Str×Str)}{b:List (Str×M9)}{n:Str}{t:M9}{l:List Str}(h:∀x∈a.map (·.1)++b.map (·.1),x∈l)(f:n∈l):∀x∈a.map (·.1)++(b++[(n,t)]).map (·.1),x∈l:=by
 intro x hx
 rw[List.map_append,←List.append_assoc] at hx
 rcases List.mem_append.mp hx with h'|h'
 ·exact h x h'
 ·have:x=n:=by simpa using h'
  rw[this];exact f
theorem mS {a:List (Str×Str)}{b:List (Str×M9)}{n s:Str}{l:List Str}(h:∀x∈a.map (·.1)++b.map (·.1),x∈l)(f:n∈l):∀x∈(a++[(n,s)]).map (·.1)++b.map (·.1),x∈l:=by
 intro x hx
 rw[List.map_append,List.append_assoc] at hx
 rcases List.mem_append.mp hx with h'|h'
 ·exact h x (List.mem_append_left _ h')
 ·rcases List.mem_append.mp h' with h2|h2
  ·have:x=n:=by simpa using h2
   rw[this];exact f
  ·exact h x (List.mem_append_right _ h2)
theorem A5 {α β:Type}{F:α→β→Prop}:∀{l:List α} {m:List β} {a:α} {b:β},Paired F l m→F a b→Paired F (l++[a]) (m++[b])
 |_,_,_,_,.nil,h=> .cons h .nil
 |_,_,_,_,.cons r t,h=> .cons r (A5 t h)
theorem aC:∀{kvs:List (h9×V)} {kv:h9×V},(kvs.map (·.1)).Nodup→kv∈kvs→x8 kvs kv.1=some kv.2
 |p::r,kv,nd,h=>by
  have nd':=List.nodup_cons.mp (show(p.1::r.map (·.1)).Nodup from nd)
  rcases List.mem_cons.mp h with z|z
  ·rw[z];exact N1 rfl
  ·rw[M6 fun e=>nd'.1 (by rw[e];exact List.mem_map.mpr ⟨kv,z,rfl⟩)]
   exact aC nd'.2 z
theorem xb {kvs:List (h9×V)}{ss:List Str}(hk:kvs.map (·.1)=ss.map Sum.inr)(nd:(kvs.map (·.1)).Nodup):kvs=ss.map fun s=>(Sum.inr s,(x8 kvs (Sum.inr s:h9)).getD .non):=by
 have h1:kvs=kvs.map fun kv=>(kv.1,(x8 kvs kv.1).getD .non):=by
  have:∀kv∈kvs,kv=(kv.1,(x8 kvs kv.1).getD .non):=fun kv h=>by rw[aC nd h];rfl
  exact(List.map_id' kvs).symm.trans (List.map_congr_left this)
 have h2:(kvs.map fun kv=>(kv.1,(x8 kvs kv.1).getD V.non))=(kvs.map (·.1)).map fun k=>(k,(x8 kvs k).getD .non):=by rw[List.map_map];rfl
 rw[hk,List.map_map] at h2
 exact h1.trans h2
theorem iu:∀{r a:List (h9×V)},((a++r).map (·.1)).Nodup→r.foldl (fun a x=>B6 a x.1 x.2) a=a++r
 |[],a,_=>by simp
 |p::r,a,nd=>by
  rw[List.foldl_cons]
  have nd':((a++[p]++r).map (·.1)).Nodup:=by rw[List.append_assoc];exact nd
  have hf:p.1∉a.map (·.1):=fun m=>by
   rw[List.map_append] at nd
   exact(List.nodup_append.mp nd).2.2 p.1 m p.1 (by simp) rfl
  rw[F5 p.2 (B9 hf),iu (r:=r) (a:=a++[(p.1,p.2)]) nd',List.append_assoc];rfl
theorem qN {kvs:List (h9×V)}(nd:(kvs.map (·.1)).Nodup):fP kvs=kvs:=by
 unfold fP
 rw[iu (by simpa using nd)];rfl
theorem PrV.mono {K:PySem.W.Frag}{H H':Hp}{x:V}{kv:h9×V}(l:Le H H')(h:PrV K H x kv):PrV K H' x kv:=let ⟨t,e,s⟩:=h;⟨t,e,l.tup s⟩
theorem bS {α β:Type}{F:α→β→Prop}{l2 m:List α}(h:l2.Perm m):∀{r:List β},Paired F m r→∃r',Paired F l2 r'∧r'.Perm r:=by
 induction h with
 |nil=>intro r p;cases p;exact⟨[],.nil,.nil⟩
 |cons x _ ih=>
  intro r p
  cases p with
  |cons a b=>
   obtain⟨r',h1,h2⟩:=ih b
   exact⟨_::r',.cons a h1,h2.cons _⟩
 |swap x y l=>
  intro r p
  cases p with
  |cons a b=>
   cases b with
   |cons c d=>exact⟨_::_::_,.cons c (.cons a d),.swap _ _ _⟩
 |trans _ _ ih1 ih2=>
  intro r p
  obtain⟨r',h1,h2⟩:=ih2 p
  obtain⟨r'',h3,h4⟩:=ih1 h1
  exact⟨r'',h3,h4.trans h2⟩
theorem dP:∀pts:List (Str×Str),Paired (fun(kv:h9×V) (x:Str×Str)=>kv=(Sum.inr x.1,.str x.2)) (x5 pts) pts
 |[]=> .nil
 |x::r=> .cons rfl (dP r)
theorem df:∀{kvs:List (h9×V)} {pts:List (Str×Str)},Paired (fun(kv:h9×V) (x:Str×Str)=>kv=(Sum.inr x.1,.str x.2)) kvs pts→kvs=x5 pts
 |_,_,.nil=>rfl
 |_,_,.cons e t=>by rw[e,df t];rfl
theorem pE {kvs:List (h9×V)}{pts:List (Str×Str)}(h:kvs.Perm (x5 pts)):∃pts',kvs=x5 pts'∧pts'.Perm pts:=by
 obtain⟨r,h1,h2⟩:=bS h (dP pts)
 exact⟨r,df h1,h2⟩
theorem B0 (pts:List (Str×Str)):(x5 pts).length=pts.length:=by unfold x5;rw[List.length_map]
theorem mK {pts:List (Str×Str)}{i:Nat}{kv:h9×V}(h:(x5 pts)[i]?=some kv):∃x,pts[i]?=some x∧kv=(Sum.inr x.1,.str x.2):=by
 unfold x5 at h
 rw[List.getElem?_map] at h
 obtain⟨x,hx,e⟩:=Option.map_eq_some_iff.mp h
 exact⟨x,hx,e.symm⟩
theorem rL {D d:Addr}{kvs:List (h9×V)}{o:Obj}{u:HO}{H H1:Hp}(h:H d=some (.dK kvs))(s:Same (C3 d o kvs H) H1)(hD:H1 D=none):Same H (thaw d (upd H1 D u)):=
 Same.thaw h fun b v z=>by rw[b7 (c9 (s _ _ z) hD)];exact s _ _ z
theorem xQ {D d:Addr}{kvs:List (h9×V)}{o:Obj}{u:HO}{H H1:Hp}(s:Same (C3 d o kvs H) H1)(hD:H1 D=none):(thaw d (upd H1 D u)) D=some u:=by
 have hDq:D≠d:=fun z=>by rw[z,s _ _ d8] at hD;cases hD
 rw[N5 hDq,d8]
theorem tm {pts:List (Str×Str)}(h:(pts.map (·.1)).Nodup):((x5 pts).map (·.1)).Nodup:=by
 rw[A4,←t5]
 refine List.Pairwise.map _ ?_ h
 exact fun a b h z=>h (Sum.inr.inj z)
theorem cf {α:Type}:∀{l:List (Str×α)} {n:Str} {x y:α},(l.map (·.1)).Nodup→(n,x)∈l→(n,y)∈l→x=y
 |p::r,n,x,y,nd,hx,hy=>by
  have nd':=List.nodup_cons.mp (show(p.1::r.map (·.1)).Nodup from nd)
  rcases List.mem_cons.mp hx with zx|zx
  ·rcases List.mem_cons.mp hy with zy|zy
   ·have:=zx.trans zy.symm
    exact(Prod.mk.inj this).2
   ·exact absurd (List.mem_map.mpr ⟨(n,y),zy,by rw[←zx]⟩) nd'.1
  ·rcases List.mem_cons.mp hy with zy|zy
   ·exact absurd (List.mem_map.mpr ⟨(n,x),zx,by rw[←zy]⟩) nd'.1
   ·exact cf nd'.2 zx zy
theorem gn {K:PySem.W.Frag}{H:Hp}{kvs:List (h9×V)}{ts:List (Str×M9)}{n:Str}{t:M9}(w:TiesIs K H kvs ts)(nd:(ts.map (·.1)).Nodup)(h:(n,t)∈ts):∃a,x8 kvs (Sum.inr n:h9)=some (.ref a)∧SqT K H a (jl t):=by
 obtain⟨a,x,h1,h2,h3⟩:=TiesIs.val (ts:=ts) w (List.mem_map.mpr ⟨(n,t),h,rfl⟩)
 rw[cf nd h h2];exact⟨a,h1,h3⟩
theorem eG {pts:List (Str×Str)}{n k:Str}(nd:(pts.map (·.1)).Nodup)(h:(n,k)∈pts):x8 (x5 pts) (Sum.inr n:h9)=some (.str k):=
 aC (kv:=(Sum.inr n,.str k)) (tm nd) (List.mem_map.mpr ⟨(n,k),h,rfl⟩)
theorem iZ {n:Str}:∀{gs:List Str},Aw (.str n) (gs.map V.str)=decide (n∈gs)
 |[]=>rfl
 |g::r=>by
  show(bA (.str g) (.str n)||Aw (.str n) (r.map V.str))=_
  rw[iZ (gs:=r),show bA (.str g) (.str n)=decide (g=n) by unfold bA;rw[Bool.eq_iff_iff];simp]
  rw[Bool.eq_iff_iff]
  simp
  constructor
  ·rintro(h|h)
   ·exact .inl h.symm
   ·exact .inr h
  ·rintro(h|h)
   ·exact .inl h.symm
   ·exact .inr h
theorem ku {K:PySem.W.Frag}{H:Hp}{Q:VK}{l:Addr}{gs:List Str}{n:Str}(h:SqL K H l (gs.map V.str))(q:Q (.bl (!decide (n∈gs))) H):aL K (.str n) (.ref l) H Q:=
 .inr (.inl ⟨l,_,rfl,.inl h,rfl,pq _,by rw[if_pos rfl,iZ];exact q⟩)
theorem F8 {K:PySem.W.Frag}{H:Hp}{d:Addr}{k1 k2:List (h9×V)}{kvs:List (h9×V)}{ts:List (Str×M9)}(h:H d=some (.dK k1))(w:TiesIs K H kvs ts):TiesIs K (upd H d (.dK k2)) kvs ts:=Paired.imp' (fun _ _ z=>O9 h z) w
theorem N2 {pts:List (Str×Str)}{n:Str}:(x8 (x5 pts) (Sum.inr n:h9)).isSome=decide (n∈pts.map (·.1)):=by
 rw[←U9,Bool.eq_iff_iff,List.any_eq_true,decide_eq_true_eq]
 constructor
 ·rintro⟨kv,hkv,e⟩
  obtain⟨x,hx,rfl⟩:=List.mem_map.mp hkv
  exact List.mem_map.mpr ⟨x,hx,Sum.inr.inj (of_decide_eq_true e)⟩
 ·intro m
  obtain⟨x,hx,rfl⟩:=List.mem_map.mp m
  exact⟨_,List.mem_map.mpr ⟨x,hx,rfl⟩,decide_eq_true rfl⟩
theorem fQ {K:PySem.W.Frag}{H:Hp}{kvs:List (h9×V)}{ts:List (Str×M9)}{n:Str}(w:TiesIs K H kvs ts):(x8 kvs (Sum.inr n:h9)).isSome=decide (n∈ts.map (·.1)):=by
 by_cases hn:n∈ts.map (·.1)
 ·obtain⟨a,x,h1,_⟩:=TiesIs.val (ts:=ts) w hn
  rw[h1,decide_eq_true hn];rfl
 ·cases e:x8 kvs (Sum.inr n:h9) with
  |none=>simp [hn]
  |some v=>
   have z:=mL e
   rw[w.keys,←t5] at z
   exact absurd (N6 z) hn
theorem xG {kvs:List (h9×V)}{k:h9}{v:V}{n:Nat}(h:kvs.length≤n):(B6 kvs k v).length≤n+1:=by
 have z:=J0 kvs k v
 omega
theorem qw {α:Type}{xs:List α}(h:0<xs.length):∃v,cz xs (-1)=some v∧v∈xs:=by
 have e:tE xs.length (-1)=some (xs.length -1):=by
  unfold tE
  rw[if_neg (by omega),if_pos (by omega)]
  congr 1
  omega
 refine⟨xs[xs.length -1],?_,List.getElem_mem _⟩
 unfold cz
 rw[e]
 show xs[xs.length -1]?=_
 exact List.getElem?_eq_getElem (by omega)
theorem ig {K:PySem.W.Frag}{H:Hp}{kb:List (h9×V)}:∀{ka:List (h9×V)},(∀kv∈ka,∃y,x8 kb kv.1=some y∧Eq1 K H kv.2 y true)→EqH K H kb ka true
 |[],_=> .nil
 |kv::r,h=>by
  obtain⟨y,h1,h2⟩:=h kv List.mem_cons_self
  exact EqH.hit (e:=true) (b:=true) h1 h2 (ig fun x hx=>h x (List.mem_cons_of_mem _ hx))
theorem uU {K:PySem.W.Frag}{H:Hp}(s:Str):Eq1 K H (.str s) (.str s) true:=by
 have z:=Eq1.flat (K:=K) (H:=H) (x:= .str s) (y:= .str s) rfl rfl
 rw[ef rfl] at z;exact z
theorem pV {K:PySem.W.Frag}{H:Hp}{a b:Addr}{t:M9}(h:SqT K H a (jl t))(h':SqT K H b (jl t)):Eq1 K H (.ref a) (.ref b) true:=by
 have z:=Eq1.tup h h' rfl rfl
 rw[E6 rfl] at z;exact z
theorem uG {K:PySem.W.Frag}{H:Hp}{p p':Addr}{pts pts':List (Str×Str)}(hne:p≠p')(h1:Rd H p (.dK (x5 pts)))(h2:Rd H p' (.dK (x5 pts')))(pm:pts.Perm pts')(nd:(pts'.map (·.1)).Nodup):EqD K H p p' true:=
 .inr ⟨hne,_,_,true,h1,h2,ig fun kv hkv=>by
  obtain⟨x,hx,rfl⟩:=List.mem_map.mp hkv
  exact⟨_,eG nd (pm.mem_iff.mp hx),uU _⟩,by rw[B0,B0,pm.length_eq];simp⟩
theorem rS {K:PySem.W.Frag}{H:Hp}{q q':Addr}{kvs kvs':List (h9×V)}{ts ts':List (Str×M9)}(hne:q≠q')(h1:Rd H q (.dK kvs))(h2:Rd H q' (.dK kvs'))(w:TiesIs K H kvs ts)(w':TiesIs K H kvs' ts')(pm:ts.Perm ts')(nd:(ts'.map (·.1)).Nodup):EqD K H q q' true:=
 .inr ⟨hne,_,_,true,h1,h2,ig fun kv hkv=>by
  obtain⟨i,hi⟩:=List.getElem?_of_mem hkv
  obtain⟨x,hx,ex,b,eb,sb⟩:=w.get hi
  obtain⟨c,e1,e2⟩:=gn w' nd (pm.mem_iff.mp (List.mem_of_getElem? hx))
  refine⟨.ref c,by rw[ex];exact e1,?_⟩
  rw[eb];exact pV sb e2,by rw[w.length,w'.length,pm.length_eq];simp⟩
theorem mU:∀{kvs:List (h9×V)} {k:h9} {v:V},x8 kvs k=some v→(k,v)∈kvs
 |p::r,k,v,h=>by
  by_cases e:p.1=k
  ·rw[N1 e] at h
   rw[←e,←Option.some.inj h];exact List.mem_cons_self
  ·rw[M6 e] at h
   exact List.mem_cons_of_mem _ (mU h)
theorem dG {W:G3}(h:(i6 W).Nodup):(W.pts.map (·.1)).Nodup:=(List.nodup_append.mp h).1
theorem jt {W:G3}(h:(i6 W).Nodup):(W.ts.map (·.1)).Nodup:=(List.nodup_append.mp h).2.1
theorem vH {t:String}(h:t≠"str"):lJ t "str"=false:=by
 unfold lJ
 have e1:(t=="str")=false:=by simpa using h
 rw[e1]
 simp
abbrev N4 (P:Program)(w:World)(K:PySem.W.Frag)(mg:Str→Option Value)(base:Heap):Prop:=A2 P w K mg base j9 1 "is_text_of" ["thing","signs","most"] [] (X4 K)
theorem eX {f:Addr}{fd:FuncData}(T:Txt K mg)(F:Fun K "is_text_of" "is_text_of" O8 f fd):j1 P w K mg base j9 1 f fd ["thing","signs","most"] (X4 K):=by
 refine F.ok sc_is_text_of (fun vs H Q E h=>?_) (fun cdv A outer s H vs Q E hr h=>?_)
 ·obtain⟨v,signs,most,rfl,_⟩:=h
  rfl
 ·obtain⟨v,signs,most,rfl,h⟩:=h
  have hN:=sc_is_text_of.nd
  have hu:=q5 hr
  refine⟨_,QSs.r (o9 (dm (tY (uX (lZ (iJ K (qB (yI K P w) T.b_isinstance Boot.«isinstance» (d9 (qV 0) (d9 (BU "str" T.b_str Boot.«str») j0))))) (uX (q8 N3 (qB (C8 K P w) T.b_len Boot.«len» (d9 (qV 0) j0)) b3 (j5 _)) (pU (q8 iP (qB (C8 K P w) T.b_len Boot.«len» (d9 (qV 0) j0)) (qV 2) (j5 _)))))) (x6 (A1 Al)) fR)
   (x6 (A1 (qB (vY K rfl) T.b_all Boot.«all» (d9 (M3 (own:=["sign"]) (js:=[1]) (by kernel_rfl) rfl (S1 K (qV 0)) (fun _ _ _ _=>(M8 (i:=0) (show List.Nodup (["sign","signs"]:List Str) by decide+kernel) rfl (by walk_at "l"))) (fun _ _ _ _=>bG) (fun _ _ _ _=>(gv (kIn K hu) (qV 0) (qV 1) (by rfl)))) j0))))),?_⟩
  rcases h with⟨x,rfl,hx,k⟩|⟨⟨t,ty,ht⟩,k⟩
  ·walk_at "r"
   refine vo (vc (t:="str") rfl (by simp) ?_)
   walk_at "r"
   rw[if_neg (by decide)]
   walk_at "r"
   refine B4 (bD (c8 hx) ?_)
   walk_at "r"
   refine z6 (fun h1=>?_) (fun h1=>?_)
   ·walk_at "r"
    have e:C0 x signs most=false:=by
     unfold C0
     rw[decide_eq_false (by omega)];rfl
    rw[←e];exact k H (Same.refl H)
   ·walk_at "r"
    refine B4 (bD (c8 hx) ?_)
    walk_at "r"
    refine z6 (fun h2=>?_) (fun h2=>?_)
    ·walk_at "r"
     have e:C0 x signs most=false:=by
      unfold C0
      rw[decide_eq_false (show ¬((x.length:Int)≤most) by omega)];simp
     rw[←e];exact k H (Same.refl H)
    ·walk_at "r"
     refine u6 (n:=x.cps.size) (fun i out H'=>H'=H∧out=(x.cps.toList.take i).map fun c=>V.bl (decide (c∈signs.cps.toList))) ⟨rfl,rfl⟩ (fun i out H' hi _=>by exact hi) ?_ ?_
     ·rintro N i v out H1 H2 hi ⟨rfl,rfl⟩ y hN
      obtain⟨rfl,c,hc,rfl⟩:=Its.lt y
      walk_at "r"
      refine⟨rfl,?_⟩
      walk_at "r"
      refine⟨c8 (by rw[List.length_map,List.length_take,←kg];omega),hN _ _ ⟨rfl,?_⟩⟩
      exact W7 (fun c=>V.bl (decide (c∈signs.cps.toList))) hc
     ·rintro out H1 ⟨rfl,rfl⟩
      refine⟨Nat.le_refl _,fun D hD=>⟨c8 (by rw[List.length_map,List.length_take,←kg];omega),?_⟩⟩
      walk_at "r"
      refine qb (bs:=x.cps.toList.map fun c=>decide (c∈signs.cps.toList)) (SqL.of ?_) ?_
      ·show upd H1 D _ D=_
       rw[d8,List.take_of_length_le (by simp),List.map_map];rfl
      ·have e:C0 x signs most=(x.cps.toList.map fun c=>decide (c∈signs.cps.toList)).all id:=by
        unfold C0 pB
        rw[decide_eq_true (show 1≤(x.length:Int) by omega),decide_eq_true (show(x.length:Int)≤most by omega),List.all_map];rfl
       rw[←e]
       exact k _ fun b o q=>by
        show upd H1 D _ b=_
        rw[b7 (c9 q hD)];exact q
  ·walk_at "r"
   refine vo (vc ty (by simp) ?_)
   rw[vH ht]
   walk_at "r"
   exact k H (Same.refl H)
theorem jo {x:Str}(h:1≤(x.length:Int)):cz x.cps.toList 0=some (x.cps.toList.headD 0):=by
 refine b6 (j:=0) ?_
 have hl:=kg x
 cases e:x.cps.toList with
 |nil=>rw[e] at hl;simp at hl;omega
 |cons c r=>rfl
abbrev oV (P:Program)(w:World)(K:PySem.W.Frag)(mg:Str→Option Value)(base:Heap):Prop:=A2 P w K mg base j9 2 "is_name" ["thing"] [] (dB K)
theorem kB {f:Addr}{fd:FuncData}(T:Txt K mg)(B2:N4 P w K mg base)(F:Fun K "is_name" "is_name" bE f fd):j1 P w K mg base j9 2 f fd ["thing"] (dB K):=by
 refine F.ok sc_is_name (fun vs H Q E h=>?_) (fun cdv A outer s H vs Q E hr h=>?_)
 ·obtain⟨v,rfl,_⟩:=h
  rfl
 ·obtain⟨v,rfl,h⟩:=h
  have hN:=sc_is_name.nd
  have hu:=q5 hr
  refine⟨_,QSs.r (x6 (A1 (Bp (qC B2 (hr.mono (by decide)) p7 (d9 (qV 0) (d9 (iq T.c_NAME_SIGNS) (d9 (iq T.c_MOST_NAME_SIGNS) j0)))) (BC (gv (kIn K hu) (j4 (j3 K hu) (qV 0) b3 (fun _ _=>rfl)) (iq T.c_SMALL_LETTERS) (by rfl)))))),?_⟩
  walk_at "r"
  refine⟨v,_,_,rfl,?_⟩
  rcases h with⟨x,rfl,hx,k⟩|⟨no,k⟩
  ·refine .inl ⟨x,rfl,hx,fun H' sm=>?_⟩
   walk_at "r"
   refine wc (fun e=>?_) (fun e=>?_)
   ·walk_at "r"
    have h1:1≤(x.length:Int):=by
     unfold C0 at e
     simp only[Bool.and_eq_true,decide_eq_true_eq] at e
     exact e.1.1
    refine E9 (c8 hx) (jo h1) ?_
    walk_at "r"
    have e2:X0 x=BJ x kSL:=by
     unfold X0
     rw[show C0 x kNS 24=true from e,Bool.true_and]
    have q:=k H' sm
    rw[e2] at q
    exact q
   ·have e2:X0 x=false:=by
     unfold X0
     rw[show C0 x kNS 24=false from e,Bool.false_and]
    have q:=k H' sm
    rw[e2] at q
    exact q
  ·refine .inr ⟨no,fun H' sm=>?_⟩
   walk_at "r"
   exact k H' sm--SPLIT
structure Ordr (W:G3) (s1 s2:List Str):Prop where
 p1:s1.Perm (W.pts.map (·.1))
 p2:s2.Perm (W.ts.map (·.1))
 o1:sortedS s1=true
 o2:sortedS s2=true
theorem Ordr.mem {W:G3}{s1 s2:List Str}(h:Ordr W s1 s2){n:Str}:n∈s1++s2↔n∈i6 W:=by
 unfold i6
 rw[List.mem_append,List.mem_append,h.p1.mem_iff,h.p2.mem_iff]
theorem Ordr.perm {W:G3}{s1 s2:List Str}(h:Ordr W s1 s2):(s1++s2).Perm (i6 W):=h.p1.append h.p2
theorem Ordr.len {W:G3}{s1 s2:List Str}(h:Ordr W s1 s2):(s1++s2).length=(i6 W).length:=h.perm.length_eq
def af (kvm:List (h9×V))(n:Str):Str:=match x8 kvm (Sum.inr n:h9) with
 |some (.str s)=>s
 |_=>""
theorem my {kvm:List (h9×V)}{n s:Str}(h:x8 kvm (Sum.inr n:h9)=some (.str s)):af kvm n=s:=by unfold af;rw[h]
def sg (kvm:List (h9×V))(n:Str):Prop:=∃s,x8 kvm (Sum.inr n:h9)=some (.str s)
def fZ (K:PySem.W.Frag):Sp:=fun vs H Q _=>∃(a p q:Addr) (kvs:List (h9×V)) (W:G3),vs=[.ref a]∧WebAt K H a p q kvs W∧(i6 W).length≤60∧∀(l:Addr) (H':Hp) (s1 s2:List Str),H l=none→Same H H'→H' l=some (.lst ((s1++s2).map V.str))→Ordr W s1 s2→Q (.ref l) H'
theorem A9 (W:G3):(i6 W).length=W.pts.length+W.ts.length:=by unfold i6;rw[List.length_append,List.length_map,List.length_map]
abbrev aJ (P:Program)(w:World)(K:PySem.W.Frag)(mg:Str→Option Value)(base:Heap):Prop:=A2 P w K mg base j9 1 "things" ["web"] [] (fZ K)
theorem oS {f:Addr}{fd:FuncData}(T:Txt K mg)(F:Fun K "things" "things" eI f fd):j1 P w K mg base j9 1 f fd ["web"] (fZ K):=by
 refine F.ok sc_things (fun vs H Q E h=>?_) (fun cdv A outer s H vs Q E hr h=>?_)
 ·obtain⟨a,p,q,kvs,W,rfl,_⟩:=h
  rfl
 ·obtain⟨a,p,q,kvs,W,rfl,hW,h1,k⟩:=h
  rw[A9] at h1
  have hN:=sc_things.nd
  have hu:=q5 hr
  refine⟨_,QSs.r (x6 (A1 (j6 (u9 K) (qB (C5 K rfl) T.b_sorted Boot.«sorted» (d9 (j4 (j3 K hu) (qV 0) b3 (fun _ _=>rfl)) j0)) (qB (C5 K rfl) T.b_sorted Boot.«sorted» (d9 (j4 (j3 K hu) (qV 0) b3 (fun _ _=>rfl)) j0))))),?_⟩
  walk_at "r"
  refine b9 hW.tup (b6 (j:=0) rfl) ?_
  walk_at "r"
  refine p9 (ss:=W.pts.map (·.1)) hW.pts (by rw[A4,t5]) (by rw[List.length_map];omega) (fun s1 a1 a2 l1 n1=>?_)
  obtain⟨H1,e1,f1,m1,_⟩:=b4 (o:= .lst _) n1
  rw[e1]
  have W1:=hW.mono m1.le
  walk_at "r"
  refine b9 W1.tup (b6 (j:=1) rfl) ?_
  walk_at "r"
  refine p9 (ss:=W.ts.map (·.1)) W1.ties (by rw[W1.ts.keys,t5]) (by rw[List.length_map];omega) (fun s2 b1 b2 l2 n2=>?_)
  obtain⟨H2,e2,f2,m2,_⟩:=b4 (o:= .lst _) n2
  rw[e2]
  have g1:=a1.length_eq
  have g2:=b1.length_eq
  rw[List.length_map] at g1 g2
  refine S4 (m2 _ _ f1) f2 (c8 (by rw[List.length_map,List.length_map];omega)) (fun l3 n3=>?_)
  obtain⟨H3,e3,f3,m3,_⟩:=b4 (o:= .lst _) n3
  rw[e3]
  refine k l3 H3 s1 s2 (m1.free (m2.free n3)) (m1.trans (m2.trans m3)) ?_ ⟨a1,b1,a2,b2⟩
  rw[f3,List.map_append]
def bZ (K:PySem.W.Frag):Sp:=fun vs H Q _=>∃(d:Addr) (kvs:List (h9×V)) (ss:List Str),vs=[.ref d]∧Rd H d (.dK kvs)∧kvs.map (·.1)=ss.map Sum.inr∧ss.Nodup∧ss.length≤60∧∀(l:Addr) (H':Hp) (kvs':List (h9×V)),H l=none→Same H H'→H' l=some (.dK kvs')→kvs'.Perm kvs→Q (.ref l) H'
def Bi (K:PySem.W.Frag)(H:Hp)(Q:VK)(W:G3):Prop:=∀(a p q:Addr) (kvs:List (h9×V)) (W':G3) (H':Hp),Same H H'→WebAt K H' a p q kvs W'→H' p=some (.dK (x5 W'.pts))→H' q=some (.dK kvs)→p≠q→H p=none→H q=none→W'.pts.Perm W.pts→W'.ts.Perm W.ts→Q (.ref a) H'
def gf (K:PySem.W.Frag):Sp:=fun vs H Q _=>∃(a p q:Addr) (kvs:List (h9×V)) (W:G3),vs=[.ref a]∧WebAt K H a p q kvs W∧(W.pts.map (·.1)).Nodup∧(W.ts.map (·.1)).Nodup∧W.pts.length≤60∧W.ts.length≤60∧Bi K H Q W
abbrev dQ (P:Program)(w:World)(K:PySem.W.Frag)(mg:Str→Option Value)(base:Heap):Prop:=A2 P w K mg base j9 1 "in_order" ["named"] [] (bZ K)
theorem iO {f:Addr}{fd:FuncData}(T:Txt K mg)(F:Fun K "in_order" "in_order" Z6 f fd):j1 P w K mg base j9 1 f fd ["named"] (bZ K):=by
 refine F.ok sc_in_order (fun vs H Q E h=>?_) (fun cdv A outer s H vs Q E hr h=>?_)
 ·obtain⟨d,kvs,ss,rfl,_⟩:=h
  rfl
 ·obtain⟨d,kvs,ss,rfl,hd,hk,hnd,hl,k⟩:=h
  have nd:(kvs.map (·.1)).Nodup:=by
   rw[hk]
   refine List.Pairwise.map _ ?_ hnd
   exact fun a b h z=>h (Sum.inr.inj z)
  have hN:=sc_in_order.nd
  have hu:=q5 hr
  refine⟨_,QSs.r (x6 (A1 (ip (Y3 K rfl) T.b_dict Boot.«dict» (d9 (M3 (own:=["name"]) (js:=[0]) (by kernel_rfl) rfl (S1 K (qB (C5 K rfl) T.b_sorted Boot.«sorted» (d9 (qV 0) j0))) (fun _ _ _ _=>(M8 (i:=0) (show List.Nodup (["name","named"]:List Str) by decide+kernel) rfl (by walk_at "l"))) (fun _ _ _ _=>bG) (fun _ _ _ _=>(R5 (d9 (qV 0) (d9 (j4 (j3 K hu) (qV 1) (qV 0) (fun _ _=>rfl)) j0))))) j0)))),?_⟩
  walk_at "r"
  refine p9 (ss:=ss) hd hk (by omega) (fun s1 a1 a2 l1 n1=>?_)
  obtain⟨H1,e1,f1,m1,_⟩:=b4 (o:= .lst _) n1
  rw[e1]
  have hd1:=m1.rd hd
  have hl1:=a1.length_eq
  refine A7 (SqL.of f1) ?_
  refine u6 (n:=s1.length) (fun i out H'=>Same H1 H'∧Paired (PrV K H') out ((s1.take i).map fun s=>(Sum.inr s,(x8 kvs (Sum.inr s:h9)).getD .non))) ⟨Same.refl _,.nil⟩ (fun i out H' hi hp=>⟨_,.str (s1[i]),SqL.of (hp.1 _ _ f1),by rw[List.getElem?_map,List.getElem?_eq_getElem hi];rfl⟩) ?_ ?_
  ·rintro N i v out H2 H3 hi ⟨s2,pr⟩ y hN'
   obtain⟨rfl,hx⟩:=Itl.get y (SqL.of (s2 _ _ f1))
   rw[List.getElem?_map] at hx
   obtain⟨x,hx',rfl⟩:=Option.map_eq_some_iff.mp hx
   have hxk:(Sum.inr x:h9)∈kvs.map (·.1):=by
    rw[hk];exact List.mem_map.mpr ⟨x,a1.mem_iff.mp (List.mem_of_getElem? hx'),rfl⟩
   obtain⟨kv,hkv,ekv⟩:=List.mem_map.mp hxk
   have ev:=aC nd hkv
   rw[ekv] at ev
   have e7:s1.take (i+1)=s1.take i++[x]:=by rw[List.take_succ,hx'];rfl
   walk_at "r"
   refine⟨rfl,?_⟩
   walk_at "r"
   refine M7 (v:=kv.2) (by have z':=Z2 (k:=Sum.inr x) (s2.rd hd1);rw[ev] at z';exact z') ?_
   walk_at "r"
   refine⟨c8 (by simp),fun t nt=>?_⟩
   obtain⟨H4,e4,f4,m4,_⟩:=b4 (o:= .tup _) nt
   rw[e4]
   have hol:=Paired.length pr
   rw[List.length_map,List.length_take] at hol
   refine⟨c8 (by omega),hN' _ _ ⟨s2.trans m4,?_⟩⟩
   rw[e7,List.map_append]
   refine A5 (Paired.imp' (fun _ _ z=>PrV.mono m4.le z) pr) ⟨t,rfl,?_⟩
   show SqT K _ t [V.str x,(x8 kvs (Sum.inr x:h9)).getD V.non]
   rw[ev]
   exact SqT.of f4
  ·rintro out H2 ⟨s2,pr⟩
   have hol:=Paired.length pr
   rw[List.length_map,List.length_take] at hol
   refine⟨⟨_,SqL.of (s2 _ _ f1),by rw[List.length_map];exact Nat.le_refl _⟩,fun D hD=>⟨c8 (by omega),?_⟩⟩
   obtain⟨H5,e5,f5,m5,_⟩:=b4 (o:= .lst out) hD
   show jn _ (upd _ D _) _
   rw[e5]
   walk_at "r"
   rw[List.take_of_length_le (Nat.le_refl _)] at pr
   refine lE (SqL.of f5) (Paired.imp' (fun _ _ z=>PrV.mono m5.le z) pr) (c8 (by rw[List.length_map];omega)) (fun l nl=>?_)
   obtain⟨H6,e6,f6,m6,_⟩:=b4 (o:= .dK _) nl
   rw[e6]
   have mA:=m1.trans (s2.trans (m5.trans m6))
   have hperm:(s1.map fun s=>((Sum.inr s:h9),(x8 kvs (Sum.inr s:h9)).getD V.non)).Perm kvs:=by
    refine List.Perm.trans (a1.map _) ?_
    rw[←xb hk nd]
   rw[qN ((hperm.map _).nodup_iff.mpr nd)] at f6
   exact k l H6 _ ((m1.trans (s2.trans m5)).free nl) mA f6 hperm
abbrev qJ (P:Program)(w:World)(K:PySem.W.Frag)(mg:Str→Option Value)(base:Heap):Prop:=A2 P w K mg base j9 2 "copied" ["web"] [] (gf K)
theorem nK {f:Addr}{fd:FuncData}(T:Txt K mg)(N7:dQ P w K mg base)(F:Fun K "copied" "copied" cJ f fd):j1 P w K mg base j9 2 f fd ["web"] (gf K):=by
 refine F.ok sc_copied (fun vs H Q E h=>?_) (fun cdv A outer s H vs Q E hr h=>?_)
 ·obtain⟨a,p,q,kvs,W,rfl,_⟩:=h
  rfl
 ·obtain⟨a,p,q,kvs,W,rfl,hW,d1,d2,l1,l2,k⟩:=h
  have hN:=sc_copied.nd
  have hu:=q5 hr
  refine⟨_,QSs.r (x6 (A1 (R5 (d9 (qC N7 (hr.mono (by decide)) p7 (d9 (j4 (j3 K hu) (qV 0) b3 (fun _ _=>rfl)) j0)) (d9 (qC N7 (hr.mono (by decide)) p7 (d9 (j4 (j3 K hu) (qV 0) b3 (fun _ _=>rfl)) j0)) j0))))),?_⟩
  walk_at "r"
  refine b9 hW.tup (b6 (j:=0) rfl) ?_
  walk_at "r"
  refine⟨p,x5 W.pts,W.pts.map (·.1),rfl,hW.pts,by rw[A4,t5],d1,by rw[List.length_map];exact l1,fun p' H1 kp np' m1 f1 pm1=>?_⟩
  have W1:=hW.mono m1.le
  walk_at "r"
  refine b9 W1.tup (b6 (j:=1) rfl) ?_
  walk_at "r"
  refine⟨q,kvs,W.ts.map (·.1),rfl,W1.ties,by rw[W1.ts.keys,t5],d2,by rw[List.length_map];exact l2,fun q' H2 kq nq' m2 f2 pm2=>?_⟩
  walk_at "r"
  refine⟨c8 (by simp),fun l9 n9=>?_⟩
  obtain⟨H9,e9,f9,m9,_⟩:=b4 (o:= .tup _) n9
  rw[e9]
  obtain⟨pts',rfl,pp⟩:=pE pm1
  have W2:=hW.mono (m1.trans (m2.trans m9)).le
  obtain⟨ts',w',pt⟩:=bS pm2 W2.ts
  have g1:=m9 _ _ (m2 _ _ f1)
  have g2:=m9 _ _ f2
  exact k l9 p' q' kq ⟨pts',ts'⟩ H9 (m1.trans (m2.trans m9)) ⟨SqT.of f9,.inl g1,.inl g2,w'⟩ g1 g2 (c9 f1 nq') np' (m1.free nq') pp pt
structure ze (W:G3):Prop where
 nm:∀x∈i6 W,X0 x=true
 kd:∀x∈W.pts,Z0 x.2=true
 tk:∀x∈W.ts,Z0 x.2.1=true
theorem oY {x s:Str}{m:Int}(h:C0 x s m=true):(x.length:Int)≤m:=by
 unfold C0 at h
 simp only[Bool.and_eq_true,decide_eq_true_eq] at h
 exact h.1.2
structure jE (m:Nat) (W:G3):Prop where
 good:ze W
 kds:∀n∈i6 W,Z0 n=true
 l1:W.pts.length≤m
 l2:W.ts.length≤m
def lX (K:PySem.W.Frag):Sp:=fun vs H Q _=>∃(a p q a' p' q':Addr) (kvs kvs':List (h9×V)) (W O:G3),vs=[.ref a,.ref a']∧WebIs 24 K H a p q kvs W∧WebIs 24 K H a' p' q' kvs' O∧∀(l:Addr) (H':Hp) (s1 s2:List Str),H l=none→Same H H'→Ordr W s1 s2→H' l=some (.lst (((s1++s2).filter fun n=>decide (n∈i6 O)).map V.str))→Q (.ref l) H'
def jj (K:PySem.W.Frag):Sp:=fun vs H Q _=>∃(a p q a' p' q':Addr) (kvs kvs':List (h9×V)) (W O:G3),vs=[.ref a,.ref a']∧WebIs 24 K H a p q kvs W∧WebIs 24 K H a' p' q' kvs' O∧∀(l:Addr) (H':Hp) (s1 s2:List Str),H l=none→Same H H'→Ordr W s1 s2→H' l=some (.lst (((s1++s2).filter fun n=>!decide (n∈i6 O)).map V.str))→Q (.ref l) H'
theorem lY (n:Nat):(List.replicate n true).all id=true:=by rw[List.all_eq_true];intro b hb;exact(List.mem_replicate.mp hb).2--SPLIT
abbrev rF (P:Program)(w:World)(K:PySem.W.Frag)(mg:Str→Option Value)(base:Heap):Prop:=A2 P w K mg base j9 2 "both" ["web","other"] [] (lX K)
theorem uM {f:Addr}{fd:FuncData}(T:Txt K mg)(C4:aJ P w K mg base)(F:Fun K "both" "both" jW f fd):j1 P w K mg base j9 2 f fd ["web","other"] (lX K):=by
 refine F.ok sc_both (fun vs H Q E h=>?_) (fun cdv A outer s H vs Q E hr h=>?_)
 ·obtain⟨a,p,q,a',p',q',kvs,kvs',W,O,rfl,_⟩:=h
  rfl
 ·obtain⟨a,p,q,a',p',q',kvs,kvs',W,O,rfl,hW,hO,k⟩:=h
  have hWl:=hW.len
  have hN:=sc_both.nd
  have hu:=q5 hr
  refine⟨_,QSs.r (x6 (A1 (M3 (own:=["name"]) (js:=[1]) (by kernel_rfl) rfl (S1 K (qC C4 (hr.mono (by decide)) p7 (d9 (qV 0) j0))) (fun _ _ _ _=>(M8 (i:=0) (show List.Nodup (["name","other"]:List Str) by decide+kernel) rfl (by walk_at "l"))) (fun _ _ _ _=>(tJ (tY (uX (q8 (kIn K hu) (qV 0) (j4 (j3 K hu) (qV 1) b3 (fun _ _=>rfl)) (by rfl)) (pU (q8 (kIn K hu) (qV 0) (j4 (j3 K hu) (qV 1) b3 (fun _ _=>rfl)) (by rfl))))))) (fun _ _ _ _=>(qV 0))))),?_⟩
  walk_at "r"
  refine⟨a,p,q,kvs,W,rfl,hW.at_,by omega,fun l1 H1 s1 s2 n1 m1 f1 or=>?_⟩
  have hlen:=or.len
  refine A7 (SqL.of f1) ?_
  refine u6 (n:=(s1++s2).length) (fun i out H'=>Same H1 H'∧out=(((s1++s2).take i).filter fun n=>decide (n∈i6 O)).map V.str) ⟨Same.refl _,rfl⟩ (fun i out H' hi hp=>⟨_,.str ((s1++s2)[i]),SqL.of (hp.1 _ _ f1),by rw[List.getElem?_map,List.getElem?_eq_getElem hi];rfl⟩) ?_ ?_
  ·rintro N i v out H3' H3 hi ⟨s3,rfl⟩ y hN'
   obtain⟨rfl,hx⟩:=Itl.get y (SqL.of (s3 _ _ f1))
   rw[List.getElem?_map,List.getElem?_eq_getElem hi] at hx
   cases hx
   have O3:=hO.at_.mono (m1.trans s3).le
   have e7:(s1++s2).take (i+1)=(s1++s2).take i++[(s1++s2)[i]]:=by rw[List.take_succ,List.getElem?_eq_getElem hi];rfl
   have hfl:=List.length_filter_le (fun n=>decide (n∈i6 O)) ((s1++s2).take i)
   rw[List.length_take] at hfl
   have yes:(decide ((s1++s2)[i]∈i6 O))=true→((((s1++s2).take i).filter fun n=>decide (n∈i6 O)).map V.str).length≤sizeLine∧N ((((s1++s2).take i).filter fun n=>decide (n∈i6 O)).map V.str++[V.str (s1++s2)[i]]) H3:=fun hb=>by
    refine⟨c8 (by rw[List.length_map];omega),hN' _ _ ⟨s3,?_⟩⟩
    rw[e7,List.filter_append,List.filter_cons_of_pos (p:=fun n=>decide (n∈i6 O)) hb,List.filter_nil,List.map_append];rfl
   have no:(decide ((s1++s2)[i]∈i6 O))=false→N ((((s1++s2).take i).filter fun n=>decide (n∈i6 O)).map V.str) H3:=fun hb=>by
    refine hN' _ _ ⟨s3,?_⟩
    rw[e7,List.filter_append,List.filter_cons_of_neg (p:=fun n=>decide (n∈i6 O)) (by rw[hb];simp),List.filter_nil,List.append_nil]
   walk_at "r"
   refine⟨rfl,?_⟩
   walk_at "r"
   refine b9 O3.tup (b6 (j:=0) rfl) ?_
   refine aH (Z2 (k:=Sum.inr (s1++s2)[i]) O3.pts) ?_
   rw[N2]
   walk_at "r"
   refine z6 (fun b1=>?_) (fun b1=>?_)
   ·walk_at "r"
    refine yes (by rw[decide_eq_true (show(s1++s2)[i]∈i6 O from List.mem_append_left _ b1)])
   ·walk_at "r"
    refine b9 O3.tup (b6 (j:=1) rfl) ?_
    refine aH (Z2 (k:=Sum.inr (s1++s2)[i]) O3.ties) ?_
    rw[fQ O3.ts]
    walk_at "r"
    refine z6 (fun b2=>?_) (fun b2=>?_)
    ·walk_at "r"
     refine yes (by rw[decide_eq_true (show(s1++s2)[i]∈i6 O from List.mem_append_right _ b2)])
    ·exact no (by rw[decide_eq_false (show(s1++s2)[i]∉i6 O from fun z=>(List.mem_append.mp z).elim b1 b2)])
  ·rintro out H3 ⟨s3,rfl⟩
   have hfl:=List.length_filter_le (fun n=>decide (n∈i6 O)) ((s1++s2).take (s1++s2).length)
   rw[List.length_take] at hfl
   refine⟨⟨_,SqL.of (s3 _ _ f1),by rw[List.length_map];exact Nat.le_refl _⟩,fun D hD=>⟨c8 (by rw[List.length_map];omega),?_⟩⟩
   rw[List.take_of_length_le (Nat.le_refl _)]
   obtain⟨H4,e4,f4,m4,_⟩:=b4 (H:=H3) (o:= .lst (((s1++s2).filter fun n=>decide (n∈i6 O)).map V.str)) hD
   refine k D _ s1 s2 ((m1.trans s3).free hD) ?_ or ?_
   ·show Same _ (upd _ D _)
    rw[e4];exact m1.trans (s3.trans m4)
   ·show upd _ D _ D=_
    rw[d8]
abbrev gJ (P:Program)(w:World)(K:PySem.W.Frag)(mg:Str→Option Value)(base:Heap):Prop:=A2 P w K mg base j9 2 "alone" ["web","other"] [] (jj K)
theorem qD {f:Addr}{fd:FuncData}(T:Txt K mg)(C4:aJ P w K mg base)(F:Fun K "alone" "alone" hU f fd):j1 P w K mg base j9 2 f fd ["web","other"] (jj K):=by
 refine F.ok sc_alone (fun vs H Q E h=>?_) (fun cdv A outer s H vs Q E hr h=>?_)
 ·obtain⟨a,p,q,a',p',q',kvs,kvs',W,O,rfl,_⟩:=h
  rfl
 ·obtain⟨a,p,q,a',p',q',kvs,kvs',W,O,rfl,hW,hO,k⟩:=h
  have hWl:=hW.len
  have hN:=sc_alone.nd
  have hu:=q5 hr
  refine⟨_,QSs.r (x6 (A1 (M3 (own:=["name"]) (js:=[1]) (by kernel_rfl) rfl (S1 K (qC C4 (hr.mono (by decide)) p7 (d9 (qV 0) j0))) (fun _ _ _ _=>(M8 (i:=0) (show List.Nodup (["name","other"]:List Str) by decide+kernel) rfl (by walk_at "l"))) (fun _ _ _ _=>(tJ (tY (bW (q8 (gk K hu) (qV 0) (j4 (j3 K hu) (qV 1) b3 (fun _ _=>rfl)) (by rfl)) (bx (q8 (gk K hu) (qV 0) (j4 (j3 K hu) (qV 1) b3 (fun _ _=>rfl)) (by rfl))))))) (fun _ _ _ _=>(qV 0))))),?_⟩
  walk_at "r"
  refine⟨a,p,q,kvs,W,rfl,hW.at_,by omega,fun l1 H1 s1 s2 n1 m1 f1 or=>?_⟩
  have hlen:=or.len
  refine A7 (SqL.of f1) ?_
  refine u6 (n:=(s1++s2).length) (fun i out H'=>Same H1 H'∧out=(((s1++s2).take i).filter fun n=>!decide (n∈i6 O)).map V.str) ⟨Same.refl _,rfl⟩ (fun i out H' hi hp=>⟨_,.str ((s1++s2)[i]),SqL.of (hp.1 _ _ f1),by rw[List.getElem?_map,List.getElem?_eq_getElem hi];rfl⟩) ?_ ?_
  ·rintro N i v out H3' H3 hi ⟨s3,rfl⟩ y hN'
   obtain⟨rfl,hx⟩:=Itl.get y (SqL.of (s3 _ _ f1))
   rw[List.getElem?_map,List.getElem?_eq_getElem hi] at hx
   cases hx
   have O3:=hO.at_.mono (m1.trans s3).le
   have e7:(s1++s2).take (i+1)=(s1++s2).take i++[(s1++s2)[i]]:=by rw[List.take_succ,List.getElem?_eq_getElem hi];rfl
   have hfl:=List.length_filter_le (fun n=>!decide (n∈i6 O)) ((s1++s2).take i)
   rw[List.length_take] at hfl
   have yes:(!decide ((s1++s2)[i]∈i6 O))=true→((((s1++s2).take i).filter fun n=>!decide (n∈i6 O)).map V.str).length≤sizeLine∧N ((((s1++s2).take i).filter fun n=>!decide (n∈i6 O)).map V.str++[V.str (s1++s2)[i]]) H3:=fun hb=>by
    refine⟨c8 (by rw[List.length_map];omega),hN' _ _ ⟨s3,?_⟩⟩
    rw[e7,List.filter_append,List.filter_cons_of_pos (p:=fun n=>!decide (n∈i6 O)) hb,List.filter_nil,List.map_append];rfl
   have no:(!decide ((s1++s2)[i]∈i6 O))=false→N ((((s1++s2).take i).filter fun n=>!decide (n∈i6 O)).map V.str) H3:=fun hb=>by
    refine hN' _ _ ⟨s3,?_⟩
    rw[e7,List.filter_append,List.filter_cons_of_neg (p:=fun n=>!decide (n∈i6 O)) (by rw[hb];simp),List.filter_nil,List.append_nil]
   walk_at "r"
   refine⟨rfl,?_⟩
   walk_at "r"
   refine b9 O3.tup (b6 (j:=0) rfl) ?_
   refine bO (Z2 (k:=Sum.inr (s1++s2)[i]) O3.pts) ?_
   rw[N2]
   walk_at "r"
   refine jR (fun b1=>?_) (fun b1=>?_)
   ·walk_at "r"
    refine b9 O3.tup (b6 (j:=1) rfl) ?_
    refine bO (Z2 (k:=Sum.inr (s1++s2)[i]) O3.ties) ?_
    rw[fQ O3.ts]
    walk_at "r"
    refine jR (fun b2=>?_) (fun b2=>?_)
    ·walk_at "r"
     refine yes (by rw[decide_eq_false (show(s1++s2)[i]∉i6 O from fun z=>(List.mem_append.mp z).elim b1 b2)];rfl)
    ·exact no (by rw[decide_eq_true (show(s1++s2)[i]∈i6 O from List.mem_append_right _ b2)];rfl)
   ·exact no (by rw[decide_eq_true (show(s1++s2)[i]∈i6 O from List.mem_append_left _ b1)];rfl)
  ·rintro out H3 ⟨s3,rfl⟩
   have hfl:=List.length_filter_le (fun n=>!decide (n∈i6 O)) ((s1++s2).take (s1++s2).length)
   rw[List.length_take] at hfl
   refine⟨⟨_,SqL.of (s3 _ _ f1),by rw[List.length_map];exact Nat.le_refl _⟩,fun D hD=>⟨c8 (by rw[List.length_map];omega),?_⟩⟩
   rw[List.take_of_length_le (Nat.le_refl _)]
   obtain⟨H4,e4,f4,m4,_⟩:=b4 (H:=H3) (o:= .lst (((s1++s2).filter fun n=>!decide (n∈i6 O)).map V.str)) hD
   refine k D _ s1 s2 ((m1.trans s3).free hD) ?_ or ?_
   ·show Same _ (upd _ D _)
    rw[e4];exact m1.trans (s3.trans m4)
   ·show upd _ D _ D=_
    rw[d8]
structure Sd where
 a:Addr
 p:Addr
 q:Addr
 kvs:List (h9×V)
 W:G3
def SdIs (K:PySem.W.Frag)(H:Hp)(s:Sd):Prop:=WebIs 24 K H s.a s.p s.q s.kvs s.W
theorem SdIs.same {H H':Hp}{s:Sd}(h:SdIs K H s)(m:Same H H'):SdIs K H' s:=WebIs.same h m
structure RuleIs (K:PySem.W.Frag) (H:Hp) (r bl:Addr) (L R:Sd) (bs:List Sd):Prop where
 tup:SqT K H r [.ref L.a,.ref R.a,.ref bl]
 l:SdIs K H L
 r:SdIs K H R
 bl:SqL K H bl (bs.map fun s=>V.ref s.a)
 bars:∀b∈bs,SdIs K H b
theorem RuleIs.same {H H':Hp}{r bl:Addr}{L R:Sd}{bs:List Sd}(h:RuleIs K H r bl L R bs)(m:Same H H'):RuleIs K H' r bl L R bs:=⟨m.tup h.tup,h.l.same m,h.r.same m,m.seq h.bl,fun b hb=>(h.bars b hb).same m⟩
structure yq (n:Str) (L R:G3):Prop where
 p:∀k,(n,k)∈L.pts↔(n,k)∈R.pts
 t:∀t,(n,t)∈L.ts↔(n,t)∈R.ts
structure BI (L R:G3) (bs:List Sd):Prop where
 l:jE 4 L
 r:jE 4 R
 ag:∀n∈i6 L,n∈i6 R→yq n L R
 len:bs.length≤3
 bars:∀b∈bs,jE 6 b.W∧(∀x∈L.pts,x∈b.W.pts)∧∀x∈L.ts,x∈b.W.ts
def lV (K:PySem.W.Frag):Sp:=fun vs H Q _=>∃(r bl:Addr) (L R:Sd) (bs:List Sd),vs=[.ref r]∧RuleIs K H r bl L R bs∧∀(l:Addr) (H':Hp) (s1 s2:List Str),H l=none→Same H H'→Ordr L.W s1 s2→H' l=some (.lst (((s1++s2).filter fun n=>decide (n∈i6 R.W)).map V.str))→Q (.ref l) H'
def iY (K:PySem.W.Frag):Sp:=fun vs H Q _=>∃(r bl:Addr) (L R:Sd) (bs:List Sd),vs=[.ref r]∧RuleIs K H r bl L R bs∧∀(l:Addr) (H':Hp) (s1 s2:List Str),H l=none→Same H H'→Ordr L.W s1 s2→H' l=some (.lst (((s1++s2).filter fun n=>!decide (n∈i6 R.W)).map V.str))→Q (.ref l) H'
def cb (K:PySem.W.Frag):Sp:=fun vs H Q _=>∃(r bl:Addr) (L R:Sd) (bs:List Sd),vs=[.ref r]∧RuleIs K H r bl L R bs∧∀(l:Addr) (H':Hp) (s1 s2:List Str),H l=none→Same H H'→Ordr R.W s1 s2→H' l=some (.lst (((s1++s2).filter fun n=>!decide (n∈i6 L.W)).map V.str))→Q (.ref l) H'
abbrev wM (P:Program)(w:World)(K:PySem.W.Frag)(mg:Str→Option Value)(base:Heap):Prop:=A2 P w K mg base j9 3 "kept" ["rule"] [] (lV K)
theorem tO {f:Addr}{fd:FuncData}(T:Txt K mg)(ky:rF P w K mg base)(F:Fun K "kept" "kept" jX f fd):j1 P w K mg base j9 3 f fd ["rule"] (lV K):=by
 refine F.ok sc_kept (fun vs H Q E h=>?_) (fun cdv A outer s H vs Q E hr h=>?_)
 ·obtain⟨r,bl,L,R,bs,rfl,_⟩:=h
  rfl
 ·obtain⟨r,bl,L,R,bs,rfl,hr',k⟩:=h
  have hN:=sc_kept.nd
  have hu:=q5 hr
  refine⟨_,QSs.r (x6 (A1 (qC ky (hr.mono (by decide)) p7 (d9 (j4 (j3 K hu) (qV 0) b3 (fun _ _=>rfl)) (d9 (j4 (j3 K hu) (qV 0) b3 (fun _ _=>rfl)) j0))))),?_⟩
  walk_at "r"
  refine b9 hr'.tup (b6 (j:=0) rfl) ?_
  walk_at "r"
  refine b9 hr'.tup (b6 (j:=1) rfl) ?_
  walk_at "r"
  exact⟨_,_,_,_,_,_,_,_,_,_,rfl,hr'.l,hr'.r,fun l H' s1 s2 n m o f=>k l H' s1 s2 n m o f⟩
abbrev uH (P:Program)(w:World)(K:PySem.W.Frag)(mg:Str→Option Value)(base:Heap):Prop:=A2 P w K mg base j9 3 "taken" ["rule"] [] (iY K)
theorem pZ {f:Addr}{fd:FuncData}(T:Txt K mg)(V7:gJ P w K mg base)(F:Fun K "taken" "taken" gq f fd):j1 P w K mg base j9 3 f fd ["rule"] (iY K):=by
 refine F.ok sc_taken (fun vs H Q E h=>?_) (fun cdv A outer s H vs Q E hr h=>?_)
 ·obtain⟨r,bl,L,R,bs,rfl,_⟩:=h
  rfl
 ·obtain⟨r,bl,L,R,bs,rfl,hr',k⟩:=h
  have hN:=sc_taken.nd
  have hu:=q5 hr
  refine⟨_,QSs.r (x6 (A1 (qC V7 (hr.mono (by decide)) p7 (d9 (j4 (j3 K hu) (qV 0) b3 (fun _ _=>rfl)) (d9 (j4 (j3 K hu) (qV 0) b3 (fun _ _=>rfl)) j0))))),?_⟩
  walk_at "r"
  refine b9 hr'.tup (b6 (j:=0) rfl) ?_
  walk_at "r"
  refine b9 hr'.tup (b6 (j:=1) rfl) ?_
  walk_at "r"
  exact⟨_,_,_,_,_,_,_,_,_,_,rfl,hr'.l,hr'.r,fun l H' s1 s2 n m o f=>k l H' s1 s2 n m o f⟩
abbrev kR (P:Program)(w:World)(K:PySem.W.Frag)(mg:Str→Option Value)(base:Heap):Prop:=A2 P w K mg base j9 3 "fresh_of" ["rule"] [] (cb K)
theorem iU {f:Addr}{fd:FuncData}(T:Txt K mg)(V7:gJ P w K mg base)(F:Fun K "fresh_of" "fresh_of" Z4 f fd):j1 P w K mg base j9 3 f fd ["rule"] (cb K):=by
 refine F.ok sc_fresh_of (fun vs H Q E h=>?_) (fun cdv A outer s H vs Q E hr h=>?_)
 ·obtain⟨r,bl,L,R,bs,rfl,_⟩:=h
  rfl
 ·obtain⟨r,bl,L,R,bs,rfl,hr',k⟩:=h
  have hN:=sc_fresh_of.nd
  have hu:=q5 hr
  refine⟨_,QSs.r (x6 (A1 (qC V7 (hr.mono (by decide)) p7 (d9 (j4 (j3 K hu) (qV 0) b3 (fun _ _=>rfl)) (d9 (j4 (j3 K hu) (qV 0) b3 (fun _ _=>rfl)) j0))))),?_⟩
  walk_at "r"
  refine b9 hr'.tup (b6 (j:=1) rfl) ?_
  walk_at "r"
  refine b9 hr'.tup (b6 (j:=0) rfl) ?_
  walk_at "r"
  exact⟨_,_,_,_,_,_,_,_,_,_,rfl,hr'.r,hr'.l,fun l H' s1 s2 n m o f=>k l H' s1 s2 n m o f⟩
theorem i9 {t u:TS}{nx:L2.St→Hp→Prop}{rt:V→Hp→Prop}{bk ct:L2.St→Hp→Prop}{σ:L2.St}{H:Hp}(h:∀nx':L2.St→Hp→Prop,(∀σ H,u ⟨nx,rt,bk,ct⟩ σ H→nx' σ H)→t ⟨nx',rt,bk,ct⟩ σ H):oJ t u ⟨nx,rt,bk,ct⟩ σ H:=h _ fun _ _ z=>z
abbrev oj (P:Program)(w:World)(K:PySem.W.Frag)(mg:Str→Option Value)(base:Heap):Prop:=A2 P w K mg base (eP P w) 1 "without" ["web","names"] [] (cW K)
theorem jP {f:Addr}{fd:FuncData}(T:Txt K mg)(F:Fun K "without" "without" aV f fd):j1 P w K mg base (eP P w) 1 f fd ["web","names"] (cW K):=by
 refine F.okE kh (fun vs H Q E h=>?_) (fun cdv A outer s H vs Q E hr h=>?_)
 ·exact h.elim
 ·exact h.elim
abbrev qF (P:Program)(w:World)(K:PySem.W.Frag)(mg:Str→Option Value)(base:Heap):Prop:=A2 P w K mg base j9 1 "united" ["web","more"] [] (gb K)
theorem oz {f:Addr}{fd:FuncData}(T:Txt K mg)(F:Fun K "united" "united" du f fd):j1 P w K mg base j9 1 f fd ["web","more"] (gb K):=by
 refine F.ok ng (fun vs H Q E h=>?_) (fun cdv A outer s H vs Q E hr h=>?_)
 ·exact h.elim
 ·exact h.elim
abbrev eT (P:Program)(w:World)(K:PySem.W.Frag)(mg:Str→Option Value)(base:Heap):Prop:=A2 P w K mg base j9 1 "tie_renamed" ["tie","names"] [] (R8 K)
theorem cI {f:Addr}{fd:FuncData}(T:Txt K mg)(F:Fun K "tie_renamed" "tie_renamed" K8 f fd):j1 P w K mg base j9 1 f fd ["tie","names"] (R8 K):=by
 refine F.ok eh (fun vs H Q E h=>?_) (fun cdv A outer s H vs Q E hr h=>?_)
 ·exact h.elim
 ·exact h.elim
abbrev oC (P:Program)(w:World)(K:PySem.W.Frag)(mg:Str→Option Value)(base:Heap):Prop:=A2 P w K mg base j9 1 "renamed" ["web","names"] [] (dN K)
theorem lK {f:Addr}{fd:FuncData}(T:Txt K mg)(F:Fun K "renamed" "renamed" bg f fd):j1 P w K mg base j9 1 f fd ["web","names"] (dN K):=by
 refine F.ok kY (fun vs H Q E h=>?_) (fun cdv A outer s H vs Q E hr h=>?_)
 ·exact h.elim
 ·exact h.elim
abbrev lz (P:Program)(w:World)(K:PySem.W.Frag)(mg:Str→Option Value)(base:Heap):Prop:=A2 P w K mg base j9 1 "is_match" ["piece","web","match"] [] (bX K)
theorem iF {f:Addr}{fd:FuncData}(T:Txt K mg)(F:Fun K "is_match" "is_match" Z7 f fd):j1 P w K mg base j9 1 f fd ["piece","web","match"] (bX K):=by
 refine F.ok ji (fun vs H Q E h=>?_) (fun cdv A outer s H vs Q E hr h=>?_)
 ·exact h.elim
 ·exact h.elim
abbrev wC (P:Program)(w:World)(K:PySem.W.Frag)(mg:Str→Option Value)(base:Heap):Prop:=A2 P w K mg base j9 1 "line" ["piece","match"] [] (lU K)
theorem sN {f:Addr}{fd:FuncData}(T:Txt K mg)(F:Fun K "line" "line" km f fd):j1 P w K mg base j9 1 f fd ["piece","match"] (lU K):=by
 refine F.ok tH (fun vs H Q E h=>?_) (fun cdv A outer s H vs Q E hr h=>?_)
 ·exact h.elim
 ·exact h.elim
theorem eg {f:Addr}{fd:FuncData}(T:Txt K mg){T9:Addr}(F:FunD K "matches" "matches" E5 T9 f fd):j1 P w K mg base j9 1 f fd ["piece","web","fixed"] (Z1 K):=by
 refine F.ok jG (fun vs H Q E h=>?_) (fun cdv A outer s H vs Q E hr h=>?_)
 ·exact h.elim
 ·exact h.elim
abbrev fq (P:Program)(w:World)(K:PySem.W.Frag)(mg:Str→Option Value)(base:Heap):Prop:=A2 P w K mg base j9 1 "first_match" ["piece","web","fixed"] [] (T1 K)
theorem dc {f:Addr}{fd:FuncData}(T:Txt K mg)(F:Fun K "first_match" "first_match" K0 f fd):j1 P w K mg base j9 1 f fd ["piece","web","fixed"] (T1 K):=by
 refine F.ok dA (fun vs H Q E h=>?_) (fun cdv A outer s H vs Q E hr h=>?_)
 ·exact h.elim
 ·exact h.elim
abbrev fi (P:Program)(w:World)(K:PySem.W.Frag)(mg:Str→Option Value)(base:Heap):Prop:=A2 P w K mg base j9 1 "first_found" ["piece","web","piece_looks","web_looks","fixed"] [] (V3 K)
theorem dR {f:Addr}{fd:FuncData}(T:Txt K mg)(F:Fun K "first_found" "first_found" J2 f fd):j1 P w K mg base j9 1 f fd ["piece","web","piece_looks","web_looks","fixed"] (V3 K):=by
 refine F.ok dI (fun vs H Q E h=>?_) (fun cdv A outer s H vs Q E hr h=>?_)
 ·exact h.elim
 ·exact h.elim
abbrev sO (P:Program)(w:World)(K:PySem.W.Frag)(mg:Str→Option Value)(base:Heap):Prop:=A2 P w K mg base j9 1 "found" ["piece","web","piece_looks","web_looks","fixed","most"] [] (jc K)
theorem rp {f:Addr}{fd:FuncData}(T:Txt K mg)(F:Fun K "found" "found" gm f fd):j1 P w K mg base j9 1 f fd ["piece","web","piece_looks","web_looks","fixed","most"] (jc K):=by
 refine F.ok rP (fun vs H Q E h=>?_) (fun cdv A outer s H vs Q E hr h=>?_)
 ·exact h.elim
 ·exact h.elim
abbrev qu (P:Program)(w:World)(K:PySem.W.Frag)(mg:Str→Option Value)(base:Heap):Prop:=A2 P w K mg base j9 1 "may_be" ["name","image","fixed"] [] (fJ K)
theorem mX {f:Addr}{fd:FuncData}(T:Txt K mg)(F:Fun K "may_be" "may_be" ez f fd):j1 P w K mg base j9 1 f fd ["name","image","fixed"] (fJ K):=by
 refine F.ok oq (fun vs H Q E h=>?_) (fun cdv A outer s H vs Q E hr h=>?_)
 ·exact h.elim
 ·exact h.elim
abbrev cq (P:Program)(w:World)(K:PySem.W.Frag)(mg:Str→Option Value)(base:Heap):Prop:=A2 P w K mg base j9 1 "point_choices" ["piece_looks","web_looks","fixed"] [] (N0 K)
theorem bo {f:Addr}{fd:FuncData}(T:Txt K mg)(F:Fun K "point_choices" "point_choices" E2 f fd):j1 P w K mg base j9 1 f fd ["piece_looks","web_looks","fixed"] (N0 K):=by
 refine F.ok bj (fun vs H Q E h=>?_) (fun cdv A outer s H vs Q E hr h=>?_)
 ·exact h.elim
 ·exact h.elim
abbrev gG (P:Program)(w:World)(K:PySem.W.Frag)(mg:Str→Option Value)(base:Heap):Prop:=A2 P w K mg base j9 1 "tie_places" ["piece","web","fixed"] [] (Y5 K)
theorem eV {f:Addr}{fd:FuncData}(T:Txt K mg)(F:Fun K "tie_places" "tie_places" P6 f fd):j1 P w K mg base j9 1 f fd ["piece","web","fixed"] (Y5 K):=by
 refine F.ok fh (fun vs H Q E h=>?_) (fun cdv A outer s H vs Q E hr h=>?_)
 ·exact h.elim
 ·exact h.elim
abbrev qX (P:Program)(w:World)(K:PySem.W.Frag)(mg:Str→Option Value)(base:Heap):Prop:=A2 P w K mg base j9 1 "enough" ["lists"] [] (fY K)
theorem oP {f:Addr}{fd:FuncData}(T:Txt K mg)(F:Fun K "enough" "enough" cS f fd):j1 P w K mg base j9 1 f fd ["lists"] (fY K):=by
 refine F.ok nW (fun vs H Q E h=>?_) (fun cdv A outer s H vs Q E hr h=>?_)
 ·exact h.elim
 ·exact h.elim
abbrev tq (P:Program)(w:World)(K:PySem.W.Frag)(mg:Str→Option Value)(base:Heap):Prop:=A2 P w K mg base j9 1 "lines" ["piece","choices","places","most"] [] (iD K)
theorem pK {f:Addr}{fd:FuncData}(T:Txt K mg)(F:Fun K "lines" "lines" gN f fd):j1 P w K mg base j9 1 f fd ["piece","choices","places","most"] (iD K):=by
 refine F.ok rD (fun vs H Q E h=>?_) (fun cdv A outer s H vs Q E hr h=>?_)
 ·exact h.elim
 ·exact h.elim
abbrev si (P:Program)(w:World)(K:PySem.W.Frag)(mg:Str→Option Value)(base:Heap):Prop:=A2 P w K mg base j9 1 "images" ["piece","choices","places","begun"] [] (fS K)
theorem nM {f:Addr}{fd:FuncData}(T:Txt K mg)(F:Fun K "images" "images" dU f fd):j1 P w K mg base j9 1 f fd ["piece","choices","places","begun"] (fS K):=by
 refine F.ok nU (fun vs H Q E h=>?_) (fun cdv A outer s H vs Q E hr h=>?_)
 ·exact h.elim
 ·exact h.elim
abbrev fu (P:Program)(w:World)(K:PySem.W.Frag)(mg:Str→Option Value)(base:Heap):Prop:=A2 P w K mg base j9 1 "tie_choices" ["piece","places","put","name"] [] (U6 K)
theorem cY {f:Addr}{fd:FuncData}(T:Txt K mg)(F:Fun K "tie_choices" "tie_choices" J3 f fd):j1 P w K mg base j9 1 f fd ["piece","places","put","name"] (U6 K):=by
 refine F.ok de (fun vs H Q E h=>?_) (fun cdv A outer s H vs Q E hr h=>?_)
 ·exact h.elim
 ·exact h.elim
abbrev jT (P:Program)(w:World)(K:PySem.W.Frag)(mg:Str→Option Value)(base:Heap):Prop:=A2 P w K mg base j9 1 "has_room" ["piece","places","put","name","image"] [] (bU K)
theorem jf {f:Addr}{fd:FuncData}(T:Txt K mg)(F:Fun K "has_room" "has_room" Z9 f fd):j1 P w K mg base j9 1 f fd ["piece","places","put","name","image"] (bU K):=by
 refine F.ok jx (fun vs H Q E h=>?_) (fun cdv A outer s H vs Q E hr h=>?_)
 ·exact h.elim
 ·exact h.elim
abbrev eR (P:Program)(w:World)(K:PySem.W.Frag)(mg:Str→Option Value)(base:Heap):Prop:=A2 P w K mg base j9 1 "rule_copied" ["rule"] [] (S7 K)
theorem dW {f:Addr}{fd:FuncData}(T:Txt K mg)(F:Fun K "rule_copied" "rule_copied" L0 f fd):j1 P w K mg base j9 1 f fd ["rule"] (S7 K):=by
 refine F.ok cP (fun vs H Q E h=>?_) (fun cdv A outer s H vs Q E hr h=>?_)
 ·exact h.elim
 ·exact h.elim
abbrev ph (P:Program)(w:World)(K:PySem.W.Frag)(mg:Str→Option Value)(base:Heap):Prop:=A2 P w K mg base j9 1 "picked" ["put","names"] [] (fI K)
theorem mW {f:Addr}{fd:FuncData}(T:Txt K mg)(F:Fun K "picked" "picked" cR f fd):j1 P w K mg base j9 1 f fd ["put","names"] (fI K):=by
 refine F.ok oK (fun vs H Q E h=>?_) (fun cdv A outer s H vs Q E hr h=>?_)
 ·exact h.elim
 ·exact h.elim
abbrev rl (P:Program)(w:World)(K:PySem.W.Frag)(mg:Str→Option Value)(base:Heap):Prop:=A2 P w K mg base j9 1 "barred" ["web","rule","match"] [] (fG K)
theorem og {f:Addr}{fd:FuncData}(T:Txt K mg)(F:Fun K "barred" "barred" cO f fd):j1 P w K mg base j9 1 f fd ["web","rule","match"] (fG K):=by
 refine F.ok oF (fun vs H Q E h=>?_) (fun cdv A outer s H vs Q E hr h=>?_)
 ·exact h.elim
 ·exact h.elim
abbrev ix (P:Program)(w:World)(K:PySem.W.Frag)(mg:Str→Option Value)(base:Heap):Prop:=A2 P w K mg base j9 1 "taken_out" ["step"] [] (aR K)
theorem hJ {f:Addr}{fd:FuncData}(T:Txt K mg)(F:Fun K "taken_out" "taken_out" T8 f fd):j1 P w K mg base j9 1 f fd ["step"] (aR K):=by
 refine F.ok gQ (fun vs H Q E h=>?_) (fun cdv A outer s H vs Q E hr h=>?_)
 ·exact h.elim
 ·exact h.elim
abbrev ff (P:Program)(w:World)(K:PySem.W.Frag)(mg:Str→Option Value)(base:Heap):Prop:=A2 P w K mg base j9 1 "names_serve" ["web","rule","fresh"] [] (U0 K)
theorem eo {f:Addr}{fd:FuncData}(T:Txt K mg)(F:Fun K "names_serve" "names_serve" J1 f fd):j1 P w K mg base j9 1 f fd ["web","rule","fresh"] (U0 K):=by
 refine F.ok dv (fun vs H Q E h=>?_) (fun cdv A outer s H vs Q E hr h=>?_)
 ·exact h.elim
 ·exact h.elim
abbrev nA (P:Program)(w:World)(K:PySem.W.Frag)(mg:Str→Option Value)(base:Heap):Prop:=A2 P w K mg base (eP P w) 1 "rest_of" ["web","step"] [] (cM K)
theorem jC {f:Addr}{fd:FuncData}(T:Txt K mg)(F:Fun K "rest_of" "rest_of" bu f fd):j1 P w K mg base (eP P w) 1 f fd ["web","step"] (cM K):=by
 refine F.okE jQ (fun vs H Q E h=>?_) (fun cdv A outer s H vs Q E hr h=>?_)
 ·exact h.elim
 ·exact h.elim
abbrev wj (P:Program)(w:World)(K:PySem.W.Frag)(mg:Str→Option Value)(base:Heap):Prop:=A2 P w K mg base (eP P w) 1 "done" ["web","step"] [] (ml K)
theorem uT {f:Addr}{fd:FuncData}(T:Txt K mg)(F:Fun K "done" "done" ko f fd):j1 P w K mg base (eP P w) 1 f fd ["web","step"] (ml K):=by
 refine F.okE uA (fun vs H Q E h=>?_) (fun cdv A outer s H vs Q E hr h=>?_)
 ·exact h.elim
 ·exact h.elim
abbrev qp (P:Program)(w:World)(K:PySem.W.Frag)(mg:Str→Option Value)(base:Heap):Prop:=A2 P w K mg base j9 1 "behind" ["step"] [] (fU K)
theorem nN {f:Addr}{fd:FuncData}(T:Txt K mg)(F:Fun K "behind" "behind" dZ f fd):j1 P w K mg base j9 1 f fd ["step"] (fU K):=by
 refine F.ok ou (fun vs H Q E h=>?_) (fun cdv A outer s H vs Q E hr h=>?_)
 ·exact h.elim
 ·exact h.elim
abbrev gZ (P:Program)(w:World)(K:PySem.W.Frag)(mg:Str→Option Value)(base:Heap):Prop:=A2 P w K mg base j9 1 "named_step" ["rule","match","mark"] [] (Y4 K)
theorem eQ {f:Addr}{fd:FuncData}(T:Txt K mg)(F:Fun K "named_step" "named_step" Q1 f fd):j1 P w K mg base j9 1 f fd ["rule","match","mark"] (Y4 K):=by
 refine F.ok eY (fun vs H Q E h=>?_) (fun cdv A outer s H vs Q E hr h=>?_)
 ·exact h.elim
 ·exact h.elim
abbrev fk (P:Program)(w:World)(K:PySem.W.Frag)(mg:Str→Option Value)(base:Heap):Prop:=A2 P w K mg base j9 1 "step_copied" ["step"] [] (R7 K)
theorem cK {f:Addr}{fd:FuncData}(T:Txt K mg)(F:Fun K "step_copied" "step_copied" K6 f fd):j1 P w K mg base j9 1 f fd ["step"] (R7 K):=by
 refine F.ok cX (fun vs H Q E h=>?_) (fun cdv A outer s H vs Q E hr h=>?_)
 ·exact h.elim
 ·exact h.elim
abbrev fj (P:Program)(w:World)(K:PySem.W.Frag)(mg:Str→Option Value)(base:Heap):Prop:=A2 P w K mg base j9 1 "can_be_done" ["web","rule","match"] [] (T5 K)
theorem dh {f:Addr}{fd:FuncData}(T:Txt K mg)(F:Fun K "can_be_done" "can_be_done" K4 f fd):j1 P w K mg base j9 1 f fd ["web","rule","match"] (T5 K):=by
 refine F.ok dX (fun vs H Q E h=>?_) (fun cdv A outer s H vs Q E hr h=>?_)
 ·exact h.elim
 ·exact h.elim
abbrev nG (P:Program)(w:World)(K:PySem.W.Frag)(mg:Str→Option Value)(base:Heap):Prop:=A2 P w K mg base j9 1 "choices" ["web","rules"] [] (dn K)
theorem kH {f:Addr}{fd:FuncData}(T:Txt K mg)(F:Fun K "choices" "choices" bK f fd):j1 P w K mg base j9 1 f fd ["web","rules"] (dn K):=by
 refine F.ok jZ (fun vs H Q E h=>?_) (fun cdv A outer s H vs Q E hr h=>?_)
 ·exact h.elim
 ·exact h.elim
abbrev iK (P:Program)(w:World)(K:PySem.W.Frag)(mg:Str→Option Value)(base:Heap):Prop:=A2 P w K mg base j9 1 "picked_by" ["hand","number","told"] [] (aB K)
theorem gL {f:Addr}{fd:FuncData}(T:Txt K mg)(F:Fun K "picked_by" "picked_by" T4 f fd):j1 P w K mg base j9 1 f fd ["hand","number","told"] (aB K):=by
 refine F.ok gi (fun vs H Q E h=>?_) (fun cdv A outer s H vs Q E hr h=>?_)
 ·exact h.elim
 ·exact h.elim
abbrev bY (P:Program)(w:World)(K:PySem.W.Frag)(mg:Str→Option Value)(base:Heap):Prop:=A2 P w K mg base j9 1 "_law_hand" ["_law_step","_law_told"] [] (ax K)
theorem gF {f:Addr}{fd:FuncData}(T:Txt K mg)(F:Fun K "_law_hand" "_law_hand" T3 f fd):j1 P w K mg base j9 1 f fd ["_law_step","_law_told"] (ax K):=by
 refine F.ok gI (fun vs H Q E h=>?_) (fun cdv A outer s H vs Q E hr h=>?_)
 ·exact h.elim
 ·exact h.elim
theorem uw {fr:List (Str×Str)}(nd:(fr.map (·.1)).Nodup){n s:Str}(h:(n,s)∈fr):sg (x5 fr) n∧af (x5 fr) n=s:=⟨⟨s,eG nd h⟩,my (eG nd h)⟩
theorem vv:∀x∈kSL.cps.toList,x∈kNS.cps.toList:=by decide+kernel
def Wd (ws:List Str)(lo hi:Nat)(n:Str):Prop:=∃j,lo≤j∧j<hi∧ws[j]?=some n
theorem S0 {ws:List Str}(nd:ws.Nodup){i j:Nat}{n:Str}(h1:ws[i]?=some n)(h2:ws[j]?=some n):i=j:=by
 obtain⟨hi,e1⟩:=List.getElem?_eq_some_iff.mp h1
 obtain⟨hj,e2⟩:=List.getElem?_eq_some_iff.mp h2
 have z:=List.pairwise_iff_getElem.mp nd
 rcases Nat.lt_trichotomy i j with h|h|h
 ·exact absurd (e1.trans e2.symm) (z i j hi hj h)
 ·exact h
 ·exact absurd (e2.trans e1.symm) (z j i hj hi h)
structure LR (ws:List Str) (i1 i2 i3 i4:Nat) (PL:List (Str×Str)) (TL:List (Str×M9)) (PR:List (Str×Str)) (TR:List (Str×M9)):Prop where
 pl:∀x∈PL,Wd ws 0 i1 x.1∧Z0 x.2=true
 tl:∀x∈TL,Wd ws 4 (4+i2) x.1∧Z0 x.2.1=true∧x.2.2.1∈PL.map (·.1)∧x.2.2.2∈PL.map (·.1)
 ndl:(PL.map (·.1)).Nodup
 ndt:(TL.map (·.1)).Nodup
 ll:PL.length≤i1
 lt:TL.length≤i2
 pr:∀x∈PR,(x∈PL∨Wd ws 8 (8+i3) x.1)∧Z0 x.2=true
 tr:∀x∈TR,(x∈TL∨Wd ws 10 (10+i4) x.1)∧Z0 x.2.1=true∧x.2.2.1∈PR.map (·.1)∧x.2.2.2∈PR.map (·.1)
 ndr:(PR.map (·.1)).Nodup
 ndu:(TR.map (·.1)).Nodup
 lr:PR.length≤i1+i3
 lu:TR.length≤i2+i4
theorem bt {x:Str}(h:Z0 x=true):x.length≤8:=by
 have:=oY (show C0 x kSL 8=true from h)
 omega
theorem EqN.of0 {H:Hp}{x y:V}{b:Bool}(h:EqN K H 0 x y b):∀n,EqN K H n x y b
 |0=>h
 |n+1=> .inl (EqN.of0 h n)
theorem cN {H:Hp}{A C:Sd}{n:Nat}(h:SdIs K H A)(h':SdIs K H C)(p1:A.W.pts.Perm C.W.pts)(p2:A.W.ts.Perm C.W.ts)(hp:A.p≠C.p)(hq:A.q≠C.q):EqN K H (n+1) (.ref A.a) (.ref C.a) true:=by
 by_cases e:A.a=C.a
 ·exact EqN.of0 (.inr ⟨A.a,C.a,rfl,rfl,.inl ⟨e,rfl⟩⟩) _
 ·refine .inr ⟨A.a,C.a,[.ref A.p,.ref A.q],[.ref C.p,.ref C.q],[true,true],rfl,rfl,e,.inl ⟨h.at_.tup,h'.at_.tup⟩,rfl,rfl,fun j x y b hx hy hb=>?_,rfl⟩
  match j,hx,hy,hb with
  |0,hx,hy,hb=>
   cases hx;cases hy;cases hb
   exact EqN.of0 (.inr ⟨A.p,C.p,rfl,rfl,uG hp h.at_.pts h'.at_.pts p1 (dG h'.nd)⟩) _
  |1,hx,hy,hb=>
   cases hx;cases hy;cases hb
   exact EqN.of0 (.inr ⟨A.q,C.q,rfl,rfl,rS hq h.at_.ties h'.at_.ties h.at_.ts h'.at_.ts p2 (jt h'.nd)⟩) _
  |j+2,hx,_,_=>cases hx
def DK (H:Hp)(a:Addr):Prop:=∃k,H a=some (.dK k)
structure Wb (K:PySem.W.Frag) (H:Hp) (s:Sd):Prop where
 t:SqT K H s.a [.ref s.p,.ref s.q]
 p:DK H s.p
 q:DK H s.q
def X8 (K:PySem.W.Frag):Sp:=fun vs H Q _=>∃(a:Addr) (ns:List Int),vs=[.ref a,.int 6,.int 7]∧SqL K H a (ns.map V.int)∧ns.length≤63∧∀(p:Addr) (H':Hp) (cs:List Int),H p=none→Same H H'→H' p=some (.lst (cs.map V.int))→cs.length≤7→(∀c∈cs,0≤c)→Q (.ref p) H'
def Q8 (K:PySem.W.Frag):Sp:=fun vs H Q _=>∃(a:Addr) (ns:List Int) (k:Int),vs=[.ref a,.int k]∧SqL K H a (ns.map V.int)∧ns.length≤63∧0≤k∧∀m:Int,0≤m→m<10 ^ 60→Q (.int m) H
def X7 (K:PySem.W.Frag):Sp:=fun vs H Q _=>∃c:Int,vs=[.int c]∧0≤c∧xV H Q fun ss=>ss.length=2
structure zJ (n:Nat) (ss:List Str):Prop where
 len:ss.length=n
 nd:ss.Nodup
 z:∃z:Nat,z≤15∧∀s∈ss,s.length=z
 nm:∀s∈ss,X0 s=true
structure jr (ss:List Str):Prop where
 len:ss.length=10
 nd:ss.Nodup
 kd:∀s∈ss,Z0 s=true
def Y0 (K:PySem.W.Frag):Sp:=fun vs H Q _=>∃c:Int,vs=[.int c,.int 12]∧0≤c∧xV H Q (zJ 12)
def X3 (K:PySem.W.Frag):Sp:=fun vs H Q _=>∃c:Int,vs=[.int c,.int 10]∧0≤c∧xV H Q jr
theorem xT (ns:List Int):∃cs:List Int,bF (ns.map V.int) (some 6) (some 13)=cs.map V.int∧cs.length≤7:=by
 unfold bF
 have e1:HT.sIx (ns.map V.int).length 0 (some ((6:Nat):Int))=min 6 (ns.map V.int).length:=HT.sIx_nat _ _ _
 have e2:HT.sIx (ns.map V.int).length (ns.map V.int).length (some ((13:Nat):Int))=min 13 (ns.map V.int).length:=HT.sIx_nat _ _ _
 rw[show(some (6:Int))=some ((6:Nat):Int) from rfl,show(some (13:Int))=some ((13:Nat):Int) from rfl,e1,e2,←List.map_drop,←List.map_take]
 exact⟨_,rfl,by rw[List.length_take,List.length_drop];omega⟩
abbrev av (P:Program)(w:World)(K:PySem.W.Frag)(mg:Str→Option Value)(base:Heap):Prop:=A2 P w K mg base j9 1 "_law_cells" ["_law_script","_law_start","_law_many"] [] (X8 K)
theorem fw {f:Addr}{fd:FuncData}(T:Txt K mg)(F:Fun K "_law_cells" "_law_cells" P7 f fd):j1 P w K mg base j9 1 f fd ["_law_script","_law_start","_law_many"] (X8 K):=by
 refine F.ok sc__law_cells (fun vs H Q E h=>?_) (fun cdv A outer s H vs Q E hr h=>?_)
 ·obtain⟨a,ns,rfl,_⟩:=h
  rfl
 ·obtain⟨a,ns,rfl,hA,hl,k⟩:=h
  have hN:=sc__law_cells.nd
  have hu:=q5 hr
  refine⟨_,QSs.r (x6 (A1 (M3 (own:=["_law_cell"]) (js:=[]) (by kernel_rfl) rfl (S1 K (yb (ye K) (qV 0) (wK (qV 1)) (wK (j6 (u9 K) (qV 1) (qV 2))))) (fun _ _ _ _=>(M8 (i:=0) (show List.Nodup (["_law_cell"]:List Str) by decide+kernel) rfl (by walk_at "l"))) (fun _ _ _ _=>bG) (fun _ _ _ _=>(j6 i7 (qV 0) (j6 aW b3 b3)))))),?_⟩
  walk_at "r"
  refine jh hA (fun p1 n1=>?_)
  obtain⟨H1,e1,f1,m1,_⟩:=b4 (o:= .lst _) n1
  rw[e1]
  obtain⟨cs,hcs,hcl⟩:=xT ns
  rw[show(6:Int)+7=13 from rfl,hcs] at f1
  refine A7 (SqL.of f1) ?_
  refine u6 (n:=cs.length) (fun i out H'=>Same H1 H'∧out=(cs.take i).map fun x=>V.int (x % 10 ^ 60)) ⟨Same.refl _,rfl⟩ (fun i out H' hi hp=>⟨_,.int (cs[i]),SqL.of (hp.1 _ _ f1),by rw[List.getElem?_map,List.getElem?_eq_getElem hi];rfl⟩) ?_ ?_
  ·rintro N i v out H2 H3 hi ⟨s1,rfl⟩ y hN'
   obtain⟨rfl,hx⟩:=Itl.get y (SqL.of (s1 _ _ f1))
   rw[List.getElem?_map,List.getElem?_eq_getElem hi] at hx
   cases hx
   walk_at "r"
   refine⟨rfl,?_⟩
   walk_at "r"
   refine⟨c8 (by rw[List.length_map,List.length_take];omega),hN' _ _ ⟨s1,?_⟩⟩
   exact W7 (fun x:Int=>V.int (x % 10 ^ 60)) (List.getElem?_eq_getElem hi)
  ·rintro out H2 ⟨s1,rfl⟩
   refine⟨⟨_,SqL.of (s1 _ _ f1),by rw[List.length_map];exact Nat.le_refl _⟩,fun D hD=>⟨c8 (by rw[List.length_map,List.length_take];omega),?_⟩⟩
   rw[List.take_of_length_le (Nat.le_refl _)]
   obtain⟨H3,e3,f3,m3,_⟩:=b4 (o:= .lst (cs.map fun x=>V.int (x % 10 ^ 60))) hD
   refine k D _ (cs.map fun x=>x % 10 ^ 60) ((m1.trans s1).free hD) ?_ ?_ (by rw[List.length_map];exact hcl) (fun c hc=>?_)
   ·show Same _ (upd _ D _)
    rw[e3];exact m1.trans (s1.trans m3)
   ·show upd _ D _ D=_
    rw[d8,List.map_map];rfl
   ·obtain⟨x,_,rfl⟩:=List.mem_map.mp hc
    exact Int.emod_nonneg _ (by decide)
abbrev S5 (P:Program)(w:World)(K:PySem.W.Frag)(mg:Str→Option Value)(base:Heap):Prop:=A2 P w K mg base j9 1 "_law_cell_at" ["_law_script","_law_k"] [] (Q8 K)
theorem cx {f:Addr}{fd:FuncData}(T:Txt K mg)(F:Fun K "_law_cell_at" "_law_cell_at" F0 f fd):j1 P w K mg base j9 1 f fd ["_law_script","_law_k"] (Q8 K):=by
 refine F.ok sc__law_cell_at (fun vs H Q E h=>?_) (fun cdv A outer s H vs Q E hr h=>?_)
 ·obtain⟨a,ns,k',rfl,_⟩:=h
  rfl
 ·obtain⟨a,ns,k',rfl,hA,hl,h0,k⟩:=h
  have hN:=sc__law_cell_at.nd
  have hu:=q5 hr
  refine⟨_,QSs.r (o9 (dm (q8 N3 (qV 1) (qB (C8 K P w) T.b_len Boot.«len» (d9 (qV 0) j0)) (j5 _)) (x6 (A1 (j6 i7 (j4 (j3 K hu) (qV 0) (qV 1) (fun _ _=>rfl)) (j6 aW b3 b3)))) fR)
   (x6 (A1 b3))),?_⟩
  walk_at "r"
  refine B4 (u4 hA ?_)
  rw[List.length_map]
  walk_at "r"
  refine z6 (fun h1=>?_) (fun h1=>?_)
  ·walk_at "r"
   obtain⟨v,hv,hv2⟩:=aZ (xs:=ns.map V.int) h0 (by rw[List.length_map];exact h1)
   rw[List.getElem?_map] at hv2
   obtain⟨x,hx,rfl⟩:=Option.map_eq_some_iff.mp hv2
   refine b5 hA hv ?_
   walk_at "r"
   exact k _ (Int.emod_nonneg _ (by decide)) (Int.emod_lt_of_pos _ (by decide))
  ·walk_at "r"
   exact k 0 (by omega) (by decide)
abbrev au (P:Program)(w:World)(K:PySem.W.Frag)(mg:Str→Option Value)(base:Heap):Prop:=A2 P w K mg base j9 1 "_law_kinds" ["_law_cell"] [] (X7 K)
theorem eW {f:Addr}{fd:FuncData}(T:Txt K mg)(F:Fun K "_law_kinds" "_law_kinds" O5 f fd):j1 P w K mg base j9 1 f fd ["_law_cell"] (X7 K):=by
 refine F.ok sc__law_kinds (fun vs H Q E h=>?_) (fun cdv A outer s H vs Q E hr h=>?_)
 ·obtain⟨c,rfl,_⟩:=h
  rfl
 ·obtain⟨c,rfl,h0,k⟩:=h
  have hN:=sc__law_kinds.nd
  have hu:=q5 hr
  refine⟨_,QSs.r (o9 (j2 (i:=1) hN rfl (by walk_at "l") K7)
   (o9 (j2 (i:=2) hN rfl (by walk_at "l") (j6 (u9 K) b3 (j6 i7 (qV 0) b3)))
   (o9 (j2 (i:=3) hN rfl (by walk_at "l") (j6 i7 (j6 p8 (qV 0) b3) (qV 2)))
   (o9 (j2 (i:=4) hN rfl (by walk_at "l") (R3 j0))
   (o9 (K5 PassesOwn.never rfl (Z8 T.b_range (d9 b3 j0)) (M8 (i:=5) hN rfl (by walk_at "l"))
    (o9 (j2 (i:=6) hN rfl (by walk_at "l") K7)
   (o9 (K5 PassesOwn.never rfl (Z8 T.b_range (d9 (qV 2) j0)) (M8 (i:=7) hN rfl (by walk_at "l"))
    (x6 (j2 (i:=6) hN rfl (by walk_at "l") (j6 (u9 K) (qV 6) (j4 (j3 K hu) (qV 1) (j6 i7 (j6 (u9 K) (j6 (u9 K) (j6 p8 (qV 0) b3) (qV 7)) (j6 op_mulY (j6 op_mulY b3 (qV 5)) (ip fO T.b_int Boot.«int» (d9 (gv (G5 K hr) (qV 7) (qV 3) (j5 _)) j0)))) b3) (fun _ _=>rfl))))))
   (x6 (um (qM PySem.F.plainAttrs_list PySem.F.slot_list_append PySem.F.type_list_append r6 K (qV 4) (d9 (qV 6) j0)))))))
   (x6 (A1 (qV 4)))))))),?_⟩
  walk_at "r"
  have hat0:0≤c/8 % (1+c % 8):=Int.emod_nonneg _ (by omega)
  have hat1:c/8 % (1+c % 8)<1+c % 8:=Int.emod_lt_of_pos _ (by omega)
  generalize hat:c/8 % (1+c % 8)=at_ at hat0 hat1⊢
  refine⟨c8 (by simp),fun lo no=>?_⟩
  obtain⟨H1,e1,f1,m1,_⟩:=b4 (o:= .lst _) no
  rw[e1]
  walk_at "r"
  refine z8 (by omega) (by omega) ?_
  refine C7 (n:=2) (fun i σ H'=>(∃v1 v2 v3,σ=[some (.int c),some (.str kSL),some (.int (1+c % 8)),some (.int at_),some (.ref lo),v1,v2,v3])∧Same H H'∧∃ss:List Str,H' lo=some (.lst (ss.map V.str))∧ss.length=i)
   ⟨⟨_,_,_,rfl⟩,m1,[],f1,rfl⟩ (fun i σ H' hi _=>by exact hi) ?_ ?_
  ·rintro i v σ H2' H2 hi ⟨⟨v1,v2,v3,rfl⟩,s2,ss,g2,hl⟩ ⟨rfl,rfl⟩
   walk_at "r"
   refine z8 (by omega) (by omega) ?_
   refine C7 (n:=(1+c % 8).toNat) (fun j σ H'=>(∃(b:Str) (v3:Option V),σ=[some (.int c),some (.str kSL),some (.int (1+c % 8)),some (.int at_),some (.ref lo),some (.int (0+(i:Int))),some (.str b),v3]∧b.length=j)∧H'=H2)
    ⟨⟨_,_,rfl,rfl⟩,rfl⟩ (fun i σ H' hi _=>by exact hi) ?_ ?_
   ·rintro j v σ H3 H4 hj ⟨⟨b,v3,rfl,hb⟩,rfl⟩ ⟨rfl,rfl⟩
    walk_at "r"
    refine .inr ⟨_,rfl,?_⟩
    generalize hm:(if decide (0+(j:Int)=at_)=true then(1:Int) else 0)=m
    have hm0:0≤m∧m≤1:=by subst hm;split<;>omega
    walk_at "r"
    refine E9 V9 (jB ((c/64+(0+(j:Int))+9*(0+(i:Int))*m) % 26) (by omega) (by omega)) ?_
    refine E7 (j:=⟨#[R4 ((c/64+(0+(j:Int))+9*(0+(i:Int))*m) % 26)]⟩) (c8 (by rw[ak];omega)) ?_
    walk_at "r"
    exact⟨⟨_,_,rfl,by rw[tF,ak];omega⟩,rfl⟩
   ·rintro σ H3 ⟨⟨b,v3,rfl,hb⟩,rfl⟩
    refine⟨Nat.le_refl _,?_⟩
    walk_at "r"
    refine⟨.inl ⟨rfl,_,SqL.of g2⟩,?_⟩
    walk_at "r"
    refine⟨lo,_,_,rfl,rfl,g2,V6 (by rw[List.length_map];omega),?_⟩
    refine⟨⟨_,_,_,rfl⟩,A0 s2 no,ss++[b],?_,by rw[List.length_append,hl];rfl⟩
    rw[d8,List.map_append];rfl
  ·rintro σ H2 ⟨⟨v1,v2,v3,rfl⟩,s2,ss,g2,hl⟩
   refine⟨Nat.le_refl _,?_⟩
   walk_at "r"
   exact k lo H2 ss no s2 g2 hl
def aQ (l:List Nat):Str:=⟨l.toArray⟩
theorem bp (l:List Nat)(c:Nat):aQ l++(⟨#[c]⟩:Str)=aQ (l++[c]):=by
 unfold aQ
 show(⟨l.toArray++ #[c]⟩:Str)=_
 congr 1
 simp
theorem iH {l m:List Nat}(h:aQ l=aQ m):l=m:=by
 have:=congrArg (fun s:Str=>s.cps.toList) h
 simpa [aQ] using this
theorem az (l:List Nat):(aQ l).length=l.length:=by
 show l.toArray.size=_
 simp
def P2 (s:Str)(i:Int):Nat:=s.cps.toList.getD i.toNat 0
theorem xq (s:Str)(i:Int)(h0:0≤i)(h1:i<s.cps.toList.length):cz s.cps.toList i=some (P2 s i):=by
 obtain⟨v,hv,hv2⟩:=aZ (xs:=s.cps.toList) h0 h1
 rw[hv]
 unfold P2
 rw[List.getD_eq_getElem?_getD,hv2];rfl
abbrev kSM:Str:=kSL++("0123456789.":Str)
theorem ox:∀i j:Nat,i<26→j<26→P2 kSL i=P2 kSL j→i=j:=by
 have h:∀i,i<26→∀j,j<26→P2 kSL (i:Nat)=P2 kSL (j:Nat)→i=j:=by decide+kernel
 exact fun i j hi hj=>h i hi j hj
theorem oZ:∀i j:Nat,i<37→j<37→P2 kSM i=P2 kSM j→i=j:=by
 have h:∀i,i<37→∀j,j<37→P2 kSM (i:Nat)=P2 kSM (j:Nat)→i=j:=by decide+kernel
 exact fun i j hi hj=>h i hi j hj
def Y1 (S:Str)(c at_:Int)(k i:Nat):List Nat:=(List.range i).map fun j:Nat=>if(j:Int)=at_ then P2 S ((c/240+5*(k:Int)) % (S.length:Int)) else R4 ((c/240+3*(j:Int)) % 26)
theorem er (S:Str)(c at_:Int)(k i:Nat):Y1 S c at_ k (i+1)=Y1 S c at_ k i++[if((i:Int))=at_ then P2 S ((c/240+5*(k:Int)) % (S.length:Int)) else R4 ((c/240+3*(i:Int)) % 26)]:=by
 unfold Y1
 rw[List.range_succ,List.map_append];rfl
theorem V5 (S:Str)(c at_:Int)(k i:Nat):(Y1 S c at_ k i).length=i:=by
 unfold Y1;rw[List.length_map,List.length_range]
def jm (S:Str)(c at_:Int)(n k:Nat):Str:=aQ (Y1 S c at_ k n)
theorem uq {S:Str}{c at_:Int}{n m:Nat}(hS:S=kSL∨S=kSM)(h0:0≤at_)(h1:at_<n)(hm:m≤26):((List.range m).map (jm S c at_ n)).Nodup:=dO fun i j hi hj e=>by
 have z:=iH e
 have z2:=congrArg (fun l=>l[at_.toNat]?) z
 unfold Y1 at z2
 simp only[List.getElem?_map,List.getElem?_range (show at_.toNat<n by omega),Option.map_some,Option.some.injEq] at z2
 rw[if_pos (by omega),if_pos (by omega)] at z2
 rcases hS with rfl|rfl
 ·have hl:(kSL.length:Int)=26:=by decide+kernel
  rw[hl] at z2
  have e1:(c/240+5*(i:Int)) % 26=(((c/240+5*(i:Int)) % 26).toNat:Int):=by omega
  have e2:(c/240+5*(j:Int)) % 26=(((c/240+5*(j:Int)) % 26).toNat:Int):=by omega
  rw[e1,e2] at z2
  have z3:=ox _ _ (by omega) (by omega) z2
  omega
 ·have hl:(kSM.length:Int)=37:=by decide+kernel
  rw[hl] at z2
  have e1:(c/240+5*(i:Int)) % 37=(((c/240+5*(i:Int)) % 37).toNat:Int):=by omega
  have e2:(c/240+5*(j:Int)) % 37=(((c/240+5*(j:Int)) % 37).toNat:Int):=by omega
  rw[e1,e2] at z2
  have z3:=oZ _ _ (by omega) (by omega) z2
  omega
theorem rW (i:Int)(h0:0≤i)(h1:i<26):R4 i∈kSL.cps.toList:=by
 have h:∀j:Nat,j<26→R4 (j:Int)∈kSL.cps.toList:=by decide+kernel
 obtain⟨j,rfl⟩:=Int.eq_ofNat_of_zero_le h0
 exact h j (by omega)
theorem yM:∀x∈kSM.cps.toList,x∈kNS.cps.toList:=by decide+kernel
theorem rX (s:Str)(i:Int)(h0:0≤i)(h1:i<s.cps.toList.length):P2 s i∈s.cps.toList:=by
 obtain⟨v,hv,hv2⟩:=aZ (xs:=s.cps.toList) h0 h1
 unfold P2
 rw[List.getD_eq_getElem?_getD,hv2]
 exact List.mem_of_getElem? hv2
theorem iS (l:List Nat):(aQ l).cps.toList=l:=by simp [aQ]
theorem mH {l:List Nat}{S:Str}{m:Int}(h1:1≤l.length)(h2:(l.length:Int)≤m)(h3:∀c∈l,c∈S.cps.toList):C0 (aQ l) S m=true:=by
 unfold C0 pB
 rw[az,iS,decide_eq_true (by omega),decide_eq_true h2,Bool.true_and,Bool.true_and,List.all_eq_true]
 exact fun c hc=>decide_eq_true (h3 c hc)
theorem uu {S:Str}{c at_:Int}{n k:Nat}(hS:S=kSL∨(S=kSM∧0<at_))(h0:0≤at_)(hn:1≤n)(h15:n≤24):X0 (jm S c at_ n k)=true:=by
 have key:∀j:Nat,(if(j:Int)=at_ then P2 S ((c/240+5*(k:Int)) % (S.length:Int)) else R4 ((c/240+3*(j:Int)) % 26))∈kNS.cps.toList∧(j=0→(if(j:Int)=at_ then P2 S ((c/240+5*(k:Int)) % (S.length:Int)) else R4 ((c/240+3*(j:Int)) % 26))∈kSL.cps.toList):=fun j=>by
  have hl:R4 ((c/240+3*(j:Int)) % 26)∈kSL.cps.toList:=rW _ (by omega) (by omega)
  by_cases e:(j:Int)=at_
  ·rw[if_pos e]
   rcases hS with rfl|⟨rfl,hp⟩
   ·have z:P2 kSL ((c/240+5*(k:Int)) % (kSL.length:Int))∈kSL.cps.toList:=rX _ _ (Int.emod_nonneg _ (by decide+kernel)) (by
     have:=Int.emod_lt_of_pos (c/240+5*(k:Int)) (show(0:Int)<(kSL.length:Int) by decide+kernel)
     rw[show(kSL.cps.toList.length:Int)=(kSL.length:Int) by decide+kernel];exact this)
    exact⟨vv _ z,fun _=>z⟩
   ·have z:P2 kSM ((c/240+5*(k:Int)) % (kSM.length:Int))∈kSM.cps.toList:=rX _ _ (Int.emod_nonneg _ (by decide+kernel)) (by
     have:=Int.emod_lt_of_pos (c/240+5*(k:Int)) (show(0:Int)<(kSM.length:Int) by decide+kernel)
     rw[show(kSM.cps.toList.length:Int)=(kSM.length:Int) by decide+kernel];exact this)
    exact⟨yM _ z,fun h=>by omega⟩
  ·rw[if_neg e]
   exact⟨vv _ hl,fun _=>hl⟩
 unfold X0
 rw[Bool.and_eq_true]
 refine⟨mH (by rw[V5];exact hn) (by rw[V5];omega) fun x hx=>?_,?_⟩
 ·obtain⟨j,_,rfl⟩:=List.mem_map.mp hx
  exact(key j).1
 ·unfold BJ jm
  rw[iS,decide_eq_true_eq]
  obtain⟨m,rfl⟩:∃m,n=m+1:=⟨n -1,by omega⟩
  unfold Y1
  rw[List.range_succ_eq_map,List.map_cons]
  exact(key 0).2 rfl
abbrev aw (P:Program)(w:World)(K:PySem.W.Frag)(mg:Str→Option Value)(base:Heap):Prop:=A2 P w K mg base j9 1 "_law_names" ["_law_cell","_law_many"] [] (Y0 K)
theorem fb {f:Addr}{fd:FuncData}(T:Txt K mg)(F:Fun K "_law_names" "_law_names" N9 f fd):j1 P w K mg base j9 1 f fd ["_law_cell","_law_many"] (Y0 K):=by
 refine F.ok sc__law_names (fun vs H Q E h=>?_) (fun cdv A outer s H vs Q E hr h=>?_)
 ·obtain⟨c,rfl,_⟩:=h
  rfl
 ·obtain⟨c,rfl,h0,k⟩:=h
  have hN:=sc__law_names.nd
  have hu:=q5 hr
  refine⟨_,QSs.r (o9 (j2 (i:=2) hN rfl (by walk_at "l") K7)
   (o9 (j2 (i:=3) hN rfl (by walk_at "l") (j6 (u9 K) b3 (j6 i7 (qV 0) b3)))
   (o9 (j2 (i:=4) hN rfl (by walk_at "l") (j6 i7 (j6 p8 (qV 0) b3) (qV 3)))
   (o9 (j2 (i:=5) hN rfl (by walk_at "l") (qV 2))
   (o9 (dm (q8 iP (qV 4) b3 (j5 _)) (x6 (j2 (i:=5) hN rfl (by walk_at "l") (j6 (u9 K) (qV 2) K7))) fR)
   (o9 (j2 (i:=6) hN rfl (by walk_at "l") (R3 j0))
   (o9 (K5 PassesOwn.never rfl (Z8 T.b_range (d9 (qV 1) j0)) (M8 (i:=7) hN rfl (by walk_at "l"))
    (o9 (j2 (i:=8) hN rfl (by walk_at "l") K7)
   (o9 (K5 PassesOwn.never rfl (Z8 T.b_range (d9 (qV 3) j0)) (M8 (i:=9) hN rfl (by walk_at "l"))
    (x6 (dm (q8 (G5 K hr) (qV 9) (qV 4) (j5 _)) (x6 (j2 (i:=8) hN rfl (by walk_at "l") (j6 (u9 K) (qV 8) (j4 (j3 K hu) (qV 5) (j6 i7 (j6 (u9 K) (j6 p8 (qV 0) b3) (j6 op_mulY b3 (qV 7))) (qB (C8 K P w) T.b_len Boot.«len» (d9 (qV 5) j0))) (fun _ _=>rfl))))) (x6 (j2 (i:=8) hN rfl (by walk_at "l") (j6 (u9 K) (qV 8) (j4 (j3 K hu) (qV 2) (j6 i7 (j6 (u9 K) (j6 p8 (qV 0) b3) (j6 op_mulY b3 (qV 9))) b3) (fun _ _=>rfl))))))))
   (x6 (um (qM PySem.F.plainAttrs_list PySem.F.slot_list_append PySem.F.type_list_append r6 K (qV 6) (d9 (qV 8) j0)))))))
   (x6 (A1 (qV 6)))))))))),?_⟩
  refine G7 ?_
  walk_at "e"
  refine G7 ?_
  walk_at "e"
  refine G7 ?_
  walk_at "e"
  refine G7 ?_
  walk_at "e"
  have hat0:0≤c/15 % (1+c % 15):=Int.emod_nonneg _ (by omega)
  have hat1:c/15 % (1+c % 15)<1+c % 15:=Int.emod_lt_of_pos _ (by omega)
  generalize hat:c/15 % (1+c % 15)=at_ at hat0 hat1⊢
  refine yH (fun σ H'=>H'=H∧∃S,(S=kSL∨(S=kSM∧0<at_))∧σ=[some (.int c),some (.int 12),some (.str kSL),some (.int (1+c % 15)),some (.int at_),some (.str S),none,none,none,none]) ?_ ?_
  ·rintro σ H0 ⟨rfl,S,hS',rfl⟩
   have hS:S=kSL∨S=kSM:=hS'.imp_right (·.1)
   have hSl:S.cps.toList.length=S.length:=by show _=S.cps.size;simp
   have hSz:0<S.length∧S.length≤37:=by rcases hS with rfl|rfl<;>decide+kernel
   refine G7 ?_
   walk_at "e"
   refine⟨c8 (by simp),fun lo no=>?_⟩
   obtain⟨H1,e1,f1,m1,_⟩:=b4 (o:= .lst _) no
   rw[e1]
   walk_at "e"
   refine G7 ?_
   walk_at "e"
   refine z8 (by omega) (by omega) ?_
   refine C7 (n:=12) (fun i σ H'=>(∃v1 v2 v3,σ=[some (.int c),some (.int 12),some (.str kSL),some (.int (1+c % 15)),some (.int at_),some (.str S),some (.ref lo),v1,v2,v3])∧Same H0 H'∧H' lo=some (.lst (((List.range i).map (jm S c at_ (1+c % 15).toNat)).map V.str)))
    ⟨⟨_,_,_,rfl⟩,m1,f1⟩ (fun i σ H' hi _=>by exact hi) ?_ ?_
   ·rintro i v σ H2' H2 hi ⟨⟨v1,v2,v3,rfl⟩,s2,g2⟩ ⟨rfl,rfl⟩
    refine G7 ?_
    walk_at "e"
    refine G7 ?_
    walk_at "e"
    refine z8 (by omega) (by omega) ?_
    refine C7 (n:=(1+c % 15).toNat) (fun j σ H'=>(∃v3,σ=[some (.int c),some (.int 12),some (.str kSL),some (.int (1+c % 15)),some (.int at_),some (.str S),some (.ref lo),some (.int (0+(i:Int))),some (.str (aQ (Y1 S c at_ i j))),v3])∧H'=H2)
     ⟨⟨_,rfl⟩,rfl⟩ (fun i σ H' hi _=>by exact hi) ?_ ?_
    ·rintro j v σ H3 H4 hj ⟨⟨v3,rfl⟩,rfl⟩ ⟨rfl,rfl⟩
     have hnl:=az (Y1 S c at_ i j)
     rw[V5] at hnl
     walk_at "e"
     refine z6 (fun hb=>?_) (fun hb=>?_)
     ·walk_at "e"
      refine B4 (bD (c8 (by omega)) ?_)
      walk_at "e"
      have q0:0≤(c/240+5*(0+(i:Int))) % (S.length:Int):=Int.emod_nonneg _ (by omega)
      have q1:(c/240+5*(0+(i:Int))) % (S.length:Int)<(S.length:Int):=Int.emod_lt_of_pos _ (by omega)
      refine E9 (c8 (by omega)) (xq S _ q0 (by rw[hSl];exact q1)) ?_
      refine E7 (j:=⟨#[P2 S ((c/240+5*(0+(i:Int))) % (S.length:Int))]⟩) (c8 (by rw[ak];omega)) ?_
      walk_at "e"
      refine⟨⟨some (.int (0+(j:Int))),?_⟩,rfl⟩
      rw[er,if_pos (by omega),←bp,Int.zero_add];rfl
     ·walk_at "e"
      refine E9 V9 (jB ((c/240+3*(0+(j:Int))) % 26) (by omega) (by omega)) ?_
      refine E7 (j:=⟨#[R4 ((c/240+3*(0+(j:Int))) % 26)]⟩) (c8 (by rw[ak];omega)) ?_
      walk_at "e"
      refine⟨⟨some (.int (0+(j:Int))),?_⟩,rfl⟩
      rw[er,if_neg (by omega),←bp,Int.zero_add (j:Int)];rfl
    ·rintro σ H3 ⟨⟨v3,rfl⟩,rfl⟩
     refine⟨Nat.le_refl _,?_⟩
     walk_at "e"
     refine⟨.inl ⟨rfl,_,SqL.of g2⟩,?_⟩
     walk_at "e"
     refine⟨lo,_,_,rfl,rfl,g2,V6 (by rw[List.length_map,List.length_map,List.length_range];omega),?_⟩
     refine⟨⟨_,_,_,rfl⟩,A0 s2 no,?_⟩
     rw[d8,List.range_succ,List.map_append,List.map_append];rfl
   ·rintro σ H2 ⟨⟨v1,v2,v3,rfl⟩,s2,g2⟩
    refine⟨Nat.le_refl _,?_⟩
    walk_at "e"
    refine k lo H2 _ no s2 g2 ⟨by rw[List.length_map,List.length_range],uq hS hat0 (by omega) (by omega),⟨(1+c % 15).toNat,by omega,fun s hs=>?_⟩,fun s hs=>?_⟩
    ·obtain⟨i,_,rfl⟩:=List.mem_map.mp hs
     unfold jm
     rw[az,V5]
    ·obtain⟨i,_,rfl⟩:=List.mem_map.mp hs
     exact uu hS' hat0 (by omega) (by omega)
  ·intro nx hn
   walk_at "e"
   refine z6 (fun h=>?_) (fun h=>?_)
   ·walk_at "e"
    refine E7 (by decide+kernel) ?_
    walk_at "e"
    exact hn _ _ ⟨rfl,kSM,.inr ⟨rfl,h⟩,rfl⟩
   ·walk_at "e"
    exact hn _ _ ⟨rfl,kSL,.inl rfl,rfl⟩
def aI (c at_:Int)(k i:Nat):List Nat:=(List.range i).map fun j:Nat=>R4 ((c/64+3*(j:Int)+5*(k:Int)*(if(j:Int)=at_ then 1 else 0)) % 26)
theorem lH (c at_:Int)(k i:Nat):aI c at_ k (i+1)=aI c at_ k i++[R4 ((c/64+3*(i:Int)+5*(k:Int)*(if(i:Int)=at_ then 1 else 0)) % 26)]:=by
 unfold aI
 rw[List.range_succ,List.map_append];rfl
theorem br (c at_:Int)(k i:Nat):(aI c at_ k i).length=i:=by
 unfold aI;rw[List.length_map,List.length_range]
def rj (c at_:Int)(n k:Nat):Str:=aQ (aI c at_ k n)
theorem tK {c at_:Int}{n:Nat}(h0:0≤at_)(h1:at_<n):((List.range 10).map (rj c at_ n)).Nodup:=dO fun i j hi hj e=>by
 have z:=iH e
 have z2:=congrArg (fun l=>l[at_.toNat]?) z
 unfold aI at z2
 simp only[List.getElem?_map,List.getElem?_range (show at_.toNat<n by omega),Option.map_some,Option.some.injEq] at z2
 rw[if_pos (by omega)] at z2
 generalize c/64+3*((at_.toNat:Nat):Int)=y at z2
 have e1:(y+5*(i:Int)*1) % 26=(((y+5*(i:Int)*1) % 26).toNat:Int):=by omega
 have e2:(y+5*(j:Int)*1) % 26=(((y+5*(j:Int)*1) % 26).toNat:Int):=by omega
 rw[e1,e2] at z2
 have z3:=qq _ _ (by omega) (by omega) z2
 omega
theorem uD {c at_:Int}{n k:Nat}(hn:1≤n)(h8:n≤8):Z0 (rj c at_ n k)=true:=mH (by rw[br];exact hn) (by rw[br];omega) fun x hx=>by
 obtain⟨j,_,rfl⟩:=List.mem_map.mp hx
 exact rW _ (by omega) (by omega)
abbrev aO (P:Program)(w:World)(K:PySem.W.Frag)(mg:Str→Option Value)(base:Heap):Prop:=A2 P w K mg base j9 1 "_law_words" ["_law_cell","_law_many"] [] (X3 K)
theorem eU {f:Addr}{fd:FuncData}(T:Txt K mg)(F:Fun K "_law_words" "_law_words" Q0 f fd):j1 P w K mg base j9 1 f fd ["_law_cell","_law_many"] (X3 K):=by
 refine F.ok sc__law_words (fun vs H Q E h=>?_) (fun cdv A outer s H vs Q E hr h=>?_)
 ·obtain⟨c,rfl,_⟩:=h
  rfl
 ·obtain⟨c,rfl,h0,k⟩:=h
  have hN:=sc__law_words.nd
  have hu:=q5 hr
  refine⟨_,QSs.r (o9 (j2 (i:=2) hN rfl (by walk_at "l") K7)
   (o9 (j2 (i:=3) hN rfl (by walk_at "l") (j6 (u9 K) b3 (j6 i7 (qV 0) b3)))
   (o9 (j2 (i:=4) hN rfl (by walk_at "l") (j6 i7 (j6 p8 (qV 0) b3) (qV 3)))
   (o9 (j2 (i:=5) hN rfl (by walk_at "l") (R3 j0))
   (o9 (K5 PassesOwn.never rfl (Z8 T.b_range (d9 (qV 1) j0)) (M8 (i:=6) hN rfl (by walk_at "l"))
    (o9 (j2 (i:=7) hN rfl (by walk_at "l") K7)
   (o9 (K5 PassesOwn.never rfl (Z8 T.b_range (d9 (qV 3) j0)) (M8 (i:=8) hN rfl (by walk_at "l"))
    (o9 (j2 (i:=9) hN rfl (by walk_at "l") (j6 (u9 K) (j6 (u9 K) (j6 p8 (qV 0) b3) (j6 op_mulY b3 (qV 8))) (j6 op_mulY (j6 op_mulY b3 (qV 6)) (ip fO T.b_int Boot.«int» (d9 (gv (G5 K hr) (qV 8) (qV 4) (j5 _)) j0)))))
   (x6 (j2 (i:=7) hN rfl (by walk_at "l") (j6 (u9 K) (qV 7) (j4 (j3 K hu) (qV 2) (j6 i7 (qV 9) b3) (fun _ _=>rfl)))))))
   (x6 (um (qM PySem.F.plainAttrs_list PySem.F.slot_list_append PySem.F.type_list_append r6 K (qV 5) (d9 (qV 7) j0)))))))
   (x6 (A1 (qV 5)))))))),?_⟩
  walk_at "r"
  have hat0:0≤c/8 % (1+c % 8):=Int.emod_nonneg _ (by omega)
  have hat1:c/8 % (1+c % 8)<1+c % 8:=Int.emod_lt_of_pos _ (by omega)
  generalize hat:c/8 % (1+c % 8)=at_ at hat0 hat1⊢
  refine⟨c8 (by simp),fun lo no=>?_⟩
  obtain⟨H1,e1,f1,m1,_⟩:=b4 (o:= .lst _) no
  rw[e1]
  walk_at "r"
  refine z8 (by omega) (by omega) ?_
  refine C7 (n:=10) (fun i σ H'=>(∃v1 v2 v3 v4,σ=[some (.int c),some (.int 10),some (.str kSL),some (.int (1+c % 8)),some (.int at_),some (.ref lo),v1,v2,v3,v4])∧Same H H'∧H' lo=some (.lst (((List.range i).map (rj c at_ (1+c % 8).toNat)).map V.str)))
   ⟨⟨_,_,_,_,rfl⟩,m1,f1⟩ (fun i σ H' hi _=>by exact hi) ?_ ?_
  ·rintro i v σ H2' H2 hi ⟨⟨v1,v2,v3,v4,rfl⟩,s2,g2⟩ ⟨rfl,rfl⟩
   walk_at "r"
   refine z8 (by omega) (by omega) ?_
   refine C7 (n:=(1+c % 8).toNat) (fun j σ H'=>(∃v3 v4,σ=[some (.int c),some (.int 10),some (.str kSL),some (.int (1+c % 8)),some (.int at_),some (.ref lo),some (.int (0+(i:Int))),some (.str (aQ (aI c at_ i j))),v3,v4])∧H'=H2)
    ⟨⟨_,_,rfl⟩,rfl⟩ (fun i σ H' hi _=>by exact hi) ?_ ?_
   ·rintro j v σ H3 H4 hj ⟨⟨v3,v4,rfl⟩,rfl⟩ ⟨rfl,rfl⟩
    have hnl:=az (aI c at_ i j)
    rw[br] at hnl
    walk_at "r"
    refine .inr ⟨_,rfl,?_⟩
    generalize hm:(if decide (0+(j:Int)=at_)=true then(1:Int) else 0)=m
    have hm0:0≤m∧m≤1:=by subst hm;split<;>omega
    have hm1:(if(j:Int)=at_ then(1:Int) else 0)=m:=by rw[←hm,Int.zero_add];simp
    walk_at "r"
    refine E9 V9 (jB ((c/64+3*(0+(j:Int))+5*(0+(i:Int))*m) % 26) (by omega) (by omega)) ?_
    refine E7 (j:=⟨#[R4 ((c/64+3*(0+(j:Int))+5*(0+(i:Int))*m) % 26)]⟩) (c8 (by rw[ak];omega)) ?_
    walk_at "r"
    refine⟨⟨some (.int (0+(j:Int))),some (.int (c/64+3*(0+(j:Int))+5*(0+(i:Int))*m)),?_⟩,rfl⟩
    rw[lH,hm1,←bp,Int.zero_add (j:Int),Int.zero_add (i:Int)];rfl
   ·rintro σ H3 ⟨⟨v3,v4,rfl⟩,rfl⟩
    refine⟨Nat.le_refl _,?_⟩
    walk_at "r"
    refine⟨.inl ⟨rfl,_,SqL.of g2⟩,?_⟩
    walk_at "r"
    refine⟨lo,_,_,rfl,rfl,g2,V6 (by rw[List.length_map,List.length_map,List.length_range];omega),?_⟩
    refine⟨⟨_,_,_,_,rfl⟩,A0 s2 no,?_⟩
    rw[d8,List.range_succ,List.map_append,List.map_append];rfl
  ·rintro σ H2 ⟨⟨v1,v2,v3,v4,rfl⟩,s2,g2⟩
   refine⟨Nat.le_refl _,?_⟩
   walk_at "r"
   refine k lo H2 _ no s2 g2 ⟨by rw[List.length_map,List.length_range],tK hat0 (by omega),fun s hs=>?_⟩
   obtain⟨i,_,rfl⟩:=List.mem_map.mp hs
   exact uD (by omega) (by omega)
structure sW (ds:List Int):Prop where
 len:ds.length=26
 d:∀x∈ds,0≤x∧x<7
def S9 (K:PySem.W.Frag):Sp:=fun vs H Q _=>∃c:Int,vs=[.int c,.int 26]∧0≤c∧c<10 ^ 60∧∀(p:Addr) (H':Hp) (ds:List Int),H p=none→Same H H'→H' p=some (.lst (ds.map V.int))→sW ds→Q (.ref p) H'
abbrev Y7 (P:Program)(w:World)(K:PySem.W.Frag)(mg:Str→Option Value)(base:Heap):Prop:=A2 P w K mg base j9 1 "_law_digits" ["_law_cell","_law_many"] [] (S9 K)
theorem dE {f:Addr}{fd:FuncData}(T:Txt K mg)(F:Fun K "_law_digits" "_law_digits" J6 f fd):j1 P w K mg base j9 1 f fd ["_law_cell","_law_many"] (S9 K):=by
 refine F.ok sc__law_digits (fun vs H Q E h=>?_) (fun cdv A outer s H vs Q E hr h=>?_)
 ·obtain⟨c,rfl,_⟩:=h
  rfl
 ·obtain⟨c,rfl,h0,h1,k⟩:=h
  have hN:=sc__law_digits.nd
  have hu:=q5 hr
  refine⟨_,QSs.r (o9 (j2 (i:=2) hN rfl (by walk_at "l") (j6 i7 (j6 sZ (j6 (u9 K) (qV 0) b3) (j6 aW b3 b3)) (j6 (u9 K) (j6 aW b3 b3) b3)))
   (o9 (j2 (i:=3) hN rfl (by walk_at "l") (R3 j0))
   (o9 (K5 PassesOwn.never rfl (Z8 T.b_range (d9 (qV 1) j0)) (M8 (i:=4) hN rfl (by walk_at "l"))
    (o9 (um (qM PySem.F.plainAttrs_list PySem.F.slot_list_append PySem.F.type_list_append r6 K (qV 3) (d9 (j6 i7 (qV 2) b3) j0)))
   (x6 (j2 (i:=2) hN rfl (by walk_at "l") (j6 p8 (qV 2) b3)))))
   (x6 (A1 (qV 3)))))),?_⟩
  walk_at "r"
  refine vK (uh ?_ (by decide+kernel)) ?_
  ·have h2:(10:Int) ^ 60+3<2 ^ 1000:=by decide+kernel
   have h3:((c+3).natAbs:Int)<((2 ^ 1000:Nat):Int):=by
    rw[Int.natAbs_of_nonneg (by omega)]
    exact Int.lt_trans (Int.add_lt_add_right h1 3) h2
   exact Int.ofNat_lt.mp h3
  walk_at "r"
  try refine AK (by decide+kernel) ?_
  have q0:0≤(c+3)*982451653 ^ Int.toNat 3 % (10 ^ Int.toNat 40+121):=Int.emod_nonneg _ (by decide+kernel)
  generalize (c+3)*982451653 ^ Int.toNat 3 % (10 ^ Int.toNat 40+121)=m0 at q0⊢
  walk_at "r"
  refine⟨c8 (by simp),fun lo no=>?_⟩
  obtain⟨H1,e1,f1,m1,_⟩:=b4 (o:= .lst _) no
  rw[e1]
  walk_at "r"
  refine z8 (by omega) (by omega) ?_
  refine C7 (n:=26) (fun i σ H'=>(∃(m:Int) (v:Option V),σ=[some (.int c),some (.int 26),some (.int m),some (.ref lo),v]∧0≤m)∧Same H H'∧∃ds:List Int,H' lo=some (.lst (ds.map V.int))∧ds.length=i∧∀x∈ds,0≤x∧x<7)
   ⟨⟨_,_,rfl,q0⟩,m1,[],f1,rfl,fun _ h=>nomatch h⟩ (fun i σ H' hi _=>by exact hi) ?_ ?_
  ·rintro i v σ H2' H2 hi ⟨⟨m,v',rfl,hm⟩,s2,ds,g2,hl,hx⟩ ⟨rfl,rfl⟩
   walk_at "r"
   refine⟨.inl ⟨rfl,_,SqL.of g2⟩,?_⟩
   walk_at "r"
   refine⟨lo,_,_,rfl,rfl,g2,V6 (by rw[List.length_map];omega),?_⟩
   walk_at "r"
   refine⟨⟨m/7,_,rfl,by omega⟩,A0 s2 no,ds++[m % 7],?_,by rw[List.length_append,hl];rfl,fun x hx'=>?_⟩
   ·rw[d8,List.map_append];rfl
   ·rcases List.mem_append.mp hx' with z|z
    ·exact hx x z
    ·rw[List.mem_singleton.mp z];omega
  ·rintro σ H2 ⟨⟨m,v',rfl,hm⟩,s2,ds,g2,hl,hx⟩
   refine⟨Nat.le_refl _,?_⟩
   walk_at "r"
   exact k lo H2 ds no s2 g2 ⟨hl,hx⟩
def bN (K:PySem.W.Frag):Sp:=fun vs H Q _=>∃(a b c:Addr) (cs:List Int) (ss ks:List Str),vs=[.ref a,.ref b,.ref c]∧SqL K H a (cs.map V.int)∧SqL K H b (ss.map V.str)∧SqL K H c (ks.map V.str)∧cs.length≤7∧ss.length=12∧ks.length=2∧ss.Nodup∧(∀s∈ss,s.length≤100)∧∀(a p q:Addr) (kvs:List (h9×V)) (W:G3) (H':Hp),Same H H'→WebIs 7 K H' a p q kvs W→(∀n∈i6 W,n∈ss.take 7)→Q (.ref a) H'
theorem ni {α:Type}{l:List α}{i j:Nat}{x:α}(h:i≤j)(hx:x∈l.take i):x∈l.take j:=by
 rw[show l.take i=(l.take j).take i by rw[List.take_take,Nat.min_eq_left h]] at hx
 exact List.mem_of_mem_take hx
abbrev eO (P:Program)(w:World)(K:PySem.W.Frag)(mg:Str→Option Value)(base:Heap):Prop:=A2 P w K mg base j9 1 "_law_web" ["_law_cells_here","_law_names_here","_law_kinds_here"] [] (bN K)
theorem iW {f:Addr}{fd:FuncData}(T:Txt K mg)(F:Fun K "_law_web" "_law_web" ae f fd):j1 P w K mg base j9 1 f fd ["_law_cells_here","_law_names_here","_law_kinds_here"] (bN K):=by
 refine F.ok sc__law_web (fun vs H Q E h=>?_) (fun cdv A outer s H vs Q E hr h=>?_)
 ·obtain⟨a,b,c,cs,ss,ks,rfl,_⟩:=h
  rfl
 ·obtain⟨a,b,c,cs,ss,ks,rfl,hA,hB,hC,hn,hl,hk,hkl,hsl,k⟩:=h
  have hN:=sc__law_web.nd
  have hu:=q5 hr
  refine⟨_,QSs.r (o9 (j2 (i:=3) hN rfl (by walk_at "l") vg)
   (o9 (j2 (i:=4) hN rfl (by walk_at "l") vg)
   (o9 (K5 PassesOwn.never rfl (Z8 T.b_range (d9 (qB (C8 K P w) T.b_len Boot.«len» (d9 (qV 0) j0)) j0)) (M8 (i:=5) hN rfl (by walk_at "l"))
    (o9 (j2 (i:=6) hN rfl (by walk_at "l") (j4 (j3 K hu) (qV 0) (qV 5) (fun _ _=>rfl)))
   (o9 (j2 (i:=7) hN rfl (by walk_at "l") (qB (C5 K rfl) T.b_sorted Boot.«sorted» (d9 (qV 3) j0)))
   (x6 (dm (tY (uX (q8 (G5 K hr) (qB (C8 K P w) T.b_len Boot.«len» (d9 (qV 7) j0)) b3 (j5 _)) (pU (tY (bW (q8 N3 (j6 i7 (qV 6) b3) b3 (j5 _)) (bx (q8 N3 (qB (C8 K P w) T.b_len Boot.«len» (d9 (qV 7) j0)) b3 (j5 _)))))))) (x6 (aa (j4 (j3 K hu) (qV 2) (j6 p8 (j6 i7 (j6 p8 (qV 6) b3) b3) b3) (fun _ _=>rfl)) (jM (qV 3) (j4 (j3 K hu) (qV 1) (qV 5) (fun _ _=>rfl)) (p6 P w hu)))) (x6 (dm (q8 N3 (qB (C8 K P w) T.b_len Boot.«len» (d9 (qV 4) j0)) b3 (j5 _)) (o9 (j2 (i:=8) hN rfl (by walk_at "l") (j4 (j3 K hu) (qV 7) (j6 i7 (j6 p8 (qV 6) b3) (qB (C8 K P w) T.b_len Boot.«len» (d9 (qV 7) j0))) (fun _ _=>rfl)))
   (x6 (aa (R5 (d9 (j4 (j3 K hu) (qV 2) (j6 p8 (j6 i7 (j6 p8 (qV 6) b3) b3) b3) (fun _ _=>rfl)) (d9 (qV 8) (d9 (j4 (j3 K hu) (qV 7) (j6 i7 (j6 p8 (qV 6) b3) (qB (C8 K P w) T.b_len Boot.«len» (d9 (qV 7) j0))) (fun _ _=>rfl)) j0)))) (jM (qV 4) (j4 (j3 K hu) (qV 1) (qV 5) (fun _ _=>rfl)) (p6 P w hu))))) fR)))))))
   (x6 (A1 (R5 (d9 (qV 3) (d9 (qV 4) j0)))))))),?_⟩
  walk_at "r"
  intro p np
  obtain⟨H1,e1,f1,m1,o1⟩:=b4 (o:= .dK []) np
  rw[e1]
  walk_at "r"
  intro q nq
  obtain⟨H2,e2,f2,m2,o2⟩:=b4 (o:= .dK []) nq
  rw[e2]
  have hpq:p≠q:=fun z=>by rw[←z,f1] at nq;cases nq
  have nq0:H q=none:=m1.free nq
  walk_at "r"
  refine B4 (u4 ((m1.trans m2).seq hA) ?_)
  rw[List.length_map]
  refine z8 (by omega) (by omega) ?_
  refine C7 (n:=cs.length) (fun i σ H'=>∃(pts:List (Str×Str)) (kvs:List (h9×V)) (ts:List (Str×M9)) (v1 v2 v3 v4:Option V),σ=[some (.ref a),some (.ref b),some (.ref c),some (.ref p),some (.ref q),v1,v2,v3,v4]∧Same H H'∧H' p=some (.dK (x5 pts))∧H' q=some (.dK kvs)∧TiesIs K H' kvs ts∧(pts.map (·.1)++ts.map (·.1)).Nodup∧(∀x∈pts.map (·.1)++ts.map (·.1),x∈ss.take i)∧(pts.length+ts.length≤i)∧∀x∈ts,x.2.2.1∈pts.map (·.1)∧x.2.2.2∈pts.map (·.1))
   ⟨[],[],[],_,_,_,_,rfl,m1.trans m2,m2 _ _ f1,f2,.nil,List.nodup_nil,(fun _ h=>nomatch h),Nat.le_refl _,fun _ h=>nomatch h⟩ (fun i σ H' hi _=>by show i<_;omega) ?_ ?_
  ·rintro i v σ H3' H3 hi ⟨pts,kvs,ts,v1,v2,v3,v4,rfl,s3,g3,t3,w3,d1,d2,l1,l2⟩ ⟨rfl,rfl⟩
   obtain⟨nm,hnm,hnm'⟩:∃nm,(ss.map V.str)[i]?=some (.str nm)∧ss[i]?=some nm:=⟨ss[i],by rw[List.getElem?_map,List.getElem?_eq_getElem (by omega)];rfl,List.getElem?_eq_getElem (by omega)⟩
   have hci:(cs.map V.int)[i]?=some (.int cs[i]):=by rw[List.getElem?_map,List.getElem?_eq_getElem hi];rfl
   have e7:ss.take (i+1)=ss.take i++[nm]:=by rw[List.take_succ,hnm'];rfl
   have nin:nm∉ss.take i:=fun m=>by
    have z:(ss.take (i+1)).Nodup:=hkl.sublist (List.take_sublist _ _)
    rw[e7] at z
    exact(List.nodup_append.mp z).2.2 nm m nm (by simp) rfl
   have fresh:nm∉pts.map (·.1)++ts.map (·.1):=fun m=>nin (d2 nm m)
   have sub1:∀x∈pts.map (·.1)++ts.map (·.1),x∈ss.take (i+1):=fun x hx=>by rw[e7];exact List.mem_append_left _ (d2 x hx)
   walk_at "r"
   refine b5 (xs:=cs.map V.int) (s3.seq hA) (i:=0+(i:Int)) (by rw[Int.zero_add];exact b6 (j:=i) hci) ?_
   walk_at "r"
   refine p9 (ss:=pts.map (·.1)) (.inl g3) (by rw[A4,t5]) (by rw[List.length_map];omega) (fun s1 a1 a2 l1' n1=>?_)
   obtain⟨H6,e6,f6,m6,_⟩:=b4 (o:= .lst _) n1
   rw[e6]
   have s6:=s3.trans m6
   have g6:=m6 _ _ g3
   have t6:=m6 _ _ t3
   have w6:=w3.mono m6.le
   have ha1l:=a1.length_eq
   rw[List.length_map] at ha1l
   walk_at "r"
   refine B4 (u4 (SqL.of f6) ?_)
   rw[List.length_map,ha1l]
   walk_at "r"
   refine z6 (fun hz=>?_) (fun hz=>?_)
   ·walk_at "r"
    obtain⟨kd,hkd,_⟩:=k8 (ss:=ks) (i:=cs[i]/5 % 3/2) (by omega) (by omega)
    refine b5 (s6.seq hC) hkd ?_
    walk_at "r"
    refine b5 (xs:=ss.map V.str) (s6.seq hB) (i:=0+(i:Int)) (by rw[Int.zero_add];exact b6 (j:=i) hnm) ?_
    refine D9 (k9 (k:=Sum.inr nm) g6 (c8 (by unfold x5;rw[List.length_map];omega)) ?_)
    have ep:B6 (x5 pts) (Sum.inr nm:h9) (.str kd)=x5 (pts++[(nm,kd)]):=by
     rw[F5 _ (B9 (by rw[A4,←t5];exact fun m=>fresh (List.mem_append_left _ (N6 m))))]
     unfold x5;rw[List.map_append];rfl
    refine⟨pts++[(nm,kd)],kvs,ts,_,_,_,_,rfl,A0 s6 np,by rw[d8,ep],by rw[b7 (Ne.symm hpq)];exact t6,Paired.imp' (fun _ _ z=>O9 g6 z) w6,pD d1 fresh,mS sub1 (by rw[e7];simp),by rw[List.length_append,List.length_singleton];omega,fun x hx=>?_⟩
    rw[List.map_append]
    exact⟨List.mem_append_left _ (l2 x hx).1,List.mem_append_left _ (l2 x hx).2⟩
   ·walk_at "r"
    refine z6 (fun h3=>?_) (fun h3=>?_)
    ·walk_at "r"
     refine B4 (u4 (SqL.of f6) ?_)
     rw[List.length_map,ha1l]
     walk_at "r"
     refine z6 (fun h4=>?_) (fun h4=>?_)
     ·walk_at "r"
      obtain⟨kd,hkd,_⟩:=k8 (ss:=ks) (i:=cs[i]/5 % 3/2) (by omega) (by omega)
      refine b5 (s6.seq hC) hkd ?_
      walk_at "r"
      refine b5 (xs:=ss.map V.str) (s6.seq hB) (i:=0+(i:Int)) (by rw[Int.zero_add];exact b6 (j:=i) hnm) ?_
      refine D9 (k9 (k:=Sum.inr nm) g6 (c8 (by unfold x5;rw[List.length_map];omega)) ?_)
      have ep:B6 (x5 pts) (Sum.inr nm:h9) (.str kd)=x5 (pts++[(nm,kd)]):=by
       rw[F5 _ (B9 (by rw[A4,←t5];exact fun m=>fresh (List.mem_append_left _ (N6 m))))]
       unfold x5;rw[List.map_append];rfl
      refine⟨pts++[(nm,kd)],kvs,ts,_,_,_,_,rfl,A0 s6 np,by rw[d8,ep],by rw[b7 (Ne.symm hpq)];exact t6,Paired.imp' (fun _ _ z=>O9 g6 z) w6,pD d1 fresh,mS sub1 (by rw[e7];simp),by rw[List.length_append,List.length_singleton];omega,fun x hx=>?_⟩
      rw[List.map_append]
      exact⟨List.mem_append_left _ (l2 x hx).1,List.mem_append_left _ (l2 x hx).2⟩
     ·have hpos:0<pts.length:=by omega
      walk_at "r"
      refine B4 (D2 (.inl t6) ?_)
      walk_at "r"
      refine z6 (fun h5=>?_) (fun h5=>?_)
      ·walk_at "r"
       refine B4 (u4 (SqL.of f6) ?_)
       rw[List.length_map,ha1l]
       walk_at "r"
       obtain⟨o1,ho1,hm1⟩:=k8 (ss:=s1) (i:=cs[i]/15 % (pts.length:Int)) (Int.emod_nonneg _ (by omega)) (by rw[ha1l];exact Int.emod_lt_of_pos _ (by omega))
       refine b5 (SqL.of f6) ho1 ?_
       walk_at "r"
       obtain⟨kd,hkd,_⟩:=k8 (ss:=ks) (i:=cs[i]/5 % 3/2) (by omega) (by omega)
       refine b5 (s6.seq hC) hkd ?_
       walk_at "r"
       refine B4 (u4 (SqL.of f6) ?_)
       rw[List.length_map,ha1l]
       walk_at "r"
       obtain⟨o2,ho2,hm2⟩:=k8 (ss:=s1) (i:=cs[i]/150 % (pts.length:Int)) (Int.emod_nonneg _ (by omega)) (by rw[ha1l];exact Int.emod_lt_of_pos _ (by omega))
       refine b5 (SqL.of f6) ho2 ?_
       walk_at "r"
       refine⟨c8 (by simp),fun l9 n9=>?_⟩
       obtain⟨H9,e9,f9,m9,_⟩:=b4 (o:= .tup _) n9
       rw[e9]
       have s9:=s6.trans m9
       have g9:=m9 _ _ g6
       have t9:=m9 _ _ t6
       have w9:=w6.mono m9.le
       walk_at "r"
       refine b5 (xs:=ss.map V.str) (s9.seq hB) (i:=0+(i:Int)) (by rw[Int.zero_add];exact b6 (j:=i) hnm) ?_
       refine D9 (k9 (k:=Sum.inr nm) t9 (c8 (by have z:=w9.length;omega)) ?_)
       have ek:B6 kvs (Sum.inr nm:h9) (.ref l9)=kvs++[(Sum.inr nm,.ref l9)]:=F5 _ (B9 (by rw[w9.keys,←t5];exact fun m=>fresh (List.mem_append_right _ (N6 m))))
       refine⟨pts,_,ts++[(nm,(kd,o1,o2))],_,_,_,_,rfl,A0 s9 nq0,by rw[b7 hpq];exact g9,d8,?_,qm d1 fresh,mP sub1 (by rw[e7];simp),by rw[List.length_append,List.length_singleton];omega,fun x hx=>?_⟩
       ·rw[ek]
        exact A5 (Paired.imp' (fun _ _ z=>O9 t9 z) w9) (O9 t9 ⟨rfl,l9,rfl,SqT.of f9⟩)
       ·rcases List.mem_append.mp hx with h'|h'
        ·exact l2 x h'
        ·rw[List.mem_singleton.mp h'];exact⟨a1.mem_iff.mp hm1,a1.mem_iff.mp hm2⟩
      ·walk_at "r"
       exact⟨pts,kvs,ts,_,_,_,_,rfl,s6,g6,t6,w6,d1,sub1,by omega,l2⟩
    ·have hpos:0<pts.length:=by omega
     walk_at "r"
     refine B4 (D2 (.inl t6) ?_)
     walk_at "r"
     refine z6 (fun h5=>?_) (fun h5=>?_)
     ·walk_at "r"
      refine B4 (u4 (SqL.of f6) ?_)
      rw[List.length_map,ha1l]
      walk_at "r"
      obtain⟨o1,ho1,hm1⟩:=k8 (ss:=s1) (i:=cs[i]/15 % (pts.length:Int)) (Int.emod_nonneg _ (by omega)) (by rw[ha1l];exact Int.emod_lt_of_pos _ (by omega))
      refine b5 (SqL.of f6) ho1 ?_
      walk_at "r"
      obtain⟨kd,hkd,_⟩:=k8 (ss:=ks) (i:=cs[i]/5 % 3/2) (by omega) (by omega)
      refine b5 (s6.seq hC) hkd ?_
      walk_at "r"
      refine B4 (u4 (SqL.of f6) ?_)
      rw[List.length_map,ha1l]
      walk_at "r"
      obtain⟨o2,ho2,hm2⟩:=k8 (ss:=s1) (i:=cs[i]/150 % (pts.length:Int)) (Int.emod_nonneg _ (by omega)) (by rw[ha1l];exact Int.emod_lt_of_pos _ (by omega))
      refine b5 (SqL.of f6) ho2 ?_
      walk_at "r"
      refine⟨c8 (by simp),fun l9 n9=>?_⟩
      obtain⟨H9,e9,f9,m9,_⟩:=b4 (o:= .tup _) n9
      rw[e9]
      have s9:=s6.trans m9
      have g9:=m9 _ _ g6
      have t9:=m9 _ _ t6
      have w9:=w6.mono m9.le
      walk_at "r"
      refine b5 (xs:=ss.map V.str) (s9.seq hB) (i:=0+(i:Int)) (by rw[Int.zero_add];exact b6 (j:=i) hnm) ?_
      refine D9 (k9 (k:=Sum.inr nm) t9 (c8 (by have z:=w9.length;omega)) ?_)
      have ek:B6 kvs (Sum.inr nm:h9) (.ref l9)=kvs++[(Sum.inr nm,.ref l9)]:=F5 _ (B9 (by rw[w9.keys,←t5];exact fun m=>fresh (List.mem_append_right _ (N6 m))))
      refine⟨pts,_,ts++[(nm,(kd,o1,o2))],_,_,_,_,rfl,A0 s9 nq0,by rw[b7 hpq];exact g9,d8,?_,qm d1 fresh,mP sub1 (by rw[e7];simp),by rw[List.length_append,List.length_singleton];omega,fun x hx=>?_⟩
      ·rw[ek]
       exact A5 (Paired.imp' (fun _ _ z=>O9 t9 z) w9) (O9 t9 ⟨rfl,l9,rfl,SqT.of f9⟩)
      ·rcases List.mem_append.mp hx with h'|h'
       ·exact l2 x h'
       ·rw[List.mem_singleton.mp h'];exact⟨a1.mem_iff.mp hm1,a1.mem_iff.mp hm2⟩
     ·walk_at "r"
      exact⟨pts,kvs,ts,_,_,_,_,rfl,s6,g6,t6,w6,d1,sub1,by omega,l2⟩
  ·rintro σ H3 ⟨pts,kvs,ts,v1,v2,v3,v4,rfl,s3,g3,t3,w3,d1,d2,l1,l2⟩
   refine⟨by show cs.length≤_;omega,?_⟩
   walk_at "r"
   refine⟨c8 (by simp),fun l9 n9=>?_⟩
   obtain⟨H9,e9,f9,m9,_⟩:=b4 (o:= .tup _) n9
   rw[e9]
   have hlen:=w3.length
   have hn':cs.length≤7:=hn
   exact k l9 p q kvs ⟨pts,ts⟩ H9 (s3.trans m9) ⟨⟨SqT.of f9,.inl (m9 _ _ g3),.inl (m9 _ _ t3),w3.mono m9.le⟩,m9 _ _ g3,m9 _ _ t3,hpq,d1,by show(pts.map (·.1)++ts.map (·.1)).length≤7;rw[List.length_append,List.length_map,List.length_map];omega,l2,fun x hx=>hsl x (List.mem_of_mem_take (d2 x hx))⟩ (fun n hn=>ni hn' (d2 n hn))
structure LfOk (ws:List Str) (L:G3):Prop where
 p:∃m,m≤3∧L.pts.map (·.1)=ws.take m
 t:∃j,j≤2∧L.ts.map (·.1)=(ws.drop 4).take j
def aT (K:PySem.W.Frag):Sp:=fun vs H Q _=>∃(a b c:Addr) (ds:List Int) (ws ks:List Str),vs=[.ref a,.ref b,.ref c]∧H a=some (.lst (ds.map V.int))∧H b=some (.lst (ws.map V.str))∧H c=some (.lst (ks.map V.str))∧sW ds∧jr ws∧ks.length=2∧∀(S:Sd) (H':Hp),Same H H'→SdIs K H' S→LfOk ws S.W→Q (.ref S.a) H'
theorem C9 {ds:List Int}(h:sW ds)(i:Int)(h0:0≤i)(h1:i<26):∃d:Int,cz (ds.map V.int) i=some (.int d)∧0≤d∧d<7:=by
 obtain⟨v,hv,hv2⟩:=aZ (xs:=ds.map V.int) h0 (by rw[List.length_map,h.len];exact h1)
 rw[List.getElem?_map] at hv2
 obtain⟨x,hx,rfl⟩:=Option.map_eq_some_iff.mp hv2
 exact⟨x,hv,h.d x (List.mem_of_getElem? hx)⟩
theorem eF {ws:List Str}(h:jr ws)(i:Nat)(hi:i<10):∃w,ws[i]?=some w∧∀j:Int,j=(i:Int)→cz (ws.map V.str) j=some (.str w):=
 ⟨ws[i]'(by rw[h.len];exact hi),List.getElem?_eq_getElem (by rw[h.len];exact hi),fun j e=>by
  subst e
  exact b6 (by rw[List.getElem?_map,List.getElem?_eq_getElem (by rw[h.len];exact hi)];rfl)⟩
theorem M4 {l:List Str}{i:Nat}{x:Str}(h:l[i]?=some x):l.take (i+1)=l.take i++[x]:=by rw[List.take_succ,h];rfl
theorem F4 {l:List Str}{i:Nat}{x:Str}(nd:l.Nodup)(h:l[i]?=some x):x∉l.take i:=fun m=>by
 have z:(l.take (i+1)).Nodup:=nd.sublist (List.take_sublist _ _)
 rw[M4 h] at z
 exact(List.nodup_append.mp z).2.2 x m x (by simp) rfl
theorem tM {l:List Str}{m i:Nat}{x:Str}(hi:i<m)(h:l[i]?=some x):x∈l.take m:=List.mem_of_getElem? (i:=i) (by rw[List.getElem?_take_of_lt hi];exact h)
theorem bc {pts:List (Str×Str)}{n s:Str}(h:n∉pts.map (·.1)):B6 (x5 pts) (Sum.inr n:h9) (.str s)=x5 (pts++[(n,s)]):=by
 rw[F5 _ (B9 (by rw[A4,←t5];exact fun m=>h (N6 m)))]
 unfold x5;rw[List.map_append];rfl
theorem dj {H:Hp}{kL:List (h9×V)}{TL:List (Str×M9)}{n:Str}{t:M9}{l:Addr}(w:TiesIs K H kL TL)(h:n∉TL.map (·.1))(hl:SqT K H l (jl t)):TiesIs K H (B6 kL (Sum.inr n:h9) (.ref l)) (TL++[(n,t)]):=by
 rw[F5 _ (B9 (by rw[w.keys,←t5];exact fun m=>h (N6 m)))]
 exact A5 w ⟨rfl,l,rfl,hl⟩
theorem xN {ws:List Str}{m j:Nat}(hm:m≤4):(ws.take m++(ws.drop 4).take j).Sublist ws:=by
 have h1:(ws.take m).Sublist (ws.take 4):=by
  rw[show ws.take m=(ws.take 4).take m by rw[List.take_take,Nat.min_eq_left hm]]
  exact List.take_sublist _ _
 have z:=h1.append (List.take_sublist j (ws.drop 4))
 rw[List.take_append_drop] at z
 exact z
abbrev bV (P:Program)(w:World)(K:PySem.W.Frag)(mg:Str→Option Value)(base:Heap):Prop:=A2 P w K mg base j9 1 "_law_left" ["_law_digits_here","_law_words_here","_law_kinds_here"] [] (aT K)
theorem gx {f:Addr}{fd:FuncData}(T:Txt K mg)(F:Fun K "_law_left" "_law_left" S2 f fd):j1 P w K mg base j9 1 f fd ["_law_digits_here","_law_words_here","_law_kinds_here"] (aT K):=by
 refine F.ok sc__law_left (fun vs H Q E h=>?_) (fun cdv A outer s H vs Q E hr h=>?_)
 ·obtain⟨a,b,c,ds,ws,ks,rfl,_⟩:=h
  rfl
 ·obtain⟨a,b,c,ds,ws,ks,rfl,hA,hB,hC,hD,hW,hk,k⟩:=h
  have hN:=sc__law_left.nd
  have hu:=q5 hr
  refine⟨_,QSs.r (o9 (j2 (i:=3) hN rfl (by walk_at "l") vg)
   (o9 (j2 (i:=4) hN rfl (by walk_at "l") vg)
   (o9 (j2 (i:=5) hN rfl (by walk_at "l") (j6 i7 (j4 (j3 K hu) (qV 0) b3 (fun _ _=>rfl)) b3))
   (o9 (K5 PassesOwn.never rfl (Z8 T.b_range (d9 (qV 5) j0)) (M8 (i:=6) hN rfl (by walk_at "l"))
    (x6 (aa (j4 (j3 K hu) (qV 2) (j6 i7 (j4 (j3 K hu) (qV 0) (j6 (u9 K) b3 (qV 6)) (fun _ _=>rfl)) b3) (fun _ _=>rfl)) (jM (qV 3) (j4 (j3 K hu) (qV 1) (qV 6) (fun _ _=>rfl)) (p6 P w hu)))))
   (o9 (dm (q8 iP (qV 5) b3 (j5 _)) (x6 (K5 PassesOwn.never rfl (Z8 T.b_range (d9 (qB (oA rfl) T.b_min Boot.«min» (d9 (j6 i7 (j4 (j3 K hu) (qV 0) b3 (fun _ _=>rfl)) b3) (d9 (j6 wa b3 (qV 5)) j0))) j0)) (M8 (i:=6) hN rfl (by walk_at "l"))
    (o9 (j2 (i:=7) hN rfl (by walk_at "l") (j4 (j3 K hu) (qV 1) (j6 i7 (j4 (j3 K hu) (qV 0) (j6 (u9 K) b3 (j6 op_mulY b3 (qV 6))) (fun _ _=>rfl)) (qV 5)) (fun _ _=>rfl)))
   (o9 (j2 (i:=8) hN rfl (by walk_at "l") (j4 (j3 K hu) (qV 1) (j6 i7 (j4 (j3 K hu) (qV 0) (j6 (u9 K) b3 (j6 op_mulY b3 (qV 6))) (fun _ _=>rfl)) (qV 5)) (fun _ _=>rfl)))
   (x6 (aa (R5 (d9 (j4 (j3 K hu) (qV 2) (j6 i7 (j4 (j3 K hu) (qV 0) (j6 (u9 K) b3 (j6 op_mulY b3 (qV 6))) (fun _ _=>rfl)) b3) (fun _ _=>rfl)) (d9 (qV 7) (d9 (qV 8) j0)))) (jM (qV 4) (j4 (j3 K hu) (qV 1) (j6 (u9 K) b3 (qV 6)) (fun _ _=>rfl)) (p6 P w hu)))))))) fR)
   (x6 (A1 (R5 (d9 (qV 3) (d9 (qV 4) j0)))))))))),?_⟩
  walk_at "r"
  intro p np
  obtain⟨H1,e1,f1,m1,o1⟩:=b4 (o:= .dK []) np
  rw[e1]
  walk_at "r"
  intro q nq
  obtain⟨H2,e2,f2,m2,o2⟩:=b4 (o:= .dK []) nq
  rw[e2]
  have hpq:p≠q:=fun z=>by rw[←z,f1] at nq;cases nq
  have nq0:H q=none:=m1.free nq
  have m02:=m1.trans m2
  walk_at "r"
  obtain⟨d0,hd0,hd0a,hd0b⟩:=C9 hD 0 (by omega) (by omega)
  refine b5 (SqL.of (m02 _ _ hA)) hd0 ?_
  walk_at "e"
  obtain⟨mn,hmn⟩:∃mn:Nat,d0 % 4=(mn:Int):=⟨(d0 % 4).toNat,by omega⟩
  rw[hmn]
  have hmn4:mn<4:=by omega
  refine i9 fun nx1 hx=>?_
  walk_at "e"
  refine z8 (by omega) (by omega) ?_
  refine C7 (n:=mn) (fun i σ H'=>∃(pts:List (Str×Str)) (v6:Option V),σ=[some (.ref a),some (.ref b),some (.ref c),some (.ref p),some (.ref q),some (.int (mn:Int)),v6,none,none]∧Same H H'∧H' p=some (.dK (x5 pts))∧H' q=some (.dK [])∧pts.map (·.1)=ws.take i)
   ⟨[],_,rfl,m02,m2 _ _ f1,f2,rfl⟩ (fun i σ H' hi _=>by exact hi) ?_ ?_
  ·rintro i v σ H3' H3 hi ⟨pts,v6,rfl,s3,g3,t3,ep⟩ ⟨rfl,rfl⟩
   have hpl:=congrArg List.length ep
   rw[List.length_map,List.length_take,hW.len] at hpl
   obtain⟨w,hw,hwa⟩:=eF hW i (by omega)
   walk_at "e"
   obtain⟨d,hd,_,_⟩:=C9 hD (1+(0+(i:Int))) (by omega) (by omega)
   refine b5 (SqL.of (s3 _ _ hA)) hd ?_
   walk_at "e"
   obtain⟨kd,hkd,_⟩:=k8 (ss:=ks) (i:=d % 2) (by omega) (by omega)
   refine b5 (SqL.of (s3 _ _ hC)) hkd ?_
   walk_at "e"
   refine b5 (SqL.of (s3 _ _ hB)) (hwa _ (by omega)) ?_
   have fr:w∉pts.map (·.1):=by rw[ep];exact F4 hW.nd hw
   refine D9 (k9 (k:=Sum.inr w) g3 (c8 (by rw[B0];omega)) ?_)
   rw[bc fr]
   refine⟨pts++[(w,kd)],_,rfl,A0 s3 np,d8,by rw[b7 hpq.symm];exact t3,?_⟩
   rw[List.map_append,ep,M4 hw];rfl
  rintro σ H3 ⟨pts,v6,rfl,s3,g3,t3,ep⟩
  refine⟨by show mn≤_;omega,?_⟩
  refine hx [some (.ref a),some (.ref b),some (.ref c),some (.ref p),some (.ref q),some (.int (mn:Int)),v6,none,none] H3 ?_
  clear hx
  have hpl:=congrArg List.length ep
  rw[List.length_map,List.length_take,hW.len] at hpl
  have fin:∀(H4:Hp) (v6 v7 v8:Option V) (kvs:List (h9×V)) (ts:List (Str×M9)) (i:Nat) (l:Addr),Same H H4→H4 p=some (.dK (x5 pts))→H4 q=some (.dK kvs)→TiesIs K H4 kvs ts→ts.map (·.1)=(ws.drop 4).take i→i≤2→(∀x∈ts,x.2.2.1∈pts.map (·.1)∧x.2.2.2∈pts.map (·.1))→H4 l=none→Q (.ref l) (upd H4 l (.tup [.ref p,.ref q])):=by
   intro H4 v6 v7 v8 kvs ts i l s4 g4 t4 w4 et hi en nl
   obtain⟨H5,e5,f5,m5,_⟩:=b4 (o:= .tup [.ref p,.ref q]) nl
   rw[e5]
   have sb:(i6 ⟨pts,ts⟩).Sublist ws:=by
    show(pts.map (·.1)++ts.map (·.1)).Sublist ws
    rw[ep,et];exact xN (by omega)
   have le:=sb.length_le
   rw[hW.len] at le
   exact k ⟨l,p,q,kvs,⟨pts,ts⟩⟩ H5 (s4.trans m5) ⟨⟨SqT.of f5,.inl (m5 _ _ g4),.inl (m5 _ _ t4),w4.mono m5.le⟩,m5 _ _ g4,m5 _ _ t4,hpq,hW.nd.sublist sb,Nat.le_trans le (by decide),en,fun x hx=>Nat.le_trans (bt (hW.kd x (sb.subset hx))) (by decide)⟩ ⟨⟨mn,by omega,ep⟩,⟨i,hi,et⟩⟩
  refine i9 fun nx2 hx=>?_
  walk_at "e"
  suffices go:∀(H4:Hp) (v6 v7 v8:Option V) (kvs:List (h9×V)) (ts:List (Str×M9)) (i:Nat),Same H H4→H4 p=some (.dK (x5 pts))→H4 q=some (.dK kvs)→TiesIs K H4 kvs ts→ts.map (·.1)=(ws.drop 4).take i→i≤2→(∀x∈ts,x.2.2.1∈pts.map (·.1)∧x.2.2.2∈pts.map (·.1))→nx2 [some (.ref a),some (.ref b),some (.ref c),some (.ref p),some (.ref q),some (.int (mn:Int)),v6,v7,v8] H4 by
   refine z6 (fun hb=>?_) (fun hb=>?_)
   ·walk_at "e"
    obtain⟨d4,hd4,hd4a,hd4b⟩:=C9 hD 4 (by omega) (by omega)
    refine b5 (SqL.of (s3 _ _ hA)) hd4 ?_
    walk_at "e"
    refine⟨_,_,rfl,?_⟩
    obtain⟨mj,hmj,hmj2⟩:∃mj:Nat,(if 4 -(mn:Int)<d4 % 3 then 4 -(mn:Int) else d4 % 3)=(mj:Int)∧mj≤2:=⟨(if 4 -(mn:Int)<d4 % 3 then 4 -(mn:Int) else d4 % 3).toNat,by split<;>omega,by split<;>omega⟩
    rw[hmj]
    refine z8 (by omega) (by omega) ?_
    refine C7 (n:=mj) (fun i σ H'=>∃(kvs:List (h9×V)) (ts:List (Str×M9)) (v6 v7 v8:Option V),σ=[some (.ref a),some (.ref b),some (.ref c),some (.ref p),some (.ref q),some (.int (mn:Int)),v6,v7,v8]∧Same H H'∧H' p=some (.dK (x5 pts))∧H' q=some (.dK kvs)∧TiesIs K H' kvs ts∧ts.map (·.1)=(ws.drop 4).take i∧∀x∈ts,x.2.2.1∈pts.map (·.1)∧x.2.2.2∈pts.map (·.1))
     ⟨[],[],_,_,_,rfl,s3,g3,t3,.nil,rfl,fun _ h=>nomatch h⟩ (fun i σ H' hi _=>by exact hi) ?_ ?_
    ·rintro i v σ H4' H4 hi ⟨kvs,ts,v6,v7,v8,rfl,s4,g4,t4,w4,et,en⟩ ⟨rfl,rfl⟩
     have htl:=congrArg List.length et
     rw[List.length_map,List.length_take,List.length_drop,hW.len] at htl
     have hkl:=w4.length
     obtain⟨w,hw,hwa⟩:=eF hW (4+i) (by omega)
     have hw':(ws.drop 4)[i]?=some w:=by rw[List.getElem?_drop];exact hw
     have fr:w∉ts.map (·.1):=by rw[et];exact F4 (hW.nd.sublist (List.drop_sublist _ _)) hw'
     have at_:∀d:Int,0≤d→∃o,cz (ws.map V.str) (d % (mn:Int))=some (.str o)∧o∈pts.map (·.1):=fun d hd=>by
      have z0:0≤d % (mn:Int):=Int.emod_nonneg _ (by omega)
      have z1:d % (mn:Int)<mn:=Int.emod_lt_of_pos _ (by omega)
      obtain⟨o,ho,hoa⟩:=eF hW (d % (mn:Int)).toNat (by omega)
      exact⟨o,hoa _ (by omega),by rw[ep];exact tM (by omega) ho⟩
     walk_at "r"
     obtain⟨d6,hd6,hd6a,_⟩:=C9 hD (6+3*(0+(i:Int))) (by omega) (by omega)
     refine b5 (SqL.of (s4 _ _ hA)) hd6 ?_
     walk_at "r"
     obtain⟨oa,hoa,hma⟩:=at_ d6 hd6a
     refine b5 (SqL.of (s4 _ _ hB)) hoa ?_
     walk_at "r"
     obtain⟨d7,hd7,hd7a,_⟩:=C9 hD (7+3*(0+(i:Int))) (by omega) (by omega)
     refine b5 (SqL.of (s4 _ _ hA)) hd7 ?_
     walk_at "r"
     obtain⟨ob,hob,hmb⟩:=at_ d7 hd7a
     refine b5 (SqL.of (s4 _ _ hB)) hob ?_
     walk_at "r"
     obtain⟨d5,hd5,hd5a,_⟩:=C9 hD (5+3*(0+(i:Int))) (by omega) (by omega)
     refine b5 (SqL.of (s4 _ _ hA)) hd5 ?_
     walk_at "r"
     obtain⟨kd,hkd,_⟩:=k8 (ss:=ks) (i:=d5 % 2) (by omega) (by omega)
     refine b5 (SqL.of (s4 _ _ hC)) hkd ?_
     walk_at "r"
     refine⟨c8 (by simp),fun l9 n9=>?_⟩
     obtain⟨H9,e9,f9,m9,_⟩:=b4 (o:= .tup _) n9
     rw[e9]
     have s9:=s4.trans m9
     have t9:=m9 _ _ t4
     walk_at "r"
     refine b5 (SqL.of (s9 _ _ hB)) (hwa _ (by omega)) ?_
     refine D9 (k9 (k:=Sum.inr w) t9 (c8 (by omega)) ?_)
     refine⟨_,ts++[(w,(kd,oa,ob))],_,_,_,rfl,A0 s9 nq0,by rw[b7 hpq];exact m9 _ _ g4,d8,F8 t9 (dj (w4.mono m9.le) fr (SqT.of f9)),?_,fun x hx=>?_⟩
     ·rw[List.map_append,et,M4 hw'];rfl
     ·rcases List.mem_append.mp hx with z|z
      ·exact en x z
      ·rw[List.mem_singleton.mp z];exact⟨hma,hmb⟩
    ·rintro σ H4 ⟨kvs,ts,v6,v7,v8,rfl,s4,g4,t4,w4,et,en⟩
     refine⟨by show mj≤_;omega,?_⟩
     exact go _ _ _ _ kvs ts mj s4 g4 t4 w4 et hmj2 en
   ·walk_at "e"
    exact go _ _ _ _ [] [] 0 s3 g3 t3 .nil rfl (by omega) (fun _ h=>nomatch h)
  intro H4 v6' v7 v8 kvs ts i s4 g4 t4 w4 et hi en
  refine hx _ _ ?_
  clear hx
  walk_at "r"
  exact⟨c8 (by simp),fun l nl=>fin H4 v6' v7 v8 kvs ts i l s4 g4 t4 w4 et hi en nl⟩
structure zg (ws:List Str) (L R:G3):Prop where
 p:∀x∈R.pts,x∈L.pts∨ws[7]?=some x.1
 t:∀x∈R.ts,x∈L.ts∨ws[8]?=some x.1
 l1:R.pts.length≤4
 l2:R.ts.length≤3
theorem LfOk.pi {ws:List Str}{L:G3}(h:LfOk ws L){n:Str}(hn:n∈L.pts.map (·.1)):∃i,i<3∧ws[i]?=some n:=by
 obtain⟨m,hm,e⟩:=h.p
 rw[e] at hn
 obtain⟨i,hi⟩:=List.getElem?_of_mem hn
 have hl:i<m:=by
  rcases Nat.lt_or_ge i m with z|z
  ·exact z
  ·rw[List.getElem?_eq_none (by rw[List.length_take];omega)] at hi;cases hi
 rw[List.getElem?_take_of_lt hl] at hi
 exact⟨i,by omega,hi⟩
theorem LfOk.ti {ws:List Str}{L:G3}(h:LfOk ws L){n:Str}(hn:n∈L.ts.map (·.1)):∃i,4≤i∧i<6∧ws[i]?=some n:=by
 obtain⟨m,hm,e⟩:=h.t
 rw[e] at hn
 obtain⟨i,hi⟩:=List.getElem?_of_mem hn
 have hl:i<m:=by
  rcases Nat.lt_or_ge i m with z|z
  ·exact z
  ·rw[List.getElem?_eq_none (by rw[List.length_take];omega)] at hi;cases hi
 rw[List.getElem?_take_of_lt hl,List.getElem?_drop] at hi
 exact⟨4+i,by omega,by omega,hi⟩
theorem LfOk.l1 {ws:List Str}{L:G3}(h:LfOk ws L):L.pts.length≤3:=by
 obtain⟨m,hm,e⟩:=h.p
 have z:=congrArg List.length e
 rw[List.length_map,List.length_take] at z;omega
theorem LfOk.l2 {ws:List Str}{L:G3}(h:LfOk ws L):L.ts.length≤2:=by
 obtain⟨m,hm,e⟩:=h.t
 have z:=congrArg List.length e
 rw[List.length_map,List.length_take] at z;omega
theorem yo {ws:List Str}{L:G3}{pts:List (Str×Str)}{ts:List (Str×M9)}(nd:ws.Nodup)(h:LfOk ws L)(n1:(pts.map (·.1)).Nodup)(n2:(ts.map (·.1)).Nodup)(hp:∀x∈pts,x∈L.pts∨ws[7]?=some x.1)(ht:∀x∈ts,x∈L.ts∨ws[8]?=some x.1):(pts.map (·.1)++ts.map (·.1)).Nodup:=by
 refine List.nodup_append.mpr ⟨n1,n2,fun a ha b hb e=>?_⟩
 subst e
 obtain⟨x,hx,ex⟩:=List.mem_map.mp ha
 obtain⟨y,hy,ey⟩:=List.mem_map.mp hb
 have i1:∃i,(i<3∨i=7)∧ws[i]?=some a:=by
  rcases hp x hx with z|z
  ·obtain⟨i,hi,e⟩:=h.pi (List.mem_map.mpr ⟨x,z,ex⟩)
   exact⟨i,.inl hi,e⟩
  ·exact⟨7,.inr rfl,by rw[←ex];exact z⟩
 have i2:∃i,(4≤i∧i<6∨i=8)∧ws[i]?=some a:=by
  rcases ht y hy with z|z
  ·obtain⟨i,h1,h2,e⟩:=h.ti (List.mem_map.mpr ⟨y,z,ey⟩)
   exact⟨i,.inl ⟨h1,h2⟩,e⟩
  ·exact⟨8,.inr rfl,by rw[←ey];exact z⟩
 obtain⟨i,hi,ei⟩:=i1
 obtain⟨j,hj,ej⟩:=i2
 have:=S0 nd ei ej
 omega
def W8 (K:PySem.W.Frag):Sp:=fun vs H Q _=>∃(L:Sd) (a b c:Addr) (ds:List Int) (ws ks:List Str),vs=[.ref L.a,.ref a,.ref b,.ref c]∧SdIs K H L∧LfOk ws L.W∧H a=some (.lst (ds.map V.int))∧H b=some (.lst (ws.map V.str))∧H c=some (.lst (ks.map V.str))∧sW ds∧jr ws∧ks.length=2∧∀(S:Sd) (H':Hp),Same H H'→SdIs K H' S→zg ws L.W S.W→Q (.ref S.a) H'
abbrev aM (P:Program)(w:World)(K:PySem.W.Frag)(mg:Str→Option Value)(base:Heap):Prop:=A2 P w K mg base j9 1 "_law_right" ["_law_left_here","_law_digits_here","_law_words_here","_law_kinds_here"] [] (W8 K)
theorem fc {f:Addr}{fd:FuncData}(T:Txt K mg)(F:Fun K "_law_right" "_law_right" O1 f fd):j1 P w K mg base j9 1 f fd ["_law_left_here","_law_digits_here","_law_words_here","_law_kinds_here"] (W8 K):=by
 refine F.ok sc__law_right (fun vs H Q E h=>?_) (fun cdv A outer s H vs Q E hr h=>?_)
 ·obtain⟨L,a,b,c,ds,ws,ks,rfl,_⟩:=h
  rfl
 ·obtain⟨L,a,b,c,ds,ws,ks,rfl,hL,lf,hA,hB,hC,hD,hW,hk,k⟩:=h
  have hl1:=lf.l1
  have hl2:=lf.l2
  have hpl:=B0 L.W.pts
  have hkl:=hL.at_.ts.length
  have hN:=sc__law_right.nd
  have hu:=q5 hr
  refine⟨_,QSs.r (o9 (j2 (i:=4) hN rfl (by walk_at "l") vg)
   (o9 (j2 (i:=5) hN rfl (by walk_at "l") vg)
   (o9 (K5 PassesOwn.never rfl (jv K T.b_enumerate (d9 (qB (C5 K rfl) T.b_sorted Boot.«sorted» (d9 (j4 (j3 K hu) (qV 0) b3 (fun _ _=>rfl)) j0)) j0)) (Bq K rfl (yc (M8 (i:=6) hN rfl (by walk_at "l")) (yc (M8 (i:=7) hN rfl (by walk_at "l")) Bn)))
    (x6 (dm (q8 (mR K hr) (j6 i7 (j4 (j3 K hu) (qV 1) (j6 (u9 K) b3 (qV 6)) (fun _ _=>rfl)) b3) b3 (j5 _)) (x6 (aa (j4 (j3 K hu) (j4 (j3 K hu) (qV 0) b3 (fun _ _=>rfl)) (qV 7) (fun _ _=>rfl)) (jM (qV 4) (qV 7) (p6 P w hu)))) fR)))
   (o9 (K5 PassesOwn.never rfl (jv K T.b_enumerate (d9 (qB (C5 K rfl) T.b_sorted Boot.«sorted» (d9 (j4 (j3 K hu) (qV 0) b3 (fun _ _=>rfl)) j0)) j0)) (Bq K rfl (yc (M8 (i:=6) hN rfl (by walk_at "l")) (yc (M8 (i:=7) hN rfl (by walk_at "l")) Bn)))
    (o9 (j2 (i:=8) hN rfl (by walk_at "l") (j4 (j3 K hu) (j4 (j3 K hu) (qV 0) b3 (fun _ _=>rfl)) (qV 7) (fun _ _=>rfl)))
   (x6 (dm (tY (bW (q8 (G5 K hr) (j6 i7 (j4 (j3 K hu) (qV 1) (j6 (u9 K) b3 (qV 6)) (fun _ _=>rfl)) b3) b3 (j5 _)) (bW (q8 (kIn K hu) (j4 (j3 K hu) (qV 8) b3 (fun _ _=>rfl)) (qV 4) (by rfl)) (bx (q8 (kIn K hu) (j4 (j3 K hu) (qV 8) b3 (fun _ _=>rfl)) (qV 4) (by rfl)))))) (x6 (aa (qV 8) (jM (qV 5) (qV 7) (p6 P w hu)))) fR))))
   (o9 (dm (tY (bW (q8 (G5 K hr) (j6 i7 (j4 (j3 K hu) (qV 1) b3 (fun _ _=>rfl)) b3) b3 (j5 _)) (bx (q8 N3 (qB (C8 K P w) T.b_len Boot.«len» (d9 (qV 4) j0)) (qB (C8 K P w) T.b_len Boot.«len» (d9 (j4 (j3 K hu) (qV 0) b3 (fun _ _=>rfl)) j0)) (j5 _))))) (x6 (aa (j4 (j3 K hu) (qV 3) (j6 i7 (j4 (j3 K hu) (qV 1) b3 (fun _ _=>rfl)) b3) (fun _ _=>rfl)) (jM (qV 4) (j4 (j3 K hu) (qV 2) b3 (fun _ _=>rfl)) (p6 P w hu)))) fR)
   (o9 (dm (tY (bW (q8 (G5 K hr) (j6 i7 (j4 (j3 K hu) (qV 1) b3 (fun _ _=>rfl)) b3) b3 (j5 _)) (bW (q8 iP (qB (C8 K P w) T.b_len Boot.«len» (d9 (qV 4) j0)) b3 (j5 _)) (bx (q8 N3 (qB (C8 K P w) T.b_len Boot.«len» (d9 (qV 5) j0)) (qB (C8 K P w) T.b_len Boot.«len» (d9 (j4 (j3 K hu) (qV 0) b3 (fun _ _=>rfl)) j0)) (j5 _)))))) (o9 (j2 (i:=9) hN rfl (by walk_at "l") (qB (C5 K rfl) T.b_sorted Boot.«sorted» (d9 (qV 4) j0)))
   (o9 (j2 (i:=10) hN rfl (by walk_at "l") (j4 (j3 K hu) (qV 9) (j6 i7 (j4 (j3 K hu) (qV 1) b3 (fun _ _=>rfl)) (qB (C8 K P w) T.b_len Boot.«len» (d9 (qV 9) j0))) (fun _ _=>rfl)))
   (x6 (aa (R5 (d9 (j4 (j3 K hu) (qV 3) (j6 i7 (j4 (j3 K hu) (qV 1) b3 (fun _ _=>rfl)) b3) (fun _ _=>rfl)) (d9 (qV 10) (d9 (j4 (j3 K hu) (qV 9) (j6 i7 (j4 (j3 K hu) (qV 1) b3 (fun _ _=>rfl)) (qB (C8 K P w) T.b_len Boot.«len» (d9 (qV 9) j0))) (fun _ _=>rfl)) j0)))) (jM (qV 5) (j4 (j3 K hu) (qV 2) b3 (fun _ _=>rfl)) (p6 P w hu)))))) fR)
   (x6 (A1 (R5 (d9 (qV 4) (d9 (qV 5) j0))))))))))),?_⟩
  walk_at "r"
  intro p np
  obtain⟨H1,e1,f1,m1,o1⟩:=b4 (o:= .dK []) np
  rw[e1]
  walk_at "e"
  refine G7 ?_
  walk_at "e"
  intro q nq
  obtain⟨H2,e2,f2,m2,o2⟩:=b4 (o:= .dK []) nq
  rw[e2]
  have hpq:p≠q:=fun z=>by rw[←z,f1] at nq;cases nq
  have nq0:H q=none:=m1.free nq
  have m02:=m1.trans m2
  walk_at "e"
  refine i9 fun nx1 hx=>?_
  walk_at "e"
  have L2:=hL.same m02
  refine b9 L2.at_.tup (b6 (j:=0) rfl) ?_
  walk_at "e"
  refine p9 (ss:=L.W.pts.map (·.1)) (.inl L2.hp) (by rw[A4,t5]) (by rw[List.length_map];omega) (fun s1 a1 a2 l3 n3=>?_)
  obtain⟨H3,e3,f3,m3,_⟩:=b4 (o:= .lst (s1.map V.str)) n3
  rw[e3]
  have m03:=m02.trans m3
  have ha1l:=a1.length_eq
  rw[List.length_map] at ha1l
  have nl3:l3≠p:=fun z=>by rw[z,m2 _ _ f1] at n3;cases n3
  walk_at "e"
  refine⟨_,rfl,.inl ⟨l3,_,rfl,SqL.of f3,?_⟩⟩
  refine V2 (n:=s1.length) (fun i σ H'=>Same H H'∧(∃v6 v7,σ=[some (.ref L.a),some (.ref a),some (.ref b),some (.ref c),some (.ref p),some (.ref q),v6,v7,none,none,none])∧H' l3=some (.lst (s1.map V.str))∧H' q=some (.dK [])∧∃pts:List (Str×Str),H' p=some (.dK (x5 pts))∧(∀x∈pts,x∈L.W.pts∧x.1∈s1.take i)∧(pts.map (·.1)).Nodup∧pts.length≤i) ⟨m03,⟨_,_,rfl⟩,f3,m3 _ _ f2,[],m3 _ _ (m2 _ _ f1),(fun _ h=>nomatch h),List.nodup_nil,Nat.le_refl _⟩ (fun i σ H' hi hp=>⟨_,.str (s1[i]),SqL.of hp.2.2.1,by rw[List.getElem?_map,List.getElem?_eq_getElem hi];rfl⟩) ?_ ?_
  ·rintro bk i v σ H4' H4 hi ⟨s4,⟨v6,v7,rfl⟩,fl4,t4,pts,g4,hpt,hnd,hln⟩ ⟨t,x,hx9,nt,rfl,rfl⟩
   have hx':=hx9 _ (SqL.of fl4)
   rw[List.getElem?_map,List.getElem?_eq_getElem hi] at hx'
   cases hx'
   obtain⟨H5,e5,f5,m5,_⟩:=b4 (o:= .tup _) nt
   rw[e5]
   have s5:=s4.trans m5
   have L5:=hL.same s5
   have g5:=m5 _ _ g4
   obtain⟨y,hy,ey⟩:=List.mem_map.mp (a1.mem_iff.mp (List.getElem_mem hi))
   have hs1:s1.Nodup:=a1.nodup_iff.mpr (dG hL.nd)
   have hti:s1.take (i+1)=s1.take i++[s1[i]]:=M4 (List.getElem?_eq_getElem hi)
   refine lD (SqT.of f5) rfl ?_
   walk_at "e"
   obtain⟨d,hd,_,_⟩:=C9 hD (11+(i:Int)) (by omega) (by omega)
   refine b5 (SqL.of (s5 _ _ hA)) hd ?_
   walk_at "e"
   refine jR (fun hb=>?_) (fun hb=>?_)
   ·walk_at "e"
    refine b9 L5.at_.tup (b6 (j:=0) rfl) ?_
    walk_at "e"
    refine M7 (v:= .str y.2) (by have z:=Z2 (k:=Sum.inr y.1) L5.at_.pts;rw[eG (dG hL.nd) hy] at z;rw[←ey];exact z) ?_
    walk_at "e"
    have fr:s1[i]∉pts.map (·.1):=fun m=>by
     obtain⟨x,hx,ex⟩:=List.mem_map.mp m
     have z:=(hpt x hx).2
     rw[ex] at z
     exact F4 hs1 (List.getElem?_eq_getElem hi) z
    refine D9 (k9 (k:=Sum.inr s1[i]) g5 (c8 (by rw[B0];omega)) ?_)
    rw[bc fr]
    refine⟨A0 s5 np,⟨_,_,rfl⟩,by rw[b7 nl3];exact m5 _ _ fl4,by rw[b7 hpq.symm];exact m5 _ _ t4,_,d8,fun x hx=>?_,?_,by rw[List.length_append,List.length_singleton];omega⟩
    ·rcases List.mem_append.mp hx with z|z
     ·exact⟨(hpt x z).1,by rw[hti];exact List.mem_append_left _ (hpt x z).2⟩
     ·rw[List.mem_singleton.mp z]
      exact⟨by rw[←ey];exact hy,by rw[hti];exact List.mem_append_right _ (List.mem_singleton.mpr rfl)⟩
    ·rw[List.map_append]
     exact G4 hnd fr
   ·walk_at "e"
    exact⟨s5,⟨_,_,rfl⟩,m5 _ _ fl4,m5 _ _ t4,pts,g5,fun x hx=>⟨(hpt x hx).1,by rw[hti];exact List.mem_append_left _ (hpt x hx).2⟩,hnd,by omega⟩
  rintro σ H4 ⟨s4,⟨v6,v7,rfl⟩,fl4,t4,pts,g4,hpt,hnd,hln⟩
  refine⟨⟨_,SqL.of fl4,by rw[List.length_map];exact Nat.le_refl _⟩,?_⟩
  refine hx [some (.ref L.a),some (.ref a),some (.ref b),some (.ref c),some (.ref p),some (.ref q),v6,v7,none,none,none] H4 ?_
  clear hx
  replace hpt:∀x∈pts,x∈L.W.pts:=fun x hx=>(hpt x hx).1
  have L4:=hL.same s4
  refine i9 fun nx2 hx=>?_
  walk_at "e"
  refine b9 L4.at_.tup (b6 (j:=1) rfl) ?_
  walk_at "e"
  refine p9 (ss:=L.W.ts.map (·.1)) (.inl L4.hq) (by rw[L4.at_.ts.keys,t5]) (by rw[List.length_map];omega) (fun s2 b1 b2 l6 n6=>?_)
  obtain⟨H6,e6,f6,m6,_⟩:=b4 (o:= .lst (s2.map V.str)) n6
  rw[e6]
  have m06:=s4.trans m6
  have hb1l:=b1.length_eq
  rw[List.length_map] at hb1l
  have nl6:l6≠q:=fun z=>by rw[z,t4] at n6;cases n6
  walk_at "e"
  refine⟨_,rfl,.inl ⟨l6,_,rfl,SqL.of f6,?_⟩⟩
  refine V2 (n:=s2.length) (fun i σ H'=>Same H H'∧(∃v6 v7 v8,σ=[some (.ref L.a),some (.ref a),some (.ref b),some (.ref c),some (.ref p),some (.ref q),v6,v7,v8,none,none])∧H' l6=some (.lst (s2.map V.str))∧H' p=some (.dK (x5 pts))∧∃(kvs:List (h9×V)) (ts:List (Str×M9)),H' q=some (.dK kvs)∧TiesIs K H' kvs ts∧(∀x∈ts,(x∈L.W.ts∧x.1∈s2.take i)∧x.2.2.1∈pts.map (·.1)∧x.2.2.2∈pts.map (·.1))∧(ts.map (·.1)).Nodup∧ts.length≤i) ⟨m06,⟨_,_,_,rfl⟩,f6,m6 _ _ g4,[],[],m6 _ _ t4,.nil,(fun _ h=>nomatch h),List.nodup_nil,Nat.le_refl _⟩ (fun i σ H' hi hp=>⟨_,.str (s2[i]),SqL.of hp.2.2.1,by rw[List.getElem?_map,List.getElem?_eq_getElem hi];rfl⟩) ?_ ?_
  ·rintro bk i v σ H7' H7 hi ⟨s7,⟨v6,v7,v8,rfl⟩,fl7,g7,kvs,ts,t7,w7,hts,hnt,hlt⟩ ⟨t,x,hx9,nt,rfl,rfl⟩
   have hx':=hx9 _ (SqL.of fl7)
   rw[List.getElem?_map,List.getElem?_eq_getElem hi] at hx'
   cases hx'
   obtain⟨H8,e8,f8,m8,_⟩:=b4 (o:= .tup _) nt
   rw[e8]
   have s8:=s7.trans m8
   have L8:=hL.same s8
   have g8:=m8 _ _ g7
   have t8:=m8 _ _ t7
   have w8:=w7.mono m8.le
   have hwl:=w7.length
   obtain⟨⟨y0,y1,y2,y3⟩,hy,ey⟩:=List.mem_map.mp (b1.mem_iff.mp (List.getElem_mem hi))
   have ey':y0=s2[i]:=ey
   obtain⟨bb,hbb,sb⟩:=gn L8.at_.ts (jt hL.nd) hy
   have hs2:s2.Nodup:=b1.nodup_iff.mpr (jt hL.nd)
   have hti:s2.take (i+1)=s2.take i++[s2[i]]:=M4 (List.getElem?_eq_getElem hi)
   refine lD (SqT.of f8) rfl ?_
   walk_at "e"
   refine G7 ?_
   walk_at "e"
   refine b9 L8.at_.tup (b6 (j:=1) rfl) ?_
   walk_at "e"
   refine M7 (v:= .ref bb) (by have z:=Z2 (k:=Sum.inr y0) L8.at_.ties;rw[hbb] at z;rw[←ey'];exact z) ?_
   walk_at "e"
   obtain⟨d,hd,_,_⟩:=C9 hD (14+(i:Int)) (by omega) (by omega)
   refine b5 (SqL.of (s8 _ _ hA)) hd ?_
   have k3:H8 l6=some (.lst (s2.map V.str))∧H8 p=some (.dK (x5 pts))∧∃(kvs:List (h9×V)) (ts:List (Str×M9)),H8 q=some (.dK kvs)∧TiesIs K H8 kvs ts∧(∀x∈ts,(x∈L.W.ts∧x.1∈s2.take (i+1))∧x.2.2.1∈pts.map (·.1)∧x.2.2.2∈pts.map (·.1))∧(ts.map (·.1)).Nodup∧ts.length≤i+1:=⟨m8 _ _ fl7,g8,kvs,ts,t8,w8,fun x hx=>⟨⟨(hts x hx).1.1,by rw[hti];exact List.mem_append_left _ (hts x hx).1.2⟩,(hts x hx).2⟩,hnt,by omega⟩
   walk_at "e"
   refine z6 (fun hb=>?_) (fun hb=>?_)
   rotate_left
   ·walk_at "e"
    exact⟨s8,⟨_,_,_,rfl⟩,k3⟩
   walk_at "e"
   refine b9 sb (b6 (j:=1) rfl) ?_
   walk_at "e"
   refine aH (Z2 (k:=Sum.inr y2) (show Rd H8 p _ from .inl g8)) ?_
   rw[N2]
   walk_at "e"
   refine z6 (fun hc=>?_) (fun hc=>?_)
   rotate_left
   ·walk_at "e"
    exact⟨s8,⟨_,_,_,rfl⟩,k3⟩
   walk_at "e"
   refine b9 sb (b6 (j:=2) rfl) ?_
   walk_at "e"
   refine aH (Z2 (k:=Sum.inr y3) (show Rd H8 p _ from .inl g8)) ?_
   rw[N2]
   walk_at "e"
   refine z6 (fun hd=>?_) (fun hd=>?_)
   rotate_left
   ·walk_at "e"
    exact⟨s8,⟨_,_,_,rfl⟩,k3⟩
   walk_at "e"
   have fr:s2[i]∉ts.map (·.1):=fun m=>by
    obtain⟨x,hx,ex⟩:=List.mem_map.mp m
    have z:=(hts x hx).1.2
    rw[ex] at z
    exact F4 hs2 (List.getElem?_eq_getElem hi) z
   refine D9 (k9 (k:=Sum.inr s2[i]) t8 (c8 (by omega)) ?_)
   refine⟨A0 s8 nq0,⟨_,_,_,rfl⟩,by rw[b7 nl6];exact m8 _ _ fl7,by rw[b7 hpq];exact g8,_,ts++[(s2[i],(y1,y2,y3))],d8,F8 t8 (dj w8 fr sb),fun x hx=>?_,?_,by rw[List.length_append,List.length_singleton];omega⟩
   ·rcases List.mem_append.mp hx with z|z
    ·exact⟨⟨(hts x z).1.1,by rw[hti];exact List.mem_append_left _ (hts x z).1.2⟩,(hts x z).2⟩
    ·rw[List.mem_singleton.mp z]
     exact⟨⟨by rw[←ey'];exact hy,by rw[hti];exact List.mem_append_right _ (List.mem_singleton.mpr rfl)⟩,hc,hd⟩
   ·rw[List.map_append]
    exact G4 hnt fr
  rintro σ H7 ⟨s7,⟨v6',v7',v8',rfl⟩,fl7,g7,kvs,ts,t7,w7,hts',hnt,hlt⟩
  refine⟨⟨_,SqL.of fl7,by rw[List.length_map];exact Nat.le_refl _⟩,?_⟩
  refine hx [some (.ref L.a),some (.ref a),some (.ref b),some (.ref c),some (.ref p),some (.ref q),v6',v7',v8',none,none] H7 ?_
  clear hx
  have hts:∀x∈ts,x∈L.W.ts:=fun x hx=>(hts' x hx).1.1
  have hen:∀x∈ts,x.2.2.1∈pts.map (·.1)∧x.2.2.2∈pts.map (·.1):=fun x hx=>(hts' x hx).2
  have hwl:=w7.length
  clear hts' L4 L2
  have L7:=hL.same s7
  obtain⟨w7',hw7,hw7a⟩:=eF hW 7 (by omega)
  obtain⟨w8',hw8,hw8a⟩:=eF hW 8 (by omega)
  have fr7:w7'∉pts.map (·.1):=fun m=>by
   obtain⟨x,hx,ex⟩:=List.mem_map.mp m
   obtain⟨i,hi,e⟩:=lf.pi (List.mem_map.mpr ⟨x,hpt x hx,ex⟩)
   have:=S0 hW.nd e hw7
   omega
  have fr8:w8'∉ts.map (·.1):=fun m=>by
   obtain⟨x,hx,ex⟩:=List.mem_map.mp m
   obtain⟨i,hi,_,e⟩:=lf.ti (List.mem_map.mpr ⟨x,hts x hx,ex⟩)
   have:=S0 hW.nd e hw8
   omega
  refine i9 fun nx3 hx=>?_
  suffices go:∀(H':Hp) (pts':List (Str×Str)),Same H H'→H' p=some (.dK (x5 pts'))→H' q=some (.dK kvs)→TiesIs K H' kvs ts→(∀x∈pts',x∈L.W.pts∨ws[7]?=some x.1)→(∀n∈pts.map (·.1),n∈pts'.map (·.1))→(pts'.map (·.1)).Nodup→pts'.length≤4→nx3 [some (.ref L.a),some (.ref a),some (.ref b),some (.ref c),some (.ref p),some (.ref q),v6',v7',v8',none,none] H' by
   have nope:=go H7 pts s7 g7 t7 w7 (fun x hx=> .inl (hpt x hx)) (fun _ h=>h) hnd (by omega)
   walk_at "e"
   obtain⟨d,hd,_,_⟩:=C9 hD 16 (by omega) (by omega)
   refine b5 (SqL.of (s7 _ _ hA)) hd ?_
   walk_at "e"
   refine z6 (fun hb=>?_) (fun hb=>?_)
   rotate_left
   ·walk_at "e"
    exact nope
   walk_at "e"
   refine B4 (D2 (.inl g7) ?_)
   walk_at "e"
   refine b9 L7.at_.tup (b6 (j:=0) rfl) ?_
   walk_at "e"
   refine B4 (D2 L7.at_.pts ?_)
   walk_at "e"
   refine z6 (fun hc=>?_) (fun hc=>?_)
   rotate_left
   ·walk_at "e"
    exact nope
   walk_at "e"
   obtain⟨d2,hd2,_,_⟩:=C9 hD 17 (by omega) (by omega)
   refine b5 (SqL.of (s7 _ _ hA)) hd2 ?_
   walk_at "e"
   obtain⟨kd,hkd,_⟩:=k8 (ss:=ks) (i:=d2 % 2) (by omega) (by omega)
   refine b5 (SqL.of (s7 _ _ hC)) hkd ?_
   walk_at "e"
   refine b5 (SqL.of (s7 _ _ hB)) (hw7a 7 rfl) ?_
   refine D9 (k9 (k:=Sum.inr w7') g7 (c8 (by rw[B0];omega)) ?_)
   rw[bc fr7]
   refine go _ (pts++[(w7',kd)]) (A0 s7 np) d8 (by rw[b7 hpq.symm];exact t7) (F8 g7 w7) (fun x hx=>?_) (fun n hn=>by rw[List.map_append];exact List.mem_append_left _ hn) (by rw[List.map_append];exact G4 hnd fr7) (by rw[List.length_append,List.length_singleton];omega)
   rcases List.mem_append.mp hx with z|z
   ·exact .inl (hpt x z)
   ·rw[List.mem_singleton.mp z];exact .inr hw7
  clear s7 g7 t7 w7 fl7 hpt hnd hln L7 fr7
  intro H7 pts' s7 g7 t7 w7 hpt hsub hnd hln
  refine hx _ _ ?_
  clear hx
  have L7:=hL.same s7
  refine i9 fun nx4 hx=>?_
  suffices go:∀(H':Hp) (v9 v10:Option V) (kvs':List (h9×V)) (ts':List (Str×M9)),Same H H'→H' p=some (.dK (x5 pts'))→H' q=some (.dK kvs')→TiesIs K H' kvs' ts'→(∀x∈ts',x∈L.W.ts∨ws[8]?=some x.1)→(∀x∈ts',x.2.2.1∈pts'.map (·.1)∧x.2.2.2∈pts'.map (·.1))→(ts'.map (·.1)).Nodup→ts'.length≤3→nx4 [some (.ref L.a),some (.ref a),some (.ref b),some (.ref c),some (.ref p),some (.ref q),v6',v7',v8',v9,v10] H' by
   have nope:=go H7 none none kvs ts s7 g7 t7 w7 (fun x hx=> .inl (hts x hx)) (fun x hx=>⟨hsub _ (hen x hx).1,hsub _ (hen x hx).2⟩) hnt (by omega)
   walk_at "e"
   obtain⟨d,hd,_,_⟩:=C9 hD 18 (by omega) (by omega)
   refine b5 (SqL.of (s7 _ _ hA)) hd ?_
   walk_at "e"
   refine z6 (fun hb=>?_) (fun hb=>?_)
   rotate_left
   ·walk_at "e"
    exact nope
   walk_at "e"
   refine B4 (D2 (.inl g7) ?_)
   rw[B0]
   walk_at "e"
   refine z6 (fun hc=>?_) (fun hc=>?_)
   rotate_left
   ·walk_at "e"
    exact nope
   walk_at "e"
   refine B4 (D2 (.inl t7) ?_)
   walk_at "e"
   refine b9 L7.at_.tup (b6 (j:=1) rfl) ?_
   walk_at "e"
   refine B4 (D2 L7.at_.ties ?_)
   walk_at "e"
   refine z6 (fun he=>?_) (fun he=>?_)
   rotate_left
   ·walk_at "e"
    exact nope
   walk_at "r"
   refine p9 (ss:=pts'.map (·.1)) (.inl g7) (by rw[A4,t5]) (by rw[List.length_map];omega) (fun s9 c1 c2 l9 n9=>?_)
   obtain⟨H9,e9,f9,m9,_⟩:=b4 (o:= .lst (s9.map V.str)) n9
   rw[e9]
   have s09:=s7.trans m9
   have hc1l:=c1.length_eq
   rw[List.length_map] at hc1l
   walk_at "r"
   obtain⟨d20,hd20,hd20a,_⟩:=C9 hD 20 (by omega) (by omega)
   refine b5 (SqL.of (s09 _ _ hA)) hd20 ?_
   walk_at "r"
   refine B4 (u4 (SqL.of f9) ?_)
   rw[List.length_map,hc1l]
   walk_at "r"
   obtain⟨oa,hoa,hma⟩:=k8 (ss:=s9) (i:=d20 % (pts'.length:Int)) (Int.emod_nonneg _ (by omega)) (by rw[hc1l];exact Int.emod_lt_of_pos _ (by omega))
   refine b5 (SqL.of f9) hoa ?_
   walk_at "r"
   obtain⟨d19,hd19,hd19a,_⟩:=C9 hD 19 (by omega) (by omega)
   refine b5 (SqL.of (s09 _ _ hA)) hd19 ?_
   walk_at "r"
   obtain⟨kd,hkd,_⟩:=k8 (ss:=ks) (i:=d19 % 2) (by omega) (by omega)
   refine b5 (SqL.of (s09 _ _ hC)) hkd ?_
   walk_at "r"
   obtain⟨d21,hd21,hd21a,_⟩:=C9 hD 21 (by omega) (by omega)
   refine b5 (SqL.of (s09 _ _ hA)) hd21 ?_
   walk_at "r"
   refine B4 (u4 (SqL.of f9) ?_)
   rw[List.length_map,hc1l]
   walk_at "r"
   obtain⟨ob,hob,hmb⟩:=k8 (ss:=s9) (i:=d21 % (pts'.length:Int)) (Int.emod_nonneg _ (by omega)) (by rw[hc1l];exact Int.emod_lt_of_pos _ (by omega))
   refine b5 (SqL.of f9) hob ?_
   walk_at "r"
   refine⟨c8 (by simp),fun la na=>?_⟩
   obtain⟨Ha,ea,fa,ma,_⟩:=b4 (o:= .tup _) na
   rw[ea]
   have s0a:=s09.trans ma
   have ta:=(m9.trans ma) _ _ t7
   walk_at "r"
   refine b5 (SqL.of (s0a _ _ hB)) (hw8a 8 rfl) ?_
   refine D9 (k9 (k:=Sum.inr w8') ta (c8 (by omega)) ?_)
   refine go _ _ _ _ (ts++[(w8',(kd,oa,ob))]) (A0 s0a nq0) (by rw[b7 hpq];exact(m9.trans ma) _ _ g7) d8 (F8 ta (dj (w7.mono (m9.trans ma).le) fr8 (SqT.of fa))) (fun x hx=>?_) (fun x hx=>?_) (by rw[List.map_append];exact G4 hnt fr8) (by rw[List.length_append,List.length_singleton];omega)
   ·rcases List.mem_append.mp hx with z|z
    ·exact .inl (hts x z)
    ·rw[List.mem_singleton.mp z];exact .inr hw8
   ·rcases List.mem_append.mp hx with z|z
    ·exact⟨hsub _ (hen x z).1,hsub _ (hen x z).2⟩
    ·rw[List.mem_singleton.mp z];exact⟨c1.mem_iff.mp hma,c1.mem_iff.mp hmb⟩
  clear s7 g7 t7 w7 hts hen hnt hlt L7 hwl fr8
  intro H7 v9 v10 kvs' ts' s7 g7 t7 w7 hts hen hnt hlt
  refine hx _ _ ?_
  clear hx
  walk_at "r"
  refine⟨c8 (by simp),fun l nl=>?_⟩
  obtain⟨H8,e8,f8,m8,_⟩:=b4 (o:= .tup [.ref p,.ref q]) nl
  rw[e8]
  have nms:∀x∈pts'.map (·.1)++ts'.map (·.1),x∈ws:=fun x hx=>by
   rcases List.mem_append.mp hx with z|z
   ·obtain⟨y,hy,ey⟩:=List.mem_map.mp z
    rcases hpt y hy with z|z
    ·obtain⟨i,_,e⟩:=lf.pi (List.mem_map.mpr ⟨y,z,ey⟩)
     exact List.mem_of_getElem? e
    ·rw[←ey];exact List.mem_of_getElem? z
   ·obtain⟨y,hy,ey⟩:=List.mem_map.mp z
    rcases hts y hy with z|z
    ·obtain⟨i,_,_,e⟩:=lf.ti (List.mem_map.mpr ⟨y,z,ey⟩)
     exact List.mem_of_getElem? e
    ·rw[←ey];exact List.mem_of_getElem? z
  exact k ⟨l,p,q,kvs',⟨pts',ts'⟩⟩ H8 (s7.trans m8) ⟨⟨SqT.of f8,.inl (m8 _ _ g7),.inl (m8 _ _ t7),w7.mono m8.le⟩,m8 _ _ g7,m8 _ _ t7,hpq,yo hW.nd lf hnd hnt hpt hts,by show(pts'.map (·.1)++ts'.map (·.1)).length≤24;rw[List.length_append,List.length_map,List.length_map];omega,hen,fun x hx=>Nat.le_trans (bt (hW.kd x (nms x hx))) (by decide)⟩ ⟨hpt,hts,hln,hlt⟩
def Az (L B:G3):Prop:=∃A:List Str,(i6 B).Perm (i6 L++A)∧A.length≤2
def aD (K:PySem.W.Frag):Sp:=fun vs H Q _=>∃(c:Int) (lw lk:Addr) (ws ks:List Str),vs=[.int c,.ref lw,.ref lk]∧0≤c∧c<10 ^ 60∧H lw=some (.lst (ws.map V.str))∧H lk=some (.lst (ks.map V.str))∧jr ws∧ks.length=2∧
 ∀(r bl:Addr) (L R:Sd) (bs:List Sd) (H':Hp),Same H H'→RuleIs K H' r bl L R bs→H' bl=some (.lst (bs.map fun s=>V.ref s.a))→LfOk ws L.W→zg ws L.W R.W→bs.length≤1→(∀b∈bs,Az L.W b.W)→Q (.ref r) H'
theorem tQ {ss:List Str}(h:0<ss.length):∃x,cz (ss.map V.str) (-1)=some (.str x)∧x∈ss:=by
 obtain⟨v,hv,hm⟩:=qw (xs:=ss.map V.str) (by rw[List.length_map];exact h)
 obtain⟨x,hx,rfl⟩:=List.mem_map.mp hm
 exact⟨x,hv,hx⟩
theorem kO {H:Hp}{d:Addr}{xs:List V}{u:HO}{B:Sd}(h:H d=some (.lst xs))(hB:SdIs K H B):SdIs K (upd H d u) B:=by
 have ne:∀a kv,H a=some (.dK kv)→a≠d:=fun a kv e z=>by rw[z,h] at e;cases e
 have tp:∀a ys,SqT K H a ys→SqT K (upd H d u) a ys:=fun a ys s=>by
  rcases s with s|s
  ·refine .inl ?_
   by_cases z:a=d
   ·subst z
    rcases s with s|⟨_,s⟩<;>(rw[h] at s;cases s)
   ·unfold Rd
    rw[b7 z];exact s
  ·exact .inr s
 have hp:(upd H d u) B.p=some (.dK (x5 B.W.pts)):=by rw[b7 (ne _ _ hB.hp)];exact hB.hp
 have hq:(upd H d u) B.q=some (.dK B.kvs):=by rw[b7 (ne _ _ hB.hq)];exact hB.hq
 exact⟨⟨tp _ _ hB.at_.tup,.inl hp,.inl hq,Paired.imp' (fun _ _ z=>⟨z.1,z.2.imp fun a y=>⟨y.1,tp _ _ y.2⟩⟩) hB.at_.ts⟩,hp,hq,hB.ne,hB.nd,hB.len,hB.ends,hB.nl⟩
abbrev bR (P:Program)(w:World)(K:PySem.W.Frag)(mg:Str→Option Value)(base:Heap):Prop:=A2 P w K mg base j9 2 "_law_rule" ["_law_cell","_law_words_here","_law_kinds_here"] [] (aD K)
theorem ie {f:Addr}{fd:FuncData}(T:Txt K mg)(K3:Y7 P w K mg base)(U8:bV P w K mg base)(Q3:aM P w K mg base)(F:Fun K "_law_rule" "_law_rule" U7 f fd):j1 P w K mg base j9 2 f fd ["_law_cell","_law_words_here","_law_kinds_here"] (aD K):=by
 refine F.ok sc__law_rule (fun vs H Q E h=>?_) (fun cdv A outer s H vs Q E hr h=>?_)
 ·obtain⟨c,lw,lk,ws,ks,rfl,_⟩:=h
  rfl
 ·obtain⟨c,lw,lk,ws,ks,rfl,hc0,hc1,hB,hC,hW,hk,k⟩:=h
  have hN:=sc__law_rule.nd
  have hu:=q5 hr
  refine⟨_,QSs.r (o9 (j2 (i:=3) hN rfl (by walk_at "l") (qC K3 (hr.mono (by decide)) p7 (d9 (qV 0) (d9 b3 j0))))
   (o9 (j2 (i:=4) hN rfl (by walk_at "l") (qC U8 (hr.mono (by decide)) p7 (d9 (qV 3) (d9 (qV 1) (d9 (qV 2) j0)))))
   (o9 (j2 (i:=5) hN rfl (by walk_at "l") (R3 j0))
   (o9 (dm (q8 (G5 K hr) (j6 i7 (j4 (j3 K hu) (qV 3) b3 (fun _ _=>rfl)) b3) b3 (j5 _)) (o9 (j2 (i:=6) hN rfl (by walk_at "l") (ip (Y3 K rfl) T.b_dict Boot.«dict» (d9 (j4 (j3 K hu) (qV 4) b3 (fun _ _=>rfl)) j0)))
   (o9 (j2 (i:=7) hN rfl (by walk_at "l") (ip (Y3 K rfl) T.b_dict Boot.«dict» (d9 (j4 (j3 K hu) (qV 4) b3 (fun _ _=>rfl)) j0)))
   (o9 (aa (j4 (j3 K hu) (qV 2) (j6 i7 (j4 (j3 K hu) (qV 3) b3 (fun _ _=>rfl)) b3) (fun _ _=>rfl)) (jM (qV 6) (j4 (j3 K hu) (qV 1) b3 (fun _ _=>rfl)) (p6 P w hu)))
   (o9 (dm (q8 (G5 K hr) (j6 i7 (j4 (j3 K hu) (qV 3) b3 (fun _ _=>rfl)) b3) b3 (j5 _)) (o9 (j2 (i:=8) hN rfl (by walk_at "l") (qB (C5 K rfl) T.b_sorted Boot.«sorted» (d9 (qV 6) j0)))
   (x6 (aa (R5 (d9 (j4 (j3 K hu) (qV 2) (j6 i7 (j4 (j3 K hu) (qV 3) b3 (fun _ _=>rfl)) b3) (fun _ _=>rfl)) (d9 (j4 (j3 K hu) (qV 8) b3 (fun _ _=>rfl)) (d9 (j4 (j3 K hu) (qV 8) (Cj vZ b3) (fun _ _=>rfl)) j0)))) (jM (qV 7) (j4 (j3 K hu) (qV 1) b3 (fun _ _=>rfl)) (p6 P w hu))))) fR)
   (x6 (um (qM PySem.F.plainAttrs_list PySem.F.slot_list_append PySem.F.type_list_append r6 K (qV 5) (d9 (R5 (d9 (qV 6) (d9 (qV 7) j0))) j0)))))))) fR)
   (x6 (A1 (R5 (d9 (qV 4) (d9 (qC Q3 (hr.mono (by decide)) p7 (d9 (qV 4) (d9 (qV 3) (d9 (qV 1) (d9 (qV 2) j0))))) (d9 (qV 5) j0)))))))))),?_⟩
  refine i9 fun nx1 hx=>?_
  walk_at "e"
  refine⟨c,rfl,hc0,hc1,fun ld H1 ds n1 m1 hA1 hD=>?_⟩
  walk_at "e"
  refine hx [some (.int c),some (.ref lw),some (.ref lk),some (.ref ld),none,none,none,none,none] _ ?_
  clear hx
  refine i9 fun nx2 hx=>?_
  walk_at "e"
  refine⟨ld,lw,lk,ds,ws,ks,rfl,hA1,m1 _ _ hB,m1 _ _ hC,hD,hW,hk,fun L H2 m2 hL lf=>?_⟩
  walk_at "e"
  refine hx [some (.int c),some (.ref lw),some (.ref lk),some (.ref ld),some (.ref L.a),none,none,none,none] _ ?_
  clear hx
  have hl1:=lf.l1
  have hl2:=lf.l2
  have m02:=m1.trans m2
  have hA2:=m2 _ _ hA1
  have hB2:=m02 _ _ hB
  have hC2:=m02 _ _ hC
  refine i9 fun nx3 hx=>?_
  walk_at "e"
  refine⟨c8 (by simp),fun lb nb=>?_⟩
  obtain⟨H3,e3,f3,m3,_⟩:=b4 (o:= .lst []) nb
  rw[e3]
  walk_at "e"
  refine hx [some (.int c),some (.ref lw),some (.ref lk),some (.ref ld),some (.ref L.a),some (.ref lb),none,none,none] _ ?_
  clear hx
  have nb0:=m02.free nb
  refine i9 fun nx4 hx=>?_
  suffices go:∀(H':Hp) (v6 v7 v8:Option V) (bs:List Sd),Same H2 H'→H' lb=some (.lst (bs.map fun s=>V.ref s.a))→(∀b∈bs,SdIs K H' b)→bs.length≤1→(∀b∈bs,Az L.W b.W)→nx4 [some (.int c),some (.ref lw),some (.ref lk),some (.ref ld),some (.ref L.a),some (.ref lb),v6,v7,v8] H' by
   walk_at "e"
   obtain⟨d,hd,_,_⟩:=C9 hD 22 (by omega) (by omega)
   refine b5 (SqL.of (m3 _ _ hA2)) hd ?_
   walk_at "e"
   refine z6 (fun hb=>?_) (fun hb=>?_)
   rotate_left
   ·walk_at "e"
    exact go H3 none none none [] m3 f3 (fun _ h=>nomatch h) (by decide) (fun _ h=>nomatch h)
   have L3:=hL.same m3
   walk_at "r"
   refine b9 L3.at_.tup (b6 (j:=0) rfl) ?_
   walk_at "r"
   refine z7 L3.at_.pts (fun p np=>?_)
   obtain⟨H4,e4,f4,m4,_⟩:=b4 (o:= .dK (x5 L.W.pts)) np
   rw[e4]
   walk_at "r"
   refine b9 (L3.same m4).at_.tup (b6 (j:=1) rfl) ?_
   walk_at "r"
   refine z7 (L3.same m4).at_.ties (fun q nq=>?_)
   obtain⟨H5,e5,f5,m5,_⟩:=b4 (o:= .dK L.kvs) nq
   rw[e5]
   have hpq:p≠q:=c9 f4 nq
   have m25:=m3.trans (m4.trans m5)
   have np2:H2 p=none:=m3.free np
   have nq2:H2 q=none:=m3.free (m4.free nq)
   have npl:lb≠p:=fun z=>by rw[z] at f3;rw[f3] at np;cases np
   have nql:lb≠q:=fun z=>by rw[z] at f3;rw[m4 _ _ f3] at nq;cases nq
   have fl5:=(m4.trans m5) _ _ f3
   have g5:=m5 _ _ f4
   have w5:=L3.at_.ts.mono (m4.trans m5).le
   have hkl:=w5.length
   obtain⟨w9,hw9,hw9a⟩:=eF hW 9 (by omega)
   obtain⟨w8,hw8,hw8a⟩:=eF hW 8 (by omega)
   have fr9:w9∉i6 L.W:=fun m=>by
    rcases List.mem_append.mp m with z|z
    ·obtain⟨i,hi,e⟩:=lf.pi z
     have:=S0 hW.nd e hw9
     omega
    ·obtain⟨i,_,hi,e⟩:=lf.ti z
     have:=S0 hW.nd e hw9
     omega
   have fr8:w8∉i6 L.W:=fun m=>by
    rcases List.mem_append.mp m with z|z
    ·obtain⟨i,hi,e⟩:=lf.pi z
     have:=S0 hW.nd e hw8
     omega
    ·obtain⟨i,_,hi,e⟩:=lf.ti z
     have:=S0 hW.nd e hw8
     omega
   have n98:w9≠w8:=fun z=>by
    have:=S0 hW.nd hw9 (by rw[z];exact hw8)
    omega
   walk_at "r"
   obtain⟨d3,hd3,_,_⟩:=C9 hD 23 (by omega) (by omega)
   refine b5 (SqL.of (m25 _ _ hA2)) hd3 ?_
   walk_at "r"
   obtain⟨kd,hkd,_⟩:=k8 (ss:=ks) (i:=d3 % 2) (by omega) (by omega)
   refine b5 (SqL.of (m25 _ _ hC2)) hkd ?_
   walk_at "r"
   refine b5 (SqL.of (m25 _ _ hB2)) (hw9a 9 rfl) ?_
   refine D9 (k9 (k:=Sum.inr w9) g5 (c8 (by rw[B0];omega)) ?_)
   rw[bc (fun z=>fr9 (List.mem_append_left _ z))]
   have m26:Same H2 (upd H5 p (.dK (x5 (L.W.pts++[(w9,kd)])))):=A0 m25 np2
   have g6:(upd H5 p (.dK (x5 (L.W.pts++[(w9,kd)])))) p=some (.dK (x5 (L.W.pts++[(w9,kd)]))):=d8
   have t6:(upd H5 p (.dK (x5 (L.W.pts++[(w9,kd)])))) q=some (.dK L.kvs):=by rw[b7 hpq.symm];exact f5
   have fl6:(upd H5 p (.dK (x5 (L.W.pts++[(w9,kd)])))) lb=some (.lst []):=by rw[b7 npl];exact fl5
   have w6:TiesIs K (upd H5 p (.dK (x5 (L.W.pts++[(w9,kd)])))) L.kvs L.W.ts:=F8 g5 w5
   generalize upd H5 p (.dK (x5 (L.W.pts++[(w9,kd)])))=H6 at m26 g6 t6 fl6 w6⊢
   have fin:∀(H7:Hp) (kvs:List (h9×V)) (ts:List (Str×M9)) (A:List Str),Same H2 H7→H7 p=some (.dK (x5 (L.W.pts++[(w9,kd)])))→H7 q=some (.dK kvs)→H7 lb=some (.lst [])→TiesIs K H7 kvs ts→ts.map (·.1)=L.W.ts.map (·.1)++A→(A=[]∨A=[w8])→(∀x∈ts,x.2.2.1∈(L.W.pts++[(w9,kd)]).map (·.1)∧x.2.2.2∈(L.W.pts++[(w9,kd)]).map (·.1))→∀t,H7 t=none→∃B:Sd,B.a=t∧SdIs K (upd H7 t (.tup [.ref p,.ref q])) B∧Az L.W B.W:=by
    intro H7 kvs ts A s7 g7 t7 l7 w7 et hA' en t nt
    obtain⟨H8,e8,f8,m8,_⟩:=b4 (o:= .tup [.ref p,.ref q]) nt
    rw[e8]
    have pm:(i6 ⟨L.W.pts++[(w9,kd)],ts⟩).Perm (i6 L.W++(w9::A)):=by
     show((L.W.pts++[(w9,kd)]).map (·.1)++ts.map (·.1)).Perm _
     rw[et,List.map_append]
     unfold i6
     show(L.W.pts.map (·.1)++[w9]++(L.W.ts.map (·.1)++A)).Perm (L.W.pts.map (·.1)++L.W.ts.map (·.1)++([w9]++A))
     rw[List.append_assoc,List.append_assoc,←List.append_assoc [w9],←List.append_assoc (L.W.ts.map (·.1))]
     exact List.Perm.append_left _ ((List.perm_append_comm).append_right A)
    have nd2:(i6 L.W++(w9::A)).Nodup:=by
     refine List.nodup_append.mpr ⟨hL.nd,?_,fun x hx y hy e=>?_⟩
     ·rcases hA' with rfl|rfl
      ·exact List.pairwise_singleton _ _
      ·exact List.nodup_cons.mpr ⟨by simpa using n98,List.pairwise_singleton _ _⟩
     ·subst e
      rcases List.mem_cons.mp hy with rfl|hy
      ·exact fr9 hx
      ·rcases hA' with rfl|rfl
       ·cases hy
       ·rw[List.mem_singleton.mp hy] at hx;exact fr8 hx
    have hAl:A.length≤1:=by rcases hA' with rfl|rfl<;>simp
    have nl:∀x∈i6 L.W++(w9::A),x.length≤100:=fun x hx=>by
     rcases List.mem_append.mp hx with z|z
     ·exact hL.nl x z
     ·have hin:x∈ws:=by
       rcases List.mem_cons.mp z with rfl|z
       ·exact List.mem_of_getElem? hw9
       ·rcases hA' with rfl|rfl
        ·cases z
        ·rw[List.mem_singleton.mp z];exact List.mem_of_getElem? hw8
      exact Nat.le_trans (bt (hW.kd x hin)) (by decide)
    refine⟨⟨t,p,q,kvs,⟨L.W.pts++[(w9,kd)],ts⟩⟩,rfl,⟨⟨SqT.of f8,.inl (m8 _ _ g7),.inl (m8 _ _ t7),w7.mono m8.le⟩,m8 _ _ g7,m8 _ _ t7,hpq,pm.nodup_iff.mpr nd2,?_,en,fun x hx=>nl x (pm.mem_iff.mp hx)⟩,w9::A,pm,by rw[List.length_cons];omega⟩
    show(i6 ⟨L.W.pts++[(w9,kd)],ts⟩).length≤24
    rw[pm.length_eq,List.length_append,A9,List.length_cons]
    omega
   walk_at "e"
   refine i9 fun nx5 hx5=>?_
   have ends0:∀x∈L.W.ts,x.2.2.1∈(L.W.pts++[(w9,kd)]).map (·.1)∧x.2.2.2∈(L.W.pts++[(w9,kd)]).map (·.1):=fun x hx=>by
    rw[List.map_append]
    exact⟨List.mem_append_left _ (hL.ends x hx).1,List.mem_append_left _ (hL.ends x hx).2⟩
   have hA6:=m26 _ _ hA2
   suffices go5:∀(H7:Hp) (v8:Option V) (kvs:List (h9×V)) (ts:List (Str×M9)) (A:List Str),Same H2 H7→H7 p=some (.dK (x5 (L.W.pts++[(w9,kd)])))→H7 q=some (.dK kvs)→H7 lb=some (.lst [])→TiesIs K H7 kvs ts→ts.map (·.1)=L.W.ts.map (·.1)++A→(A=[]∨A=[w8])→(∀x∈ts,x.2.2.1∈(L.W.pts++[(w9,kd)]).map (·.1)∧x.2.2.2∈(L.W.pts++[(w9,kd)]).map (·.1))→nx5 [some (.int c),some (.ref lw),some (.ref lk),some (.ref ld),some (.ref L.a),some (.ref lb),some (.ref p),some (.ref q),v8] H7 by
    walk_at "e"
    obtain⟨d4,hd4,_,_⟩:=C9 hD 24 (by omega) (by omega)
    refine b5 (SqL.of hA6) hd4 ?_
    walk_at "e"
    refine z6 (fun hb4=>?_) (fun hb4=>?_)
    rotate_left
    ·walk_at "e"
     exact go5 H6 none L.kvs L.W.ts [] m26 g6 t6 fl6 w6 (by rw[List.append_nil]) (.inl rfl) ends0
    walk_at "r"
    refine p9 (ss:=(L.W.pts++[(w9,kd)]).map (·.1)) (.inl g6) (by rw[A4,t5]) (by rw[List.length_map,List.length_append,List.length_singleton];omega) (fun s7 c1 c2 l7 n7=>?_)
    obtain⟨H7,e7,f7,m7,_⟩:=b4 (o:= .lst (s7.map V.str)) n7
    rw[e7]
    have m27:=m26.trans m7
    have hc1l:=c1.length_eq
    rw[List.length_map,List.length_append,List.length_singleton] at hc1l
    walk_at "r"
    obtain⟨d5,hd5,_,_⟩:=C9 hD 25 (by omega) (by omega)
    refine b5 (SqL.of (m27 _ _ hA2)) hd5 ?_
    walk_at "r"
    obtain⟨ke,hke,_⟩:=k8 (ss:=ks) (i:=d5 % 2) (by omega) (by omega)
    refine b5 (SqL.of (m27 _ _ hC2)) hke ?_
    walk_at "r"
    obtain⟨oa,hoa,hma⟩:=k8 (ss:=s7) (i:=0) (by omega) (by omega)
    refine b5 (SqL.of f7) hoa ?_
    walk_at "r"
    obtain⟨ob,hob,hmb⟩:=tQ (ss:=s7) (by omega)
    refine b5 (SqL.of f7) hob ?_
    walk_at "r"
    refine⟨c8 (by simp),fun la na=>?_⟩
    obtain⟨Ha,ea,fa,ma,_⟩:=b4 (o:= .tup _) na
    rw[ea]
    have s2a:=m27.trans ma
    have m7a:=m7.trans ma
    have ta:=m7a _ _ t6
    walk_at "r"
    refine b5 (SqL.of (s2a _ _ hB2)) (hw8a 8 rfl) ?_
    refine D9 (k9 (k:=Sum.inr w8) ta (c8 (by omega)) ?_)
    refine go5 _ _ _ (L.W.ts++[(w8,(ke,oa,ob))]) [w8] (A0 s2a nq2) (by rw[b7 hpq];exact m7a _ _ g6) d8 (by rw[b7 nql];exact m7a _ _ fl6) (F8 ta (dj (w6.mono m7a.le) (fun z=>fr8 (List.mem_append_right _ z)) (SqT.of fa))) (by rw[List.map_append];rfl) (.inr rfl) (fun x hx=>?_)
    rcases List.mem_append.mp hx with z|z
    ·exact ends0 x z
    ·rw[List.mem_singleton.mp z];exact⟨c1.mem_iff.mp hma,c1.mem_iff.mp hmb⟩
   intro H7 v8 kvs ts A s7 g7 t7 l7 w7 et hA' en
   refine hx5 _ _ ?_
   clear hx5
   walk_at "e"
   refine⟨.inl ⟨rfl,_,SqL.of l7⟩,?_⟩
   walk_at "e"
   refine⟨c8 (by simp),fun t nt=>?_⟩
   obtain⟨B,ha,hB',hBr⟩:=fin H7 kvs ts A s7 g7 t7 l7 w7 et hA' en t nt
   obtain⟨H8,e8,f8,m8,_⟩:=b4 (o:= .tup [.ref p,.ref q]) nt
   rw[e8] at hB'⊢
   have l8:=m8 _ _ l7
   walk_at "e"
   refine⟨lb,_,.ref t,rfl,rfl,l8,c8 (by simp),?_⟩
   have nb2:H2 lb=none:=nb
   refine go _ _ _ _ [B] (A0 (s7.trans m8) nb2) (by rw[d8,←ha];rfl) (fun b hb=>?_) (by simp) (fun b hb=>by rw[List.mem_singleton.mp hb];exact hBr)
   rw[List.mem_singleton.mp hb]
   exact kO l8 hB'
  intro H4 v6 v7 v8 bs s4 f4 hbs hbl hbr
  refine hx _ _ ?_
  clear hx
  have L4:=hL.same s4
  walk_at "r"
  refine⟨L,ld,lw,lk,ds,ws,ks,rfl,L4,lf,s4 _ _ hA2,s4 _ _ hB2,s4 _ _ hC2,hD,hW,hk,fun R H5 m5 hR rg=>?_⟩
  walk_at "r"
  refine⟨c8 (by simp),fun t nt=>?_⟩
  obtain⟨H6,e6,f6,m6,_⟩:=b4 (o:= .tup [.ref L.a,.ref R.a,.ref lb]) nt
  rw[e6]
  have m46:=m5.trans m6
  have f46:=m46 _ _ f4
  exact k t lb L R bs H6 (m02.trans (s4.trans m46)) ⟨SqT.of f6,L4.same m46,hR.same m6,SqL.of f46,fun b hb=>(hbs b hb).same m46⟩ f46 lf rg hbl hbr
def jY (g:Str→Str)(x:Str×M9):Str×M9:=(g x.1,(x.2.1,g x.2.2.1,g x.2.2.2))
def mJ (g:Str→Str)(W L:G3):G3:=⟨W.pts++L.pts.map (fun x=>(g x.1,x.2)),W.ts++L.ts.map (jY g)⟩
structure PlOk (ns:List Str) (L:G3) (fx:List (Str×Str)):Prop where
 ks:(fx.map (·.1)).Perm (i6 L)
 vs:∀x∈fx,x.2∈ns
 nd:(fx.map (·.2)).Nodup
def Q7 (K:PySem.W.Frag):Sp:=fun vs H Q _=>∃(W L:Sd) (c:Addr) (ns:List Str),vs=[.ref W.a,.ref L.a,.ref c]∧WebIs 7 K H W.a W.p W.q W.kvs W.W∧SdIs K H L∧(i6 L.W).length≤5∧H c=some (.lst (ns.map V.str))∧ns.length=5∧ns.Nodup∧(∀n∈ns,n.length≤100∧n∉i6 W.W)∧
 ∀(t m:Addr) (S:Sd) (fx:List (Str×Str)) (H':Hp),Same H H'→H' t=some (.tup [.ref S.a,.ref m])→H m=none→SdIs K H' S→H' m=some (.dK (x5 fx))→PlOk ns L.W fx→S.W=mJ (af (x5 fx)) W.W L.W→Q (.ref t) H'
section
variable {ns:List Str} {W L:G3} {fx:List (Str×Str)}
theorem PlOk.ndk (h:PlOk ns L fx)(nd:(i6 L).Nodup):(fx.map (·.1)).Nodup:=h.ks.nodup_iff.mpr nd
theorem PlOk.at_ (h:PlOk ns L fx)(nd:(i6 L).Nodup){n:Str}(hn:n∈i6 L):sg (x5 fx) n∧af (x5 fx) n∈ns∧(n,af (x5 fx) n)∈fx:=by
 obtain⟨⟨n',s⟩,hx,e⟩:=List.mem_map.mp (h.ks.mem_iff.mpr hn)
 have e':n'=n:=e
 subst e'
 have z:=uw (h.ndk nd) hx
 rw[z.2]
 exact⟨z.1,h.vs _ hx,hx⟩
theorem PlOk.inj (h:PlOk ns L fx)(nd:(i6 L).Nodup){m n:Str}(hm:m∈i6 L)(hn:n∈i6 L)(e:af (x5 fx) m=af (x5 fx) n):m=n:=by
 have z1:=(h.at_ nd hm).2.2
 have z2:=(h.at_ nd hn).2.2
 rw[e] at z1
 have key:∀{l:List (Str×Str)} {a b c:Str},(l.map (·.2)).Nodup→(a,c)∈l→(b,c)∈l→a=b:=fun{l}=>by
  induction l with
  |nil=>intro a b c _ h;cases h
  |cons x r ih=>
   intro a b c nd h1 h2
   have nd':=List.nodup_cons.mp (show(x.2::r.map (·.2)).Nodup from nd)
   rcases List.mem_cons.mp h1 with e1|h1
   ·rcases List.mem_cons.mp h2 with e2|h2
    ·rw[←e1] at e2;exact(Prod.mk.inj e2).1.symm
    ·exact absurd (List.mem_map.mpr ⟨_,h2,by rw[←e1]⟩) nd'.1
   ·rcases List.mem_cons.mp h2 with e2|h2
    ·exact absurd (List.mem_map.mpr ⟨_,h1,by rw[←e2]⟩) nd'.1
    ·exact ih nd'.2 h1 h2
 exact key h.nd z1 z2
theorem PlOk.ndg (h:PlOk ns L fx)(nd:(i6 L).Nodup):((i6 L).map (af (x5 fx))).Nodup:=by
 have key:∀{l:List Str},l.Nodup→(∀m∈l,m∈i6 L)→(l.map (af (x5 fx))).Nodup:=fun{l}=>by
  induction l with
  |nil=>intro _ _;exact List.nodup_nil
  |cons x r ih=>
   intro nd' hs
   have n2:=List.nodup_cons.mp nd'
   refine List.nodup_cons.mpr ⟨fun z=>?_,ih n2.2 fun m hm=>hs m (List.mem_cons_of_mem _ hm)⟩
   obtain⟨y,hy,e⟩:=List.mem_map.mp z
   rw[h.inj nd (hs y (List.mem_cons_of_mem _ hy)) (hs x List.mem_cons_self) e] at hy
   exact n2.1 hy
 exact key nd fun _ h=>h
theorem gD (g:Str→Str):(i6 (mJ g W L)).Perm (i6 W++(i6 L).map g):=by
 unfold i6 mJ
 show((W.pts++L.pts.map (fun x=>(g x.1,x.2))).map (·.1)++(W.ts++L.ts.map (jY g)).map (·.1)).Perm (W.pts.map (·.1)++W.ts.map (·.1)++(L.pts.map (·.1)++L.ts.map (·.1)).map g)
 rw[List.map_append,List.map_append,List.map_append,List.map_map,List.map_map,List.map_map,List.map_map]
 generalize W.pts.map (·.1)=A
 generalize W.ts.map (·.1)=B
 show(A++L.pts.map (fun x=>g x.1)++(B++L.ts.map (fun x=>g x.1))).Perm (A++B++(L.pts.map (fun x=>g x.1)++L.ts.map (fun x=>g x.1)))
 generalize L.pts.map (fun x=>g x.1)=C
 generalize L.ts.map (fun x=>g x.1)=D
 rw[List.append_assoc,List.append_assoc,←List.append_assoc C,←List.append_assoc B]
 exact List.Perm.append_left _ (List.perm_append_comm.append_right D)
end
theorem ir {H H':Hp}{d:Addr}{o:Obj}{kvs:List (h9×V)}(s:Same H H'):Same (C3 d o kvs H) (C3 d o kvs H'):=fun b u e=>by
 unfold C3 at*
 by_cases z:b=d
 ·rw[z,d8] at e⊢;exact e
 ·rw[b7 z] at e⊢;exact s _ _ e
theorem bB {H:Hp}{d b:Addr}{o:Obj}{kvs:List (h9×V)}(h:b≠d):C3 d o kvs H b=H b:=b7 h
theorem jA {td ty tx:TE}{σ:L2.St}{H:Hp}{Q:VK}(q:td σ H fun x H1=>∃a,x= .ref a∧By H1 a∧ty σ H1 fun y H2=>tx σ H2 fun z H3=>∃o,U5 H3 a y o∧Q (o.getD z) H3):kX td ty tx σ H Q:=q
theorem mf:∀(a b:List Str),((a.zip b).map (·.2)).Sublist b
 |[],_=>List.nil_sublist _
 |_::_,[]=> .slnil
 |n::a,x::b=>(mf a b).cons_cons x
theorem ug {H:Hp}{d:Addr}{kvs:List (h9×V)}{n:Str}{Q:VK}(h:H d=some (.dK kvs))(t:sg kvs n)(q:Q (.str (af kvs n)) H):kI K (.ref d) (.str n) H Q:=by
 obtain⟨s,hs⟩:=t
 refine M7 (v:= .str (af kvs n)) ?_ q
 have z:=Z2 (H:=H) (k:=Sum.inr n) (.inl h)
 rw[hs] at z
 rw[my hs];exact z
abbrev V0 (P:Program)(w:World)(K:PySem.W.Frag)(mg:Str→Option Value)(base:Heap):Prop:=A2 P w K mg base j9 1 "_law_planted" ["_law_web_here","_law_piece","_law_names_here"] [] (Q7 K)
theorem cm {f:Addr}{fd:FuncData}(T:Txt K mg)(F:Fun K "_law_planted" "_law_planted" F6 f fd):j1 P w K mg base j9 1 f fd ["_law_web_here","_law_piece","_law_names_here"] (Q7 K):=by
 refine F.ok sc__law_planted (fun vs H Q E h=>?_) (fun cdv A outer s H vs Q E hr h=>?_)
 ·obtain⟨W,L,c,ns,rfl,_⟩:=h
  rfl
 ·obtain⟨W,L,c,ns,rfl,hW,hL,hll,hC,hnl,hnd,hns,k⟩:=h
  have lW:=hW.len
  rw[A9] at lW
  have lL:=hll
  rw[A9] at lL
  have eW1:=B0 W.W.pts
  have eW2:=hW.at_.ts.length
  have eL1:=B0 L.W.pts
  have eL2:=hL.at_.ts.length
  have hN:=sc__law_planted.nd
  have hu:=q5 hr
  refine⟨_,QSs.r (o9 (j2 (i:=3) hN rfl (by walk_at "l") vg)
   (o9 (K5 PassesOwn.never rfl (wG K T.b_zip (d9 (j6 (u9 K) (qB (C5 K rfl) T.b_sorted Boot.«sorted» (d9 (j4 (j3 K hu) (qV 1) b3 (fun _ _=>rfl)) j0)) (qB (C5 K rfl) T.b_sorted Boot.«sorted» (d9 (j4 (j3 K hu) (qV 1) b3 (fun _ _=>rfl)) j0))) (d9 (qV 2) j0))) (Bq K rfl (yc (M8 (i:=4) hN rfl (by walk_at "l")) (yc (M8 (i:=5) hN rfl (by walk_at "l")) Bn)))
    (x6 (aa (qV 5) (jM (qV 3) (qV 4) (p6 P w hu)))))
   (o9 (j2 (i:=6) hN rfl (by walk_at "l") (ip (Y3 K rfl) T.b_dict Boot.«dict» (d9 (j4 (j3 K hu) (qV 0) b3 (fun _ _=>rfl)) j0)))
   (o9 (K5 PassesOwn.never rfl (S1 K (j4 (j3 K hu) (qV 1) b3 (fun _ _=>rfl))) (M8 (i:=4) hN rfl (by walk_at "l"))
    (x6 (aa (j4 (j3 K hu) (j4 (j3 K hu) (qV 1) b3 (fun _ _=>rfl)) (qV 4) (fun _ _=>rfl)) (jM (qV 6) (j4 (j3 K hu) (qV 3) (qV 4) (fun _ _=>rfl)) (p6 P w hu)))))
   (o9 (j2 (i:=7) hN rfl (by walk_at "l") (ip (Y3 K rfl) T.b_dict Boot.«dict» (d9 (j4 (j3 K hu) (qV 0) b3 (fun _ _=>rfl)) j0)))
   (o9 (K5 PassesOwn.never rfl (S1 K (j4 (j3 K hu) (qV 1) b3 (fun _ _=>rfl))) (M8 (i:=4) hN rfl (by walk_at "l"))
    (o9 (j2 (i:=8) hN rfl (by walk_at "l") (j4 (j3 K hu) (j4 (j3 K hu) (qV 1) b3 (fun _ _=>rfl)) (qV 4) (fun _ _=>rfl)))
   (x6 (aa (R5 (d9 (j4 (j3 K hu) (qV 8) b3 (fun _ _=>rfl)) (d9 (j4 (j3 K hu) (qV 3) (j4 (j3 K hu) (qV 8) b3 (fun _ _=>rfl)) (fun _ _=>rfl)) (d9 (j4 (j3 K hu) (qV 3) (j4 (j3 K hu) (qV 8) b3 (fun _ _=>rfl)) (fun _ _=>rfl)) j0)))) (jM (qV 7) (j4 (j3 K hu) (qV 3) (qV 4) (fun _ _=>rfl)) (p6 P w hu))))))
   (x6 (A1 (R5 (d9 (R5 (d9 (qV 6) (d9 (qV 7) j0))) (d9 (qV 3) j0))))))))))),?_⟩
  walk_at "e"
  refine G7 ?_
  walk_at "e"
  intro d nd
  obtain⟨H1,e1,f1,m1,_⟩:=b4 (o:= .dK []) nd
  rw[e1]
  have L1:=hL.same m1
  walk_at "e"
  refine i9 fun nx1 hx=>?_
  walk_at "e"
  refine b9 L1.at_.tup (b6 (j:=0) rfl) ?_
  walk_at "e"
  refine p9 (ss:=L.W.pts.map (·.1)) (.inl L1.hp) (by rw[A4,t5]) (by rw[List.length_map];omega) (fun s1 a1 a2 l2 n2=>?_)
  obtain⟨H2,e2,f2,m2,_⟩:=b4 (o:= .lst (s1.map V.str)) n2
  rw[e2]
  have L2:=L1.same m2
  walk_at "e"
  refine b9 L2.at_.tup (b6 (j:=1) rfl) ?_
  walk_at "e"
  refine p9 (ss:=L.W.ts.map (·.1)) (.inl L2.hq) (by rw[L2.at_.ts.keys,t5]) (by rw[List.length_map];omega) (fun s2 b1 b2 l3 n3=>?_)
  obtain⟨H3,e3,f3,m3,_⟩:=b4 (o:= .lst (s2.map V.str)) n3
  rw[e3]
  have hl1:=a1.length_eq
  have hl2:=b1.length_eq
  rw[List.length_map] at hl1 hl2
  refine S4 (m3 _ _ f2) f3 (c8 (by rw[List.length_map,List.length_map];omega)) (fun l4 n4=>?_)
  rw[←List.map_append]
  obtain⟨H4,e4,f4,m4,_⟩:=b4 (o:= .lst ((s1++s2).map V.str)) n4
  rw[e4]
  have ps:(s1++s2).Perm (i6 L.W):=a1.append b1
  have hsl:(s1++s2).length=(i6 L.W).length:=ps.length_eq
  generalize s1++s2=s at f4 ps hsl
  have m14:=m2.trans (m3.trans m4)
  have m04:=m1.trans m14
  have hsn:s.Nodup:=ps.nodup_iff.mpr hL.nd
  obtain⟨fx,hfx⟩:∃fx,fx=s.zip ns:=⟨_,rfl⟩
  have hfk:fx.map (·.1)=s:=by rw[hfx];exact List.map_fst_zip (by omega)
  have hfl:fx.length=s.length:=by rw[hfx,List.length_zip];omega
  have pl:PlOk ns L.W fx:=⟨by rw[hfk];exact ps,fun x hx=>by rw[hfx] at hx;exact(List.of_mem_zip hx).2,by rw[hfx];exact hnd.sublist (mf s ns)⟩
  walk_at "e"
  refine⟨l4,c,_,_,rfl,SqL.of f4,SqL.of (m04 _ _ hC),?_⟩
  refine V2 (n:=s.length) (fun i σ H'=>∃v4 v5:Option V,σ=[some (.ref W.a),some (.ref L.a),some (.ref c),some (.ref d),v4,v5,none,none,none]∧Same H H'∧H' l4=some (.lst (s.map V.str))∧H' d=some (.dK (x5 (fx.take i)))) ⟨none,none,rfl,m04,f4,m14 _ _ f1⟩ (fun i σ H' hi hp=>?_) ?_ ?_
  ·obtain⟨_,_,_,s6,f6,_⟩:=hp
   exact⟨_,_,.str (s[i]),.str (ns[i]'(by omega)),SqL.of f6,SqL.of (s6 _ _ hC),by rw[List.getElem?_map,List.getElem?_eq_getElem hi];rfl,by rw[List.getElem?_map,List.getElem?_eq_getElem (show i<ns.length by omega)];rfl⟩
  ·rintro bk i v σ H6 H6' hi ⟨v4,v5,rfl,s6,f6,fd6⟩ ⟨t,x,y,hx,hy,nt,rfl,rfl⟩
   have hx':=hx _ (SqL.of f6)
   have hy':=hy _ (SqL.of (s6 _ _ hC))
   rw[List.getElem?_map,List.getElem?_eq_getElem hi] at hx'
   rw[List.getElem?_map,List.getElem?_eq_getElem (show i<ns.length by omega)] at hy'
   cases hx'
   cases hy'
   obtain⟨H7,e7,f7,m7,_⟩:=b4 (o:= .tup _) nt
   rw[e7]
   have hni:fx[i]?=some (s[i],ns[i]'(by omega)):=by
    have z:(s.zip ns)[i]?=some (s[i],ns[i]'(by omega)):=List.getElem?_zip_eq_some.mpr ⟨List.getElem?_eq_getElem hi,List.getElem?_eq_getElem (by omega)⟩
    rw[←hfx] at z
    exact z
   have hnw:s[i]∉(fx.take i).map (·.1):=by
    rw[List.map_take,hfk]
    exact F4 hsn (List.getElem?_eq_getElem hi)
   refine lD (SqT.of f7) rfl ?_
   walk_at "e"
   refine D9 (k9 (k:=Sum.inr s[i]) (m7 _ _ fd6) (c8 (by rw[B0,List.length_take];omega)) ?_)
   rw[bc hnw]
   refine⟨_,_,rfl,A0 (s6.trans m7) nd,by rw[b7 (fun e=>by rw[e,fd6] at f6;cases f6)];exact m7 _ _ f6,?_⟩
   rw[d8,List.take_succ,hni];rfl
  rintro σ H6 ⟨v4,v5,rfl,s6,f6,fd6⟩
  refine⟨⟨_,_,SqL.of f6,SqL.of (s6 _ _ hC),.inl (by rw[List.length_map];exact Nat.le_refl _)⟩,?_⟩
  rw[List.take_of_length_le (by omega)] at fd6
  refine hx [some (.ref W.a),some (.ref L.a),some (.ref c),some (.ref d),v4,v5,none,none,none] H6 ?_
  clear hx
  have W6:=hW.same s6
  refine i9 fun nx2 hx=>?_
  walk_at "e"
  refine b9 W6.at_.tup (b6 (j:=0) rfl) ?_
  walk_at "e"
  refine z7 W6.at_.pts (fun p np=>?_)
  obtain⟨H7,e7,f7,m7,_⟩:=b4 (o:= .dK (x5 W.W.pts)) np
  rw[e7]
  walk_at "e"
  refine hx [some (.ref W.a),some (.ref L.a),some (.ref c),some (.ref d),v4,v5,some (.ref p),none,none] H7 ?_
  clear hx
  have s7:=s6.trans m7
  have L7:=hL.same s7
  have fd7:=m7 _ _ fd6
  have npd:p≠d:=(c9 fd6 np).symm
  have np0:H p=none:=s6.free np
  have npL:L.p≠p:=c9 (hL.same s6).hp np
  have npq:L.q≠p:=c9 (hL.same s6).hq np
  obtain⟨g,hg⟩:∃g,g=af (x5 fx):=⟨_,rfl⟩
  have ndS:(i6 (mJ g W.W L.W)).Nodup:=by
   refine(gD g).nodup_iff.mpr (List.nodup_append.mpr ⟨hW.nd,by rw[hg];exact pl.ndg hL.nd,fun a ha b hb e=>?_⟩)
   subst e
   obtain⟨n,hn,rfl⟩:=List.mem_map.mp hb
   rw[hg] at ha
   exact(hns _ (pl.at_ hL.nd hn).2.1).2 ha
  have nd1:((mJ g W.W L.W).pts.map (·.1)).Nodup:=dG ndS
  have nd2:((mJ g W.W L.W).ts.map (·.1)).Nodup:=jt ndS
  have nmI:∀x∈L.W.pts,x.1∈i6 L.W:=fun x hx=>List.mem_append_left _ (List.mem_map.mpr ⟨x,hx,rfl⟩)
  have nmT:∀x∈L.W.ts,x.1∈i6 L.W:=fun x hx=>List.mem_append_right _ (List.mem_map.mpr ⟨x,hx,rfl⟩)
  refine i9 fun nx3 hx=>?_
  walk_at "e"
  refine b9 L7.at_.tup (b6 (j:=0) rfl) ?_
  refine jy L7.hp (fun ndp o1=>?_)
  have L6:=hL.same s6
  have npL':p≠L.p:=npL.symm
  have ndL:d≠L.p:=fun e=>by rw[e] at nd;rw[hL.hp] at nd;cases nd
  have ndQ:d≠L.q:=fun e=>by rw[e] at nd;rw[hL.hq] at nd;cases nd
  refine V2 (n:=(x5 L.W.pts).length) (fun i σ H'=>Same (C3 L.p o1 (x5 L.W.pts) H6) H'∧(∃v4 v5,σ=[some (.ref W.a),some (.ref L.a),some (.ref c),some (.ref d),v4,v5,some (.ref p),none,none])∧H' p=some (.dK (x5 (W.W.pts++(L.W.pts.take i).map (fun x=>(g x.1,x.2)))))) ⟨ir m7,⟨_,_,rfl⟩,by rw[bB npL',f7];show _=some (HO.dK (x5 (W.W.pts++[])));rw[List.append_nil]⟩ (fun i σ H' hi hp=>⟨hp.1 _ _ d8,hi⟩) ?_ ?_
  ·rintro bk i v σ H8' H8 hi ⟨s8,⟨v4,v5,rfl⟩,g8⟩ ⟨rfl,kv,hkv,rfl⟩
   obtain⟨x,hx,rfl⟩:=mK hkv
   have hxm:=List.mem_of_getElem? hx
   have le8:=(ba (o:=o1) L6.hp).trans s8.le
   have A8:=L6.at_.mono le8
   have fd8:H8 d=some (.dK (x5 fx)):=s8 _ _ (by rw[bB ndL];exact fd6)
   have fr:g x.1∉(W.W.pts++(L.W.pts.take i).map (fun x=>(g x.1,x.2))).map (·.1):=by
    have z:(mJ g W.W L.W).pts=(W.W.pts++(L.W.pts.take i).map (fun x=>(g x.1,x.2)))++(L.W.pts.drop i).map (fun x=>(g x.1,x.2)):=by
     show W.W.pts++L.W.pts.map _=_
     rw[List.append_assoc,←List.map_append,List.take_append_drop]
    rw[z,List.map_append] at nd1
    intro m
    refine(List.nodup_append.mp nd1).2.2 _ m _ ?_ rfl
    rw[List.map_map]
    refine List.mem_map.mpr ⟨x,?_,rfl⟩
    exact List.mem_of_getElem? (i:=0) (by rw[List.getElem?_drop];exact hx)
   walk_at "e"
   refine b9 A8.tup (b6 (j:=0) rfl) ?_
   walk_at "e"
   refine M7 (v:= .str x.2) (by have z:=Z2 (k:=Sum.inr x.1) A8.pts;rw[eG (dG hL.nd) hxm] at z;exact z) ?_
   walk_at "e"
   refine ug fd8 (pl.at_ hL.nd (nmI x hxm)).1 ?_
   rw[←hg]
   refine D9 (k9 (k:=Sum.inr (g x.1)) g8 (c8 (by rw[B0,List.length_append,List.length_map,List.length_take];omega)) ?_)
   rw[bc fr]
   refine⟨A0 s8 (by rw[bB npL'];exact np),⟨_,_,rfl⟩,?_⟩
   rw[d8,List.append_assoc,List.take_succ,hx,List.map_append];rfl
  rintro σ H8 ⟨s8,⟨v4,v5,rfl⟩,g8⟩
  refine⟨⟨s8 _ _ d8,Nat.le_refl _⟩,?_⟩
  rw[List.take_of_length_le (by omega)] at g8
  have sT:=s8.thaw L6.hp
  have gT:thaw L.p H8 p=some (.dK (x5 (mJ g W.W L.W).pts)):=by rw[N5 npL'];exact g8
  generalize thaw L.p H8=H9 at sT gT⊢
  refine hx [some (.ref W.a),some (.ref L.a),some (.ref c),some (.ref d),v4,v5,some (.ref p),none,none] H9 ?_
  clear hx g8 s8
  have s9:=s6.trans sT
  have W9:=hW.same s9
  refine i9 fun nx4 hx=>?_
  walk_at "e"
  refine b9 W9.at_.tup (b6 (j:=1) rfl) ?_
  walk_at "e"
  refine z7 W9.at_.ties (fun q nq=>?_)
  obtain⟨HA,eA,fA,mA,_⟩:=b4 (o:= .dK W.kvs) nq
  rw[eA]
  walk_at "e"
  refine hx [some (.ref W.a),some (.ref L.a),some (.ref c),some (.ref d),v4,v5,some (.ref p),some (.ref q),none] HA ?_
  clear hx
  have sA:=s9.trans mA
  have LA:=hL.same sA
  have L9:=hL.same s9
  have hpq:p≠q:=c9 gT nq
  have nq0:H q=none:=s9.free nq
  have nqL:q≠L.q:=(c9 L9.hq nq).symm
  have fd9:=sT _ _ fd6
  refine i9 fun nx5 hx=>?_
  walk_at "e"
  refine b9 LA.at_.tup (b6 (j:=1) rfl) ?_
  refine jy LA.hq (fun ndq o2=>?_)
  refine V2 (n:=L.kvs.length) (fun i σ H'=>Same (C3 L.q o2 L.kvs H9) H'∧(∃v4 v5 v8,σ=[some (.ref W.a),some (.ref L.a),some (.ref c),some (.ref d),v4,v5,some (.ref p),some (.ref q),v8])∧∃kvt,H' q=some (.dK kvt)∧TiesIs K H' kvt (W.W.ts++(L.W.ts.take i).map (jY g))) ⟨ir mA,⟨_,_,_,rfl⟩,W.kvs,by rw[bB nqL,fA],?_⟩ (fun i σ H' hi hp=>⟨hp.1 _ _ d8,hi⟩) ?_ ?_
  ·show TiesIs K _ W.kvs (W.W.ts++[])
   rw[List.append_nil]
   exact(W9.at_.ts.mono mA.le).mono (ba (o:=o2) LA.hq)
  ·rintro bk i v σ HB' HB hi ⟨sB,⟨v4,v5,v8,rfl⟩,kvt,gB,tB⟩ ⟨rfl,kv,hkv,rfl⟩
   have leB:=(ba (o:=o2) L9.hq).trans sB.le
   have AB:=L9.at_.mono leB
   obtain⟨x,hx,ex,bb,eb,sb⟩:=AB.ts.get hkv
   have hxm:=List.mem_of_getElem? hx
   obtain⟨kk,kvv⟩:=kv
   have ex':kk=Sum.inr x.1:=ex
   have eb':kvv= .ref bb:=eb
   subst ex' eb'
   have hxe:=hL.ends x hxm
   have fdB:HB d=some (.dK (x5 fx)):=sB _ _ (by rw[bB ndQ];exact fd9)
   have htl:=tB.length
   rw[List.length_append,List.length_map,List.length_take] at htl
   have fr:g x.1∉(W.W.ts++(L.W.ts.take i).map (jY g)).map (·.1):=by
    have z:(mJ g W.W L.W).ts=(W.W.ts++(L.W.ts.take i).map (jY g))++(L.W.ts.drop i).map (jY g):=by
     show W.W.ts++L.W.ts.map _=_
     rw[List.append_assoc,←List.map_append,List.take_append_drop]
    rw[z,List.map_append] at nd2
    intro m
    refine(List.nodup_append.mp nd2).2.2 _ m _ ?_ rfl
    rw[List.map_map]
    refine List.mem_map.mpr ⟨x,?_,rfl⟩
    exact List.mem_of_getElem? (i:=0) (by rw[List.getElem?_drop];exact hx)
   obtain⟨b2,hb2,sb2⟩:=gn AB.ts (jt hL.nd) (show(x.1,x.2)∈L.W.ts from hxm)
   obtain⟨x0,x1,x2,x3⟩:=x
   walk_at "e"
   refine G7 ?_
   walk_at "e"
   refine b9 AB.tup (b6 (j:=1) rfl) ?_
   walk_at "e"
   refine M7 (v:= .ref b2) (by have z:=Z2 (k:=Sum.inr x0) AB.ties;rw[hb2] at z;exact z) ?_
   walk_at "e"
   refine b9 sb2 (b6 (j:=0) rfl) ?_
   walk_at "e"
   refine b9 sb2 (b6 (j:=1) rfl) ?_
   refine ug fdB (pl.at_ hL.nd (List.mem_append_left _ hxe.1)).1 ?_
   walk_at "e"
   refine b9 sb2 (b6 (j:=2) rfl) ?_
   refine ug fdB (pl.at_ hL.nd (List.mem_append_left _ hxe.2)).1 ?_
   rw[←hg]
   walk_at "e"
   refine⟨c8 (by simp),fun lC nC=>?_⟩
   obtain⟨HC,eC,fC,mC,_⟩:=b4 (o:= .tup (jl (x1,g x2,g x3))) nC
   change uB _ _ _ _ _ (upd HB lC (.tup (jl (x1,g x2,g x3)))) _
   rw[eC]
   walk_at "e"
   refine ug (mC _ _ fdB) (pl.at_ hL.nd (nmT _ hxm)).1 ?_
   rw[←hg]
   have gC:=mC _ _ gB
   refine D9 (k9 (k:=Sum.inr (g x0)) gC (c8 (by omega)) ?_)
   refine⟨A0 (sB.trans mC) (by rw[bB nqL];exact nq),⟨_,_,_,rfl⟩,_,d8,?_⟩
   rw[List.take_succ,hx,List.map_append,←List.append_assoc]
   exact F8 gC (dj (tB.mono mC.le) fr (SqT.of fC))
  rintro σ HB ⟨sB,⟨v4,v5,v8,rfl⟩,kvt,gB,tB⟩
  refine⟨⟨sB _ _ d8,Nat.le_refl _⟩,?_⟩
  rw[List.take_of_length_le (by omega)] at tB
  have sU:=sB.thaw L9.hq
  have gU:thaw L.q HB q=some (.dK kvt):=by rw[N5 nqL];exact gB
  have tU:TiesIs K (thaw L.q HB) kvt (mJ g W.W L.W).ts:=tB.mono tN
  generalize thaw L.q HB=HC at sU gU tU⊢
  refine hx [some (.ref W.a),some (.ref L.a),some (.ref c),some (.ref d),v4,v5,some (.ref p),some (.ref q),v8] HC ?_
  clear hx gB tB sB
  walk_at "r"
  refine⟨c8 (by simp),fun l1 nl1=>?_⟩
  obtain⟨HD,eD,fD,mD,_⟩:=b4 (o:= .tup [.ref p,.ref q]) nl1
  rw[eD]
  walk_at "r"
  refine⟨c8 (by simp),fun l2 nl2=>?_⟩
  obtain⟨HE,eE,fE,mE,_⟩:=b4 (o:= .tup [.ref l1,.ref d]) nl2
  rw[eE]
  have mCE:=mD.trans mE
  have gE:=(sU.trans mCE) _ _ gT
  have hE:=mCE _ _ gU
  have hin:∀n∈i6 (mJ g W.W L.W),n∈i6 W.W∨n∈ns:=fun n hn=>by
   rcases List.mem_append.mp ((gD g).mem_iff.mp hn) with z|z
   ·exact .inl z
   ·obtain⟨m,hm,rfl⟩:=List.mem_map.mp z
    rw[hg]
    exact .inr (pl.at_ hL.nd hm).2.1
  refine k l2 d ⟨l1,p,q,kvt,mJ g W.W L.W⟩ fx HE (s9.trans (sU.trans mCE)) fE nd ⟨⟨mE.tup (SqT.of fD),.inl gE,.inl hE,tU.mono mCE.le⟩,gE,hE,hpq,ndS,?_,?_,fun n hn=>(hin n hn).elim (hW.nl n) fun z=>(hns n z).1⟩ ((sU.trans mCE) _ _ fd9) pl (by rw[←hg])
  ·show(i6 (mJ g W.W L.W)).length≤24
   rw[(gD g).length_eq,List.length_append,List.length_map,A9,A9];omega
  ·intro x hx
   show x.2.2.1∈(W.W.pts++L.W.pts.map (fun x=>(g x.1,x.2))).map (·.1)∧x.2.2.2∈(W.W.pts++L.W.pts.map (fun x=>(g x.1,x.2))).map (·.1)
   rw[List.map_append]
   rcases List.mem_append.mp (show x∈W.W.ts++L.W.ts.map (jY g) from hx) with z|z
   ·exact⟨List.mem_append_left _ (hW.ends x z).1,List.mem_append_left _ (hW.ends x z).2⟩
   ·obtain⟨y,hy,rfl⟩:=List.mem_map.mp z
    have he:=hL.ends y hy
    have key:∀e:Str,e∈L.W.pts.map (·.1)→g e∈(L.W.pts.map (fun x=>(g x.1,x.2))).map (·.1):=fun e h=>by
     obtain⟨u,hu,rfl⟩:=List.mem_map.mp h
     rw[List.map_map]
     exact List.mem_map.mpr ⟨u,hu,rfl⟩
    exact⟨List.mem_append_right _ (key _ he.1),List.mem_append_right _ (key _ he.2)⟩
def wt (ws:List (h9×V))(s:Str):Int:=match x8 ws (Sum.inr s:h9) with
 |some (.int i)=>i
 |_=>0
def qT (ws:List (h9×V))(pts:List (Str×Str)):Int:=(pts.map fun x=>wt ws x.2).sum
def qk (ws:List (h9×V))(ts:List (Str×M9)):Int:=(ts.map fun x=>wt ws x.2.1).sum
def jU (ws:List (h9×V))(W:G3):Int:=qT ws W.pts+qk ws W.ts
structure WbI (K:PySem.W.Frag) (H:Hp) (a p q:Addr) (kvs:List (h9×V)) (W:G3):Prop where
 tup:SqT K H a [.ref p,.ref q]
 hp:H p=some (.dK (x5 W.pts))
 hq:H q=some (.dK kvs)
 ts:TiesIs K H kvs W.ts
 lp:W.pts.length≤60
 lq:W.ts.length≤60
structure WtI (H:Hp) (d:Addr) (ws:List (h9×V)):Prop where
 hd:H d=some (.dK ws)
 ok:∀kv∈ws,∃(n:Str) (i:Int),kv=(Sum.inr n,.int i)
theorem WbI.same {K:PySem.W.Frag}{H H':Hp}{a p q:Addr}{kvs:List (h9×V)}{W:G3}(h:WbI K H a p q kvs W)(s:Same H H'):WbI K H' a p q kvs W:=⟨s.tup h.tup,s _ _ h.hp,s _ _ h.hq,h.ts.mono s.le,h.lp,h.lq⟩
theorem WtI.same {H H':Hp}{d:Addr}{ws:List (h9×V)}(h:WtI H d ws)(s:Same H H'):WtI H' d ws:=⟨s _ _ h.hd,h.ok⟩
theorem SdIs.wb {H:Hp}{S:Sd}(h:SdIs K H S):WbI K H S.a S.p S.q S.kvs S.W:=by
 have l:=h.len
 rw[A9] at l
 exact⟨h.at_.tup,h.hp,h.hq,h.at_.ts,by omega,by omega⟩
def cQ (K:PySem.W.Frag):Sp:=fun vs H Q _=>∃(a p q d:Addr) (kvs ws:List (h9×V)) (W:G3),vs=[.ref a,.ref d]∧WbI K H a p q kvs W∧WtI H d ws∧∀H',Same H H'→Q (.int (jU ws W)) H'
def U3 (K:PySem.W.Frag):Sp:=fun vs H Q _=>∃(a p q d:Addr) (kvs ws:List (h9×V)) (W:G3),vs=[.ref a,.ref d]∧WbI K H a p q kvs W∧WtI H d ws∧∀H',Same H H'→Q (.int (jU ws W)) H'
def jw (K:PySem.W.Frag):Sp:=fun vs H Q _=>∃(r a p q a' p' q' d:Addr) (x:V) (kvs kvs' ws:List (h9×V)) (W W':G3),vs=[.ref r,.ref d]∧SqT K H r [.ref a,.ref a',x]∧WbI K H a p q kvs W∧WbI K H a' p' q' kvs' W'∧WtI H d ws∧∀H',Same H H'→Q (.bl (decide (jU ws W'<jU ws W))) H'
def Q4 (K:PySem.W.Frag):Sp:=fun vs H Q _=>∃(c:Int) (b:Addr) (ks:List Str),vs=[.int c,.ref b]∧0≤c∧H b=some (.lst (ks.map V.str))∧ks.length=2∧∀(d:Addr) (ws:List (h9×V)) (H':Hp),Same H H'→H d=none→WtI H' d ws→(ws.map (·.1)).Nodup→Q (.ref d) H'
theorem jO {ws:List (h9×V)}(h:∀kv∈ws,∃(n:Str) (i:Int),kv=(Sum.inr n,.int i))(s:Str):(x8 ws (Sum.inr s:h9)).getD (.int 0)= .int (wt ws s):=by
 unfold wt
 cases e:x8 ws (Sum.inr s:h9) with
 |none=>rfl
 |some v=>
  obtain⟨n,i,z⟩:=h _ (mU e)
  have:=(Prod.mk.inj z).2
  rw[this];rfl
theorem iQ {α:Type}{l:List α}{f:α→Int}{i:Nat}{x:α}(h:l[i]?=some x):((l.take (i+1)).map f).sum=((l.take i).map f).sum+f x:=by
 rw[List.take_succ,h];simp
theorem nR {pts:List (Str×Str)}:(x5 pts).map (·.2)=(pts.map (·.2)).map V.str:=by unfold x5;rw[List.map_map,List.map_map];rfl
abbrev fz (P:Program)(w:World)(K:PySem.W.Frag)(mg:Str→Option Value)(base:Heap):Prop:=A2 P w K mg base j9 1 "weighed" ["web","weights"] [] (cQ K)
theorem kU {f:Addr}{fd:FuncData}(T:Txt K mg)(F:Fun K "weighed" "weighed" bC f fd):j1 P w K mg base j9 1 f fd ["web","weights"] (cQ K):=by
 refine F.ok sc_weighed (fun vs H Q E h=>?_) (fun cdv A outer s H vs Q E hr h=>?_)
 ·obtain⟨a,p,q,d,kvs,ws,W,rfl,_⟩:=h
  rfl
 ·obtain⟨a,p,q,d,kvs,ws,W,rfl,hW,hD,k⟩:=h
  have hlp:=hW.lp
  have hlq:=hW.lq
  have hkl:=hW.ts.length
  have hN:=sc_weighed.nd
  have hu:=q5 hr
  refine⟨_,QSs.r (o9 (j2 (i:=2) hN rfl (by walk_at "l") (j6 (u9 K) (ip (bJ K rfl) T.b_list Boot.«list» (d9 (Ce PySem.F.plainAttrs_dict PySem.F.slot_dict_values PySem.F.type_dict_values cy K (j4 (j3 K hu) (qV 0) b3 (fun _ _=>rfl))) j0)) (M3 (own:=["tie"]) (js:=[]) (by kernel_rfl) rfl (dS (j4 (j3 K hu) (qV 0) b3 (fun _ _=>rfl))) (fun _ _ _ _=>(M8 (i:=0) (show List.Nodup (["tie"]:List Str) by decide+kernel) rfl (by walk_at "l"))) (fun _ _ _ _=>bG) (fun _ _ _ _=>(j4 (j3 K hu) (qV 0) b3 (fun _ _=>rfl))))))
   (x6 (A1 (qB (AH K rfl) T.b_sum Boot.«sum» (d9 (M3 (own:=["kind"]) (js:=[1]) (by kernel_rfl) rfl (S1 K (qV 2)) (fun _ _ _ _=>(M8 (i:=0) (show List.Nodup (["kind","weights"]:List Str) by decide+kernel) rfl (by walk_at "l"))) (fun _ _ _ _=>bG) (fun _ _ _ _=>(rh hu (qV 1) (qV 0) b3))) j0))))),?_⟩
  walk_at "r"
  refine b9 hW.tup (b6 (j:=0) rfl) ?_
  refine⟨.inr (.inr (.inl ⟨rfl,.inl ⟨_,hW.hp⟩⟩)),?_⟩
  walk_at "r"
  refine⟨p,_,rfl,rfl,.inl hW.hp,fun v nv=>?_⟩
  obtain⟨H1,e1,f1,m1,_⟩:=b4 (o:= .ext (kP v p)) nv
  rw[e1]
  walk_at "r"
  refine ju f1 (.inl (m1 _ _ hW.hp)) (fun l nl=>?_)
  rw[nR]
  obtain⟨H2,e2,f2,m2,_⟩:=b4 (o:= .lst _) nl
  rw[e2]
  have s2:=m1.trans m2
  have W2:=hW.same s2
  walk_at "r"
  refine b9 W2.tup (b6 (j:=1) rfl) ?_
  refine⟨q,kvs,rfl,.inl ⟨W2.hq,fun ndq o=>?_⟩⟩
  refine u6 (n:=kvs.length) (fun i out H'=>Same (C3 q o kvs H2) H'∧out=((W.ts.take i).map (·.2.1)).map V.str) ⟨Same.refl _,rfl⟩ (fun i out H' hi hp=>⟨hp.1 _ _ d8,hi⟩) ?_ ?_
  ·rintro N i v out H3' H3 hi ⟨s3,rfl⟩ ⟨rfl,kv,hkv,rfl⟩ hN'
   have le3:=(ba (o:=o) W2.hq).trans s3.le
   obtain⟨x,hx,ex,bb,eb,sb⟩:=(W2.ts.mono le3).get hkv
   obtain⟨kk,kvv⟩:=kv
   have eb':kvv= .ref bb:=eb
   subst eb'
   walk_at "r"
   refine⟨rfl,?_⟩
   walk_at "r"
   refine b9 sb (b6 (j:=0) rfl) ?_
   refine⟨c8 (by rw[List.length_map,List.length_map,List.length_take];omega),hN' _ _ ⟨s3,?_⟩⟩
   rw[List.take_succ,hx,List.map_append,List.map_append];rfl
  ·rintro out H3 ⟨s3,rfl⟩
   refine⟨⟨s3 _ _ d8,Nat.le_refl _⟩,fun D hD'=>⟨c8 (by rw[List.length_map,List.length_map,List.length_take];omega),?_⟩⟩
   rw[List.take_of_length_le (by omega)]
   have s4:=rL (u:= .lst ((W.ts.map (·.2.1)).map V.str)) W2.hq s3 hD'
   have f4:=xQ (u:= .lst ((W.ts.map (·.2.1)).map V.str)) s3 hD'
   generalize thaw q (upd H3 D (.lst ((W.ts.map (·.2.1)).map V.str)))=H4 at s4 f4⊢
   refine S4 (s4 _ _ f2) f4 (c8 (by simp only[List.length_map];omega)) (fun l5 n5=>?_)
   rw[←List.map_append]
   obtain⟨H5,e5,f5,m5,_⟩:=b4 (o:= .lst _) n5
   rw[e5]
   have D5:=hD.same (s2.trans (s4.trans m5))
   walk_at "r"
   refine A7 (SqL.of f5) ?_
   generalize hks:W.pts.map (·.2)++W.ts.map (·.2.1)=ks at f5
   have hksl:ks.length=W.pts.length+W.ts.length:=by rw[←hks];simp
   refine u6 (n:=ks.length) (fun i out H'=>Same H5 H'∧out=((ks.take i).map (wt ws)).map V.int) ⟨Same.refl _,rfl⟩ (fun i out H' hi hp=>⟨_,.str (ks[i]),SqL.of (hp.1 _ _ f5),by rw[List.getElem?_map,List.getElem?_eq_getElem hi];rfl⟩) ?_ ?_
   ·rintro N i v out H6' H6 hi ⟨s6,rfl⟩ y hN'
    obtain⟨rfl,hx⟩:=Itl.get y (SqL.of (s6 _ _ f5))
    rw[List.getElem?_map,List.getElem?_eq_getElem hi] at hx
    cases hx
    have D6:=D5.same s6
    walk_at "r"
    refine⟨rfl,?_⟩
    walk_at "r"
    refine jA ?_
    walk_at "r"
    refine⟨d,rfl,.inl ⟨_,.inl D6.hd⟩,?_⟩
    walk_at "r"
    refine⟨_,Z2 (k:=Sum.inr ks[i]) (show Rd H6 d (.dK ws) from .inl D6.hd),?_⟩
    rw[jO D6.ok]
    refine⟨c8 (by rw[List.length_map,List.length_map,List.length_take];omega),hN' _ _ ⟨s6,?_⟩⟩
    rw[List.take_succ,List.getElem?_eq_getElem hi,List.map_append,List.map_append];rfl
   ·rintro out H6 ⟨s6,rfl⟩
    refine⟨⟨_,SqL.of (s6 _ _ f5),by rw[List.length_map];exact Nat.le_refl _⟩,fun D7 n7=>⟨c8 (by rw[List.length_map,List.length_map,List.length_take];omega),?_⟩⟩
    rw[List.take_of_length_le (Nat.le_refl _)]
    obtain⟨H7,e7,f7,m7,_⟩:=b4 (H:=H6) (o:= .lst ((ks.map (wt ws)).map V.int)) n7
    walk_at "r"
    change uO K _ (upd H6 D7 _) _
    rw[e7]
    refine zd (SqL.of f7) ?_
    have e8:(ks.map (wt ws)).sum=jU ws W:=by
     rw[←hks,List.map_append,List.sum_append,List.map_map,List.map_map];rfl
    rw[e8]
    exact k _ (s2.trans (s4.trans (m5.trans (s6.trans m7))))
abbrev me (P:Program)(w:World)(K:PySem.W.Frag)(mg:Str→Option Value)(base:Heap):Prop:=A2 P w K mg base j9 2 "falls" ["rule","weights"] [] (jw K)
theorem qa {f:Addr}{fd:FuncData}(T:Txt K mg)(W3:fz P w K mg base)(F:Fun K "falls" "falls" gS f fd):j1 P w K mg base j9 2 f fd ["rule","weights"] (jw K):=by
 refine F.ok sc_falls (fun vs H Q E h=>?_) (fun cdv A outer s H vs Q E hr h=>?_)
 ·obtain⟨r,a,p,q,a',p',q',d,x,kvs,kvs',ws,W,W',rfl,_⟩:=h
  rfl
 ·obtain⟨r,a,p,q,a',p',q',d,x,kvs,kvs',ws,W,W',rfl,hR,hW,hW',hD,k⟩:=h
  have hN:=sc_falls.nd
  have hu:=q5 hr
  refine⟨_,QSs.r (x6 (A1 (gv N3 (qC W3 (hr.mono (by decide)) p7 (d9 (j4 (j3 K hu) (qV 0) b3 (fun _ _=>rfl)) (d9 (qV 1) j0))) (qC W3 (hr.mono (by decide)) p7 (d9 (j4 (j3 K hu) (qV 0) b3 (fun _ _=>rfl)) (d9 (qV 1) j0))) (j5 _)))),?_⟩
  walk_at "r"
  refine b9 hR (b6 (j:=1) rfl) ?_
  walk_at "r"
  refine⟨a',p',q',d,kvs',ws,W',rfl,hW',hD,fun H1 s1=>?_⟩
  walk_at "r"
  refine b9 (s1.tup hR) (b6 (j:=0) rfl) ?_
  walk_at "r"
  refine⟨a,p,q,d,kvs,ws,W,rfl,hW.same s1,hD.same s1,fun H2 s2=>?_⟩
  walk_at "r"
  exact k H2 (s1.trans s2)
abbrev W5 (P:Program)(w:World)(K:PySem.W.Frag)(mg:Str→Option Value)(base:Heap):Prop:=A2 P w K mg base j9 1 "_law_weight" ["_law_web_here","_law_weights_here"] [] (U3 K)
theorem dJ {f:Addr}{fd:FuncData}(T:Txt K mg)(F:Fun K "_law_weight" "_law_weight" J5 f fd):j1 P w K mg base j9 1 f fd ["_law_web_here","_law_weights_here"] (U3 K):=by
 refine F.ok sc__law_weight (fun vs H Q E h=>?_) (fun cdv A outer s H vs Q E hr h=>?_)
 ·obtain⟨a,p,q,d,kvs,ws,W,rfl,_⟩:=h
  rfl
 ·obtain⟨a,p,q,d,kvs,ws,W,rfl,hW,hD,k⟩:=h
  have hlp:=hW.lp
  have hlq:=hW.lq
  have hkl:=hW.ts.length
  have hpl:(x5 W.pts).length=W.pts.length:=B0 _
  have hN:=sc__law_weight.nd
  have hu:=q5 hr
  refine⟨_,QSs.r (o9 (j2 (i:=2) hN rfl (by walk_at "l") b3)
   (o9 (K5 PassesOwn.never rfl (dS (j4 (j3 K hu) (qV 0) b3 (fun _ _=>rfl))) (M8 (i:=3) hN rfl (by walk_at "l"))
    (x6 (j2 (i:=2) hN rfl (by walk_at "l") (j6 (u9 K) (qV 2) (rh hu (qV 1) (qV 3) b3)))))
   (o9 (K5 PassesOwn.never rfl (dS (j4 (j3 K hu) (qV 0) b3 (fun _ _=>rfl))) (M8 (i:=4) hN rfl (by walk_at "l"))
    (x6 (j2 (i:=2) hN rfl (by walk_at "l") (j6 (u9 K) (qV 2) (rh hu (qV 1) (j4 (j3 K hu) (qV 4) b3 (fun _ _=>rfl)) b3)))))
   (x6 (A1 (qV 2)))))),?_⟩
  walk_at "r"
  refine b9 hW.tup (b6 (j:=0) rfl) ?_
  refine⟨p,_,rfl,.inl ⟨hW.hp,fun ndp o=>?_⟩⟩
  refine C7 (n:=(x5 W.pts).length) (fun i σ H'=>Same (C3 p o (x5 W.pts) H) H'∧∃v1 v2,σ=[some (.ref a),some (.ref d),some (.int (qT ws (W.pts.take i))),v1,v2]) ⟨Same.refl _,_,_,rfl⟩ (fun i σ H' hi hp=>⟨hp.1 _ _ d8,hi⟩) ?_ ?_
  ·rintro i v σ H3' H3 hi ⟨s3,v1,v2,rfl⟩ ⟨rfl,kv,hkv,rfl⟩
   have le3:=(ba (o:=o) hW.hp).trans s3.le
   obtain⟨x,hx,rfl⟩:=mK hkv
   walk_at "r"
   refine jA ?_
   walk_at "r"
   refine⟨d,rfl,.inl ⟨_,le3.dic (.inl hD.hd)⟩,?_⟩
   walk_at "r"
   refine⟨_,Z2 (k:=Sum.inr x.2) (le3.dic (.inl hD.hd)),?_⟩
   rw[jO hD.ok]
   walk_at "r"
   refine⟨s3,some (.str x.2),v2,?_⟩
   rw[show qT ws (W.pts.take (i+1))=qT ws (W.pts.take i)+wt ws x.2 from iQ hx];rfl
  ·rintro σ H3 ⟨s3,v1,v2,rfl⟩
   refine⟨⟨s3 _ _ d8,Nat.le_refl _⟩,?_⟩
   rw[hpl,List.take_of_length_le (Nat.le_refl _)]
   have s4:=s3.thaw hW.hp
   change(oJ _ _ _ _ (thaw p H3))
   generalize thaw p H3=H4 at s4⊢
   have W4:=hW.same s4
   have D4:=hD.same s4
   walk_at "r"
   refine b9 W4.tup (b6 (j:=1) rfl) ?_
   refine⟨q,_,rfl,.inl ⟨W4.hq,fun ndq o5=>?_⟩⟩
   refine C7 (n:=kvs.length) (fun i σ H'=>Same (C3 q o5 kvs H4) H'∧∃v1 v2,σ=[some (.ref a),some (.ref d),some (.int (qT ws W.pts+qk ws (W.ts.take i))),v1,v2]) ⟨Same.refl _,_,_,by rw[show qk ws (W.ts.take 0)=0 from rfl,Int.add_zero]⟩ (fun i σ H' hi hp=>⟨hp.1 _ _ d8,hi⟩) ?_ ?_
   ·rintro i v σ H5' H5 hi ⟨s5,v1,v2,rfl⟩ ⟨rfl,kv,hkv,rfl⟩
    have le5:=(ba (o:=o5) W4.hq).trans s5.le
    obtain⟨x,hx,ex,bb,eb,sb⟩:=(W4.ts.mono le5).get hkv
    obtain⟨kk,kvv⟩:=kv
    have eb':kvv= .ref bb:=eb
    subst eb'
    walk_at "r"
    refine jA ?_
    walk_at "r"
    refine⟨d,rfl,.inl ⟨_,le5.dic (.inl D4.hd)⟩,?_⟩
    walk_at "r"
    refine b9 sb (b6 (j:=0) rfl) ?_
    walk_at "r"
    refine⟨_,Z2 (k:=Sum.inr x.2.1) (le5.dic (.inl D4.hd)),?_⟩
    rw[jO D4.ok]
    walk_at "r"
    refine⟨s5,v1,some (.ref bb),?_⟩
    rw[show qk ws (W.ts.take (i+1))=qk ws (W.ts.take i)+wt ws x.2.1 from iQ hx,←Int.add_assoc];rfl
   ·rintro σ H5 ⟨s5,v1,v2,rfl⟩
    refine⟨⟨s5 _ _ d8,Nat.le_refl _⟩,?_⟩
    rw[hkl,List.take_of_length_le (Nat.le_refl _)]
    walk_at "r"
    exact k _ (s4.trans (s5.thaw W4.hq))
theorem sS {a:List (h9×V)}{k:h9}{v:V}(h:(a.map (·.1)).Nodup):((B6 a k v).map (·.1)).Nodup:=by
 unfold B6
 by_cases c:(a.any fun kv=>decide (kv.1=k))=true
 ·rw[if_pos c,List.map_map]
  have e:((fun x:h9×V=>x.1)∘fun kv:h9×V=>if kv.1=k then(kv.1,v) else kv)=fun x=>x.1:=by
   funext x
   show(if x.1=k then(x.1,v) else x).1=x.1
   split<;>rfl
  rw[e];exact h
 ·rw[if_neg c,List.map_append]
  refine List.nodup_append.mpr ⟨h,by simp,fun x hx y hy e=>c ?_⟩
  obtain⟨z,hz,rfl⟩:=List.mem_map.mp hx
  have ey:y=k:=by simpa using hy
  exact List.any_eq_true.mpr ⟨z,hz,decide_eq_true (e.trans ey)⟩
abbrev R9 (P:Program)(w:World)(K:PySem.W.Frag)(mg:Str→Option Value)(base:Heap):Prop:=A2 P w K mg base j9 1 "_law_weights" ["_law_cell","_law_kinds_here"] [] (Q4 K)
theorem cn {f:Addr}{fd:FuncData}(T:Txt K mg)(F:Fun K "_law_weights" "_law_weights" F7 f fd):j1 P w K mg base j9 1 f fd ["_law_cell","_law_kinds_here"] (Q4 K):=by
 refine F.ok sc__law_weights (fun vs H Q E h=>?_) (fun cdv A outer s H vs Q E hr h=>?_)
 ·obtain⟨c,b,ks,rfl,_⟩:=h
  rfl
 ·obtain⟨c,b,ks,rfl,h0,hB,hk,k⟩:=h
  have hN:=sc__law_weights.nd
  have hu:=q5 hr
  refine⟨_,QSs.r (o9 (j2 (i:=2) hN rfl (by walk_at "l") vg)
   (o9 (K5 PassesOwn.never rfl (Z8 T.b_range (d9 b3 j0)) (M8 (i:=3) hN rfl (by walk_at "l"))
    (o9 (j2 (i:=4) hN rfl (by walk_at "l") (j6 i7 (j6 p8 (qV 0) (j4 (j3 K hu) (R3 (d9 b3 (d9 b3 j0))) (qV 3) (fun _ _=>rfl))) b3))
   (x6 (dm (q8 (G5 K hr) (j6 i7 (qV 4) b3) b3 (j5 _)) (x6 (aa (j6 i7 (j6 op_mulY (qV 0) b3) (j4 (j3 K hu) (R3 (d9 (j6 (u9 K) (j6 aW b3 b3) b3) (d9 (j6 (u9 K) (j6 aW b3 b3) b3) j0))) (qV 3) (fun _ _=>rfl))) (jM (qV 2) (j4 (j3 K hu) (qV 1) (qV 3) (fun _ _=>rfl)) (p6 P w hu)))) (x6 (dm (q8 iP (j6 i7 (qV 4) b3) b3 (j5 _)) (x6 (aa (j6 i7 (j6 p8 (qV 4) b3) b3) (jM (qV 2) (j4 (j3 K hu) (qV 1) (qV 3) (fun _ _=>rfl)) (p6 P w hu)))) fR))))))
   (x6 (A1 (qV 2))))),?_⟩
  walk_at "r"
  intro d nd0
  obtain⟨H1,e1,f1,m1,o1⟩:=b4 (o:= .dK []) nd0
  rw[e1]
  walk_at "r"
  refine z8 (by omega) (by omega) ?_
  refine C7 (n:=2) (fun i σ H'=>∃(ws:List (h9×V)) (v1 v2:Option V),σ=[some (.int c),some (.ref b),some (.ref d),v1,v2]∧Same H H'∧H' d=some (.dK ws)∧(∀kv∈ws,∃(n:Str) (i:Int),kv=(Sum.inr n,.int i))∧ws.length≤i∧(ws.map (·.1)).Nodup)
   ⟨[],_,_,rfl,m1,f1,(fun _ h=>nomatch h),Nat.le_refl _,.nil⟩ (fun i σ H' hi _=>by exact hi) ?_ ?_
  ·rintro i v σ H2' H2 hi ⟨ws,v1,v2,rfl,s2,g2,hw,hl,hnd⟩ ⟨rfl,rfl⟩
   have hi2:i=0∨i=1:=by omega
   obtain⟨y,hy,hy0,hy1⟩:∃y:Int,cz [V.int 1,V.int 97] (0+(i:Int))=some (.int y)∧0<y∧y<1073741824:=by
    rcases hi2 with rfl|rfl
    ·exact⟨1,rfl,by decide,by decide⟩
    ·exact⟨97,rfl,by decide,by decide⟩
   obtain⟨z,hz,hz0⟩:∃z:Int,cz [V.int (10 ^ Int.toNat 40+121),V.int (10 ^ Int.toNat 50+151)] (0+(i:Int))=some (.int z)∧0<z:=by
    rcases hi2 with rfl|rfl
    ·exact⟨10 ^ Int.toNat 40+121,rfl,by decide+kernel⟩
    ·exact⟨10 ^ Int.toNat 50+151,rfl,by decide+kernel⟩
   obtain⟨kd,hkd,_⟩:=k8 (ss:=ks) (i:=0+(i:Int)) (by omega) (by omega)
   have fin:∀(H3:Hp) (m:Int) (v1 v2:Option V),Same H2 H3→∃(ws':List (h9×V)) (v1' v2':Option V),[some (V.int c),some (.ref b),some (.ref d),v1,v2]=[some (.int c),some (.ref b),some (.ref d),v1',v2']∧Same H (upd H3 d (.dK (B6 ws (Sum.inr kd) (.int m))))∧upd H3 d (.dK (B6 ws (Sum.inr kd) (.int m))) d=some (.dK ws')∧(∀kv∈ws',∃(n:Str) (i:Int),kv=(Sum.inr n,.int i))∧ws'.length≤i+1∧(ws'.map (·.1)).Nodup:=fun H3 m v1 v2 s3=>
    ⟨_,_,_,rfl,A0 (s2.trans s3) nd0,d8,qA hw ⟨_,_,rfl⟩,xG hl,sS hnd⟩
   walk_at "r"
   refine⟨c8 (by simp),fun l3 n3=>?_⟩
   obtain⟨H3,e3,f3,m3,_⟩:=b4 (o:= .lst [.int 1,.int 97]) n3
   rw[e3]
   walk_at "r"
   refine b5 (SqL.of f3) hy ?_
   walk_at "r"
   have hn0:0≤c/y % 97:=by omega
   generalize c/y % 97=num at hn0⊢
   refine z6 (fun hb=>?_) (fun hb=>?_)
   ·walk_at "r"
    refine⟨c8 (by simp),fun l4 n4=>?_⟩
    obtain⟨H4,e4,f4,m4,_⟩:=b4 (o:= .lst [V.int (10 ^ Int.toNat 40+121),V.int (10 ^ Int.toNat 50+151)]) n4
    rw[e4]
    walk_at "r"
    refine b5 (SqL.of f4) hz ?_
    refine AK hz0 ?_
    walk_at "r"
    refine b5 (SqL.of ((s2.trans (m3.trans m4)) _ _ hB)) hkd ?_
    refine D9 (k9 (k:=Sum.inr kd) ((m3.trans m4) _ _ g2) (c8 (by omega)) ?_)
    exact fin _ _ _ _ (m3.trans m4)
   ·walk_at "r"
    refine z6 (fun hb2=>?_) (fun hb2=>?_)
    ·walk_at "r"
     refine b5 (SqL.of ((s2.trans m3) _ _ hB)) hkd ?_
     refine D9 (k9 (k:=Sum.inr kd) (m3 _ _ g2) (c8 (by omega)) ?_)
     exact fin _ _ _ _ m3
    ·walk_at "r"
     exact⟨ws,_,_,rfl,s2.trans m3,m3 _ _ g2,hw,by omega,hnd⟩
  ·rintro σ H2 ⟨ws,v1,v2,rfl,s2,g2,hw,hl,hnd⟩
   refine⟨Nat.le_refl _,?_⟩
   walk_at "r"
   exact k d ws H2 s2 nd0 ⟨g2,hw⟩ hnd
def fH (x:Str):Bool:=C0 x kSL 6
def Q6 (W:G3)(m:Str):Prop:=fH m=true∧∀n∈i6 W,PySem.Txt.startswith n m=false
def AZ (K:PySem.W.Frag)(H:Hp)(E:XK)(c:Str):Prop:=∀H' e,Same H H'→H' e=none→E (.ref (cA K c)) (some e) H'
def cZ (K:PySem.W.Frag):Sp:=fun vs H Q _=>∃m:Str,vs=[.str m]∧m.length≤1000∧∀H',Same H H'→Q (.bl (fH m)) H'
def T2 (K:PySem.W.Frag):Sp:=fun vs H Q E=>∃(S:Sd) (m:Str),vs=[.ref S.a,.str m]∧SdIs K H S∧m.length≤1000∧(Q6 S.W m→∀H',Same H H'→Q .non H')∧(¬Q6 S.W m→AZ K H E "NoNames")
structure Ru where
 r:Addr
 L:Sd
 R:Sd
 b:V
structure RuB (K:PySem.W.Frag) (H:Hp) (x:Ru):Prop where
 tup:SqT K H x.r [.ref x.L.a,.ref x.R.a,x.b]
 l:SdIs K H x.L
 r:SdIs K H x.R
theorem RuB.same {H H':Hp}{x:Ru}(h:RuB K H x)(s:Same H H'):RuB K H' x:=⟨s.tup h.tup,h.l.same s,h.r.same s⟩
def C2 (ws:List (h9×V))(x:Ru):Bool:=decide (jU ws x.R.W<jU ws x.L.W)
def eJ (K:PySem.W.Frag):Sp:=fun vs H Q E=>∃(S:Sd) (lr lw:Addr) (hv:V) (m:Str) (rs:List Ru) (ws:List (h9×V)),vs=[.ref S.a,.ref lr,.ref lw,hv,.str m]∧SdIs K H S∧SqL K H lr (rs.map fun x=>V.ref x.r)∧(∀x∈rs,RuB K H x)∧WtI H lw ws∧m.length≤1000∧rs.length≤10∧(¬Q6 S.W m→AZ K H E "NoNames")∧(Q6 S.W m→rs.all (C2 ws)=false∧AZ K H E "NoFall")
theorem qI {α:Type}(f:α→Bool){l:List α}{i:Nat}{a:α}(h:l[i]?=some a):(l.take i).map (fun x=>V.bl (f x))++[V.bl (f a)]=(l.take (i+1)).map fun x=>V.bl (f x):=by
 rw[List.take_succ,h,List.map_append];rfl
abbrev fF (P:Program)(w:World)(K:PySem.W.Frag)(mg:Str→Option Value)(base:Heap):Prop:=A2 P w K mg base j9 2 "is_mark" ["thing"] [] (cZ K)
theorem jS {f:Addr}{fd:FuncData}(T:Txt K mg)(B2:N4 P w K mg base)(F:Fun K "is_mark" "is_mark" bM f fd):j1 P w K mg base j9 2 f fd ["thing"] (cZ K):=by
 refine F.ok sc_is_mark (fun vs H Q E h=>?_) (fun cdv A outer s H vs Q E hr h=>?_)
 ·obtain⟨m,rfl,_⟩:=h
  rfl
 ·obtain⟨m,rfl,hl,k⟩:=h
  have hN:=sc_is_mark.nd
  have hu:=q5 hr
  refine⟨_,QSs.r (x6 (A1 (qC B2 (hr.mono (by decide)) p7 (d9 (qV 0) (d9 (iq T.c_SMALL_LETTERS) (d9 (iq T.c_MOST_MARK_SIGNS) j0)))))),?_⟩
  walk_at "r"
  exact⟨.str m,kSL,6,rfl,.inl ⟨m,rfl,hl,k⟩⟩
abbrev Y9 (P:Program)(w:World)(K:PySem.W.Frag)(mg:Str→Option Value)(base:Heap):Prop:=A2 P w K mg base (eP P w) 3 "refuse_mark" ["web","mark"] [] (T2 K)
theorem eB {f:Addr}{fd:FuncData}(T:Txt K mg)(bH:fF P w K mg base)(C4:aJ P w K mg base)(F:Fun K "refuse_mark" "refuse_mark" K1 f fd):j1 P w K mg base (eP P w) 3 f fd ["web","mark"] (T2 K):=by
 refine F.okE sc_refuse_mark (fun vs H Q E h=>?_) (fun cdv A outer s H vs Q E hr h=>?_)
 ·obtain⟨S,m,rfl,_⟩:=h
  rfl
 ·obtain⟨S,m,rfl,hS,hl,k,kE⟩:=h
  have hW:WebIs 24 K H S.a S.p S.q S.kvs S.W:=hS
  have hlen:=hW.len
  have hN:=sc_refuse_mark.nd
  have hu:=q5 hr
  refine⟨_,QSs.r (o9 (dm (lZ (iJ K (qC bH (hr.mono (by decide)) p7 (d9 (qV 1) j0)))) (x6 (kZ ib T.r_NoNames rfl (d9 K7 j0))) fR)
   (x6 (dm (iJ K (qB (AJ K rfl) T.b_any Boot.«any» (d9 (M3 (own:=["name"]) (js:=[1]) (by kernel_rfl) rfl (S1 K (qC C4 (hr.mono (by decide)) p7 (d9 (qV 0) j0))) (fun _ _ _ _=>(M8 (i:=0) (show List.Nodup (["name","mark"]:List Str) by decide+kernel) rfl (by walk_at "l"))) (fun _ _ _ _=>bG) (fun _ _ _ _=>(qM PySem.F.plainAttrs_str PySem.F.slot_str_startswith PySem.F.type_str_startswith Z3 K (qV 0) (d9 (qV 1) j0)))) j0))) (x6 (kZ ib T.r_NoNames rfl (d9 K7 j0))) fR))),?_⟩
  walk_at "r"
  refine⟨m,rfl,hl,fun H1 m1=>?_⟩
  cases hm:fH m
  ·walk_at "r"
   exact⟨by decide,fun e he=>kE (fun z=>by have q:=z.1;rw[hm] at q;cases q) _ e m1 he⟩
  walk_at "r"
  have W1:=hW.same m1
  refine⟨S.a,S.p,S.q,S.kvs,S.W,rfl,W1.at_,by omega,fun l H2 s1 s2 nl m2 f2 or=>?_⟩
  have hol:=or.len
  have hmm:∀n,n∈s1++s2↔n∈i6 S.W:=fun n=>or.mem
  generalize s1++s2=ss at f2 hol hmm
  have m02:=m1.trans m2
  refine A7 (SqL.of f2) ?_
  refine u6 (n:=ss.length) (fun i out H'=>Same H2 H'∧out=(ss.take i).map fun n=>V.bl (PySem.Txt.startswith n m)) ⟨Same.refl _,rfl⟩ (fun i out H' hi hp=>⟨_,.str ss[i],SqL.of (hp.1 _ _ f2),by rw[List.getElem?_map,List.getElem?_eq_getElem hi];rfl⟩) ?_ ?_
  ·rintro N i v out H3' H3 hi ⟨s3,rfl⟩ y hN'
   obtain⟨rfl,hx⟩:=Itl.get y (SqL.of (s3 _ _ f2))
   rw[List.getElem?_map] at hx
   have hxi:=List.getElem?_eq_getElem hi
   generalize ss[i]=x at hxi
   rw[hxi] at hx
   cases hx
   walk_at "r"
   refine⟨rfl,?_⟩
   walk_at "r"
   refine⟨rfl,?_⟩
   walk_at "r"
   refine⟨_,_,rfl,rfl,?_⟩
   refine⟨c8 (by rw[List.length_map,List.length_take];omega),hN' _ _ ⟨s3,?_⟩⟩
   exact qI (fun n=>PySem.Txt.startswith n m) hxi
  ·rintro out H3 ⟨s3,rfl⟩
   rw[List.take_of_length_le (Nat.le_refl _)]
   refine⟨⟨_,SqL.of (s3 _ _ f2),by rw[List.length_map];exact Nat.le_refl _⟩,fun D hD=>⟨c8 (by rw[List.length_map];omega),?_⟩⟩
   obtain⟨H4,e4,f4,m4,_⟩:=b4 (H:=H3) (o:= .lst (ss.map fun n=>V.bl (PySem.Txt.startswith n m))) hD
   show jn _ (upd H3 D _) _
   rw[e4]
   walk_at "r"
   refine⟨D,ss.map fun n=>PySem.Txt.startswith n m,rfl,SqL.of (by rw[f4,List.map_map];rfl),?_⟩
   have m04:=m02.trans (s3.trans m4)
   cases ha:(ss.map fun n=>PySem.Txt.startswith n m).any id
   ·walk_at "r"
    refine k ⟨hm,fun n hn=>?_⟩ _ m04
    rw[List.any_eq_false] at ha
    simpa using ha _ (List.mem_map.mpr ⟨n,(hmm n).mpr hn,rfl⟩)
   ·walk_at "r"
    refine⟨by decide,fun e he=>kE (fun z=>?_) _ e m04 he⟩
    obtain⟨b,hb,eb⟩:=List.any_eq_true.mp ha
    obtain⟨n,hn,rfl⟩:=List.mem_map.mp hb
    have q:=z.2 n ((hmm n).mp hn)
    rw[show PySem.Txt.startswith n m=true from eb] at q
    cases q
theorem pw {f:Addr}{fd:FuncData}(T:Txt K mg)(K2:Y9 P w K mg base)(gX:me P w K mg base){T9:Addr}(F:FunD K "ended" "ended" V4 T9 f fd):j1 P w K mg base (eP P w) 4 f fd ["web","rules","weights","hand","mark"] (eJ K):=by
 refine F.okE sc_ended (fun vs H Q E h=>?_) (fun cdv A outer s H vs Q E hr h=>?_)
 ·obtain⟨S,lr,lw,hv,m,rs,ws,rfl,_⟩:=h
  rfl
 ·obtain⟨S,lr,lw,hv,m,rs,ws,rfl,hS,hL,hR,hWt,hl,hrl,kN,kF⟩:=h
  have hN:=sc_ended.nd
  have hu:=q5 hr
  refine⟨_,QSs.r (o9 (um (qC K2 (hr.mono (by decide)) zu (d9 (qV 0) (d9 (qV 4) j0))))
   (o9 (dm (lZ (iJ K (qB (vY K rfl) T.b_all Boot.«all» (d9 (M3 (own:=["rule"]) (js:=[2]) (by kernel_rfl) rfl (S1 K (qV 1)) (fun _ _ _ _=>(M8 (i:=0) (show List.Nodup (["rule","weights"]:List Str) by decide+kernel) rfl (by walk_at "l"))) (fun _ _ _ _=>bG) (fun _ _ _ _=>(qC gX (hr.mono (by decide)) p7 (d9 (qV 0) (d9 (qV 1) j0))))) j0)))) (x6 (kZ ib T.r_NoFall rfl (d9 K7 j0))) fR)
   Bw)),?_⟩
  walk_at "r"
  refine⟨S,m,rfl,hS,hl,fun hg H1 m1=>?_,fun hb=>kN hb⟩
  obtain⟨hall,kF⟩:=kF hg
  walk_at "r"
  have L1:=m1.seq hL
  refine A7 L1 ?_
  refine u6 (n:=rs.length) (fun i out H'=>Same H1 H'∧out=(rs.take i).map fun x=>V.bl (C2 ws x)) ⟨Same.refl _,rfl⟩ (fun i out H' hi hp=>⟨_,.ref rs[i].r,hp.1.seq L1,by rw[List.getElem?_map,List.getElem?_eq_getElem hi];rfl⟩) ?_ ?_
  ·rintro N i v out H2' H2 hi ⟨s2,rfl⟩ y hN'
   obtain⟨rfl,hx⟩:=Itl.get y (s2.seq L1)
   rw[List.getElem?_map] at hx
   have hxi:=List.getElem?_eq_getElem hi
   generalize rs[i]=x at hxi
   rw[hxi] at hx
   cases hx
   have m02:=m1.trans s2
   have hx2:=(hR x (List.mem_of_getElem? hxi)).same m02
   walk_at "r"
   refine⟨rfl,?_⟩
   walk_at "r"
   refine⟨x.r,x.L.a,x.L.p,x.L.q,x.R.a,x.R.p,x.R.q,lw,x.b,x.L.kvs,x.R.kvs,ws,x.L.W,x.R.W,rfl,hx2.tup,hx2.l.wb,hx2.r.wb,hWt.same m02,fun H3 m3=>?_⟩
   refine⟨c8 (by rw[List.length_map,List.length_take];omega),hN' _ _ ⟨s2.trans m3,?_⟩⟩
   exact qI (C2 ws) hxi
  ·rintro out H2 ⟨s2,rfl⟩
   rw[List.take_of_length_le (Nat.le_refl _)]
   refine⟨⟨_,s2.seq L1,by rw[List.length_map];exact Nat.le_refl _⟩,fun D hD=>⟨c8 (by rw[List.length_map];omega),?_⟩⟩
   obtain⟨H3,e3,f3,m3,_⟩:=b4 (H:=H2) (o:= .lst (rs.map fun x=>V.bl (C2 ws x))) hD
   show jn _ (upd H2 D _) _
   rw[e3]
   walk_at "r"
   refine qb (bs:=rs.map (C2 ws)) (SqL.of (by rw[f3,List.map_map];rfl)) ?_
   have hal:(rs.map (C2 ws)).all id=false:=by rw[List.all_map];exact hall
   rw[hal]
   walk_at "r"
   exact⟨by decide,fun e he=>kF _ e (m1.trans (s2.trans m3)) he⟩
def Y8 (K:PySem.W.Frag):Sp:=fun vs H Q _=>∃(x:Ru) (lw:Addr) (ws:List (h9×V)),vs=[.ref x.r,.ref lw]∧RuB K H x∧WtI H lw ws∧∀H',Same H H'→Q (.bl (C2 ws x)) H'
abbrev ar (P:Program)(w:World)(K:PySem.W.Frag)(mg:Str→Option Value)(base:Heap):Prop:=A2 P w K mg base j9 2 "_law_falls" ["_law_rule_here","_law_weights_here"] [] (Y8 K)
theorem fo {f:Addr}{fd:FuncData}(T:Txt K mg)(D8:W5 P w K mg base)(F:Fun K "_law_falls" "_law_falls" N8 f fd):j1 P w K mg base j9 2 f fd ["_law_rule_here","_law_weights_here"] (Y8 K):=by
 refine F.ok sc__law_falls (fun vs H Q E h=>?_) (fun cdv A outer s H vs Q E hr h=>?_)
 ·obtain⟨x,lw,ws,rfl,_⟩:=h
  rfl
 ·obtain⟨x,lw,ws,rfl,hx,hw,k⟩:=h
  have hN:=sc__law_falls.nd
  have hu:=q5 hr
  refine⟨_,QSs.r (x6 (A1 (gv N3 (qC D8 (hr.mono (by decide)) p7 (d9 (j4 (j3 K hu) (qV 0) b3 (fun _ _=>rfl)) (d9 (qV 1) j0))) (qC D8 (hr.mono (by decide)) p7 (d9 (j4 (j3 K hu) (qV 0) b3 (fun _ _=>rfl)) (d9 (qV 1) j0))) (j5 _)))),?_⟩
  walk_at "r"
  refine b9 hx.tup (b6 (j:=1) rfl) ?_
  walk_at "r"
  refine⟨x.R.a,x.R.p,x.R.q,lw,x.R.kvs,ws,x.R.W,rfl,hx.r.wb,hw,fun H1 m1=>?_⟩
  walk_at "r"
  have h1:=hx.same m1
  refine b9 h1.tup (b6 (j:=0) rfl) ?_
  walk_at "r"
  refine⟨x.L.a,x.L.p,x.L.q,lw,x.L.kvs,ws,x.L.W,rfl,h1.l.wb,hw.same m1,fun H2 m2=>?_⟩
  walk_at "r"
  exact k _ (m1.trans m2)
theorem dC (x y:Str):PySem.Txt.startswith x y=true↔x.cps.toList.take y.length=y.cps.toList:=by
 unfold PySem.Txt.startswith
 rw[StrLaws.subAt_eq,List.drop_zero,Bool.and_eq_true,decide_eq_true_eq,beq_iff_eq]
 refine⟨fun h=>h.2,fun h=>⟨?_,h⟩⟩
 have z:=congrArg List.length h
 have zy:y.cps.toList.length=y.length:=by simp [Str.length]
 have zx:x.cps.toList.length=x.length:=by simp [Str.length]
 rw[List.length_take] at z
 omega
theorem jb {x y:Str}{k:Nat}(h:y.cps.toList=x.cps.toList.take k):PySem.Txt.startswith x y=true:=by
 rw[dC]
 have zy:y.cps.toList.length=y.length:=by simp [Str.length]
 rw[←zy,h,List.length_take]
 by_cases c:k≤x.cps.toList.length
 ·rw[Nat.min_eq_left c]
 ·rw[Nat.min_eq_right (by omega),List.take_of_length_le (Nat.le_refl _),List.take_of_length_le (by omega)]
theorem sh {l fs:List Str}(nd:l.Nodup):l.length≤(l.filter fun x=>!decide (x∈fs)).length+fs.length:=by
 induction fs generalizing l with
 |nil=>rw[List.filter_eq_self.mpr (fun x _=>by simp)];exact Nat.le_add_right _ _
 |cons f r ih=>
  have h1:=ih (l:=l.filter fun x=>!decide (x=f)) (nd.filter _)
  have h2:l.length≤(l.filter fun x=>!decide (x=f)).length+1:=by
   clear ih h1
   induction l with
   |nil=>simp
   |cons a t ih=>
    have nd':=List.nodup_cons.mp nd
    by_cases e:a=f
    ·subst e
     have z:(t.filter fun x=>!decide (x=a))=t:=List.filter_eq_self.mpr fun x hx=>by
      have:x≠a:=fun q=>nd'.1 (q▸hx)
      simp [this]
     rw[List.filter_cons_of_neg (by simp),z,List.length_cons];exact Nat.le_refl _
    ·rw[List.filter_cons_of_pos (by simp [e]),List.length_cons,List.length_cons]
     have:=ih nd'.2
     omega
  have h3:((l.filter fun x=>!decide (x=f)).filter fun x=>!decide (x∈r))=l.filter fun x=>!decide (x∈f::r):=by
   rw[List.filter_filter]
   congr 1
   funext x
   by_cases e:x=f<;>by_cases e':x∈r<;>simp [e,e']
  rw[h3] at h1
  rw[List.length_cons]
  omega
def letters:List Str:=kSL.cps.toList.map fun c=>⟨#[c]⟩
theorem kC:letters.Nodup:=by decide+kernel
theorem bQ:letters.length=26:=by decide+kernel
def kQ (n:Str):Str:=⟨#[n.cps.toList.headD 0]⟩
def aK (K:PySem.W.Frag):Sp:=fun vs H Q _=>∃(S:Sd) (c:Int),vs=[.ref S.a,.int c]∧0≤c∧SdIs K H S∧(i6 S.W).length≤20∧(∀n∈i6 S.W,1≤n.length)∧∀(m:Str) (H':Hp),Q6 S.W m→m.length≤10→Same H H'→Q (.str m) H'
theorem oO {W:G3}{m:Str}{d:Nat}{r:List Nat}(hm:m.cps.toList=d::r)(hl:m.length≤6)(ha:∀c∈m.cps.toList,c∈kSL.cps.toList)(hf:(⟨#[d]⟩:Str)∉(i6 W).map kQ):Q6 W m:=by
 have zm:m.cps.toList.length=m.length:=by simp [Str.length]
 refine⟨?_,fun n hn=>?_⟩
 ·unfold fH C0
  have l1:1≤m.length:=by rw[←zm,hm];simp
  rw[decide_eq_true (show 1≤(m.length:Int) by omega),decide_eq_true (show(m.length:Int)≤6 by omega)]
  exact List.all_eq_true.mpr fun c hc=>decide_eq_true (ha c hc)
 ·refine Bool.eq_false_iff.mpr fun z=>hf ?_
  rw[dC] at z
  refine List.mem_map.mpr ⟨n,hn,?_⟩
  unfold kQ
  have l1:1≤m.length:=by rw[←zm,hm];simp
  cases e:n.cps.toList with
  |nil=>rw[e,hm] at z;simp at z
  |cons a t=>
   rw[e,hm,show m.length=(m.length -1)+1 by omega,List.take_succ_cons] at z
   rw[(List.cons.inj z).1];rfl
theorem yB {i:Int}(h0:0≤i)(h1:i<26):∃d,d∈kSL.cps.toList∧cz kSL.cps.toList i=some d:=by
 have hl:kSL.cps.toList.length=26:=by decide+kernel
 have lt:i.toNat<kSL.cps.toList.length:=by omega
 have e:=b6 (xs:=kSL.cps.toList) (List.getElem?_eq_getElem lt)
 rw[Int.toNat_of_nonneg h0] at e
 exact⟨_,List.getElem_mem lt,e⟩
abbrev cc (P:Program)(w:World)(K:PySem.W.Frag)(mg:Str→Option Value)(base:Heap):Prop:=A2 P w K mg base j9 1 "_law_mark" ["_law_web_here","_law_cell"] [] (aK K)
theorem gu {f:Addr}{fd:FuncData}(T:Txt K mg)(F:Fun K "_law_mark" "_law_mark" S8 f fd):j1 P w K mg base j9 1 f fd ["_law_web_here","_law_cell"] (aK K):=by
 refine F.ok sc__law_mark (fun vs H Q E h=>?_) (fun cdv A outer s H vs Q E hr h=>?_)
 ·obtain⟨S,c,rfl,_⟩:=h
  rfl
 ·obtain⟨S,c,rfl,hc,hS,hn20,hn1,k⟩:=h
  have hW:WebIs 24 K H S.a S.p S.q S.kvs S.W:=hS
  have hN:=sc__law_mark.nd
  have hu:=q5 hr
  refine⟨_,QSs.r (o9 (j2 (i:=2) hN rfl (by walk_at "l") K7)
   (o9 (j2 (i:=3) hN rfl (by walk_at "l") (M3 (own:=["_law_name"]) (js:=[]) (by kernel_rfl) rfl (S1 K (j6 (u9 K) (ip (bJ K rfl) T.b_list Boot.«list» (d9 (j4 (j3 K hu) (qV 0) b3 (fun _ _=>rfl)) j0)) (ip (bJ K rfl) T.b_list Boot.«list» (d9 (j4 (j3 K hu) (qV 0) b3 (fun _ _=>rfl)) j0)))) (fun _ _ _ _=>(M8 (i:=0) (show List.Nodup (["_law_name"]:List Str) by decide+kernel) rfl (by walk_at "l"))) (fun _ _ _ _=>bG) (fun _ _ _ _=>(j4 (j3 K hu) (qV 0) b3 (fun _ _=>rfl)))))
   (o9 (ao (i:=4) hN rfl (by walk_at "l") (own:=["_law_sign"]) (js:=[3]) (by kernel_rfl) rfl (S1 K (qV 2)) (fun _ _ _ _=>(M8 (i:=0) (show List.Nodup (["_law_sign","_law_firsts"]:List Str) by decide+kernel) rfl (by walk_at "l"))) (fun _ _ _ _=>(tJ (q8 (gk K hu) (qV 0) (qV 1) (by rfl)))) (fun _ _ _ _=>(qV 0)))
   (o9 (j2 (i:=5) hN rfl (by walk_at "l") (j4 (j3 K hu) (qV 4) (j6 i7 (qV 1) (qB (C8 K P w) T.b_len Boot.«len» (d9 (qV 4) j0))) (fun _ _=>rfl)))
   (o9 (K5 PassesOwn.never rfl (Z8 T.b_range (d9 (j6 i7 (j6 p8 (qV 1) b3) b3) j0)) (M8 (i:=6) hN rfl (by walk_at "l"))
    (x6 (j2 (i:=5) hN rfl (by walk_at "l") (j6 (u9 K) (qV 5) (j4 (j3 K hu) (qV 2) (j6 i7 (j6 (u9 K) (j6 p8 (qV 1) b3) (j6 op_mulY b3 (qV 6))) b3) (fun _ _=>rfl))))))
   (x6 (A1 (qV 5)))))))),?_⟩
  refine i9 fun nx1 hx=>?_
  walk_at "e"
  refine hx [some (.ref S.a),some (.int c),some (.str kSL),none,none,none,none] _ ?_
  clear hx
  refine i9 fun nx1 hx=>?_
  walk_at "e"
  have hlp:S.W.pts.length+S.W.ts.length≤24:=by have z:=hW.len;rw[A9] at z;exact z
  have hkl:=hW.at_.ts.length
  refine b9 hW.at_.tup (b6 (j:=0) rfl) ?_
  walk_at "e"
  refine di (P4 hW.at_.pts (fun l1 n1=>?_))
  obtain⟨H1,e1,f1,m1,_⟩:=b4 (o:= .lst _) n1
  rw[e1]
  have f1':H1 l1=some (.lst ((S.W.pts.map (·.1)).map V.str)):=by rw[f1];unfold x5;rw[List.map_map,List.map_map];rfl
  have W1:=hW.same m1
  walk_at "e"
  refine b9 W1.at_.tup (b6 (j:=1) rfl) ?_
  walk_at "e"
  refine di (P4 W1.at_.ties (fun l2 n2=>?_))
  obtain⟨H2,e2,f2,m2,_⟩:=b4 (o:= .lst _) n2
  rw[e2]
  have f2':H2 l2=some (.lst ((S.W.ts.map (·.1)).map V.str)):=by
   have z:S.kvs.map (fun x=>kV x.1)=(S.W.ts.map (·.1)).map V.str:=by
    have q:=congrArg (List.map kV) W1.at_.ts.keys
    rw[List.map_map,List.map_map] at q
    rw[List.map_map]
    exact q
   rw[f2,z]
  refine S4 (m2 _ _ f1') f2' (c8 (by simp only[List.length_map];omega)) (fun l3 n3=>?_)
  obtain⟨H3,e3,f3,m3,_⟩:=b4 (o:= .lst _) n3
  rw[e3]
  rw[←List.map_append] at f3
  have m03:=m1.trans (m2.trans m3)
  have f3':H3 l3=some (.lst ((i6 S.W).map V.str)):=f3
  have key:∀(m:Str) (H':Hp) (d:Nat) (r:List Nat),m.cps.toList=d::r→m.length≤6→(∀c∈m.cps.toList,c∈kSL.cps.toList)→(⟨#[d]⟩:Str)∉(i6 S.W).map kQ→Same H H'→Q (.str m) H':=fun m H' d r h1 h2 h3 h4 s=>k m H' (oO h1 h2 h3 h4) (by omega) s
  have hnl:∀n∈i6 S.W,n.length≤100:=hW.nl
  generalize i6 S.W=ns at f3' hn20 hn1 key hnl
  clear k
  refine A7 (SqL.of f3') ?_
  refine u6 (n:=ns.length) (fun i out H'=>Same H3 H'∧out=((ns.take i).map kQ).map V.str) ⟨Same.refl _,rfl⟩ (fun i out H' hi hp=>⟨_,.str ns[i],SqL.of (hp.1 _ _ f3'),by rw[List.getElem?_map,List.getElem?_eq_getElem hi];rfl⟩) ?_ ?_
  ·rintro N i v out H4' H4 hi ⟨s4,rfl⟩ y hN'
   obtain⟨rfl,hx2⟩:=Itl.get y (SqL.of (s4 _ _ f3'))
   rw[List.getElem?_map] at hx2
   have hxi:=List.getElem?_eq_getElem hi
   generalize ns[i]=x at hxi
   rw[hxi] at hx2
   cases hx2
   have hxm:=List.mem_of_getElem? hxi
   walk_at "e"
   refine⟨rfl,?_⟩
   walk_at "e"
   refine E9 (c8 (by have:=hnl x hxm;omega)) (jo (by have:=hn1 x hxm;omega)) ?_
   refine⟨c8 (by rw[List.length_map,List.length_map,List.length_take];omega),hN' _ _ ⟨s4,?_⟩⟩
   rw[List.take_succ,hxi,List.map_append,List.map_append];rfl
  ·rintro out H4 ⟨s4,rfl⟩
   rw[List.take_of_length_le (Nat.le_refl _)]
   refine⟨⟨_,SqL.of (s4 _ _ f3'),by rw[List.length_map];exact Nat.le_refl _⟩,fun D hD=>⟨c8 (by rw[List.length_map,List.length_map];omega),?_⟩⟩
   obtain⟨H5,e5,f5,m5,_⟩:=b4 (H:=H4) (o:= .lst ((ns.map kQ).map V.str)) hD
   show M0 _ _ _ (upd H4 D _) _
   rw[e5]
   have m05:=m03.trans (s4.trans m5)
   have fl:(ns.map kQ).length≤20:=by rw[List.length_map];exact hn20
   generalize ns.map kQ=fs at f5 fl key
   refine hx [some (.ref S.a),some (.int c),some (.str kSL),some (.ref D),none,none,none] _ ?_
   clear hx
   refine i9 fun nx1 hx=>?_
   walk_at "e"
   have lks:kSL.cps.size=26:=by decide+kernel
   refine u6 (n:=kSL.cps.size) (fun i out H'=>H'=H5∧out=((letters.take i).filter fun x=>!decide (x∈fs)).map V.str) ⟨rfl,rfl⟩ (fun i out H' hi _=>by exact hi) ?_ ?_
   ·rintro N i v out H6' H6 hi ⟨rfl,rfl⟩ y hN'
    obtain⟨rfl,d,hd,rfl⟩:=Its.lt y
    have hli:letters[i]?=some (⟨#[d]⟩:Str):=by unfold letters;rw[List.getElem?_map,hd];rfl
    have hfl:=List.length_filter_le (fun x=>!decide (x∈fs)) (letters.take i)
    rw[List.length_take] at hfl
    have e7:letters.take (i+1)=letters.take i++[(⟨#[d]⟩:Str)]:=by rw[List.take_succ,hli];rfl
    walk_at "e"
    refine⟨rfl,?_⟩
    walk_at "e"
    refine ku (SqL.of f5) ?_
    walk_at "e"
    by_cases hm:(⟨#[d]⟩:Str)∈fs
    ·rw[if_neg (by simp [hm])]
     refine hN' _ _ ⟨rfl,?_⟩
     rw[e7,List.filter_append,List.filter_cons_of_neg (by simp [hm])];simp
    ·rw[if_pos (by simp [hm])]
     walk_at "e"
     refine⟨c8 (by rw[List.length_map];omega),hN' _ _ ⟨rfl,?_⟩⟩
     rw[e7,List.filter_append,List.filter_cons_of_pos (by simp [hm]),List.map_append];rfl
   ·rintro out H6 ⟨rfl,rfl⟩
    have el:letters.take kSL.cps.size=letters:=List.take_of_length_le (by rw[bQ,lks];exact Nat.le_refl _)
    rw[el]
    have hfl:=List.length_filter_le (fun x=>!decide (x∈fs)) letters
    have hge:=sh (fs:=fs) kC
    rw[bQ] at hfl hge
    refine⟨Nat.le_refl _,fun D7 hD7=>⟨c8 (by rw[List.length_map];omega),?_⟩⟩
    have hF:∀x∈letters.filter (fun x=>!decide (x∈fs)),∃d,x=⟨#[d]⟩∧d∈kSL.cps.toList∧x∉fs:=fun x hx9=>by
     obtain⟨a1,a2⟩:=List.mem_filter.mp hx9
     obtain⟨d,hd,rfl⟩:=List.mem_map.mp a1
     exact⟨d,rfl,hd,by simpa using a2⟩
    generalize letters.filter (fun x=>!decide (x∈fs))=F at hF hge hfl
    obtain⟨H7,e7,f7,m7,_⟩:=b4 (H:=H6) (o:= .lst (F.map V.str)) hD7
    show M0 _ _ _ (upd H6 D7 _) _
    rw[e7]
    have m07:=m05.trans m7
    refine hx [some (.ref S.a),some (.int c),some (.str kSL),some (.ref D),some (.ref D7),none,none] _ ?_
    clear hx
    refine i9 fun nx1 hx=>?_
    walk_at "e"
    refine B4 (u4 (SqL.of f7) ?_)
    rw[List.length_map]
    walk_at "e"
    have z0:=Int.emod_nonneg c (show(F.length:Int)≠0 by omega)
    have z1:=Int.emod_lt_of_pos c (show(0:Int)<(F.length:Int) by omega)
    obtain⟨x,hx8,hxm⟩:=k8 (ss:=F) z0 z1
    refine b5 (SqL.of f7) hx8 ?_
    obtain⟨d,rfl,hdk,hdn⟩:=hF x hxm
    refine hx [some (.ref S.a),some (.int c),some (.str kSL),some (.ref D),some (.ref D7),some (.str ⟨#[d]⟩),none] _ ?_
    clear hx
    refine i9 fun nx1 hx=>?_
    walk_at "e"
    have q0:=Int.emod_nonneg (c/26) (show(6:Int)≠0 by decide)
    have q1:=Int.emod_lt_of_pos (c/26) (show(0:Int)<6 by decide)
    refine z8 (by omega) (by omega) ?_
    refine V2 (n:=(c/26 % 6).toNat) (fun i σ H'=>H'=H7∧∃(m:Str) (r:List Nat) (v6:Option V),σ=[some (.ref S.a),some (.int c),some (.str kSL),some (.ref D),some (.ref D7),some (.str m),v6]∧m.cps.toList=d::r∧m.length=i+1∧∀e∈m.cps.toList,e∈kSL.cps.toList) ⟨rfl,⟨#[d]⟩,[],none,rfl,rfl,rfl,fun e he=>by rw[List.mem_singleton.mp (show e∈[d] from he)];exact hdk⟩ (fun i σ H' hi _=>by exact hi) ?_ ?_
    ·rintro bk i v σ H8' H8 hi ⟨rfl,m,r,v6,rfl,hm1,hm2,hm3⟩ ⟨rfl,rfl⟩
     walk_at "e"
     obtain⟨d2,hd2,ha2⟩:=yB (Int.emod_nonneg (c/156+5*(0+(i:Int))) (by decide)) (Int.emod_lt_of_pos (c/156+5*(0+(i:Int))) (by decide))
     refine E9 V9 ha2 ?_
     refine E7 (j:=⟨#[d2]⟩) (c8 (by show m.length+1≤1000;omega)) ?_
     walk_at "e"
     have et:(m++(⟨#[d2]⟩:Str)).cps.toList=m.cps.toList++[d2]:=Array.toList_append
     refine⟨rfl,_,r++[d2],_,rfl,by rw[et,hm1];rfl,?_,fun e he=>?_⟩
     ·have z:(m++(⟨#[d2]⟩:Str)).cps.toList.length=m.cps.toList.length+1:=by rw[et];simp
      have z1:∀y:Str,y.cps.toList.length=y.length:=fun y=>by simp [Str.length]
      rw[z1,z1] at z
      omega
     ·rw[et] at he
      rcases List.mem_append.mp he with q|q
      ·exact hm3 e q
      ·rw[List.mem_singleton.mp q];exact hd2
    ·rintro σ H8 ⟨rfl,m,r,v6,rfl,hm1,hm2,hm3⟩
     refine⟨Nat.le_refl _,?_⟩
     refine hx _ _ ?_
     walk_at "e"
     exact key m _ d r hm1 (by omega) hm3 hdn m07
def M5 (K:PySem.W.Frag):Sp:=fun vs H Q _=>∃(S:Sd) (c:Int),vs=[.ref S.a,.int c]∧0≤c∧SdIs K H S∧(i6 S.W).length≤20∧∀(m:Str) (H':Hp),¬Q6 S.W m→m.length≤100→Same H H'→Q (.str m) H'
theorem rq {W:G3}{m:Str}(h:fH m=false):¬Q6 W m:=fun z=>by rw[z.1] at h;cases h
theorem sF (x:Str){k:Int}(h:(x.length:Int)≤k):PySem.Txt.slice x none (some k)=PySem.Txt.slice x none (some (x.length:Int)):=by
 show StrLaws.sliceText x none (some k)=StrLaws.sliceText x none (some (x.length:Int))
 have e:PySem.Builtin.Str.strSliceIndices none (some k) 1 x.length=PySem.Builtin.Str.strSliceIndices none (some (x.length:Int)) 1 x.length:=by
  unfold PySem.Builtin.Str.strSliceIndices
  simp only[show(1:Int)>0 by decide,if_true]
  rw[if_neg (by omega),if_neg (by omega),Int.min_eq_right h,Int.min_self]
 unfold StrLaws.sliceText
 rw[e]
theorem qx {W:G3}{n m:Str}(hn:n∈i6 W){k:Int}(h0:0≤k)(e:m=PySem.Txt.slice n none (some k)):¬Q6 W m:=fun z=>by
 have q:=z.2 n hn
 rw[jb (k:=k.toNat)] at q
 ·cases q
 ·rw[e]
  by_cases c:k≤n.length
  ·have zz:n.cps.toList.length=n.length:=by simp [Str.length]
   have z2:=StrLaws.sliceText_to (x:=n) (j:=k) ⟨h0,by omega⟩
   show(StrLaws.sliceText n none (some k)).cps.toList=_
   rw[z2,List.drop_zero]
   simp
  ·have zz:n.cps.toList.length=n.length:=by simp [Str.length]
   rw[sF n (by omega)]
   have z2:=StrLaws.sliceText_to (x:=n) (j:=(n.length:Int)) ⟨by omega,by omega⟩
   show(StrLaws.sliceText n none (some (n.length:Int))).cps.toList=_
   rw[z2,List.drop_zero,List.take_of_length_le (by omega)]
   rw[List.take_of_length_le (by omega)]
abbrev Q9 (P:Program)(w:World)(K:PySem.W.Frag)(mg:Str→Option Value)(base:Heap):Prop:=A2 P w K mg base j9 1 "_law_bad_mark" ["_law_web_here","_law_cell"] [] (M5 K)
theorem bq {f:Addr}{fd:FuncData}(T:Txt K mg)(F:Fun K "_law_bad_mark" "_law_bad_mark" E4 f fd):j1 P w K mg base j9 1 f fd ["_law_web_here","_law_cell"] (M5 K):=by
 refine F.ok sc__law_bad_mark (fun vs H Q E h=>?_) (fun cdv A outer s H vs Q E hr h=>?_)
 ·obtain⟨S,c,rfl,_⟩:=h
  rfl
 ·obtain⟨S,c,rfl,hc,hS,hn20,k⟩:=h
  have hW:WebIs 24 K H S.a S.p S.q S.kvs S.W:=hS
  have hN:=sc__law_bad_mark.nd
  have hu:=q5 hr
  refine⟨_,QSs.r (o9 (j2 (i:=2) hN rfl (by walk_at "l") (R3 (d9 K7 (d9 K7 (d9 K7 (d9 K7 (d9 K7 (d9 K7 (d9 K7 (d9 K7 j0))))))))))
   (o9 (K5 PassesOwn.never rfl (S1 K (qB (C5 K rfl) T.b_sorted Boot.«sorted» (d9 (j6 (u9 K) (ip (bJ K rfl) T.b_list Boot.«list» (d9 (j4 (j3 K hu) (qV 0) b3 (fun _ _=>rfl)) j0)) (ip (bJ K rfl) T.b_list Boot.«list» (d9 (j4 (j3 K hu) (qV 0) b3 (fun _ _=>rfl)) j0))) j0))) (M8 (i:=3) hN rfl (by walk_at "l"))
    (x6 (dm (q8 (G5 K hr) (yb (ye K) (qV 3) zO (wK (j6 (u9 K) (j6 i7 (qV 1) b3) b3))) (qM PySem.F.plainAttrs_str PySem.F.slot_str_join PySem.F.type_str_join (ik K) K K7 (d9 (M3 (own:=["_law_sign"]) (js:=[]) (by kernel_rfl) rfl (S1 K (yb (ye K) (qV 3) zO (wK (j6 (u9 K) (j6 i7 (qV 1) b3) b3)))) (fun _ _ _ _=>(M8 (i:=0) (show List.Nodup (["_law_sign"]:List Str) by decide+kernel) rfl (by walk_at "l"))) (fun _ _ _ _=>(tJ (q8 (gk K hu) (qV 0) K7 (by rfl)))) (fun _ _ _ _=>(qV 0))) j0)) (j5 _)) (x6 (um (qM PySem.F.plainAttrs_list PySem.F.slot_list_append PySem.F.type_list_append r6 K (qV 2) (d9 (yb (ye K) (qV 3) zO (wK (j6 (u9 K) (j6 i7 (qV 1) b3) b3))) j0)))) fR)))
   (x6 (A1 (j4 (j3 K hu) (qV 2) (j6 i7 (j6 p8 (qV 1) b3) (qB (C8 K P w) T.b_len Boot.«len» (d9 (qV 2) j0))) (fun _ _=>rfl)))))),?_⟩
  refine i9 fun nx1 hx=>?_
  walk_at "e"
  refine⟨c8 (by simp),fun p0 n0=>?_⟩
  obtain⟨H0,e0,f0,m0,_⟩:=b4 (o:= .lst _) n0
  rw[e0]
  walk_at "e"
  refine hx [some (.ref S.a),some (.int c),some (.ref p0),none] _ ?_
  clear hx
  have f0':H0 p0=some (.lst (([Str.ofString "",Str.ofString "A",Str.ofString "n1",Str.ofString "abcdefg",Str.ofString "n.",Str.ofString "1",Str.ofString " n",Str.ofString "N"]).map V.str)):=f0
  have hb0:∀m∈[Str.ofString "",Str.ofString "A",Str.ofString "n1",Str.ofString "abcdefg",Str.ofString "n.",Str.ofString "1",Str.ofString " n",Str.ofString "N"],fH m=false∧m.length≤100:=by decide+kernel
  generalize hs0:[Str.ofString "",Str.ofString "A",Str.ofString "n1",Str.ofString "abcdefg",Str.ofString "n.",Str.ofString "1",Str.ofString " n",Str.ofString "N"]=s0 at f0' hb0
  have hl0:s0.length=8:=by rw[←hs0];rfl
  clear hs0 f0
  have hW:=hW.same m0
  refine i9 fun nx1 hx=>?_
  walk_at "e"
  have hlp:S.W.pts.length+S.W.ts.length≤24:=by have z:=hW.len;rw[A9] at z;exact z
  have hkl:=hW.at_.ts.length
  refine b9 hW.at_.tup (b6 (j:=0) rfl) ?_
  walk_at "e"
  refine di (P4 hW.at_.pts (fun l1 n1=>?_))
  obtain⟨H1,e1,f1,m1,_⟩:=b4 (o:= .lst _) n1
  rw[e1]
  have f1':H1 l1=some (.lst ((S.W.pts.map (·.1)).map V.str)):=by rw[f1];unfold x5;rw[List.map_map,List.map_map];rfl
  have W1:=hW.same m1
  walk_at "e"
  refine b9 W1.at_.tup (b6 (j:=1) rfl) ?_
  walk_at "e"
  refine di (P4 W1.at_.ties (fun l2 n2=>?_))
  obtain⟨H2,e2,f2,m2,_⟩:=b4 (o:= .lst _) n2
  rw[e2]
  have f2':H2 l2=some (.lst ((S.W.ts.map (·.1)).map V.str)):=by
   have z:S.kvs.map (fun x=>kV x.1)=(S.W.ts.map (·.1)).map V.str:=by
    have q:=congrArg (List.map kV) W1.at_.ts.keys
    rw[List.map_map,List.map_map] at q
    rw[List.map_map]
    exact q
   rw[f2,z]
  refine S4 (m2 _ _ f1') f2' (c8 (by simp only[List.length_map];omega)) (fun l3 n3=>?_)
  obtain⟨H3,e3,f3,m3,_⟩:=b4 (o:= .lst _) n3
  rw[e3]
  rw[←List.map_append] at f3
  have m03:=m1.trans (m2.trans m3)
  have f3':H3 l3=some (.lst ((i6 S.W).map V.str)):=f3
  have nep:l3≠p0:=(c9 ((m1.trans m2) _ _ f0') n3).symm
  walk_at "e"
  refine gy (SqL.of f3') (by omega) (fun ss pm _ l4 n4=>?_)
  obtain⟨H4,e4,f4,m4,_⟩:=b4 (o:= .lst _) n4
  rw[e4]
  have m04:=m0.trans (m03.trans m4)
  have fp4:=(m03.trans m4) _ _ f0'
  have ne4:l4≠p0:=(c9 (m03 _ _ f0') n4).symm
  have hsl:=pm.length_eq
  have hmem:∀n∈ss,n∈i6 S.W:=fun n hn=>pm.mem_iff.mp hn
  have hnl:=hW.nl
  have k6:0≤c % 6∧c % 6<6:=⟨Int.emod_nonneg _ (by decide),Int.emod_lt_of_pos _ (by decide)⟩
  refine A7 (SqL.of f4) ?_
  refine V2 (n:=ss.length) (fun i σ H'=>Same H H'∧H' l4=some (.lst (ss.map V.str))∧(∃v,σ=[some (.ref S.a),some (.int c),some (.ref p0),v])∧∃ts:List Str,H' p0=some (.lst (ts.map V.str))∧(∀m∈ts,¬Q6 S.W m∧m.length≤100)∧8≤ts.length∧ts.length≤8+i) ⟨m04,f4,⟨_,rfl⟩,s0,fp4,fun m hm=>⟨rq (hb0 m hm).1,(hb0 m hm).2⟩,by omega,by omega⟩ (fun i σ H' hi hp=>⟨_,.str ss[i],SqL.of hp.2.1,by rw[List.getElem?_map,List.getElem?_eq_getElem hi];rfl⟩) ?_ ?_
  ·rintro bk i v σ H5' H5 hi ⟨s5,g5,⟨v5,rfl⟩,ts,ft,hts,hl8,hl9⟩ y
   obtain⟨rfl,hx2⟩:=Itl.get y (SqL.of g5)
   rw[List.getElem?_map] at hx2
   have hxi:=List.getElem?_eq_getElem hi
   generalize ss[i]=x at hxi
   rw[hxi] at hx2
   cases hx2
   have hxm:=hmem x (List.mem_of_getElem? hxi)
   have hxl:=hnl x hxm
   have sa:(PySem.Txt.slice x none (some (c % 6+1))).length≤x.length:=Nat.le_trans (pM x none _) (sliceIndices_le none _ x.length)
   walk_at "e"
   refine cT (c8 (by omega)) ?_
   walk_at "e"
   refine⟨rfl,?_⟩
   walk_at "e"
   refine cT (c8 (by omega)) ?_
   generalize hp:PySem.Txt.slice x none (some (c % 6+1))=pf at sa
   have hpl:pf.cps.size=pf.length:=rfl
   refine iC ?_
   refine u6 (n:=pf.cps.size) (fun i out H'=>H'=H5∧∃zs:List Str,out=zs.map V.str∧zs.length≤i∧∀z∈zs,z.length≤10) ⟨rfl,[],rfl,Nat.zero_le _,(fun _ h=>(nomatch h))⟩ (fun i out H' hi _=>by exact hi) ?_ ?_
   ·rintro N j v out H6' H6 hj ⟨rfl,zs,rfl,hz1,hz2⟩ y hN'
    obtain⟨rfl,d,hd,rfl⟩:=Its.lt y
    walk_at "e"
    refine⟨rfl,?_⟩
    walk_at "e"
    refine tZ (fun hb=>?_) (fun hb=>?_)
    ·walk_at "e"
     refine⟨c8 (by rw[List.length_map];omega),hN' _ _ ⟨rfl,zs++[⟨#[d]⟩],by rw[List.map_append];rfl,by rw[List.length_append,List.length_singleton];omega,fun z hz=>?_⟩⟩
     rcases List.mem_append.mp hz with q|q
     ·exact hz2 z q
     ·rw[List.mem_singleton.mp q];show 1≤10;omega
    ·exact hN' _ _ ⟨rfl,zs,rfl,by omega,hz2⟩
   ·rintro out H6 ⟨rfl,zs,rfl,hz1,hz2⟩
    refine⟨Nat.le_refl _,fun D hD=>⟨c8 (by rw[List.length_map];omega),?_⟩⟩
    obtain⟨H7,e7,f7,m7,_⟩:=b4 (H:=H6) (o:= .lst (zs.map V.str)) hD
    show jn _ (upd H6 D _) _
    rw[e7]
    have g7:=m7 _ _ g5
    have ft7:=m7 _ _ ft
    have ne7:p0≠l4:=ne4.symm
    walk_at "e"
    refine⟨_,D,zs,rfl,rfl,SqL.of f7,by decide+kernel,by omega,fun y hy=>Nat.le_trans (hz2 y hy) (by omega),?_⟩
    walk_at "e"
    refine z6 (fun hb=>?_) (fun hb=>?_)
    ·walk_at "e"
     refine⟨.inl ⟨rfl,_,SqL.of ft7⟩,?_⟩
     walk_at "e"
     refine cT (c8 (by omega)) ?_
     rw[hp]
     walk_at "e"
     refine⟨p0,_,_,rfl,rfl,ft7,Nat.lt_of_le_of_lt (show _≤100 by rw[List.length_map];omega) (by decide),?_⟩
     walk_at "e"
     refine⟨A0 (s5.trans m7) n0,by rw[b7 ne4];exact g7,⟨_,rfl⟩,ts++[pf],by rw[d8,List.map_append];rfl,fun m hm=>?_,by rw[List.length_append];omega,by rw[List.length_append,List.length_singleton];omega⟩
     rcases List.mem_append.mp hm with q|q
     ·exact hts m q
     ·rw[List.mem_singleton.mp q]
      exact⟨qx hxm (by omega) hp.symm,by omega⟩
    ·walk_at "e"
     exact⟨s5.trans m7,g7,⟨_,rfl⟩,ts,ft7,hts,hl8,by omega⟩
  ·rintro σ H5 ⟨s5,g5,⟨v5,rfl⟩,ts,ft,hts,hl8,hl9⟩
   refine⟨⟨_,SqL.of g5,by rw[List.length_map];exact Nat.le_refl _⟩,?_⟩
   refine hx _ _ ?_
   walk_at "e"
   refine B4 (u4 (SqL.of ft) ?_)
   rw[List.length_map]
   walk_at "e"
   have z0:=Int.emod_nonneg (c/6) (show(ts.length:Int)≠0 by omega)
   have z1:=Int.emod_lt_of_pos (c/6) (show(0:Int)<(ts.length:Int) by omega)
   obtain⟨x,hx8,hxm⟩:=k8 (ss:=ts) z0 z1
   refine b5 (SqL.of ft) hx8 ?_
   exact k x _ (hts x hxm).1 (hts x hxm).2 s5
def zU:Nat→Str
 |0=>"NoNames"
 |_=>"NoFall"
def gR (b:Nat):List V:=(List.range 14).map fun k=>V.bl (decide (k=b))
def X6 (K:PySem.W.Frag):Sp:=fun vs H Q _=>∃(e:Addr) (b:Nat),vs=[.ref e]∧(b=0∨b=1)∧H e=some (.ext (IsExc e (cA K (zU b))))∧∀(l:Addr) (H':Hp),Same H H'→H' l=some (.lst (gR b))→Q (.ref l) H'
abbrev aN (P:Program)(w:World)(K:PySem.W.Frag)(mg:Str→Option Value)(base:Heap):Prop:=A2 P w K mg base j9 1 "_law_marks" ["_law_e"] [] (X6 K)
theorem fm {f:Addr}{fd:FuncData}(T:Txt K mg)(F:Fun K "_law_marks" "_law_marks" Q2 f fd):j1 P w K mg base j9 1 f fd ["_law_e"] (X6 K):=by
 refine F.ok sc__law_marks (fun vs H Q E h=>?_) (fun cdv A outer s H vs Q E hr h=>?_)
 ·obtain⟨e,b,rfl,_⟩:=h
  rfl
 ·obtain⟨e,b,rfl,hb,he,k⟩:=h
  have hN:=sc__law_marks.nd
  have hu:=q5 hr
  refine⟨_,QSs.r (o9 (j2 (i:=1) hN rfl (by walk_at "l") (R3 (d9 (qB (I0 K) T.b_isinstance Boot.«isinstance» (d9 (qV 0) (d9 (iq T.g_NoNames) j0))) (d9 (qB (I0 K) T.b_isinstance Boot.«isinstance» (d9 (qV 0) (d9 (iq T.g_NoFall) j0))) (d9 (qB (I0 K) T.b_isinstance Boot.«isinstance» (d9 (qV 0) (d9 (iq T.g_NoMatch) j0))) (d9 (qB (I0 K) T.b_isinstance Boot.«isinstance» (d9 (qV 0) (d9 (iq T.g_Loose) j0))) j0))))))
   (o9 (j2 (i:=1) hN rfl (by walk_at "l") (j6 (u9 K) (qV 1) (R3 (d9 (qB (I0 K) T.b_isinstance Boot.«isinstance» (d9 (qV 0) (d9 (iq T.g_Barred) j0))) (d9 (qB (I0 K) T.b_isinstance Boot.«isinstance» (d9 (qV 0) (d9 (iq T.g_NoDeed) j0))) (d9 (qB (I0 K) T.b_isinstance Boot.«isinstance» (d9 (qV 0) (d9 (iq T.g_HasBars) j0))) (d9 (qB (I0 K) T.b_isinstance Boot.«isinstance» (d9 (qV 0) (d9 (iq T.g_NoRule) j0))) j0)))))))
   (o9 (j2 (i:=1) hN rfl (by walk_at "l") (j6 (u9 K) (qV 1) (R3 (d9 (qB (I0 K) T.b_isinstance Boot.«isinstance» (d9 (qV 0) (d9 (iq T.g_NoOverlap) j0))) (d9 (qB (I0 K) T.b_isinstance Boot.«isinstance» (d9 (qV 0) (d9 (iq T.g_NoRow) j0))) (d9 (qB (I0 K) T.b_isinstance Boot.«isinstance» (d9 (qV 0) (d9 (iq T.g_NoText) j0))) (d9 (qB (I0 K) T.b_isinstance Boot.«isinstance» (d9 (qV 0) (d9 (iq T.g_NoWeb) j0))) j0)))))))
   (x6 (A1 (j6 (u9 K) (qV 1) (R3 (d9 (qB (I0 K) T.b_isinstance Boot.«isinstance» (d9 (qV 0) (d9 (iq T.g_Open) j0))) (d9 (AU (qB (I0 K) T.b_isinstance Boot.«isinstance» (d9 (qV 0) (d9 (BU "ValueError" T.b_ValueError Boot.«ValueError») j0)))) j0))))))))),?_⟩
  rcases hb with rfl|rfl
  ·have he:H e=some (.ext (IsExc e (cA K "NoNames"))):=he
   walk_at "r"
   refine⟨e,_,.ref (cA K "NoNames"),.ref (cA K "NoNames"),_,rfl,rfl,he,T.e_NoNames,T.i_NoNames_NoNames,?_⟩
   walk_at "r"
   refine⟨e,_,.ref (cA K "NoFall"),.ref (cA K "NoFall"),_,rfl,rfl,he,T.e_NoNames,T.i_NoNames_NoFall,?_⟩
   walk_at "r"
   refine⟨e,_,.ref (cA K "NoMatch"),.ref (cA K "NoMatch"),_,rfl,rfl,he,T.e_NoNames,T.i_NoNames_NoMatch,?_⟩
   walk_at "r"
   refine⟨e,_,.ref (cA K "Loose"),.ref (cA K "Loose"),_,rfl,rfl,he,T.e_NoNames,T.i_NoNames_Loose,?_⟩
   walk_at "r"
   refine⟨c8 (by simp),fun l1 n1=>?_⟩
   obtain⟨H1,e1,f1,m1,_⟩:=b4 (o:= .lst _) n1
   rw[e1]
   have he1:=m1 _ _ he
   walk_at "r"
   refine⟨e,_,.ref (cA K "Barred"),.ref (cA K "Barred"),_,rfl,rfl,he1,T.e_NoNames,T.i_NoNames_Barred,?_⟩
   walk_at "r"
   refine⟨e,_,.ref (cA K "NoDeed"),.ref (cA K "NoDeed"),_,rfl,rfl,he1,T.e_NoNames,T.i_NoNames_NoDeed,?_⟩
   walk_at "r"
   refine⟨e,_,.ref (cA K "HasBars"),.ref (cA K "HasBars"),_,rfl,rfl,he1,T.e_NoNames,T.i_NoNames_HasBars,?_⟩
   walk_at "r"
   refine⟨e,_,.ref (cA K "NoRule"),.ref (cA K "NoRule"),_,rfl,rfl,he1,T.e_NoNames,T.i_NoNames_NoRule,?_⟩
   walk_at "r"
   refine⟨c8 (by simp),fun l2 n2=>?_⟩
   obtain⟨H2,e2,f2,m2,_⟩:=b4 (o:= .lst _) n2
   rw[e2]
   refine S4 (m2 _ _ f1) f2 (c8 (by simp)) (fun l3 n3=>?_)
   obtain⟨H3,e3,f3,m3,_⟩:=b4 (o:= .lst _) n3
   rw[e3]
   have m13:=m2.trans m3
   have he3:=m13 _ _ he1
   walk_at "r"
   refine⟨e,_,.ref (cA K "NoOverlap"),.ref (cA K "NoOverlap"),_,rfl,rfl,he3,T.e_NoNames,T.i_NoNames_NoOverlap,?_⟩
   walk_at "r"
   refine⟨e,_,.ref (cA K "NoRow"),.ref (cA K "NoRow"),_,rfl,rfl,he3,T.e_NoNames,T.i_NoNames_NoRow,?_⟩
   walk_at "r"
   refine⟨e,_,.ref (cA K "NoText"),.ref (cA K "NoText"),_,rfl,rfl,he3,T.e_NoNames,T.i_NoNames_NoText,?_⟩
   walk_at "r"
   refine⟨e,_,.ref (cA K "NoWeb"),.ref (cA K "NoWeb"),_,rfl,rfl,he3,T.e_NoNames,T.i_NoNames_NoWeb,?_⟩
   walk_at "r"
   refine⟨c8 (by simp),fun l4 n4=>?_⟩
   obtain⟨H4,e4,f4,m4,_⟩:=b4 (o:= .lst _) n4
   rw[e4]
   refine S4 (m4 _ _ f3) f4 (c8 (by simp)) (fun l5 n5=>?_)
   obtain⟨H5,e5,f5,m5,_⟩:=b4 (o:= .lst _) n5
   rw[e5]
   have m35:=m4.trans m5
   have he5:=m35 _ _ he3
   walk_at "r"
   refine⟨e,_,.ref (cA K "Open"),.ref (cA K "Open"),_,rfl,rfl,he5,T.e_NoNames,T.i_NoNames_Open,?_⟩
   walk_at "r"
   refine⟨e,_,.type "ValueError",.ty "ValueError",_,rfl,rfl,he5,T.e_NoNames,T.i_NoNames_ValueError,?_⟩
   walk_at "r"
   refine⟨c8 (by simp),fun l6 n6=>?_⟩
   obtain⟨H6,e6,f6,m6,_⟩:=b4 (o:= .lst _) n6
   rw[e6]
   refine S4 (m6 _ _ f5) f6 (c8 (by simp)) (fun l7 n7=>?_)
   obtain⟨H7,e7,f7,m7,_⟩:=b4 (o:= .lst _) n7
   rw[e7]
   exact k l7 H7 (m1.trans (m13.trans (m35.trans (m6.trans m7)))) f7
  ·have he:H e=some (.ext (IsExc e (cA K "NoFall"))):=he
   walk_at "r"
   refine⟨e,_,.ref (cA K "NoNames"),.ref (cA K "NoNames"),_,rfl,rfl,he,T.e_NoFall,T.i_NoFall_NoNames,?_⟩
   walk_at "r"
   refine⟨e,_,.ref (cA K "NoFall"),.ref (cA K "NoFall"),_,rfl,rfl,he,T.e_NoFall,T.i_NoFall_NoFall,?_⟩
   walk_at "r"
   refine⟨e,_,.ref (cA K "NoMatch"),.ref (cA K "NoMatch"),_,rfl,rfl,he,T.e_NoFall,T.i_NoFall_NoMatch,?_⟩
   walk_at "r"
   refine⟨e,_,.ref (cA K "Loose"),.ref (cA K "Loose"),_,rfl,rfl,he,T.e_NoFall,T.i_NoFall_Loose,?_⟩
   walk_at "r"
   refine⟨c8 (by simp),fun l1 n1=>?_⟩
   obtain⟨H1,e1,f1,m1,_⟩:=b4 (o:= .lst _) n1
   rw[e1]
   have he1:=m1 _ _ he
   walk_at "r"
   refine⟨e,_,.ref (cA K "Barred"),.ref (cA K "Barred"),_,rfl,rfl,he1,T.e_NoFall,T.i_NoFall_Barred,?_⟩
   walk_at "r"
   refine⟨e,_,.ref (cA K "NoDeed"),.ref (cA K "NoDeed"),_,rfl,rfl,he1,T.e_NoFall,T.i_NoFall_NoDeed,?_⟩
   walk_at "r"
   refine⟨e,_,.ref (cA K "HasBars"),.ref (cA K "HasBars"),_,rfl,rfl,he1,T.e_NoFall,T.i_NoFall_HasBars,?_⟩
   walk_at "r"
   refine⟨e,_,.ref (cA K "NoRule"),.ref (cA K "NoRule"),_,rfl,rfl,he1,T.e_NoFall,T.i_NoFall_NoRule,?_⟩
   walk_at "r"
   refine⟨c8 (by simp),fun l2 n2=>?_⟩
   obtain⟨H2,e2,f2,m2,_⟩:=b4 (o:= .lst _) n2
   rw[e2]
   refine S4 (m2 _ _ f1) f2 (c8 (by simp)) (fun l3 n3=>?_)
   obtain⟨H3,e3,f3,m3,_⟩:=b4 (o:= .lst _) n3
   rw[e3]
   have m13:=m2.trans m3
   have he3:=m13 _ _ he1
   walk_at "r"
   refine⟨e,_,.ref (cA K "NoOverlap"),.ref (cA K "NoOverlap"),_,rfl,rfl,he3,T.e_NoFall,T.i_NoFall_NoOverlap,?_⟩
   walk_at "r"
   refine⟨e,_,.ref (cA K "NoRow"),.ref (cA K "NoRow"),_,rfl,rfl,he3,T.e_NoFall,T.i_NoFall_NoRow,?_⟩
   walk_at "r"
   refine⟨e,_,.ref (cA K "NoText"),.ref (cA K "NoText"),_,rfl,rfl,he3,T.e_NoFall,T.i_NoFall_NoText,?_⟩
   walk_at "r"
   refine⟨e,_,.ref (cA K "NoWeb"),.ref (cA K "NoWeb"),_,rfl,rfl,he3,T.e_NoFall,T.i_NoFall_NoWeb,?_⟩
   walk_at "r"
   refine⟨c8 (by simp),fun l4 n4=>?_⟩
   obtain⟨H4,e4,f4,m4,_⟩:=b4 (o:= .lst _) n4
   rw[e4]
   refine S4 (m4 _ _ f3) f4 (c8 (by simp)) (fun l5 n5=>?_)
   obtain⟨H5,e5,f5,m5,_⟩:=b4 (o:= .lst _) n5
   rw[e5]
   have m35:=m4.trans m5
   have he5:=m35 _ _ he3
   walk_at "r"
   refine⟨e,_,.ref (cA K "Open"),.ref (cA K "Open"),_,rfl,rfl,he5,T.e_NoFall,T.i_NoFall_Open,?_⟩
   walk_at "r"
   refine⟨e,_,.type "ValueError",.ty "ValueError",_,rfl,rfl,he5,T.e_NoFall,T.i_NoFall_ValueError,?_⟩
   walk_at "r"
   refine⟨c8 (by simp),fun l6 n6=>?_⟩
   obtain⟨H6,e6,f6,m6,_⟩:=b4 (o:= .lst _) n6
   rw[e6]
   refine S4 (m6 _ _ f5) f6 (c8 (by simp)) (fun l7 n7=>?_)
   obtain⟨H7,e7,f7,m7,_⟩:=b4 (o:= .lst _) n7
   rw[e7]
   exact k l7 H7 (m1.trans (m13.trans (m35.trans (m6.trans m7)))) f7
theorem AW {mg':Str→Option Value}{x:Str}{σ:L2.St}{H:Hp}{Q:VK}(q:Q (.ref (Ay mg' x)) H):Ai mg' x σ H Q:=q
def Q5 (K:PySem.W.Frag):Sp:=fun vs H Q _=>∃(S:Sd) (lr lw:Addr) (m:Str) (rs:List Ru) (ws:List (h9×V)) (b:Nat),vs=[.ref S.a,.ref lr,.ref lw,.str m]∧SdIs K H S∧SqL K H lr (rs.map fun x=>V.ref x.r)∧(∀x∈rs,RuB K H x)∧WtI H lw ws∧m.length≤1000∧rs.length≤10∧((b=0∧¬Q6 S.W m)∨(b=1∧Q6 S.W m∧rs.all (C2 ws)=false))∧∀(l:Addr) (H':Hp),Same H H'→H' l=some (.lst (gR b))→Q (.ref l) H'
abbrev V1 (P:Program)(w:World)(K:PySem.W.Frag)(mg:Str→Option Value)(base:Heap):Prop:=A2 P w K mg base j9 5 "_law_refused" ["_law_web_here","_law_rules","_law_weights_here","_law_mark_here"] [] (Q5 K)
theorem cj {f:Addr}{fd:FuncData}(T:Txt K mg)(hV:A2 P w K mg base (eP P w) 4 "ended" ["web","rules","weights","hand","mark"] [] (eJ K))(U2:bY P w K mg base)(O7:aN P w K mg base)(F:Fun K "_law_refused" "_law_refused" F2 f fd):j1 P w K mg base j9 5 f fd ["_law_web_here","_law_rules","_law_weights_here","_law_mark_here"] (Q5 K):=by
 refine F.ok sc__law_refused (fun vs H Q E h=>?_) (fun cdv A outer s H vs Q E hr h=>?_)
 ·obtain⟨S,lr,lw,m,rs,ws,b,rfl,_⟩:=h
  rfl
 ·obtain⟨S,lr,lw,m,rs,ws,b,rfl,hS,hL,hR,hW,hl,hrl,hb,k⟩:=h
  have hN:=sc__law_refused.nd
  have hu:=q5 hr
  refine⟨_,QSs.r (o9 (j2 (i:=4) hN rfl (by walk_at "l") xE)
   (o9 (Bo (i:=5) T.t_GlueError hN rfl (fun pins Es=>(x6 (um (Ci hV (hr.mono (by decide)) (d9 (qV 0) (d9 (qV 1) (d9 (qV 2) (d9 (AA U2) (d9 (qV 3) j0))))))))) (fun ex=>(x6 (j2 (i:=4) hN rfl (by walk_at "l") (qV 5)))))
   (o9 (dm (q8 zi (qV 4) xE (j5 _)) (x6 (A1 xE)) fR)
   (x6 (A1 (qC O7 (hr.mono (by decide)) p7 (d9 (qV 4) j0))))))),?_⟩
  refine i9 fun nx1 hx=>?_
  walk_at "r"
  refine hx [some (.ref S.a),some (.ref lr),some (.ref lw),some (.str m),some .non,none] _ ?_
  clear hx
  refine i9 fun nx1 hx=>?_
  have fin:∀(e:Addr) (H3:Hp),Same H H3→H3 e=some (.ext (IsExc e (cA K (zU b))))→nx1 [some (.ref S.a),some (.ref lr),some (.ref lw),some (.str m),some (.ref e),none] H3:=fun e H3 s3 f3=>by
   refine hx _ _ ?_
   walk_at "r"
   rw[show decide (V.ref e=V.non)=false from decide_eq_false (by intro z;cases z),if_neg (by simp)]
   walk_at "r"
   exact⟨e,b,rfl,by rcases hb with z|z<;>omega,f3,fun l H4 s4 f4=>k l H4 (s3.trans s4) f4⟩
  clear hx
  walk_at "r"
  refine AW ?_
  walk_at "r"
  refine⟨S,lr,lw,_,m,rs,ws,rfl,hS,hL,hR,hW,hl,hrl,fun hg H2 e s2 he=>?_,fun hg=>?_⟩
  ·rcases hb with⟨rfl,_⟩|⟨_,z,_⟩
   case inr=>exact absurd z hg
   refine⟨_,e,rfl,rfl,T.s_NoNames_GlueError,?_⟩
   have s3:Same H (upd H2 e (.ext (IsExc e (cA K "NoNames")))):=A0 s2 (s2.free he)
   have f3:(upd H2 e (.ext (IsExc e (cA K "NoNames")))) e=some (.ext (IsExc e (cA K "NoNames"))):=d8
   generalize upd H2 e (.ext (IsExc e (cA K "NoNames")))=H3 at s3 f3⊢
   walk_at "r"
   exact fin e H3 s3 f3
  ·rcases hb with⟨_,z⟩|⟨rfl,_,hal⟩
   ·exact absurd hg z
   refine⟨hal,fun H2 e s2 he=>?_⟩
   refine⟨_,e,rfl,rfl,T.s_NoFall_GlueError,?_⟩
   have s3:Same H (upd H2 e (.ext (IsExc e (cA K "NoFall")))):=A0 s2 (s2.free he)
   have f3:(upd H2 e (.ext (IsExc e (cA K "NoFall")))) e=some (.ext (IsExc e (cA K "NoFall"))):=d8
   generalize upd H2 e (.ext (IsExc e (cA K "NoFall")))=H3 at s3 f3⊢
   walk_at "r"
   exact fin e H3 s3 f3
def gO (K:PySem.W.Frag):Sp:=fun vs H Q _=>∃(a:Addr) (ns:List Int),vs=[.ref a]∧SqL K H a (ns.map V.int)∧ns.length≤63∧∀H',Q (.bl true) H'
theorem aY {cs:List Int}{j:Nat}{P:Int→Prop}(h:j<cs.length)(hp:∀c∈cs,P c):∃c:Int,(cs.map V.int)[j]?=some (.int c)∧P c:=⟨cs[j],by rw[List.getElem?_map,List.getElem?_eq_getElem h];rfl,hp _ (List.getElem_mem h)⟩
theorem qR (ss:List Str):bF (ss.map V.str) (some 7) none=(ss.drop 7).map V.str:=by
 unfold bF
 rw[show(some (7:Int))=some ((7:Nat):Int) from rfl,HT.sIx_nat,HT.sIx_none,List.length_map,←List.map_drop,←List.map_take]
 congr 1
 rcases Nat.le_total 7 ss.length with h|h
 ·rw[Nat.min_eq_left h,List.take_of_length_le (by rw[List.length_drop];exact Nat.le_refl _)]
 ·rw[Nat.min_eq_right h,List.drop_length,List.take_nil,List.drop_eq_nil_of_le h]
theorem mq {H:Hp}{xs ys:List V}{n:Nat}(pr:Paired (fun x y=>EqN K H n x y true) xs ys)(j:Nat)(x y:V)(b:Bool)(h1:xs[j]?=some x)(h2:ys[j]?=some y)(h3:(List.replicate xs.length true)[j]?=some b):EqN K H n x y b:=by
 have e3:b=true:=(List.mem_replicate.mp (List.mem_of_getElem? h3)).2
 subst e3
 obtain⟨y',hy',z⟩:=O4 pr h1
 rw[h2] at hy'
 cases hy'
 exact z
theorem jV {H:Hp}{a c:Addr}{xs ys:List V}{n:Nat}(hs:(SqT K H a xs∧SqT K H c ys)∨(SqL K H a xs∧SqL K H c ys))(pr:Paired (fun x y=>EqN K H n x y true) xs ys):EqN K H (n+1) (.ref a) (.ref c) true:=by
 by_cases e:a=c
 ·exact EqN.of0 (.inr ⟨a,c,rfl,rfl,.inl ⟨e,rfl⟩⟩) _
 ·exact .inr ⟨a,c,xs,ys,List.replicate xs.length true,rfl,rfl,e,hs,Paired.length pr,List.length_replicate,mq pr,(lY _).symm⟩
theorem wL {H:Hp}{a c:Addr}{xs ys:List V}(hs:(SqT K H a xs∧SqT K H c ys)∨(SqL K H a xs∧SqL K H c ys))(pr:Paired (fun x y=>EqN K H 8 x y true) xs ys):AG K H (.ref a) (.ref c) (List.replicate xs.length true):=
 ⟨a,c,xs,ys,rfl,rfl,hs,Paired.length pr,List.length_replicate,mq pr⟩
theorem jg {H:Hp}(n:Nat):∀bs:List Sd,Paired (fun x y=>EqN K H n x y true) (bs.map fun s=>V.ref s.a) (bs.map fun s=>V.ref s.a)
 |[]=> .nil
 |b::bs=> .cons (EqN.of0 (.inr ⟨b.a,b.a,rfl,rfl,.inl ⟨rfl,rfl⟩⟩) n) (jg n bs)
theorem tD {H:Hp}(i:Int):Eq1 K H (.int i) (.int i) true:=by
 have z:=Eq1.flat (K:=K) (H:=H) (x:= .int i) (y:= .int i) rfl rfl
 rw[ef rfl] at z;exact z
theorem vQ {H:Hp}{d e:Addr}{ws:List (h9×V)}(ne:d≠e)(hd:H d=some (.dK ws))(he:WtI H e ws)(nd:(ws.map (·.1)).Nodup):EqD K H d e true:=
 .inr ⟨ne,ws,ws,true,.inl hd,.inl he.hd,ig fun kv hkv=>by
  obtain⟨n,i,rfl⟩:=he.ok kv hkv
  exact⟨_,aC nd hkv,tD i⟩,by simp⟩
structure RuC (K:PySem.W.Frag) (lp:Addr) (H0 H:Hp) (v:V) (x:Ru) (bs:List Sd):Prop where
 ex:∃(t l:Addr) (A B:Sd),v= .ref t∧SqT K H t [.ref A.a,.ref B.a,.ref l]∧SdIs K H A∧SdIs K H B∧A.W=x.L.W∧B.W=x.R.W∧H0 A.p=none∧H0 A.q=none∧H0 B.p=none∧H0 B.q=none∧H l=some (.lst (bs.map fun s=>V.ref s.a))∧l≠lp
theorem RuC.same {lp:Addr}{H0 H H':Hp}{v:V}{x:Ru}{bs:List Sd}(h:RuC K lp H0 H v x bs)(s:Same H H'):RuC K lp H0 H' v x bs:=by
 obtain⟨t,l,A,B,e,h1,h2,h3,h4⟩:=h.ex
 exact⟨t,l,A,B,e,s.tup h1,h2.same s,h3.same s,h4.1,h4.2.1,h4.2.2.1,h4.2.2.2.1,h4.2.2.2.2.1,h4.2.2.2.2.2.1,s _ _ h4.2.2.2.2.2.2.1,h4.2.2.2.2.2.2.2⟩
theorem qd {lp:Addr}{H0 H:Hp}{v:V}{x:Ru}{bs:List Sd}{bl:Addr}(h:RuC K lp H0 H v x bs)(hx:RuB K H x)(hx0:RuB K H0 x)(hb:x.b= .ref bl)(hl:SqL K H bl (bs.map fun s=>V.ref s.a))(n:Nat):EqN K H (n+2) v (.ref x.r) true:=by
 obtain⟨t,l,A,B,rfl,h1,h2,h3,e1,e2,n1,n2,n3,n4,h4,_⟩:=h.ex
 have ht:=hx.tup
 rw[hb] at ht
 refine jV (.inl ⟨h1,ht⟩) (.cons (cN h2 hx.l (by rw[e1]) (by rw[e1]) (c9 hx0.l.hp n1).symm (c9 hx0.l.hq n2).symm) (.cons (cN h3 hx.r (by rw[e2]) (by rw[e2]) (c9 hx0.r.hp n3).symm (c9 hx0.r.hq n4).symm) (.cons (jV (.inr ⟨SqL.of h4,hl⟩) (jg _ _)) .nil)))
theorem mI {H':Hp}{S:Sd}{a p q:Addr}(h:SdIs K H' S)(t:SqT K H' a [.ref p,.ref q])(hp:H' p=some (.dK (x5 S.W.pts)))(hq:H' q=some (.dK S.kvs))(ne:p≠q):SdIs K H' ⟨a,p,q,S.kvs,S.W⟩:=⟨⟨t,.inl hp,.inl hq,h.at_.ts⟩,hp,hq,ne,h.nd,h.len,h.ends,h.nl⟩
theorem pk {H:Hp}{a d:Addr}{k1:List V}{u:HO}{xs:List V}(h:H d=some (.lst k1))(s:SqT K H a xs):SqT K (upd H d u) a xs:=by
 rcases s with s|s
 ·refine .inl ?_
  by_cases z:a=d
  ·subst z
   rcases s with s|⟨_,s⟩<;>(rw[h] at s;cases s)
  ·unfold Rd
   rw[b7 z];exact s
 ·exact .inr s
theorem RuC.upd {lp:Addr}{H0 H:Hp}{v:V}{x:Ru}{bs:List Sd}{xs:List V}{u:HO}(h:RuC K lp H0 H v x bs)(hl:H lp=some (.lst xs)):RuC K lp H0 (upd H lp u) v x bs:=by
 obtain⟨t,l,A,B,e,h1,h2,h3,e1,e2,n1,n2,n3,n4,h4,h5⟩:=h.ex
 exact⟨t,l,A,B,e,pk hl h1,kO hl h2,kO hl h3,e1,e2,n1,n2,n3,n4,by rw[b7 h5];exact h4,h5⟩
theorem rQ {b i:Nat}(h:i<14):(gR b)[i]?=some (.bl (decide (i=b))):=by
 unfold gR
 rw[List.getElem?_map,List.getElem?_range h];rfl
theorem dF (b:Nat):(gR b).length=14:=by unfold gR;rw[List.length_map,List.length_range]
theorem B1 (b:Nat):(gR b).all x9=true:=by
 rw[List.all_eq_true]
 intro x hx
 obtain⟨k,_,rfl⟩:=List.mem_map.mp hx
 rfl
theorem jd {n:Str}{b:Nat}{σ:L2.St}{H:Hp}{Q:VK}(q:∀D,H D=none→Q (.ref D) (upd H D (.lst (gR b)))):mr [n] [] (yX 0 (14:Int).toNat) id (M0 0) uQ (sj (iT K) (tG 0) (tC (.int (b:Nat)))) Q σ H:=by
 refine u6 (n:=14) (fun i out H'=>H'=H∧out=(gR b).take i) ⟨rfl,rfl⟩ (fun i out H' hi _=>by exact hi) ?_ ?_
 ·rintro N i v out H1' H1 hi ⟨rfl,rfl⟩ ⟨rfl,rfl⟩ hN'
  walk_at "e"
  refine⟨rfl,?_⟩
  walk_at "e"
  refine⟨c8 (by rw[List.length_take,dF];omega),hN' _ _ ⟨rfl,?_⟩⟩
  rw[List.take_succ,rQ hi]
  congr 3
  rw[decide_eq_decide];omega
 ·rintro out H1 ⟨rfl,rfl⟩
  rw[List.take_of_length_le (by rw[dF];exact Nat.le_refl _)]
  exact⟨Nat.le_refl _,fun D hD=>⟨c8 (by rw[dF];omega),q D hD⟩⟩
set_option maxHeartbeats 8000000 in
theorem vO {f:Addr}{fd:FuncData}(T:Txt K mg)(G1:S5 P w K mg base)(O0:au P w K mg base)(P9:aO P w K mg base)(G9:bR P w K mg base)(O2:aw P w K mg base)(aj:eO P w K mg base)(P8:av P w K mg base)(F9:V0 P w K mg base)(F3:R9 P w K mg base)(E3:Q9 P w K mg base)(A3:V1 P w K mg base)(S6:cc P w K mg base)(O6:ar P w K mg base)(F:Fun K "law" "law" pv f fd):j1 P w K mg base j9 6 f fd ["_law_script"] (gO K):=by
 refine F.ok sc_law (fun vs H Q E h=>?_) (fun cdv A outer s H vs Q E hr h=>?_)
 ·obtain⟨a,ns,rfl,_⟩:=h
  rfl
 ·obtain⟨a,ns,rfl,hA,hl,k⟩:=h
  have hN:=sc_law.nd
  have hu:=q5 hr
  refine⟨_,QSs.r (o9 (ao (i:=1) hN rfl (by walk_at "l") (own:=["_law_k"]) (js:=[0]) (by kernel_rfl) rfl (Z8 T.b_range (d9 b3 j0)) (fun _ _ _ _=>(M8 (i:=0) (show List.Nodup (["_law_k","_law_script"]:List Str) by decide+kernel) rfl (by walk_at "l"))) (fun _ _ _ _=>bG) (fun _ _ _ _=>(qC G1 (hr.mono (by decide)) p7 (d9 (qV 1) (d9 (qV 0) j0)))))
   (o9 (j2 (i:=2) hN rfl (by walk_at "l") (qC O0 (hr.mono (by decide)) p7 (d9 (j4 (j3 K hu) (qV 1) b3 (fun _ _=>rfl)) j0)))
   (o9 (j2 (i:=3) hN rfl (by walk_at "l") (qC P9 (hr.mono (by decide)) p7 (d9 (j4 (j3 K hu) (qV 1) b3 (fun _ _=>rfl)) (d9 b3 j0))))
   (o9 (j2 (i:=4) hN rfl (by walk_at "l") (R3 (d9 (qC G9 (hr.mono (by decide)) p7 (d9 (j4 (j3 K hu) (qV 1) b3 (fun _ _=>rfl)) (d9 (qV 3) (d9 (qV 2) j0)))) (d9 (qC G9 (hr.mono (by decide)) p7 (d9 (j4 (j3 K hu) (qV 1) b3 (fun _ _=>rfl)) (d9 (qV 3) (d9 (qV 2) j0)))) j0))))
   (o9 (j2 (i:=5) hN rfl (by walk_at "l") (qC O2 (hr.mono (by decide)) p7 (d9 (j4 (j3 K hu) (qV 1) b3 (fun _ _=>rfl)) (d9 b3 j0))))
   (o9 (j2 (i:=6) hN rfl (by walk_at "l") (qC aj (hr.mono (by decide)) p7 (d9 (qC P8 (hr.mono (by decide)) p7 (d9 (qV 0) (d9 b3 (d9 b3 j0)))) (d9 (qV 5) (d9 (qV 2) j0)))))
   (o9 (j2 (i:=6) hN rfl (by walk_at "l") (j4 (j3 K hu) (qC F9 (hr.mono (by decide)) p7 (d9 (qV 6) (d9 (j4 (j3 K hu) (j4 (j3 K hu) (qV 4) b3 (fun _ _=>rfl)) b3 (fun _ _=>rfl)) (d9 (yb (ye K) (qV 5) (wK b3) zO) j0)))) b3 (fun _ _=>rfl)))
   (o9 (j2 (i:=7) hN rfl (by walk_at "l") (qC F3 (hr.mono (by decide)) p7 (d9 (j6 p8 (j4 (j3 K hu) (qV 1) b3 (fun _ _=>rfl)) b3) (d9 (qV 2) j0))))
   (o9 (j2 (i:=8) hN rfl (by walk_at "l") (R3 j0))
   (o9 (K5 PassesOwn.never rfl (S1 K (qV 4)) (M8 (i:=9) hN rfl (by walk_at "l"))
    (o9 (ao (i:=10) hN rfl (by walk_at "l") (own:=["_law_side"]) (js:=[]) (by kernel_rfl) rfl (S1 K (yb (ye K) (qV 9) zO (wK b3))) (fun _ _ _ _=>(M8 (i:=0) (show List.Nodup (["_law_side"]:List Str) by decide+kernel) rfl (by walk_at "l"))) (fun _ _ _ _=>bG) (fun _ _ _ _=>(R5 (d9 (ip (Y3 K rfl) T.b_dict Boot.«dict» (d9 (j4 (j3 K hu) (qV 0) b3 (fun _ _=>rfl)) j0)) (d9 (ip (Y3 K rfl) T.b_dict Boot.«dict» (d9 (j4 (j3 K hu) (qV 0) b3 (fun _ _=>rfl)) j0)) j0)))))
   (x6 (um (qM PySem.F.plainAttrs_list PySem.F.slot_list_append PySem.F.type_list_append r6 K (qV 8) (d9 (R5 (d9 (j4 (j3 K hu) (qV 10) b3 (fun _ _=>rfl)) (d9 (j4 (j3 K hu) (qV 10) b3 (fun _ _=>rfl)) (d9 (ip (bJ K rfl) T.b_list Boot.«list» (d9 (j4 (j3 K hu) (qV 9) b3 (fun _ _=>rfl)) j0)) j0)))) j0))))))
   (o9 (j2 (i:=11) hN rfl (by walk_at "l") (R3 (d9 (R5 (d9 (ip (Y3 K rfl) T.b_dict Boot.«dict» (d9 (j4 (j3 K hu) (qV 6) b3 (fun _ _=>rfl)) j0)) (d9 (ip (Y3 K rfl) T.b_dict Boot.«dict» (d9 (j4 (j3 K hu) (qV 6) b3 (fun _ _=>rfl)) j0)) j0))) (d9 (qV 8) (d9 (ip (Y3 K rfl) T.b_dict Boot.«dict» (d9 (qV 7) j0)) j0)))))
   (o9 (j2 (i:=12) hN rfl (by walk_at "l") (qC E3 (hr.mono (by decide)) p7 (d9 (qV 6) (d9 (j4 (j3 K hu) (qV 1) b3 (fun _ _=>rfl)) j0))))
   (o9 (dm (q8 (mR K hr) (qC A3 (hr.mono (by decide)) p7 (d9 (qV 6) (d9 (qV 4) (d9 (qV 7) (d9 (qV 12) j0))))) (M3 (own:=["_law_k"]) (js:=[]) (by kernel_rfl) rfl (Z8 T.b_range (d9 b3 j0)) (fun _ _ _ _=>(M8 (i:=0) (show List.Nodup (["_law_k"]:List Str) by decide+kernel) rfl (by walk_at "l"))) (fun _ _ _ _=>bG) (fun _ _ _ _=>(gv (G5 K hr) (qV 0) b3 (j5 _)))) (j5 _)) (x6 (A1 Al)) fR)
   (o9 (j2 (i:=13) hN rfl (by walk_at "l") (qC S6 (hr.mono (by decide)) p7 (d9 (qV 6) (d9 (j6 p8 (j4 (j3 K hu) (qV 1) b3 (fun _ _=>rfl)) b3) j0))))
   (o9 (j2 (i:=14) hN rfl (by walk_at "l") (qB (vY K rfl) T.b_all Boot.«all» (d9 (M3 (own:=["_law_rule_here"]) (js:=[7]) (by kernel_rfl) rfl (S1 K (qV 4)) (fun _ _ _ _=>(M8 (i:=0) (show List.Nodup (["_law_rule_here","_law_weights_here"]:List Str) by decide+kernel) rfl (by walk_at "l"))) (fun _ _ _ _=>bG) (fun _ _ _ _=>(qC O6 (hr.mono (by decide)) p7 (d9 (qV 0) (d9 (qV 1) j0))))) j0)))
   (o9 (ao (i:=15) hN rfl (by walk_at "l") (own:=["_law_k"]) (js:=[]) (by kernel_rfl) rfl (Z8 T.b_range (d9 b3 j0)) (fun _ _ _ _=>(M8 (i:=0) (show List.Nodup (["_law_k"]:List Str) by decide+kernel) rfl (by walk_at "l"))) (fun _ _ _ _=>bG) (fun _ _ _ _=>(gv (G5 K hr) (qV 0) b3 (j5 _))))
   (o9 (dm (tY (bW (lZ (iJ K (qV 14))) (bx (q8 (mR K hr) (qC A3 (hr.mono (by decide)) p7 (d9 (qV 6) (d9 (qV 4) (d9 (qV 7) (d9 (qV 13) j0))))) (qV 15) (j5 _))))) (x6 (A1 Al)) fR)
   (o9 (j2 (i:=16) hN rfl (by walk_at "l") (R3 (d9 (j4 (j3 K hu) (qV 4) b3 (fun _ _=>rfl)) (d9 (R5 (d9 (j4 (j3 K hu) (j4 (j3 K hu) (qV 4) b3 (fun _ _=>rfl)) b3 (fun _ _=>rfl)) (d9 (j4 (j3 K hu) (j4 (j3 K hu) (qV 4) b3 (fun _ _=>rfl)) b3 (fun _ _=>rfl)) (d9 (R3 j0) j0)))) j0))))
   (o9 (dm (q8 (mR K hr) (qC A3 (hr.mono (by decide)) p7 (d9 (qV 6) (d9 (qV 16) (d9 (qV 7) (d9 (qV 13) j0))))) (qV 15) (j5 _)) (x6 (A1 Al)) fR)
   (x6 (A1 (gv (G5 K hr) (qV 11) (R3 (d9 (qV 6) (d9 (qV 4) (d9 (qV 7) j0)))) (j5 _))))))))))))))))))))))),?_⟩
  refine G7 ?_
  walk_at "e"
  refine z8 (by omega) (by omega) ?_
  refine u6 (n:=6) (fun i out H'=>Same H H'∧∃cs:List Int,out=cs.map V.int∧cs.length=i∧∀c∈cs,0≤c∧c<10 ^ 60) ⟨Same.refl _,[],rfl,rfl,fun _ h=>nomatch h⟩ (fun i out H' hi _=>by exact hi) ?_ ?_
  ·rintro N i v out H1' H1 hi ⟨s1,cs,rfl,hcl,hcp⟩ ⟨rfl,rfl⟩ hN'
   walk_at "e"
   refine⟨rfl,?_⟩
   walk_at "e"
   refine⟨a,ns,_,rfl,s1.seq hA,hl,by omega,fun c hc hc'=>?_⟩
   refine⟨c8 (by rw[List.length_map];omega),hN' _ _ ⟨s1,cs++[c],by rw[List.map_append];rfl,by rw[List.length_append,hcl];rfl,fun x hx=>?_⟩⟩
   rcases List.mem_append.mp hx with z|z
   ·exact hcp x z
   ·rw[List.mem_singleton.mp z];exact⟨hc,hc'⟩
  rintro out H1 ⟨s1,cs5,rfl,hcl5,hcp5⟩
  refine⟨Nat.le_refl _,fun lcs hlcs=>⟨c8 (by rw[List.length_map];omega),?_⟩⟩
  obtain⟨H2,e2,f2,m2,_⟩:=b4 (H:=H1) (o:= .lst (cs5.map V.int)) hlcs
  change M0 _ _ _ (upd H1 lcs (.lst (cs5.map V.int))) _
  rw[e2]
  have m02:=s1.trans m2
  obtain⟨c0,g0,hc0,_⟩:=aY (cs:=cs5) (j:=0) (by omega) hcp5
  obtain⟨c1,g1,hc1,_⟩:=aY (cs:=cs5) (j:=1) (by omega) hcp5
  obtain⟨c2,g2,hc2,hc2'⟩:=aY (cs:=cs5) (j:=2) (by omega) hcp5
  obtain⟨c3,g3,hc3,_⟩:=aY (cs:=cs5) (j:=3) (by omega) hcp5
  obtain⟨c4,g4,hc4,hc4'⟩:=aY (cs:=cs5) (j:=4) (by omega) hcp5
  obtain⟨c5,g5,hc5,_⟩:=aY (cs:=cs5) (j:=5) (by omega) hcp5
  walk_at "e"
  refine i9 fun nx1 hx=>?_
  walk_at "e"
  refine b5 (SqL.of f2) (b6 (j:=0) g0) ?_
  walk_at "e"
  refine⟨c0,rfl,hc0,fun lk H3 ks n3 m3 f3 hk=>?_⟩
  walk_at "e"
  refine hx [some (.ref a),some (.ref lcs),some (.ref lk),none,none,none,none,none,none,none,none,none,none,none,none,none,none] _ ?_
  clear hx
  have f23:=m3 _ _ f2
  refine i9 fun nx2 hx=>?_
  walk_at "e"
  refine b5 (SqL.of f23) (b6 (j:=1) g1) ?_
  walk_at "e"
  refine⟨c1,rfl,hc1,fun lw H4 ws n4 m4 f4 wok=>?_⟩
  walk_at "e"
  refine hx [some (.ref a),some (.ref lcs),some (.ref lk),some (.ref lw),none,none,none,none,none,none,none,none,none,none,none,none,none] _ ?_
  clear hx
  have f24:=m4 _ _ f23
  refine i9 fun nx3 hx=>?_
  walk_at "e"
  refine b5 (SqL.of f24) (b6 (j:=2) g2) ?_
  walk_at "e"
  refine⟨c2,lw,lk,ws,ks,rfl,hc2,hc2',f4,m4 _ _ f3,wok,hk,fun r1 bl1 L1 R1 bs1 H5 m5 hR1 fb1 lf1 _ hbl1 _=>?_⟩
  walk_at "e"
  refine b5 (SqL.of (m5 _ _ f24)) (b6 (j:=4) g4) ?_
  walk_at "e"
  refine⟨c4,lw,lk,ws,ks,rfl,hc4,hc4',m5 _ _ f4,(m4.trans m5) _ _ f3,wok,hk,fun r2 bl2 L2' R2 bs2 H6 m6 hR2 fb2 _ _ hbl2 _=>?_⟩
  walk_at "e"
  refine⟨c8 (by simp),fun lr nr=>?_⟩
  obtain⟨H7,e7,f7,m7,_⟩:=b4 (o:= .lst _) nr
  rw[e7]
  walk_at "e"
  refine hx [some (.ref a),some (.ref lcs),some (.ref lk),some (.ref lw),some (.ref lr),none,none,none,none,none,none,none,none,none,none,none,none] _ ?_
  clear hx
  have m47:=m5.trans (m6.trans m7)
  have f27:=m47 _ _ f24
  have fk7:=(m4.trans m47) _ _ f3
  have R17:=hR1.same (m6.trans m7)
  have R27:=hR2.same m7
  have fb17:=(m6.trans m7) _ _ fb1
  have fb27:=m7 _ _ fb2
  have m07:=m02.trans (m3.trans (m4.trans m47))
  clear f23 f24 f4 hR1 hR2 fb1 fb2 f3 f2
  refine i9 fun nx4 hx=>?_
  walk_at "e"
  refine b5 (SqL.of f27) (b6 (j:=3) g3) ?_
  walk_at "e"
  refine⟨c3,rfl,hc3,fun ln H8 ss n8 m8 f8 nok=>?_⟩
  walk_at "e"
  refine hx [some (.ref a),some (.ref lcs),some (.ref lk),some (.ref lw),some (.ref lr),some (.ref ln),none,none,none,none,none,none,none,none,none,none,none] _ ?_
  clear hx
  have hlss:∀s∈ss,s.length≤100:=fun s hs=>by
   obtain⟨z,hz15,hz⟩:=nok.z
   rw[hz s hs];omega
  refine i9 fun nx5 hx=>?_
  walk_at "e"
  refine⟨a,ns,rfl,(m07.trans m8).seq hA,hl,fun lc H9 cs n9 m9 f9 hcl hcs=>?_⟩
  walk_at "e"
  refine⟨lc,ln,lk,cs,ss,ks,rfl,SqL.of f9,SqL.of (m9 _ _ f8),SqL.of ((m8.trans m9) _ _ fk7),hcl,nok.len,hk,nok.nd,hlss,fun b p q kvs W0 H10 m10 hW0 w0=>?_⟩
  walk_at "e"
  refine hx [some (.ref a),some (.ref lcs),some (.ref lk),some (.ref lw),some (.ref lr),some (.ref ln),some (.ref b),none,none,none,none,none,none,none,none,none,none] _ ?_
  clear hx
  have m810:=m9.trans m10
  have m710:=m8.trans m810
  have R110:=R17.same m710
  have f710:=m710 _ _ f7
  have f810:=m810 _ _ f8
  refine i9 fun nx6 hx=>?_
  walk_at "e"
  refine b5 (SqL.of f710) (b6 (j:=0) rfl) ?_
  walk_at "e"
  refine b9 R110.tup (b6 (j:=0) rfl) ?_
  walk_at "e"
  refine jh (SqL.of f810) (fun l11 n11=>?_)
  rw[qR]
  obtain⟨H11,e11,f11,m11,_⟩:=b4 (o:= .lst ((ss.drop 7).map V.str)) n11
  rw[e11]
  have R111:=R110.same m11
  have W11:=hW0.same m11
  have ndW:∀n∈ss.drop 7,n∉i6 W0:=fun n h1 h2=>by
   have z:=nok.nd
   rw[←List.take_append_drop 7 ss] at z
   exact(List.nodup_append.mp z).2.2 n (w0 n h2) n h1 rfl
  have ll1:=lf1.l1
  have ll2:=lf1.l2
  walk_at "e"
  refine⟨⟨b,p,q,kvs,W0⟩,L1,l11,ss.drop 7,rfl,W11,R111.l,by rw[A9];omega,f11,by rw[List.length_drop,nok.len],nok.nd.sublist (List.drop_sublist _ _),fun n hn=>⟨hlss n (List.mem_of_mem_drop hn),ndW n hn⟩,fun t m S fx H12 m12 ft nm hS hm pl eS=>?_⟩
  walk_at "e"
  refine b9 (SqT.of ft) (b6 (j:=0) rfl) ?_
  walk_at "e"
  refine hx [some (.ref a),some (.ref lcs),some (.ref lk),some (.ref lw),some (.ref lr),some (.ref ln),some (.ref S.a),none,none,none,none,none,none,none,none,none,none] _ ?_
  clear hx
  have m712:=m710.trans (m11.trans m12)
  have R112:=R111.same m12
  have R212:=R27.same m712
  have fb112:=m712 _ _ fb17
  have fb212:=m712 _ _ fb27
  have fk12:=m712 _ _ fk7
  have f212:=m712 _ _ f27
  have f712:=m712 _ _ f7
  have wl:W0.pts.length+W0.ts.length≤7:=by
   have z:=hW0.len
   rw[A9] at z;exact z
  have eS':S.W=mJ (af (x5 fx)) W0 L1.W:=eS
  have pm:=gD (W:=W0) (L:=L1.W) (af (x5 fx))
  rw[←eS'] at pm
  have Sl:(i6 S.W).length≤20:=by
   have z:=pm.length_eq
   rw[List.length_append,List.length_map,A9 W0,A9 L1.W] at z
   omega
  have Sn:∀n∈i6 S.W,1≤n.length:=fun n hn=>by
   have hm:n∈ss:=by
    rcases List.mem_append.mp (pm.mem_iff.mp hn) with z|z
    ·exact List.mem_of_mem_take (w0 n z)
    ·obtain⟨y,hy,rfl⟩:=List.mem_map.mp z
     exact List.mem_of_mem_drop (pl.at_ R112.l.nd hy).2.1
   have z:=nok.nm n hm
   unfold X0 C0 at z
   simp only[Bool.and_eq_true,decide_eq_true_eq] at z
   omega
  clear f7 f8 f9 f11 ft e11 e7 f27 fk7 fb17 fb27 R17 R27 R110 R111 W11 f710 f810 eS pm
  refine i9 fun nx7 hx=>?_
  walk_at "e"
  refine b5 (SqL.of f212) (b6 (j:=5) g5) ?_
  walk_at "e"
  refine⟨_,lk,ks,rfl,by omega,fk12,hk,fun dw wts H13 m13 n13 hwt wnd=>?_⟩
  walk_at "e"
  refine hx [some (.ref a),some (.ref lcs),some (.ref lk),some (.ref lw),some (.ref lr),some (.ref ln),some (.ref S.a),some (.ref dw),none,none,none,none,none,none,none,none,none] _ ?_
  clear hx
  have X1:RuB K H13 ⟨r1,L1,R1,.ref bl1⟩:=⟨(R112.same m13).tup,(R112.same m13).l,(R112.same m13).r⟩
  have X2:RuB K H13 ⟨r2,L2',R2,.ref bl2⟩:=⟨(R212.same m13).tup,(R212.same m13).l,(R212.same m13).r⟩
  have b1:=m13 _ _ fb112
  have b2:=m13 _ _ fb212
  have S13:=hS.same m13
  have l13:=m13 _ _ f712
  have f213:=m13 _ _ f212
  have m013:Same H H13:=m07.trans (m712.trans m13)
  clear R112 R212 fb112 fb212 hS f712 f212 fk12
  refine i9 fun nx8 hx=>?_
  walk_at "e"
  refine⟨c8 (by simp),fun lp np=>?_⟩
  obtain⟨H14,e14,f14,m14,_⟩:=b4 (o:= .lst []) np
  rw[e14]
  walk_at "e"
  refine hx [some (.ref a),some (.ref lcs),some (.ref lk),some (.ref lw),some (.ref lr),some (.ref ln),some (.ref S.a),some (.ref dw),some (.ref lp),none,none,none,none,none,none,none,none] _ ?_
  clear hx
  refine i9 fun nx9 hx=>?_
  walk_at "e"
  have l14:=m14 _ _ l13
  have nlp:lr≠lp:=c9 l13 np
  let us:List (Ru×List Sd):=[(⟨r1,L1,R1,.ref bl1⟩,bs1),(⟨r2,L2',R2,.ref bl2⟩,bs2)]
  refine A7 (SqL.of l14) ?_
  refine V2 (n:=2) (fun i σ H'=>Same H13 H'∧H' lr=some (.lst [.ref r1,.ref r2])∧(∃v9 v10,σ=[some (.ref a),some (.ref lcs),some (.ref lk),some (.ref lw),some (.ref lr),some (.ref ln),some (.ref S.a),some (.ref dw),some (.ref lp),v9,v10,none,none,none,none,none,none])∧∃cv:List V,H' lp=some (.lst cv)∧Paired (fun v (x:Ru×List Sd)=>RuC K lp H13 H' v x.1 x.2) cv (us.take i)) ⟨m14,l14,⟨_,_,rfl⟩,[],f14,.nil⟩ (fun i σ H' hi hp=>⟨[V.ref r1,.ref r2],[V.ref r1,.ref r2][i]'(by show i<2;omega),SqL.of hp.2.1,List.getElem?_eq_getElem _⟩) ?_ ?_
  ·rintro bk i v σ H15' H15 hi ⟨s15,g15,⟨v9,v10,rfl⟩,cv,fcv,pcv⟩ y
   obtain⟨rfl,hx2⟩:=Itl.get y (SqL.of g15)
   obtain⟨u,hu,ru,hru,hB13,hrb,hrx⟩:∃u:Ru×List Sd,us[i]?=some u∧∃bl:Addr,v= .ref u.1.r∧H13 bl=some (.lst (u.2.map fun s=>V.ref s.a))∧RuB K H13 u.1∧u.1.b= .ref bl:=by
    match i,hi,hx2 with
    |0,_,hx2=>cases hx2;exact⟨_,rfl,bl1,rfl,b1,X1,rfl⟩
    |1,_,hx2=>cases hx2;exact⟨_,rfl,bl2,rfl,b2,X2,rfl⟩
   obtain⟨⟨ur,uL,uR,ub⟩,ubs⟩:=u
   simp only[] at hru hB13 hrb hrx
   subst hru
   have hrx':ub= .ref ru:=hrx
   subst hrx'
   have X15:RuB K H15 ⟨ur,uL,uR,.ref ru⟩:=hrb.same s15
   have B15:=s15 _ _ hB13
   walk_at "e"
   refine i9 fun nx10 hx3=>?_
   walk_at "e"
   refine qY X15.tup (by rintro⟨_,z⟩;exact absurd (show(2:Nat)=3 from z) (by decide)) (fun l16 n16=>?_)
   obtain⟨H16,e16,f16,m16,_⟩:=b4 (o:= .tup [.ref uL.a,.ref uR.a]) n16
   rw[show bF [V.ref uL.a,.ref uR.a,.ref ru] none (some 2)=[V.ref uL.a,.ref uR.a] from rfl,e16]
   have X16:=X15.same m16
   refine .inl (.inr (.inl ⟨l16,rfl,⟨_,SqT.of f16⟩,?_⟩))
   refine u6 (n:=2) (fun j out H'=>Same H16 H'∧∃As:List Sd,out=(As.map fun s=>V.ref s.a)∧(∀s∈As,SdIs K H' s)∧Paired (fun(A S:Sd)=>A.W=S.W∧H13 A.p=none∧H13 A.q=none) As ([uL,uR].take j)) ⟨Same.refl _,[],rfl,(fun _ h=>nomatch h),.nil⟩ (fun j out H' hj hp=>⟨[V.ref uL.a,.ref uR.a],[V.ref uL.a,.ref uR.a][j]'(by show j<2;omega),SqT.of (hp.1 _ _ f16),List.getElem?_eq_getElem _⟩) ?_ ?_
   ·rintro N j w out H17' H17 hj ⟨s17,As,rfl,hAs,pAs⟩ ⟨rfl,hw⟩ hN'
    have hw':=hw _ (SqT.of (s17 _ _ f16))
    obtain⟨sd,hsd,rfl,hsd2⟩:∃sd:Sd,SdIs K H17 sd∧w= .ref sd.a∧[uL,uR][j]?=some sd:=by
     match j,hj,hw' with
     |0,_,hw'=>cases hw';exact⟨uL,(X16.same s17).l,rfl,rfl⟩
     |1,_,hw'=>cases hw';exact⟨uR,(X16.same s17).r,rfl,rfl⟩
    have hal:=Paired.length pAs
    rw[List.length_take] at hal
    have s1317:=s15.trans (m16.trans s17)
    walk_at "e"
    refine⟨rfl,?_⟩
    walk_at "e"
    refine b9 hsd.at_.tup (b6 (j:=0) rfl) ?_
    walk_at "e"
    refine z7 (.inl hsd.hp) (fun dp np=>?_)
    obtain⟨H18,e18,f18,m18,_⟩:=b4 (o:= .dK _) np
    rw[e18]
    have h18:=hsd.same m18
    walk_at "e"
    refine b9 h18.at_.tup (b6 (j:=1) rfl) ?_
    walk_at "e"
    refine z7 (.inl h18.hq) (fun dq nq=>?_)
    obtain⟨H19,e19,f19,m19,_⟩:=b4 (o:= .dK _) nq
    rw[e19]
    walk_at "e"
    refine⟨c8 (by simp),fun dt nt=>?_⟩
    obtain⟨H20,e20,f20,m20,_⟩:=b4 (o:= .tup _) nt
    rw[e20]
    have m1820:=m19.trans m20
    have m1720:=m18.trans m1820
    refine⟨c8 (by rw[List.length_map];omega),hN' _ _ ⟨s17.trans m1720,As++[⟨dt,dp,dq,sd.kvs,sd.W⟩],by rw[List.map_append];rfl,fun s hs=>?_,?_⟩⟩
    ·rcases List.mem_append.mp hs with z|z
     ·exact(hAs s z).same m1720
     ·rw[List.mem_singleton.mp z]
      exact mI (h18.same m1820) (SqT.of f20) (m1820 _ _ f18) (m20 _ _ f19) (c9 f18 nq)
    ·rw[show [uL,uR].take (j+1)=[uL,uR].take j++[sd] by rw[List.take_succ,hsd2];rfl]
     exact A5 pAs ⟨rfl,s1317.free np,(s1317.trans m18).free nq⟩
   rintro out H17 ⟨s17,As,rfl,hAs,pAs⟩
   rw[List.take_of_length_le (show [uL,uR].length≤2 by simp)] at pAs
   obtain⟨AL,AR,rfl,pL,pR⟩:∃AL AR,As=[AL,AR]∧(AL.W=uL.W∧H13 AL.p=none∧H13 AL.q=none)∧(AR.W=uR.W∧H13 AR.p=none∧H13 AR.q=none):=by
    cases pAs with
    |cons h t=>
     cases t with
     |cons h' t'=>cases t';exact⟨_,_,rfl,h,h'⟩
   refine⟨⟨_,SqT.of (s17 _ _ f16),Nat.le_refl _⟩,fun D hD=>⟨c8 (by simp),?_⟩⟩
   obtain⟨H18,e18,f18,m18,_⟩:=b4 (H:=H17) (o:= .lst (([AL,AR]:List Sd).map fun s=>V.ref s.a)) hD
   show M0 _ _ _ (upd H17 D _) _
   rw[e18]
   refine hx3 [some (.ref a),some (.ref lcs),some (.ref lk),some (.ref lw),some (.ref lr),some (.ref ln),some (.ref S.a),some (.ref dw),some (.ref lp),some (.ref ur),some (.ref D),none,none,none,none,none,none] _ ?_
   clear hx3
   have m1518:=m16.trans (s17.trans m18)
   have X18:=X15.same m1518
   have B18:=m1518 _ _ B15
   have fcv18:=m1518 _ _ fcv
   have g18:=m1518 _ _ g15
   have f18':H18 D=some (.lst [.ref AL.a,.ref AR.a]):=f18
   walk_at "e"
   refine⟨.inl ⟨rfl,_,SqL.of fcv18⟩,?_⟩
   walk_at "e"
   refine b5 (SqL.of f18') (b6 (j:=0) rfl) ?_
   walk_at "e"
   refine b5 (SqL.of f18') (b6 (j:=1) rfl) ?_
   walk_at "e"
   refine b9 X18.tup (b6 (j:=2) rfl) ?_
   walk_at "e"
   refine di (kl (SqL.of B18) (fun l19 n19=>?_))
   obtain⟨H19,e19,f19,m19,_⟩:=b4 (o:= .lst _) n19
   rw[e19]
   walk_at "e"
   refine⟨c8 (by simp),fun l20 n20=>?_⟩
   obtain⟨H20,e20,f20,m20,_⟩:=b4 (o:= .tup _) n20
   rw[e20]
   have m1820:=m19.trans m20
   have fcv20:=m1820 _ _ fcv18
   have hcl:=Paired.length pcv
   rw[List.length_take] at hcl
   walk_at "e"
   refine⟨lp,_,_,rfl,rfl,fcv20,Nat.lt_of_le_of_lt (show _≤100 by omega) (by decide),?_⟩
   walk_at "e"
   have m1520:=m1518.trans m1820
   have AL20:=(hAs AL (by simp)).same (m18.trans m1820)
   have AR20:=(hAs AR (by simp)).same (m18.trans m1820)
   have rc:RuC K lp H13 H20 (.ref l20) ⟨ur,uL,uR,.ref ru⟩ ubs:=⟨l20,l19,AL,AR,rfl,SqT.of f20,AL20,AR20,pL.1,pR.1,pL.2.1,pL.2.2,pR.2.1,pR.2.2,m20 _ _ f19,(c9 fcv18 n19).symm⟩
   refine⟨?_,by rw[b7 nlp];exact m1820 _ _ g18,⟨_,_,rfl⟩,cv++[.ref l20],d8,?_⟩
   ·exact A0 (s15.trans m1520) np
   ·rw[show us.take (i+1)=us.take i++[(⟨ur,uL,uR,.ref ru⟩,ubs)] by rw[List.take_succ,hu];rfl]
    exact A5 (Paired.imp' (fun _ _ z=>RuC.upd (RuC.same z m1520) fcv20) pcv) (rc.upd fcv20)
  ·rintro σ H15 ⟨s15,g15,⟨v9,v10,rfl⟩,cv,fcv,pcv⟩
   refine⟨⟨_,SqL.of g15,Nat.le_refl _⟩,?_⟩
   refine hx _ _ ?_
   clear hx
   rw[show us.take 2=us from rfl] at pcv
   have S15:=S13.same s15
   have wt15:=hwt.same s15
   refine i9 fun nx11 hx=>?_
   walk_at "e"
   refine b9 S15.at_.tup (b6 (j:=0) rfl) ?_
   walk_at "e"
   refine z7 (.inl S15.hp) (fun dp npp=>?_)
   obtain⟨H16,e16,f16,m16,_⟩:=b4 (o:= .dK _) npp
   rw[e16]
   have S16:=S15.same m16
   walk_at "e"
   refine b9 S16.at_.tup (b6 (j:=1) rfl) ?_
   walk_at "e"
   refine z7 (.inl S16.hq) (fun dq npq=>?_)
   obtain⟨H17,e17,f17,m17,_⟩:=b4 (o:= .dK _) npq
   rw[e17]
   walk_at "e"
   refine⟨c8 (by simp),fun dt npt=>?_⟩
   obtain⟨H18,e18,f18,m18,_⟩:=b4 (o:= .tup _) npt
   rw[e18]
   walk_at "e"
   have m1518:=m16.trans (m17.trans m18)
   have wt18:=wt15.same m1518
   refine z7 (.inl wt18.hd) (fun d3 np3=>?_)
   obtain⟨H19,e19,f19,m19,_⟩:=b4 (o:= .dK _) np3
   rw[e19]
   walk_at "e"
   refine⟨c8 (by simp),fun bf npb=>?_⟩
   obtain⟨H20,e20,f20,m20,_⟩:=b4 (o:= .lst _) npb
   rw[e20]
   have m1820:=m19.trans m20
   have m1520:=m1518.trans m1820
   have S20:=S15.same m1520
   have wt20:=wt15.same m1520
   have CW:SdIs K H20 ⟨dt,dp,dq,S.kvs,S.W⟩:=mI S20 (SqT.of (m1820 _ _ f18)) ((m17.trans (m18.trans m1820)) _ _ f16) ((m18.trans m1820) _ _ f17) (c9 f16 npq)
   have pne:dp≠S.p:=(c9 S15.hp npp).symm
   have qne:dq≠S.q:=(c9 S16.hq npq).symm
   have wne:d3≠dw:=(c9 wt18.hd np3).symm
   have d20:=m20 _ _ f19
   have lr20:=m1520 _ _ g15
   have lp20:=m1520 _ _ fcv
   have pc20:Paired (fun v (x:Ru×List Sd)=>RuC K lp H13 H20 v x.1 x.2) cv us:=Paired.imp' (fun _ _ z=>RuC.same z m1520) pcv
   have X120:=X1.same (s15.trans m1520)
   have X220:=X2.same (s15.trans m1520)
   have b120:=(s15.trans m1520) _ _ b1
   have b220:=(s15.trans m1520) _ _ b2
   have f220:=(s15.trans m1520) _ _ f213
   refine hx [some (.ref a),some (.ref lcs),some (.ref lk),some (.ref lw),some (.ref lr),some (.ref ln),some (.ref S.a),some (.ref dw),some (.ref lp),v9,v10,some (.ref bf),none,none,none,none,none] _ ?_
   clear hx e16 e17 e18 e19 e20 f16 f17 f18 f19 S16 wt18 wt15 S15 fcv g15 pcv
   refine i9 fun nx12 hx=>?_
   walk_at "e"
   refine b5 (SqL.of f220) (b6 (j:=5) g5) ?_
   walk_at "e"
   refine⟨S,c5,rfl,hc5,S20,Sl,fun bd H21 hbad hbl m21=>?_⟩
   walk_at "e"
   refine hx [some (.ref a),some (.ref lcs),some (.ref lk),some (.ref lw),some (.ref lr),some (.ref ln),some (.ref S.a),some (.ref dw),some (.ref lp),v9,v10,some (.ref bf),some (.str bd),none,none,none,none] _ ?_
   clear hx
   let rs:List Ru:=[⟨r1,L1,R1,.ref bl1⟩,⟨r2,L2',R2,.ref bl2⟩]
   have hRs:∀{H':Hp},Same H20 H'→∀x∈rs,RuB K H' x:=fun{H'} s x hx=>by
    rcases List.mem_cons.mp hx with z|z
    ·rw[z];exact X120.same s
    ·rw[List.mem_singleton.mp z];exact X220.same s
   refine i9 fun nx13 hx=>?_
   walk_at "e"
   refine⟨S,lr,dw,bd,rs,wts,0,rfl,S20.same m21,SqL.of (m21 _ _ lr20),hRs m21,wt20.same m21,by omega,(by show 2≤10;omega),.inl ⟨rfl,hbad⟩,fun l22 H22 m22 f22=>?_⟩
   walk_at "e"
   refine z8 (by omega) (by omega) ?_
   refine jd (b:=0) fun D nD=>?_
   obtain⟨H23,e23,f23,m23,_⟩:=b4 (o:= .lst _) nD
   rw[e23]
   refine vF (eN (SqL.of (m23 _ _ f22)) (SqL.of f23) (B1 _) (B1 _) ?_)
   rw[E6 (B1 _)]
   walk_at "e"
   refine hx [some (.ref a),some (.ref lcs),some (.ref lk),some (.ref lw),some (.ref lr),some (.ref ln),some (.ref S.a),some (.ref dw),some (.ref lp),v9,v10,some (.ref bf),some (.str bd),none,none,none,none] _ ?_
   clear hx
   have m2023:=m21.trans (m22.trans m23)
   refine i9 fun nx14 hx=>?_
   walk_at "e"
   refine b5 (SqL.of (m2023 _ _ f220)) (b6 (j:=5) g5) ?_
   walk_at "e"
   refine⟨S,_,rfl,by omega,S20.same m2023,Sl,Sn,fun gd H24 hgood hgl m24=>?_⟩
   walk_at "e"
   refine hx [some (.ref a),some (.ref lcs),some (.ref lk),some (.ref lw),some (.ref lr),some (.ref ln),some (.ref S.a),some (.ref dw),some (.ref lp),v9,v10,some (.ref bf),some (.str bd),some (.str gd),none,none,none] _ ?_
   clear hx
   have m2024:=m2023.trans m24
   refine i9 fun nx15 hx=>?_
   walk_at "e"
   have hrl:rs.length=2:=rfl
   have Lr:=SqL.of (K:=K) (m2024 _ _ lr20)
   have Lr':SqL K H24 lr (rs.map fun x=>V.ref x.r):=Lr
   refine A7 Lr' ?_
   refine u6 (n:=rs.length) (fun i out H'=>Same H24 H'∧out=(rs.take i).map fun x=>V.bl (C2 wts x)) ⟨Same.refl _,rfl⟩ (fun i out H' hi hp=>⟨_,.ref rs[i].r,hp.1.seq Lr',by rw[List.getElem?_map,List.getElem?_eq_getElem hi];rfl⟩) ?_ ?_
   ·rintro N i v out H25' H25 hi ⟨s25,rfl⟩ y hN'
    obtain⟨rfl,hx⟩:=Itl.get y (s25.seq Lr')
    rw[List.getElem?_map] at hx
    have hxi:=List.getElem?_eq_getElem hi
    generalize rs[i]=x at hxi
    rw[hxi] at hx
    cases hx
    have m2025:=m2024.trans s25
    walk_at "e"
    refine⟨rfl,?_⟩
    walk_at "e"
    refine⟨x,dw,wts,rfl,hRs m2025 x (List.mem_of_getElem? hxi),wt20.same m2025,fun H26 m26=>?_⟩
    refine⟨c8 (by rw[List.length_map,List.length_take];omega),hN' _ _ ⟨s25.trans m26,?_⟩⟩
    exact qI (C2 wts) hxi
   rintro out H25 ⟨s25,rfl⟩
   rw[List.take_of_length_le (Nat.le_refl _)]
   refine⟨⟨_,s25.seq Lr',by rw[List.length_map];exact Nat.le_refl _⟩,fun D hD=>⟨c8 (by rw[List.length_map];omega),?_⟩⟩
   obtain⟨H26,e26,f26,m26,_⟩:=b4 (H:=H25) (o:= .lst (rs.map fun x=>V.bl (C2 wts x))) hD
   show jn _ (upd H25 D _) _
   rw[e26]
   walk_at "e"
   refine qb (bs:=rs.map (C2 wts)) (SqL.of (by rw[f26,List.map_map];rfl)) ?_
   have hal:(rs.map (C2 wts)).all id=rs.all (C2 wts):=by rw[List.all_map];rfl
   rw[hal]
   walk_at "e"
   refine hx [some (.ref a),some (.ref lcs),some (.ref lk),some (.ref lw),some (.ref lr),some (.ref ln),some (.ref S.a),some (.ref dw),some (.ref lp),v9,v10,some (.ref bf),some (.str bd),some (.str gd),some (.bl (rs.all (C2 wts))),none,none] _ ?_
   clear hx
   have m2026:=m2024.trans (s25.trans m26)
   refine i9 fun nx16 hx=>?_
   walk_at "e"
   refine z8 (by omega) (by omega) ?_
   refine jd (b:=1) fun due nD=>?_
   obtain⟨H27,e27,f27,m27,_⟩:=b4 (o:= .lst _) nD
   rw[e27]
   refine hx [some (.ref a),some (.ref lcs),some (.ref lk),some (.ref lw),some (.ref lr),some (.ref ln),some (.ref S.a),some (.ref dw),some (.ref lp),v9,v10,some (.ref bf),some (.str bd),some (.str gd),some (.bl (rs.all (C2 wts))),some (.ref due),none] _ ?_
   clear hx
   have m2027:=m2026.trans m27
   refine i9 fun nx17 hx=>?_
   walk_at "e"
   have key:∀H28,Same H27 H28→nx17 [some (.ref a),some (.ref lcs),some (.ref lk),some (.ref lw),some (.ref lr),some (.ref ln),some (.ref S.a),some (.ref dw),some (.ref lp),v9,v10,some (.ref bf),some (.str bd),some (.str gd),some (.bl (rs.all (C2 wts))),some (.ref due),none] H28:=by
    intro H28 m28
    refine hx _ _ ?_
    clear hx
    have m2028:=m2027.trans m28
    refine i9 fun nx18 hx=>?_
    have L28:=SqL.of (K:=K) (m2028 _ _ lr20)
    have T28:=(X120.same m2028).tup
    walk_at "e"
    refine b5 L28 (b6 (j:=0) rfl) ?_
    walk_at "e"
    refine b5 L28 (b6 (j:=0) rfl) ?_
    walk_at "e"
    refine b9 T28 (b6 (j:=0) rfl) ?_
    walk_at "e"
    refine b5 L28 (b6 (j:=0) rfl) ?_
    walk_at "e"
    refine b9 T28 (b6 (j:=0) rfl) ?_
    walk_at "e"
    refine⟨c8 (by simp),fun l29 n29=>?_⟩
    obtain⟨H29,e29,f29,m29,_⟩:=b4 (o:= .lst []) n29
    rw[e29]
    walk_at "e"
    refine⟨c8 (by simp),fun t30 n30=>?_⟩
    obtain⟨H30,e30,f30,m30,_⟩:=b4 (o:= .tup _) n30
    rw[e30]
    walk_at "e"
    refine⟨c8 (by simp),fun lm n31=>?_⟩
    obtain⟨H31,e31,f31,m31,_⟩:=b4 (o:= .lst _) n31
    rw[e31]
    walk_at "e"
    refine hx [some (.ref a),some (.ref lcs),some (.ref lk),some (.ref lw),some (.ref lr),some (.ref ln),some (.ref S.a),some (.ref dw),some (.ref lp),v9,v10,some (.ref bf),some (.str bd),some (.str gd),some (.bl (rs.all (C2 wts))),some (.ref due),some (.ref lm)] _ ?_
    clear hx
    have m2831:=m29.trans (m30.trans m31)
    have m2031:=m2028.trans m2831
    have X31:=X120.same m2031
    have Y2:RuB K H31 ⟨t30,L1,L1,.ref l29⟩:=⟨SqT.of (m31 _ _ f30),X31.l,X31.l⟩
    refine i9 fun nx19 hx=>?_
    walk_at "e"
    refine⟨S,lm,dw,gd,[⟨r1,L1,R1,.ref bl1⟩,⟨t30,L1,L1,.ref l29⟩],wts,1,rfl,S20.same m2031,SqL.of f31,fun x hx=>?_,wt20.same m2031,by omega,(by show 2≤10;omega),.inr ⟨rfl,hgood,by simp [C2]⟩,fun l32 H32 m32 f32=>?_⟩
    ·rcases List.mem_cons.mp hx with z|z
     ·rw[z];exact X31
     ·rw[List.mem_singleton.mp z];exact Y2
    walk_at "e"
    refine vF (eN (SqL.of f32) (SqL.of ((m28.trans (m2831.trans m32)) _ _ f27)) (B1 _) (B1 _) ?_)
    rw[E6 (B1 _)]
    walk_at "e"
    refine hx _ _ ?_
    clear hx
    have m2032:=m2031.trans m32
    walk_at "e"
    refine⟨c8 (by simp),fun ly ny=>?_⟩
    obtain⟨H33,e33,f33,m33,_⟩:=b4 (o:= .lst _) ny
    rw[e33]
    have m2033:=m2032.trans m33
    obtain⟨y1,y2,rfl,q1,q2⟩:∃y1 y2,cv=[y1,y2]∧RuC K lp H13 H20 y1 ⟨r1,L1,R1,.ref bl1⟩ bs1∧RuC K lp H13 H20 y2 ⟨r2,L2',R2,.ref bl2⟩ bs2:=by
     have pc:Paired (fun v (x:Ru×List Sd)=>RuC K lp H13 H20 v x.1 x.2) cv [(⟨r1,L1,R1,.ref bl1⟩,bs1),(⟨r2,L2',R2,.ref bl2⟩,bs2)]:=pc20
     cases pc with
     |cons h t=>
      cases t with
      |cons h' t'=>cases t';exact⟨_,_,rfl,h,h'⟩
    refine .inr ⟨_,wL (.inr ⟨SqL.of (m2033 _ _ f20),SqL.of f33⟩) (.cons (cN (CW.same m2033) (S20.same m2033) (.refl _) (.refl _) pne qne) (.cons (jV (.inr ⟨SqL.of (m2033 _ _ lp20),SqL.of (m2033 _ _ lr20)⟩) (.cons (qd (q1.same m2033) (X120.same m2033) X1 rfl (SqL.of (m2033 _ _ b120)) _) (.cons (qd (q2.same m2033) (X220.same m2033) X2 rfl (SqL.of (m2033 _ _ b220)) _) .nil))) (.cons (EqN.of0 (.inr ⟨d3,dw,rfl,rfl,vQ wne (m2033 _ _ d20) (wt20.same m2033) wnd⟩) _) .nil))),?_⟩
    rw[lY]
    exact k _
   by_cases hf:(!rs.all (C2 wts))=true
   ·rw[if_pos hf]
    walk_at "e"
    refine⟨S,lr,dw,gd,rs,wts,1,rfl,S20.same m2027,SqL.of (m2027 _ _ lr20),hRs m2027,wt20.same m2027,by omega,(by show 2≤10;omega),.inr ⟨rfl,hgood,by simpa using hf⟩,fun l28 H28 m28 f28=>?_⟩
    walk_at "e"
    refine vF (eN (SqL.of f28) (SqL.of (m28 _ _ f27)) (B1 _) (B1 _) ?_)
    rw[E6 (B1 _)]
    walk_at "e"
    exact key _ m28
   ·rw[if_neg hf]
    walk_at "e"
    exact key _ (Same.refl _)
end
theorem all_mk {l:PySem.W.OpenLaw}{w:World}{K:PySem.W.Frag}{h:Heap}{mg:Str→Option Value}{fa f0 f1 f2 f3 f4 f5 f6 f7 f8 f9 f10 f11 f12 f13 f14 f15 f16 f17 f18 f19 f20 f21 f22 f23 f24 f25 f26 f27 f28 f29 f30 f31 f32 f33 f34 f35 f36 f37 f38 f39 f40 f41 f42 f43 f44 f45 f46 f47 f48 f49 f50 f51 f52 f53 f54 f55 f56 f57 f58 f59 f60 f61 f62 f63 f64 f65:Addr}{od12 an12 od45 an45:Option Addr}{sl12 sl45:Array (Option Value)}{oc12 kV12 dc12 pm12 cd12 ct12 oc45 kV45 dc45 pm45 cd45 ct45:Value}{T12:Addr}{tc12:Value}{td12:Option Addr}{tn12:Nat}{ts12:Array (Option Value)}{T45:Addr}{dt45 tc45:Value}{td45:Option Addr}{tn45:Nat}{ts45:Array (Option Value)}{t_MOST_MARK_SIGNS t_MOST_NAME_SIGNS t_NAME_SIGNS t_SMALL_LETTERS:Tok}{C_Barred C_GlueError C_HasBars C_Loose C_NoDeed C_NoFall C_NoMatch C_NoNames C_NoOverlap C_NoRow C_NoRule C_NoText C_NoWeb C_Open:Addr}{cd_GlueError:ClassData}(X:K.In h)(G:h.Ns mainGlobals mg)(hfa:mg "law"=some (.ref fa))
  (a0:FnIn K "is_text_of" O8 f0)
  (a1:FnIn K "is_name" bE f1)
  (a2:FnIn K "is_mark" bM f2)
  (a3:FnIn K "in_order" Z6 f3)
  (a4:FnIn K "copied" cJ f4)
  (a5:FnIn K "things" eI f5)
  (a6:FnIn K "without" aV f6)
  (a7:FnIn K "united" du f7)
  (a8:FnIn K "tie_renamed" K8 f8)
  (a9:FnIn K "renamed" bg f9)
  (a10:FnIn K "is_match" Z7 f10)
  (a11:FnIn K "line" km f11)
  (a12:PySem.W.nsIn K mainGlobals "matches"=some (some (.ref f12))) (l12:K.lookup f12=some ⟨oc12,od12,.func (PySem.W.fnOf "matches" "matches" (B8 E5) (u7 E5) (b0 E5) (.ref T12) kV12 dc12 pm12 an12 cd12 ct12),sl12⟩) (c12:PySem.W.codeIn K cd12 "matches"=true) (k12:PySem.W.keepIn K (.ref f12)=true) (t12:K.lookup T12=some ⟨tc12,td12,.seq #[Value.none] tn12,ts12⟩)
  (a13:FnIn K "first_match" K0 f13)
  (a14:FnIn K "first_found" J2 f14)
  (a15:FnIn K "found" gm f15)
  (a16:FnIn K "may_be" ez f16)
  (a17:FnIn K "point_choices" E2 f17)
  (a18:FnIn K "tie_places" P6 f18)
  (a19:FnIn K "enough" cS f19)
  (a20:FnIn K "lines" gN f20)
  (a21:FnIn K "images" dU f21)
  (a22:FnIn K "tie_choices" J3 f22)
  (a23:FnIn K "has_room" Z9 f23)
  (a24:FnIn K "both" jW f24)
  (a25:FnIn K "alone" hU f25)
  (a26:FnIn K "kept" jX f26)
  (a27:FnIn K "taken" gq f27)
  (a28:FnIn K "fresh_of" Z4 f28)
  (a29:FnIn K "rule_copied" L0 f29)
  (a30:FnIn K "picked" cR f30)
  (a31:FnIn K "barred" cO f31)
  (a32:FnIn K "taken_out" T8 f32)
  (a33:FnIn K "names_serve" J1 f33)
  (a34:FnIn K "rest_of" bu f34)
  (a35:FnIn K "done" ko f35)
  (a36:FnIn K "behind" dZ f36)
  (a37:FnIn K "named_step" Q1 f37)
  (a38:FnIn K "step_copied" K6 f38)
  (a39:FnIn K "weighed" bC f39)
  (a40:FnIn K "falls" gS f40)
  (a41:FnIn K "can_be_done" K4 f41)
  (a42:FnIn K "choices" bK f42)
  (a43:FnIn K "refuse_mark" K1 f43)
  (a44:FnIn K "picked_by" T4 f44)
  (a45:PySem.W.nsIn K mainGlobals "ended"=some (some (.ref f45))) (l45:K.lookup f45=some ⟨oc45,od45,.func (PySem.W.fnOf "ended" "ended" (B8 V4) (u7 V4) (b0 V4) (.ref T45) kV45 dc45 pm45 an45 cd45 ct45),sl45⟩) (c45:PySem.W.codeIn K cd45 "ended"=true) (k45:PySem.W.keepIn K (.ref f45)=true) (t45:K.lookup T45=some ⟨tc45,td45,.seq #[dt45] tn45,ts45⟩)
  (a46:FnIn K "_law_cells" P7 f46)
  (a47:FnIn K "_law_cell_at" F0 f47)
  (a48:FnIn K "_law_kinds" O5 f48)
  (a49:FnIn K "_law_names" N9 f49)
  (a50:FnIn K "_law_words" Q0 f50)
  (a51:FnIn K "_law_digits" J6 f51)
  (a52:FnIn K "_law_web" ae f52)
  (a53:FnIn K "_law_planted" F6 f53)
  (a54:FnIn K "_law_left" S2 f54)
  (a55:FnIn K "_law_right" O1 f55)
  (a56:FnIn K "_law_rule" U7 f56)
  (a57:FnIn K "_law_weights" F7 f57)
  (a58:FnIn K "_law_weight" J5 f58)
  (a59:FnIn K "_law_falls" N8 f59)
  (a60:FnIn K "_law_mark" S8 f60)
  (a61:FnIn K "_law_marks" Q2 f61)
  (a62:FnIn K "_law_hand" T3 f62)
  (a63:FnIn K "_law_bad_mark" E4 f63)
  (a64:FnIn K "_law_refused" F2 f64)
  (a65:FnIn K "law" pv f65)
  (z_ValueError:PySem.W.nsIn K mainGlobals "ValueError"=some none)
  (z_all:PySem.W.nsIn K mainGlobals "all"=some none)
  (z_any:PySem.W.nsIn K mainGlobals "any"=some none)
  (z_dict:PySem.W.nsIn K mainGlobals "dict"=some none)
  (z_enumerate:PySem.W.nsIn K mainGlobals "enumerate"=some none)
  (z_int:PySem.W.nsIn K mainGlobals "int"=some none)
  (z_isinstance:PySem.W.nsIn K mainGlobals "isinstance"=some none)
  (z_len:PySem.W.nsIn K mainGlobals "len"=some none)
  (z_list:PySem.W.nsIn K mainGlobals "list"=some none)
  (z_min:PySem.W.nsIn K mainGlobals "min"=some none)
  (z_range:PySem.W.nsIn K mainGlobals "range"=some none)
  (z_sorted:PySem.W.nsIn K mainGlobals "sorted"=some none)
  (z_str:PySem.W.nsIn K mainGlobals "str"=some none)
  (z_sum:PySem.W.nsIn K mainGlobals "sum"=some none)
  (z_zip:PySem.W.nsIn K mainGlobals "zip"=some none)
  (v_MOST_MARK_SIGNS:PySem.W.nsIn K mainGlobals "MOST_MARK_SIGNS"=some (some (.int 6 t_MOST_MARK_SIGNS)))
  (v_MOST_NAME_SIGNS:PySem.W.nsIn K mainGlobals "MOST_NAME_SIGNS"=some (some (.int 24 t_MOST_NAME_SIGNS)))
  (v_NAME_SIGNS:PySem.W.nsIn K mainGlobals "NAME_SIGNS"=some (some (.str aP t_NAME_SIGNS)))
  (v_SMALL_LETTERS:PySem.W.nsIn K mainGlobals "SMALL_LETTERS"=some (some (.str R0 t_SMALL_LETTERS)))
  (n_Barred:PySem.W.nsIn K mainGlobals "Barred"=some (some (.ref C_Barred)))
  (n_GlueError:PySem.W.nsIn K mainGlobals "GlueError"=some (some (.ref C_GlueError)))
  (n_HasBars:PySem.W.nsIn K mainGlobals "HasBars"=some (some (.ref C_HasBars)))
  (n_Loose:PySem.W.nsIn K mainGlobals "Loose"=some (some (.ref C_Loose)))
  (n_NoDeed:PySem.W.nsIn K mainGlobals "NoDeed"=some (some (.ref C_NoDeed)))
  (n_NoFall:PySem.W.nsIn K mainGlobals "NoFall"=some (some (.ref C_NoFall)))
  (n_NoMatch:PySem.W.nsIn K mainGlobals "NoMatch"=some (some (.ref C_NoMatch)))
  (n_NoNames:PySem.W.nsIn K mainGlobals "NoNames"=some (some (.ref C_NoNames)))
  (n_NoOverlap:PySem.W.nsIn K mainGlobals "NoOverlap"=some (some (.ref C_NoOverlap)))
  (n_NoRow:PySem.W.nsIn K mainGlobals "NoRow"=some (some (.ref C_NoRow)))
  (n_NoRule:PySem.W.nsIn K mainGlobals "NoRule"=some (some (.ref C_NoRule)))
  (n_NoText:PySem.W.nsIn K mainGlobals "NoText"=some (some (.ref C_NoText)))
  (n_NoWeb:PySem.W.nsIn K mainGlobals "NoWeb"=some (some (.ref C_NoWeb)))
  (n_Open:PySem.W.nsIn K mainGlobals "Open"=some (some (.ref C_Open)))
  (xr_NoFall:PySem.W.excIn K C_NoFall Av "ValueError.__new__"=true)
  (xr_NoNames:PySem.W.excIn K C_NoNames Av "ValueError.__new__"=true)
  (xt_GlueError:PySem.W.typeIn K (.ref C_GlueError)=some (.type "type"))
  (xb_GlueError:PySem.W.subIn K (.ref C_GlueError) (.type "BaseException")=some true)
  (xc_GlueError:PySem.W.clsIn K C_GlueError=some cd_GlueError)
  (xs_NoFall_Barred:PySem.W.subIn K (.ref C_NoFall) (.ref C_Barred)=some false)
  (xs_NoFall_GlueError:PySem.W.subIn K (.ref C_NoFall) (.ref C_GlueError)=some true)
  (xs_NoFall_HasBars:PySem.W.subIn K (.ref C_NoFall) (.ref C_HasBars)=some false)
  (xs_NoFall_Loose:PySem.W.subIn K (.ref C_NoFall) (.ref C_Loose)=some false)
  (xs_NoFall_NoDeed:PySem.W.subIn K (.ref C_NoFall) (.ref C_NoDeed)=some false)
  (xs_NoFall_NoFall:PySem.W.subIn K (.ref C_NoFall) (.ref C_NoFall)=some true)
  (xs_NoFall_NoMatch:PySem.W.subIn K (.ref C_NoFall) (.ref C_NoMatch)=some false)
  (xs_NoFall_NoNames:PySem.W.subIn K (.ref C_NoFall) (.ref C_NoNames)=some false)
  (xs_NoFall_NoOverlap:PySem.W.subIn K (.ref C_NoFall) (.ref C_NoOverlap)=some false)
  (xs_NoFall_NoRow:PySem.W.subIn K (.ref C_NoFall) (.ref C_NoRow)=some false)
  (xs_NoFall_NoRule:PySem.W.subIn K (.ref C_NoFall) (.ref C_NoRule)=some false)
  (xs_NoFall_NoText:PySem.W.subIn K (.ref C_NoFall) (.ref C_NoText)=some false)
  (xs_NoFall_NoWeb:PySem.W.subIn K (.ref C_NoFall) (.ref C_NoWeb)=some false)
  (xs_NoFall_Open:PySem.W.subIn K (.ref C_NoFall) (.ref C_Open)=some false)
  (xe_NoFall:ExN K C_NoFall)
  (xi_NoFall_Barred:PySem.W.kitOne K (.ref C_NoFall) (.ref C_Barred)=some false)
  (xi_NoFall_HasBars:PySem.W.kitOne K (.ref C_NoFall) (.ref C_HasBars)=some false)
  (xi_NoFall_Loose:PySem.W.kitOne K (.ref C_NoFall) (.ref C_Loose)=some false)
  (xi_NoFall_NoDeed:PySem.W.kitOne K (.ref C_NoFall) (.ref C_NoDeed)=some false)
  (xi_NoFall_NoFall:PySem.W.kitOne K (.ref C_NoFall) (.ref C_NoFall)=some true)
  (xi_NoFall_NoMatch:PySem.W.kitOne K (.ref C_NoFall) (.ref C_NoMatch)=some false)
  (xi_NoFall_NoNames:PySem.W.kitOne K (.ref C_NoFall) (.ref C_NoNames)=some false)
  (xi_NoFall_NoOverlap:PySem.W.kitOne K (.ref C_NoFall) (.ref C_NoOverlap)=some false)
  (xi_NoFall_NoRow:PySem.W.kitOne K (.ref C_NoFall) (.ref C_NoRow)=some false)
  (xi_NoFall_NoRule:PySem.W.kitOne K (.ref C_NoFall) (.ref C_NoRule)=some false)
  (xi_NoFall_NoText:PySem.W.kitOne K (.ref C_NoFall) (.ref C_NoText)=some false)
  (xi_NoFall_NoWeb:PySem.W.kitOne K (.ref C_NoFall) (.ref C_NoWeb)=some false)
  (xi_NoFall_Open:PySem.W.kitOne K (.ref C_NoFall) (.ref C_Open)=some false)
  (xi_NoFall_ValueError:PySem.W.kitOne K (.ref C_NoFall) (.type "ValueError")=some true)
  (xs_NoNames_Barred:PySem.W.subIn K (.ref C_NoNames) (.ref C_Barred)=some false)
  (xs_NoNames_GlueError:PySem.W.subIn K (.ref C_NoNames) (.ref C_GlueError)=some true)
  (xs_NoNames_HasBars:PySem.W.subIn K (.ref C_NoNames) (.ref C_HasBars)=some false)
  (xs_NoNames_Loose:PySem.W.subIn K (.ref C_NoNames) (.ref C_Loose)=some false)
  (xs_NoNames_NoDeed:PySem.W.subIn K (.ref C_NoNames) (.ref C_NoDeed)=some false)
  (xs_NoNames_NoFall:PySem.W.subIn K (.ref C_NoNames) (.ref C_NoFall)=some false)
  (xs_NoNames_NoMatch:PySem.W.subIn K (.ref C_NoNames) (.ref C_NoMatch)=some false)
  (xs_NoNames_NoNames:PySem.W.subIn K (.ref C_NoNames) (.ref C_NoNames)=some true)
  (xs_NoNames_NoOverlap:PySem.W.subIn K (.ref C_NoNames) (.ref C_NoOverlap)=some false)
  (xs_NoNames_NoRow:PySem.W.subIn K (.ref C_NoNames) (.ref C_NoRow)=some false)
  (xs_NoNames_NoRule:PySem.W.subIn K (.ref C_NoNames) (.ref C_NoRule)=some false)
  (xs_NoNames_NoText:PySem.W.subIn K (.ref C_NoNames) (.ref C_NoText)=some false)
  (xs_NoNames_NoWeb:PySem.W.subIn K (.ref C_NoNames) (.ref C_NoWeb)=some false)
  (xs_NoNames_Open:PySem.W.subIn K (.ref C_NoNames) (.ref C_Open)=some false)
  (xe_NoNames:ExN K C_NoNames)
  (xi_NoNames_Barred:PySem.W.kitOne K (.ref C_NoNames) (.ref C_Barred)=some false)
  (xi_NoNames_HasBars:PySem.W.kitOne K (.ref C_NoNames) (.ref C_HasBars)=some false)
  (xi_NoNames_Loose:PySem.W.kitOne K (.ref C_NoNames) (.ref C_Loose)=some false)
  (xi_NoNames_NoDeed:PySem.W.kitOne K (.ref C_NoNames) (.ref C_NoDeed)=some false)
  (xi_NoNames_NoFall:PySem.W.kitOne K (.ref C_NoNames) (.ref C_NoFall)=some false)
  (xi_NoNames_NoMatch:PySem.W.kitOne K (.ref C_NoNames) (.ref C_NoMatch)=some false)
  (xi_NoNames_NoNames:PySem.W.kitOne K (.ref C_NoNames) (.ref C_NoNames)=some true)
  (xi_NoNames_NoOverlap:PySem.W.kitOne K (.ref C_NoNames) (.ref C_NoOverlap)=some false)
  (xi_NoNames_NoRow:PySem.W.kitOne K (.ref C_NoNames) (.ref C_NoRow)=some false)
  (xi_NoNames_NoRule:PySem.W.kitOne K (.ref C_NoNames) (.ref C_NoRule)=some false)
  (xi_NoNames_NoText:PySem.W.kitOne K (.ref C_NoNames) (.ref C_NoText)=some false)
  (xi_NoNames_NoWeb:PySem.W.kitOne K (.ref C_NoNames) (.ref C_NoWeb)=some false)
  (xi_NoNames_Open:PySem.W.kitOne K (.ref C_NoNames) (.ref C_Open)=some false)
  (xi_NoNames_ValueError:PySem.W.kitOne K (.ref C_NoNames) (.type "ValueError")=some true)
  :
  ∃fd:FuncData,(∀(s:Shared) (v:Value),BindsTo s fd ⟨[v],[]⟩ [("_law_script",v)])∧∀base:Heap,K.In base→base.Ns mainGlobals mg→j1 l.prog w K mg base j9 6 fa fd ["_law_script"] (gO K):=by
 have ec_Barred:cA K "Barred"=C_Barred:=by unfold cA;rw[n_Barred]
 have ec_GlueError:cA K "GlueError"=C_GlueError:=by unfold cA;rw[n_GlueError]
 have ec_HasBars:cA K "HasBars"=C_HasBars:=by unfold cA;rw[n_HasBars]
 have ec_Loose:cA K "Loose"=C_Loose:=by unfold cA;rw[n_Loose]
 have ec_NoDeed:cA K "NoDeed"=C_NoDeed:=by unfold cA;rw[n_NoDeed]
 have ec_NoFall:cA K "NoFall"=C_NoFall:=by unfold cA;rw[n_NoFall]
 have ec_NoMatch:cA K "NoMatch"=C_NoMatch:=by unfold cA;rw[n_NoMatch]
 have ec_NoNames:cA K "NoNames"=C_NoNames:=by unfold cA;rw[n_NoNames]
 have ec_NoOverlap:cA K "NoOverlap"=C_NoOverlap:=by unfold cA;rw[n_NoOverlap]
 have ec_NoRow:cA K "NoRow"=C_NoRow:=by unfold cA;rw[n_NoRow]
 have ec_NoRule:cA K "NoRule"=C_NoRule:=by unfold cA;rw[n_NoRule]
 have ec_NoText:cA K "NoText"=C_NoText:=by unfold cA;rw[n_NoText]
 have ec_NoWeb:cA K "NoWeb"=C_NoWeb:=by unfold cA;rw[n_NoWeb]
 have ec_Open:cA K "Open"=C_Open:=by unfold cA;rw[n_Open]
 have T:Txt K mg:=⟨by rw[ec_NoFall];exact⟨PySem.W.mg_of X G n_NoFall,xr_NoFall⟩,by rw[ec_NoNames];exact⟨PySem.W.mg_of X G n_NoNames,xr_NoNames⟩,by rw[ec_GlueError];exact⟨PySem.W.mg_of X G n_GlueError,xt_GlueError,xb_GlueError,by rw[xc_GlueError];rfl⟩,by rw[ec_Barred];exact⟨_,PySem.W.mg_of X G n_Barred,rfl⟩,by rw[ec_HasBars];exact⟨_,PySem.W.mg_of X G n_HasBars,rfl⟩,by rw[ec_Loose];exact⟨_,PySem.W.mg_of X G n_Loose,rfl⟩,by rw[ec_NoDeed];exact⟨_,PySem.W.mg_of X G n_NoDeed,rfl⟩,by rw[ec_NoFall];exact⟨_,PySem.W.mg_of X G n_NoFall,rfl⟩,by rw[ec_NoMatch];exact⟨_,PySem.W.mg_of X G n_NoMatch,rfl⟩,by rw[ec_NoNames];exact⟨_,PySem.W.mg_of X G n_NoNames,rfl⟩,by rw[ec_NoOverlap];exact⟨_,PySem.W.mg_of X G n_NoOverlap,rfl⟩,by rw[ec_NoRow];exact⟨_,PySem.W.mg_of X G n_NoRow,rfl⟩,by rw[ec_NoRule];exact⟨_,PySem.W.mg_of X G n_NoRule,rfl⟩,by rw[ec_NoText];exact⟨_,PySem.W.mg_of X G n_NoText,rfl⟩,by rw[ec_NoWeb];exact⟨_,PySem.W.mg_of X G n_NoWeb,rfl⟩,by rw[ec_Open];exact⟨_,PySem.W.mg_of X G n_Open,rfl⟩,by rw[ec_NoFall,ec_Barred];exact xs_NoFall_Barred,by rw[ec_NoFall,ec_GlueError];exact xs_NoFall_GlueError,by rw[ec_NoFall,ec_HasBars];exact xs_NoFall_HasBars,by rw[ec_NoFall,ec_Loose];exact xs_NoFall_Loose,by rw[ec_NoFall,ec_NoDeed];exact xs_NoFall_NoDeed,by rw[ec_NoFall];exact xs_NoFall_NoFall,by rw[ec_NoFall,ec_NoMatch];exact xs_NoFall_NoMatch,by rw[ec_NoFall,ec_NoNames];exact xs_NoFall_NoNames,by rw[ec_NoFall,ec_NoOverlap];exact xs_NoFall_NoOverlap,by rw[ec_NoFall,ec_NoRow];exact xs_NoFall_NoRow,by rw[ec_NoFall,ec_NoRule];exact xs_NoFall_NoRule,by rw[ec_NoFall,ec_NoText];exact xs_NoFall_NoText,by rw[ec_NoFall,ec_NoWeb];exact xs_NoFall_NoWeb,by rw[ec_NoFall,ec_Open];exact xs_NoFall_Open,by rw[ec_NoFall];exact xe_NoFall,by rw[ec_NoFall,ec_Barred];exact xi_NoFall_Barred,by rw[ec_NoFall,ec_HasBars];exact xi_NoFall_HasBars,by rw[ec_NoFall,ec_Loose];exact xi_NoFall_Loose,by rw[ec_NoFall,ec_NoDeed];exact xi_NoFall_NoDeed,by rw[ec_NoFall];exact xi_NoFall_NoFall,by rw[ec_NoFall,ec_NoMatch];exact xi_NoFall_NoMatch,by rw[ec_NoFall,ec_NoNames];exact xi_NoFall_NoNames,by rw[ec_NoFall,ec_NoOverlap];exact xi_NoFall_NoOverlap,by rw[ec_NoFall,ec_NoRow];exact xi_NoFall_NoRow,by rw[ec_NoFall,ec_NoRule];exact xi_NoFall_NoRule,by rw[ec_NoFall,ec_NoText];exact xi_NoFall_NoText,by rw[ec_NoFall,ec_NoWeb];exact xi_NoFall_NoWeb,by rw[ec_NoFall,ec_Open];exact xi_NoFall_Open,by rw[ec_NoFall];exact xi_NoFall_ValueError,by rw[ec_NoNames,ec_Barred];exact xs_NoNames_Barred,by rw[ec_NoNames,ec_GlueError];exact xs_NoNames_GlueError,by rw[ec_NoNames,ec_HasBars];exact xs_NoNames_HasBars,by rw[ec_NoNames,ec_Loose];exact xs_NoNames_Loose,by rw[ec_NoNames,ec_NoDeed];exact xs_NoNames_NoDeed,by rw[ec_NoNames,ec_NoFall];exact xs_NoNames_NoFall,by rw[ec_NoNames,ec_NoMatch];exact xs_NoNames_NoMatch,by rw[ec_NoNames];exact xs_NoNames_NoNames,by rw[ec_NoNames,ec_NoOverlap];exact xs_NoNames_NoOverlap,by rw[ec_NoNames,ec_NoRow];exact xs_NoNames_NoRow,by rw[ec_NoNames,ec_NoRule];exact xs_NoNames_NoRule,by rw[ec_NoNames,ec_NoText];exact xs_NoNames_NoText,by rw[ec_NoNames,ec_NoWeb];exact xs_NoNames_NoWeb,by rw[ec_NoNames,ec_Open];exact xs_NoNames_Open,by rw[ec_NoNames];exact xe_NoNames,by rw[ec_NoNames,ec_Barred];exact xi_NoNames_Barred,by rw[ec_NoNames,ec_HasBars];exact xi_NoNames_HasBars,by rw[ec_NoNames,ec_Loose];exact xi_NoNames_Loose,by rw[ec_NoNames,ec_NoDeed];exact xi_NoNames_NoDeed,by rw[ec_NoNames,ec_NoFall];exact xi_NoNames_NoFall,by rw[ec_NoNames,ec_NoMatch];exact xi_NoNames_NoMatch,by rw[ec_NoNames];exact xi_NoNames_NoNames,by rw[ec_NoNames,ec_NoOverlap];exact xi_NoNames_NoOverlap,by rw[ec_NoNames,ec_NoRow];exact xi_NoNames_NoRow,by rw[ec_NoNames,ec_NoRule];exact xi_NoNames_NoRule,by rw[ec_NoNames,ec_NoText];exact xi_NoNames_NoText,by rw[ec_NoNames,ec_NoWeb];exact xi_NoNames_NoWeb,by rw[ec_NoNames,ec_Open];exact xi_NoNames_Open,by rw[ec_NoNames];exact xi_NoNames_ValueError,PySem.W.mg_none_of X G z_ValueError,PySem.W.mg_none_of X G z_all,PySem.W.mg_none_of X G z_any,PySem.W.mg_none_of X G z_dict,PySem.W.mg_none_of X G z_enumerate,PySem.W.mg_none_of X G z_int,PySem.W.mg_none_of X G z_isinstance,PySem.W.mg_none_of X G z_len,PySem.W.mg_none_of X G z_list,PySem.W.mg_none_of X G z_min,PySem.W.mg_none_of X G z_range,PySem.W.mg_none_of X G z_sorted,PySem.W.mg_none_of X G z_str,PySem.W.mg_none_of X G z_sum,PySem.W.mg_none_of X G z_zip,⟨_,PySem.W.mg_of X G v_MOST_MARK_SIGNS,_,rfl⟩,⟨_,PySem.W.mg_of X G v_MOST_NAME_SIGNS,_,rfl⟩,⟨_,PySem.W.mg_of X G v_NAME_SIGNS,_,rfl⟩,⟨_,PySem.W.mg_of X G v_SMALL_LETTERS,_,rfl⟩⟩
 refine vW X G hfa a65 (fun{base f fd} F=>?_) fun _ _ _ _ _ _ s v=> .of_eq rfl
 have B2:N4 l.prog w K mg base:=h7 X G a0 (fun F=>eX T F) (by walk_at "b")
 have N7:dQ l.prog w K mg base:=h7 X G a3 (fun F=>iO T F) (by walk_at "b")
 have C4:aJ l.prog w K mg base:=h7 X G a5 (fun F=>oS T F) (by walk_at "b")
 have xZ:oj l.prog w K mg base:=h7 X G a6 (fun F=>jP T F) (by walk_at "b")
 have zS:qF l.prog w K mg base:=h7 X G a7 (fun F=>oz T F) (by walk_at "b")
 have sr:eT l.prog w K mg base:=h7 X G a8 (fun F=>cI T F) (by walk_at "b")
 have yh:oC l.prog w K mg base:=h7 X G a9 (fun F=>lK T F) (by walk_at "b")
 have xR:lz l.prog w K mg base:=h7 X G a10 (fun F=>iF T F) (by walk_at "b")
 have BK:wC l.prog w K mg base:=h7 X G a11 (fun F=>sN T F) (by walk_at "b")
 have F12:=lO (st:=E5) l12 c12 k12
 have yg:A2 l.prog w K mg base j9 1 "matches" ["piece","web","fixed"] [] (Z1 K):=⟨f12,_,[],eg T F12,PySem.W.mg_of X G a12,k12,fun s us hX hl=>(match us,(by simpa using hl:us.length=3) with|[_,_,_],_=>PySem.W.binds_K hX rfl t12 rfl rfl rfl),.nil⟩
 have vq:A2 l.prog w K mg base j9 1 "matches" ["piece","web","fixed"] [.non] (Z1 K):=⟨f12,_,[Value.none],eg T F12,PySem.W.mg_of X G a12,k12,fun s us hX hl=>(match us,(by simpa using hl:us.length=2) with|[_,_],_=>PySem.W.binds_K hX rfl t12 rfl rfl rfl),.cons rfl .nil⟩
 have sk:fq l.prog w K mg base:=h7 X G a13 (fun F=>dc T F) (by walk_at "b")
 have so:fi l.prog w K mg base:=h7 X G a14 (fun F=>dR T F) (by walk_at "b")
 have Ao:sO l.prog w K mg base:=h7 X G a15 (fun F=>rp T F) (by walk_at "b")
 have yk:qu l.prog w K mg base:=h7 X G a16 (fun F=>mX T F) (by walk_at "b")
 have pd:cq l.prog w K mg base:=h7 X G a17 (fun F=>bo T F) (by walk_at "b")
 have sQ:gG l.prog w K mg base:=h7 X G a18 (fun F=>eV T F) (by walk_at "b")
 have Ae:qX l.prog w K mg base:=h7 X G a19 (fun F=>oP T F) (by walk_at "b")
 have Au:tq l.prog w K mg base:=h7 X G a20 (fun F=>pK T F) (by walk_at "b")
 have yu:si l.prog w K mg base:=h7 X G a21 (fun F=>nM T F) (by walk_at "b")
 have sx:fu l.prog w K mg base:=h7 X G a22 (fun F=>cY T F) (by walk_at "b")
 have vB:jT l.prog w K mg base:=h7 X G a23 (fun F=>jf T F) (by walk_at "b")
 have su:eR l.prog w K mg base:=h7 X G a29 (fun F=>dW T F) (by walk_at "b")
 have zA:ph l.prog w K mg base:=h7 X G a30 (fun F=>mW T F) (by walk_at "b")
 have zE:rl l.prog w K mg base:=h7 X G a31 (fun F=>og T F) (by walk_at "b")
 have vk:ix l.prog w K mg base:=h7 X G a32 (fun F=>hJ T F) (by walk_at "b")
 have sv:ff l.prog w K mg base:=h7 X G a33 (fun F=>eo T F) (by walk_at "b")
 have ya:nA l.prog w K mg base:=h7 X G a34 (fun F=>jC T F) (by walk_at "b")
 have Bc:wj l.prog w K mg base:=h7 X G a35 (fun F=>uT T F) (by walk_at "b")
 have zc:qp l.prog w K mg base:=h7 X G a36 (fun F=>nN T F) (by walk_at "b")
 have tR:gZ l.prog w K mg base:=h7 X G a37 (fun F=>eQ T F) (by walk_at "b")
 have sC:fk l.prog w K mg base:=h7 X G a38 (fun F=>cK T F) (by walk_at "b")
 have W3:fz l.prog w K mg base:=h7 X G a39 (fun F=>kU T F) (by walk_at "b")
 have sD:fj l.prog w K mg base:=h7 X G a41 (fun F=>dh T F) (by walk_at "b")
 have yf:nG l.prog w K mg base:=h7 X G a42 (fun F=>kH T F) (by walk_at "b")
 have uZ:iK l.prog w K mg base:=h7 X G a44 (fun F=>gL T F) (by walk_at "b")
 have P8:av l.prog w K mg base:=h7 X G a46 (fun F=>fw T F) (by walk_at "b")
 have G1:S5 l.prog w K mg base:=h7 X G a47 (fun F=>cx T F) (by walk_at "b")
 have O0:au l.prog w K mg base:=h7 X G a48 (fun F=>eW T F) (by walk_at "b")
 have O2:aw l.prog w K mg base:=h7 X G a49 (fun F=>fb T F) (by walk_at "b")
 have P9:aO l.prog w K mg base:=h7 X G a50 (fun F=>eU T F) (by walk_at "b")
 have K3:Y7 l.prog w K mg base:=h7 X G a51 (fun F=>dE T F) (by walk_at "b")
 have aj:eO l.prog w K mg base:=h7 X G a52 (fun F=>iW T F) (by walk_at "b")
 have F9:V0 l.prog w K mg base:=h7 X G a53 (fun F=>cm T F) (by walk_at "b")
 have U8:bV l.prog w K mg base:=h7 X G a54 (fun F=>gx T F) (by walk_at "b")
 have Q3:aM l.prog w K mg base:=h7 X G a55 (fun F=>fc T F) (by walk_at "b")
 have F3:R9 l.prog w K mg base:=h7 X G a57 (fun F=>cn T F) (by walk_at "b")
 have D8:W5 l.prog w K mg base:=h7 X G a58 (fun F=>dJ T F) (by walk_at "b")
 have S6:cc l.prog w K mg base:=h7 X G a60 (fun F=>gu T F) (by walk_at "b")
 have O7:aN l.prog w K mg base:=h7 X G a61 (fun F=>fm T F) (by walk_at "b")
 have U2:bY l.prog w K mg base:=h7 X G a62 (fun F=>gF T F) (by walk_at "b")
 have E3:Q9 l.prog w K mg base:=h7 X G a63 (fun F=>bq T F) (by walk_at "b")
 have yd:oV l.prog w K mg base:=h7 X G a1 (fun F=>kB T B2 F) (by walk_at "b")
 have bH:fF l.prog w K mg base:=h7 X G a2 (fun F=>jS T B2 F) (by walk_at "b")
 have zR:qJ l.prog w K mg base:=h7 X G a4 (fun F=>nK T N7 F) (by walk_at "b")
 have ky:rF l.prog w K mg base:=h7 X G a24 (fun F=>uM T C4 F) (by walk_at "b")
 have V7:gJ l.prog w K mg base:=h7 X G a25 (fun F=>qD T C4 F) (by walk_at "b")
 have gX:me l.prog w K mg base:=h7 X G a40 (fun F=>qa T W3 F) (by walk_at "b")
 have G9:bR l.prog w K mg base:=h7 X G a56 (fun F=>ie T K3 U8 Q3 F) (by walk_at "b")
 have O6:ar l.prog w K mg base:=h7 X G a59 (fun F=>fo T D8 F) (by walk_at "b")
 have BA:wM l.prog w K mg base:=h7 X G a26 (fun F=>tO T ky F) (by walk_at "b")
 have Ah:uH l.prog w K mg base:=h7 X G a27 (fun F=>pZ T V7 F) (by walk_at "b")
 have wX:kR l.prog w K mg base:=h7 X G a28 (fun F=>iU T V7 F) (by walk_at "b")
 have K2:Y9 l.prog w K mg base:=h7 X G a43 (fun F=>eB T bH C4 F) (by walk_at "b")
 have F45:=lO (st:=V4) l45 c45 k45
 have hV:A2 l.prog w K mg base (eP l.prog w) 4 "ended" ["web","rules","weights","hand","mark"] [] (eJ K):=⟨f45,_,[],pw T K2 gX F45,PySem.W.mg_of X G a45,k45,fun s us hX hl=>(match us,(by simpa using hl:us.length=5) with|[_,_,_,_,_],_=>PySem.W.binds_K hX rfl t45 rfl rfl rfl),.nil⟩
 have A3:V1 l.prog w K mg base:=h7 X G a64 (fun F=>cj T hV U2 O7 F) (by walk_at "b")
 exact vO T G1 O0 P9 G9 O2 aj P8 F9 F3 E3 A3 S6 O6 F
theorem walk {l:PySem.W.OpenLaw}{q:Program}{loose:List Str}{XP:(Str→Option Value)→Heap→Prop}{YP:World→Heap→Prop}{d:DefRec}{K:Params→PySem.W.Frag}(hn:l.most=some 63)(hdf:d.params.defaults=[])
  (hY:∀(w:World) (h:Heap),YP w h→(K w.params).In h)
  (F:∀(w:World) (mg:Str→Option Value) (fa:Addr) (h:Heap),(K w.params).In h→h.Ns mainGlobals mg→mg d.name=some (.ref fa)→
   ∃fd:FuncData,(∀(s:Shared) (u:Value),BindsTo s fd ⟨[u],[]⟩ [("_law_script",u)])∧∀base:Heap,(K w.params).In base→base.Ns mainGlobals mg→j1 l.prog w (K w.params) mg base j9 6 fa fd ["_law_script"] (gO (K w.params))):
  PySem.W.WalkO q loose XP YP l.row.toRowW d [] (fun f vs=>PySem.call f vs):=
 L2.walk_of (n:=63) (k:=6) (x:="_law_script") (CX:=fun _=>j9) (sp:=fun w=>gO (K w.params)) hn (by decide) hdf ⟨rfl,by decide,by decide⟩ hY F (fun _ _ a ns hl _ hS=>⟨a,ns,rfl,hS,hl,fun _=>rfl⟩) fun _ _ _ _ _ z=>z
end K68
namespace PySem.W.Fast
def tw15580975028695378454:=Nat
def tw15993072452564015892:=Nat
def tw7327712494361673422:=Nat
def tw2858429160311321963:=Nat
def tw6725596476462094745:=Nat
def tw12771018615243713342:=Nat
def tw17371157493938636538:=Nat
def tw17976242737382357294:=Nat
def tw15813003336966653756:=Nat
def tw4701371223085392261:=Nat
def tw2235873331270009383:=Nat
def tw16519261680930333303:=Nat
def tw9300250606966334131:=Nat
def tw4760465475978664410:=Nat
def tw403170589360407078:=Nat
def tw18439326840010259484:=Nat
def tw52529860633238691:=Nat
def tw10745676149961902500:=Nat
def tw12792437207392384943:=Nat
def tw13192627171285593198:=Nat
def tw17288929673498062990:=Nat
def tw15018584475745317958:=Nat
def tw9493771852779233607:=Nat
def tw17712100116155660005:=Nat
def tw5117421642392828472:=Nat
def tw6805771439343636670:=Nat
def tw13861260348737618904:=Nat
def tw12507813603685063498:=Nat
def tw2728979551325076058:=Nat
def tw4564519168388290458:=Nat
def tw2994739429054736290:=Nat
def tw3996994322843318771:=Nat
def tw7896688564992508606:=Nat
def tw4763083656340967384:=Nat
def tw16389923838672434134:=Nat
def tw12731428053887164880:=Nat
def tw5072974210252239091:=Nat
def tw5082382994177303776:=Nat
def tw2840280184384214272:=Nat
def tw7843149017382423970:=Nat
def tw10033254686870672168:=Nat
def tw5284946422956151247:=Nat
def tw5035502252797480097:=Nat
def tw12451446342864782564:=Nat
def tw3879058374625161627:=Nat
def tw13944418066106092809:=Nat
def tw4053192251738392742:=Nat
def tw3080510515557548949:=Nat
def tw13093411138411599943:=Nat
def tw15279883330119864460:=Nat
def tw3543710782365145707:=Nat
def tw17363138154054477250:=Nat
def tw13715075756447636276:=Nat
def tw1278931117083660621:=Nat
def tw17662198311254447649:=Nat
def tw13258317058858752277:=Nat
def tw4428976717677725114:=Nat
def tw659688080139197059:=Nat
def tw18120478022053923501:=Nat
def tw2196652003286898970:=Nat
def tw13083111566909678569:=Nat
def tw11564510165588660115:=Nat
def tw7105388928790223133:=Nat
def tw17419893693099895358:=Nat
def tw6894660628218909943:=Nat
def tw18293717040696706237:=Nat
def tw6839884652361542772:=Nat
def tw7515541881956088071:=Nat
def tw17906587364752346895:=Nat
def tw8952380305254913901:=Nat
def tw5365533309100547623:=Nat
def tw101542808137564775:=Nat
def tw5775776414642112399:=Nat
def tw16057781135286446744:=Nat
def tw4814373907254372526:=Nat
def tw7264873807697238030:=Nat
def tw11878946972809647396:=Nat
def tw11175663553258546656:=Nat
def tw3884072889313521281:=Nat
def tw13499198675957501679:=Nat
def tw10531913088603024607:=Nat
def tw17323072950703062739:=Nat
def tw15114478812818183246:=Nat
def tw9393747655283222044:=Nat
def tw7645629401205080151:=Nat
def tw8636267920035886745:=Nat
def tw10503970514025392388:=Nat
def tw14063324554089371093:=Nat
def tw1122356293397581053:=Nat
def tw13395190728429005693:=Nat
def tw11609940607898702155:=Nat
def tw4857323237261258785:=Nat
def tw7653534656043081612:=Nat
def tw17593360990820310486:=Nat
def tw79769483944143198:=Nat
def tw14399358814256472391:=Nat
def tw6999730946883014310:=Nat
def tw18404122671985174848:=Nat
def tw6538181522626000281:=Nat
def tw18034659733604433926:=Nat
def tw12891534343987382342:=Nat
def tw11826259493654688969:=Nat
def tw12475931484942695553:=Nat
def tw10982287056895508494:=Nat
def tw678761803764919201:=Nat
def tw16017361063476331003:=Nat
def tw14935806830627092384:=Nat
def tw5903479757974994006:=Nat
def tw13625640208781108488:=Nat
def tw2072207021501559644:=Nat
def tw8580467704850122443:=Nat
def tw15996450254156386069:=Nat
def tw214458854742321400:=Nat
def tw2837194189975332468:=Nat
def tw8761391362338998953:=Nat
def tw10657153290653117905:=Nat
def tw17861563585472046074:=Nat
def tw14188802904965047752:=Nat
def tw3038247454319209339:=Nat
def tw4304750152564329158:=Nat
def tw2260396878205133590:=Nat
def tw11800733182375489569:=Nat
def tw15592892430621456271:=Nat
def tw1399073156504416369:=Nat
def tw1684543091312445081:=Nat
def tw6633499286901373201:=Nat
def tw16380647193021863560:=Nat
def tw2359486292273537953:=Nat
def tw13888371601639497231:=Nat
end PySem.W.Fast
open PySem PySem.W PyProof.Rows
local macro_rules| `(tactic|walk_at "F")=> `(tactic|(refine' L2.FnIn.mk' ?a ?l ?c ?k;(case a=>k_is);(case l=>k_is);(case c=>k_is);(case k=>k_is)))
local macro_rules| `(tactic|walk_at "N")=> `(tactic|(refine' L2.ExN.mk ?a ?b ?d ?e ?f ?g ?h;(case a=>k_is);(case b=>k_is);(case d=>k_is);(case e=>k_is);(case f=>k_is);(case g=>k_is);(case h=>k_is)))
set_option maxRecDepth 100000 in
set_option maxHeartbeats 0 in
theorem PySem.Challenge.cw_gluework_k68_endings_refused_holds : PySem.Challenge.rw_gluework_k68_endings_refused.Holds := by
 w_on;o_law;k_head;(case hw=>w_witness2)
 k_fill
 refine K68.walk (l:=PySem.Challenge.rw_gluework_k68_endings_refused) rfl rfl (fun w h Y=>PySem.W.kIn_of Y) ?F
 case F=>
  intro w mg fa h KX G hmg
  refine' K68.all_mk KX G hmg ?a0 ?a1 ?a2 ?a3 ?a4 ?a5 ?a6 ?a7 ?a8 ?a9 ?a10 ?a11 ?a12 ?l12 ?c12 ?k12 ?t12 ?a13 ?a14 ?a15 ?a16 ?a17 ?a18 ?a19 ?a20 ?a21 ?a22 ?a23 ?a24 ?a25 ?a26 ?a27 ?a28 ?a29 ?a30 ?a31 ?a32 ?a33 ?a34 ?a35 ?a36 ?a37 ?a38 ?a39 ?a40 ?a41 ?a42 ?a43 ?a44 ?a45 ?l45 ?c45 ?k45 ?t45 ?a46 ?a47 ?a48 ?a49 ?a50 ?a51 ?a52 ?a53 ?a54 ?a55 ?a56 ?a57 ?a58 ?a59 ?a60 ?a61 ?a62 ?a63 ?a64 ?a65 ?z_ValueError ?z_all ?z_any ?z_dict ?z_enumerate ?z_int ?z_isinstance ?z_len ?z_list ?z_min ?z_range ?z_sorted ?z_str ?z_sum ?z_zip ?v_MOST_MARK_SIGNS ?v_MOST_NAME_SIGNS ?v_NAME_SIGNS ?v_SMALL_LETTERS ?n_Barred ?n_GlueError ?n_HasBars ?n_Loose ?n_NoDeed ?n_NoFall ?n_NoMatch ?n_NoNames ?n_NoOverlap ?n_NoRow ?n_NoRule ?n_NoText ?n_NoWeb ?n_Open ?xr_NoFall ?xr_NoNames ?xt_GlueError ?xb_GlueError ?xc_GlueError ?xs_NoFall_Barred ?xs_NoFall_GlueError ?xs_NoFall_HasBars ?xs_NoFall_Loose ?xs_NoFall_NoDeed ?xs_NoFall_NoFall ?xs_NoFall_NoMatch ?xs_NoFall_NoNames ?xs_NoFall_NoOverlap ?xs_NoFall_NoRow ?xs_NoFall_NoRule ?xs_NoFall_NoText ?xs_NoFall_NoWeb ?xs_NoFall_Open ?xe_NoFall ?xi_NoFall_Barred ?xi_NoFall_HasBars ?xi_NoFall_Loose ?xi_NoFall_NoDeed ?xi_NoFall_NoFall ?xi_NoFall_NoMatch ?xi_NoFall_NoNames ?xi_NoFall_NoOverlap ?xi_NoFall_NoRow ?xi_NoFall_NoRule ?xi_NoFall_NoText ?xi_NoFall_NoWeb ?xi_NoFall_Open ?xi_NoFall_ValueError ?xs_NoNames_Barred ?xs_NoNames_GlueError ?xs_NoNames_HasBars ?xs_NoNames_Loose ?xs_NoNames_NoDeed ?xs_NoNames_NoFall ?xs_NoNames_NoMatch ?xs_NoNames_NoNames ?xs_NoNames_NoOverlap ?xs_NoNames_NoRow ?xs_NoNames_NoRule ?xs_NoNames_NoText ?xs_NoNames_NoWeb ?xs_NoNames_Open ?xe_NoNames ?xi_NoNames_Barred ?xi_NoNames_HasBars ?xi_NoNames_Loose ?xi_NoNames_NoDeed ?xi_NoNames_NoFall ?xi_NoNames_NoMatch ?xi_NoNames_NoNames ?xi_NoNames_NoOverlap ?xi_NoNames_NoRow ?xi_NoNames_NoRule ?xi_NoNames_NoText ?xi_NoNames_NoWeb ?xi_NoNames_Open ?xi_NoNames_ValueError
  (case a0=>walk_at "F")
  (case a1=>walk_at "F")
  (case a2=>walk_at "F")
  (case a3=>walk_at "F")
  (case a4=>walk_at "F")
  (case a5=>walk_at "F")
  (case a6=>walk_at "F")
  (case a7=>walk_at "F")
  (case a8=>walk_at "F")
  (case a9=>walk_at "F")
  (case a10=>walk_at "F")
  (case a11=>walk_at "F")
  (case a12|l12|c12|k12|t12=>k_is)
  (case a13=>walk_at "F")
  (case a14=>walk_at "F")
  (case a15=>walk_at "F")
  (case a16=>walk_at "F")
  (case a17=>walk_at "F")
  (case a18=>walk_at "F")
  (case a19=>walk_at "F")
  (case a20=>walk_at "F")
  (case a21=>walk_at "F")
  (case a22=>walk_at "F")
  (case a23=>walk_at "F")
  (case a24=>walk_at "F")
  (case a25=>walk_at "F")
  (case a26=>walk_at "F")
  (case a27=>walk_at "F")
  (case a28=>walk_at "F")
  (case a29=>walk_at "F")
  (case a30=>walk_at "F")
  (case a31=>walk_at "F")
  (case a32=>walk_at "F")
  (case a33=>walk_at "F")
  (case a34=>walk_at "F")
  (case a35=>walk_at "F")
  (case a36=>walk_at "F")
  (case a37=>walk_at "F")
  (case a38=>walk_at "F")
  (case a39=>walk_at "F")
  (case a40=>walk_at "F")
  (case a41=>walk_at "F")
  (case a42=>walk_at "F")
  (case a43=>walk_at "F")
  (case a44=>walk_at "F")
  (case a45|l45|c45|k45|t45=>k_is)
  (case a46=>walk_at "F")
  (case a47=>walk_at "F")
  (case a48=>walk_at "F")
  (case a49=>walk_at "F")
  (case a50=>walk_at "F")
  (case a51=>walk_at "F")
  (case a52=>walk_at "F")
  (case a53=>walk_at "F")
  (case a54=>walk_at "F")
  (case a55=>walk_at "F")
  (case a56=>walk_at "F")
  (case a57=>walk_at "F")
  (case a58=>walk_at "F")
  (case a59=>walk_at "F")
  (case a60=>walk_at "F")
  (case a61=>walk_at "F")
  (case a62=>walk_at "F")
  (case a63=>walk_at "F")
  (case a64=>walk_at "F")
  (case a65=>walk_at "F")
  (case z_ValueError|z_all|z_any|z_dict|z_enumerate|z_int|z_isinstance|z_len|z_list|z_min|z_range|z_sorted|z_str|z_sum|z_zip|v_MOST_MARK_SIGNS|v_MOST_NAME_SIGNS|v_NAME_SIGNS|v_SMALL_LETTERS|n_Barred|n_GlueError|n_HasBars|n_Loose|n_NoDeed|n_NoFall|n_NoMatch|n_NoNames|n_NoOverlap|n_NoRow|n_NoRule|n_NoText|n_NoWeb|n_Open=>k_is)
  (case xr_NoFall=>k_exc)
  (case xr_NoNames=>k_exc)
  (case xt_GlueError|xb_GlueError|xc_GlueError|xs_NoFall_Barred|xs_NoFall_GlueError|xs_NoFall_HasBars|xs_NoFall_Loose|xs_NoFall_NoDeed|xs_NoFall_NoFall|xs_NoFall_NoMatch|xs_NoFall_NoNames|xs_NoFall_NoOverlap|xs_NoFall_NoRow|xs_NoFall_NoRule|xs_NoFall_NoText|xs_NoFall_NoWeb|xs_NoFall_Open=>k_is)
  (case xe_NoFall=>walk_at "N")
  (case xi_NoFall_Barred=>kit_is)
  (case xi_NoFall_HasBars=>kit_is)
  (case xi_NoFall_Loose=>kit_is)
  (case xi_NoFall_NoDeed=>kit_is)
  (case xi_NoFall_NoFall=>kit_is)
  (case xi_NoFall_NoMatch=>kit_is)
  (case xi_NoFall_NoNames=>kit_is)
  (case xi_NoFall_NoOverlap=>kit_is)
  (case xi_NoFall_NoRow=>kit_is)
  (case xi_NoFall_NoRule=>kit_is)
  (case xi_NoFall_NoText=>kit_is)
  (case xi_NoFall_NoWeb=>kit_is)
  (case xi_NoFall_Open=>kit_is)
  (case xi_NoFall_ValueError=>kit_is)
  (case xs_NoNames_Barred|xs_NoNames_GlueError|xs_NoNames_HasBars|xs_NoNames_Loose|xs_NoNames_NoDeed|xs_NoNames_NoFall|xs_NoNames_NoMatch|xs_NoNames_NoNames|xs_NoNames_NoOverlap|xs_NoNames_NoRow|xs_NoNames_NoRule|xs_NoNames_NoText|xs_NoNames_NoWeb|xs_NoNames_Open=>k_is)
  (case xe_NoNames=>walk_at "N")
  (case xi_NoNames_Barred=>kit_is)
  (case xi_NoNames_HasBars=>kit_is)
  (case xi_NoNames_Loose=>kit_is)
  (case xi_NoNames_NoDeed=>kit_is)
  (case xi_NoNames_NoFall=>kit_is)
  (case xi_NoNames_NoMatch=>kit_is)
  (case xi_NoNames_NoNames=>kit_is)
  (case xi_NoNames_NoOverlap=>kit_is)
  (case xi_NoNames_NoRow=>kit_is)
  (case xi_NoNames_NoRule=>kit_is)
  (case xi_NoNames_NoText=>kit_is)
  (case xi_NoNames_NoWeb=>kit_is)
  (case xi_NoNames_Open=>kit_is)
  (case xi_NoNames_ValueError=>kit_is)
