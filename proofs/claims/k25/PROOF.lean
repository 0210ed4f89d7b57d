import PyProof.Rows.All
import Wide.All
import OpenK.AllK
import Wide.FinOn
import PyProof.EqAt
import PyProof.EqKinds
import PyProof.TupleCall
import PyProof.NeKinds
import PyProof.AttrMissHeap
import PyProof.ExcClass3
import PyProof.RulesAs
import PyProof.Rows.FStr
import OpenK.KOwn
import PyProof.NsDelKeeps
import PyProof.Rows.Catch
import PyProof.Rows.SetFrom
import PyProof.SetRoads
import PyProof.FactsAll.NoneType
import PyProof.Rows.StrNews2
import PyProof.StrLawsTight
import PyProof.StrLawsNeg
import KE.KRevIter
import PyProof.ZipIter
import KE.KItemsList
import PyProof.MinMaxWalk
import PyProof.WalksMore
import PyProof.FString5
import PyProof.Rows.SortShellK
import PySem.Challenge.RW_gluework_k25_least_bar
set_option Elab.async false
set_option linter.all false
set_option maxRecDepth 100000
namespace L2
open PySem PySem.Spec PyProof.Rows
abbrev Key:=Sum Int Str
def a0u:Key→Value→Bool
 | .inl k,v=>Value.isInt k v
 | .inr x,v=>Value.isStrOf x v
def b6j (w:World):Key→Int
 | .inl k=>hashInt k
 | .inr x=>hashStr w x
theorem w9:∀{k:Key} {v:Value},a0u k v=true→(∃i t,k=Sum.inl i∧v=Value.int i t)∨(∃x t,k=Sum.inr x∧v=Value.str x t)
 | .inl i,v,h=>by
  obtain⟨t,e⟩:=Value.isInt_shape (k:=i) (v:=v) h
  exact .inl ⟨i,t,rfl,e⟩
 | .inr x,v,h=>by
  obtain⟨t,e⟩:=Value.isStrOf_shape (x:=x) (v:=v) h
  exact .inr ⟨x,t,rfl,e⟩
theorem a7M (i:Int)(t:Tok):a0u (.inl i) (.int i t)=true:=by simp [a0u,Value.isInt]
theorem a8s (x:Str)(t:Tok):a0u (.inr x) (.str x t)=true:=by simp [a0u,Value.isStrOf]
theorem b0n (a b:Int):decide ((Sum.inl a:Key)=Sum.inl b)=(a==b):=by
 by_cases e:a=b
 ·subst e;simp
 ·have h:¬(Sum.inl a:Key)=Sum.inl b:=fun q=>e (Sum.inl.inj q)
  rw[decide_eq_false h]
  exact(beq_eq_false_iff_ne.mpr e).symm
theorem a9A (a b:Str):decide ((Sum.inr a:Key)=Sum.inr b)=decide (a=b):=by
 by_cases e:a=b
 ·subst e;simp
 ·have h:¬(Sum.inr a:Key)=Sum.inr b:=fun q=>e (Sum.inr.inj q)
  rw[decide_eq_false h,decide_eq_false e]
theorem a9F (a:Int)(b:Str):decide ((Sum.inl a:Key)=Sum.inr b)=false:=decide_eq_false (fun q=>nomatch q)
theorem a9Q (a:Str)(b:Int):decide ((Sum.inr a:Key)=Sum.inl b)=false:=decide_eq_false (fun q=>nomatch q)
def j0 (prog:Program)(w:World):PySem.KeyKind prog w Key where
 is:=a0u
 hash:=b6j w
 inj:=fun v a b ha hb=>by
  rcases w9 ha with⟨i,t,rfl,rfl⟩|⟨x,t,rfl,rfl⟩
  ·rcases w9 hb with⟨j,u,rfl,e⟩|⟨y,u,rfl,e⟩
   ·injection e with e1 _;rw[e1]
   ·exact nomatch e
  ·rcases w9 hb with⟨j,u,rfl,e⟩|⟨y,u,rfl,e⟩
   ·exact nomatch e
   ·injection e with e1 _;rw[e1]
 byValue:=fun k v h=>by
  rcases w9 h with⟨i,t,rfl,rfl⟩|⟨x,t,rfl,rfl⟩<;>rfl
 pyHash:=fun hv h=>by
  rcases w9 hv with⟨i,t,rfl,rfl⟩|⟨x,t,rfl,rfl⟩
  ·exact wpAny_pyHash_int h
  ·exact wpAny_pyHash_str h
 eqBool:=fun hu hv h=>by
  rcases w9 hu with⟨i,t,rfl,rfl⟩|⟨x,t,rfl,rfl⟩
  ·rcases w9 hv with⟨j,u,rfl,rfl⟩|⟨y,u,rfl,rfl⟩
   ·rw[b0n] at h;exact wpAny_eqBool_int h
   ·rw[a9F] at h;exact SeqAt.EqAt.int_str i t y u _ _ _ _ h
  ·rcases w9 hv with⟨j,u,rfl,rfl⟩|⟨y,u,rfl,rfl⟩
   ·rw[a9Q] at h;exact SeqAt.EqAt.str_int x t j u _ _ _ _ h
   ·rw[a9A] at h;exact wpAny_eqBool_str h
 «strs»:=fun k x t v h=>by
  rcases w9 h with⟨i,u,rfl,e⟩|⟨y,u,rfl,e⟩
  ·exact nomatch e
  ·injection e with e1 _
   subst e1
   cases v<;>rfl
theorem a5s (prog:Program)(w:World)(i:Int)(t:Tok):(j0 prog w).is (.inl i) (.int i t)=true:=a7M i t
theorem a4V (prog:Program)(w:World)(x:Str)(t:Tok):(j0 prog w).is (.inr x) (.str x t)=true:=a8s x t
end L2
namespace L2
open PySem PySem.Spec PyProof.Rows
inductive V where
 |non|bl (b:Bool)|int (i:Int)|str (x:Str)|byt (b:Array UInt8)|flt (b:UInt64)|ref (a:Addr)|ty (n:String)
 deriving DecidableEq
def RelV:V→Value→Prop
 | .non,u=>u=Value.none
 | .bl b,u=>u=Value.bool b
 | .int i,u=>∃t,u=Value.int i t
 | .str x,u=>∃t,u=Value.str x t
 | .byt b,u=>∃t,u=Value.bytes b t
 | .flt b,u=>∃t,u=Value.float b t
 | .ref a,u=>u=Value.ref a
 | .ty n,u=>u=Value.type n
abbrev Vals:List V→List Value→Prop:=Paired RelV
theorem Vals.length {xs:List V}{us:List Value}(r:Vals xs us):xs.length=us.length:=Paired.length r
theorem Vals.get:∀{xs:List V} {us:List Value} {i:Nat} {x:V},Vals xs us→xs[i]?=some x→∃u,us[i]?=some u∧RelV x u
 |_,_,_,_,.nil,e=>by simp at e
 |_,_,0,_,.cons r _,e=>by simp at e;subst e;exact⟨_,rfl,r⟩
 |_,_,i+1,x,.cons _ t,e=>by
  obtain⟨u,h1,h2⟩:=Vals.get (i:=i) (x:=x) t (by simpa using e)
  exact⟨u,by simpa using h1,h2⟩
theorem Vals.set {x:V}{u:Value}(r:RelV x u):∀{xs:List V} {us:List Value} (i:Nat),Vals xs us→Vals (xs.set i x) (us.set i u)
 |_,_,_,.nil=> .nil
 |_,_,0,.cons _ t=> .cons r t
 |_,_,i+1,.cons q t=> .cons q (Vals.set r i t)
theorem Vals.append:∀{xs ys:List V} {us ws:List Value},Vals xs us→Vals ys ws→Vals (xs++ys) (us++ws)
 |_,_,_,_,.nil,s=>s
 |_,_,_,_,.cons r t,s=> .cons r (Vals.append t s)
theorem Vals.take:∀{xs:List V} {us:List Value} (n:Nat),Vals xs us→Vals (xs.take n) (us.take n)
 |_,_,0,_=> .nil
 |_,_,_+1,.nil=> .nil
 |_,_,n+1,.cons r t=> .cons r (Vals.take n t)
theorem Vals.drop:∀{xs:List V} {us:List Value} (n:Nat),Vals xs us→Vals (xs.drop n) (us.drop n)
 |_,_,0,r=>r
 |_,_,_+1,.nil=> .nil
 |_,_,n+1,.cons _ t=>Vals.drop n t
theorem Vals.none_of:∀{xs:List V} {us:List Value} {i:Nat},Vals xs us→xs[i]?=none→us[i]?=none:=fun{xs us i} r e=>by
 have h1:=r.length
 have h2:xs.length≤i:=List.getElem?_eq_none_iff.mp e
 exact List.getElem?_eq_none_iff.mpr (by omega)
def RelO:Option V→Option Value→Prop
 |some v,some u=>RelV v u
 |none,none=>True
 |_,_=>False
def KV {κ:Type}:List (κ×V)→List (κ×Value)→Prop:=Paired fun(p:κ×V) (q:κ×Value)=>p.1=q.1∧RelV p.2 q.2
def kV:Key→V
 | .inl i=> .int i
 | .inr x=> .str x
inductive HO where
 |lst (xs:List V)
 |tup (xs:List V)
 |dK (kvs:List (Key×V))|dT (kvs:List (List Key×V))
 |set (S:Int→Bool) (n:Nat)
 |ins (C dx:Addr) (fs:List (Str×V))
 |own (x:Addr)
 |xd (fs:List (Str×V))
 |met (f x:Addr)
 |rng (lo hi:Int)
 |frz (o:Obj) (u:HO)
 |tbl (ps:Array Value)
 |ext (φ:Heap→Prop)
abbrev Hp:=Addr→Option HO
def upd (H:Hp)(a:Addr)(o:HO):Hp:=fun b=>if b=a then some o else H b
theorem d7 {H:Hp}{a:Addr}{o:HO}:upd H a o a=some o:=by unfold upd;rw[if_pos rfl]
theorem b5 {H:Hp}{a b:Addr}{o:HO}(h:b≠a):upd H a o b=H b:=by unfold upd;rw[if_neg h]
theorem b2J {H:Hp}{a b:Addr}{o u:HO}(h:H a=some o)(h':H b=some u)(d:o≠u):a≠b:=by
 intro e;subst e;rw[h] at h';exact d (Option.some.inj h')
theorem b9 {H:Hp}{a b:Addr}{o:HO}(h:H a=some o)(h':H b=none):a≠b:=by
 intro e;subst e;rw[h] at h';cases h'
section
variable (P:Program) (w:World)
def ObjOk (H:Hp)(h:Heap)(a:Addr):HO→Prop
 | .lst xs=>xs.length≤sizeLine∧∃(its:List Value) (n:Nat),Vals xs its∧h.get? a=some {cls:= .type "list",data:= .seq its.toArray n}
 | .tup xs=>xs.length≤sizeLine∧∃its:List Value,Vals xs its∧IsTup h a its.toArray
 | .dK kvs=>kvs.length≤sizeLine∧(a==sysModules)=false∧∃vs,KV kvs vs∧h.DictOf (j0 P w) a vs
 | .dT kvs=>kvs.length≤sizeLine∧(a==sysModules)=false∧∃xs:List (List Key×Addr×Value),
   Paired (fun(p:List Key×V) (q:List Key×Addr×Value)=>p.1=q.1∧H q.2.1=some (.tup (p.1.map kV))∧RelV p.2 q.2.2) kvs xs∧
   ∃o es ep,h.get? a=some o∧o.ExactDict∧o.data= .dict es ep∧es.toList=xs.map (entryOfKey (tupleKind (j0 P w)))∧(xs.map (·.1)).Nodup
 | .set S n=>h.SetOf (intKind P w) a S n
 | .ins C dx fs=>H dx=some (.own a)∧fs.length≤1000∧dx≠a∧h.get? a=some (PySem.W.instObj C dx)∧
   ∃mA,h.Ns1 dx mA∧(∀f,RelO (fs.lookup f) (mA f))∧PySem.Within mA (fs.map (·.1))
 | .own _=>∃o,h.get? a=some o
 | .xd fs=>∃mA,h.Ns1 a mA∧∀f,RelO (fs.lookup f) (mA f)
 | .rng lo hi=>∃t u v,h.get? a=some {cls:= .type "range",data:= .fields #[.int lo t,.int hi u,.int 1 v]}
 | .frz o u=>h.get? a=some o∧ObjOk H h a u
 | .tbl ps=>h.get? a=some {cls:= .none,data:= .fields ps}
 | .met f x=>h.get? a=some (PySem.W.methodObj (.ref f) (.ref x))
 | .ext φ=>φ h∧(∃o,h.get? a=some o)∧∀h1 h2:Heap,φ h1→(∀o,h1.get? a=some o→h2.get? a=some o)→φ h2
def HOk (H:Hp)(h:Heap):Prop:=∀a o,H a=some o→ObjOk P w H h a o
end
section
variable {P:Program} {w:World} {H H':Hp} {h h':Heap} {a:Addr} {o:HO}
theorem ObjOk.lt (x:ObjOk P w H h a o):a<h.objs.size:=by
 cases o with
 |lst xs=>obtain⟨_,_,_,_,e⟩:=x;exact Heap.lt_size e
 |tup xs=>obtain⟨_,_,_,p⟩:=x;exact p.lt
 |dK kvs=>obtain⟨_,_,_,_,o,_,_,e,_⟩:=x;exact Heap.lt_size e
 |dT kvs=>obtain⟨_,_,_,_,o,_,_,e,_⟩:=x;exact Heap.lt_size e
 |set S n=>obtain⟨o,_,_,_,e,_⟩:=x;exact Heap.lt_size e
 |ins C dx fs=>obtain⟨_,_,_,e,_⟩:=x;exact Heap.lt_size e
 |own y=>obtain⟨_,e⟩:=x;exact Heap.lt_size e
 |xd fs=>obtain⟨_,⟨_,_,_,e,_⟩,_⟩:=x;exact Heap.lt_size e
 |rng lo hi=>obtain⟨_,_,_,e⟩:=x;exact Heap.lt_size e
 |frz ob u=>obtain⟨e,_⟩:=x;exact Heap.lt_size e
 |tbl ps=>exact Heap.lt_size (show h.get? a=some _ from x)
 |met f y=>exact Heap.lt_size (show h.get? a=some _ from x)
 |ext φ=>obtain⟨_,⟨_,e⟩,_⟩:=x;exact Heap.lt_size e
theorem Paired.mapP {α β:Type}{F G:α→β→Prop}:∀{l₁:List α} {l₂:List β},Paired F l₁ l₂→(∀a b,F a b→G a b)→Paired G l₁ l₂
 |_,_,.nil,_=> .nil
 |_,_,.cons r t,f=> .cons (f _ _ r) (Paired.mapP t f)
theorem Paired.imp' {α β:Type}{F G:α→β→Prop}(f:∀a b,F a b→G a b){l₁:List α}{l₂:List β}(r:Paired F l₁ l₂):Paired G l₁ l₂:=Paired.mapP r f
theorem ObjOk.stay (x:ObjOk P w H h a o)(k:∀b u,(b=a∨H b=some (.own a))→h.get? b=some u→h'.get? b=some u)
  (ho:∀b,H b=some (.own a)→H' b=some (.own a)) (ht:∀b xs,H b=some (.tup xs)→H' b=some (.tup xs)):ObjOk P w H' h' a o:=by
 induction o with
 |lst xs=>obtain⟨z,its,n,r,e⟩:=x;exact⟨z,its,n,r,k _ _ (.inl rfl) e⟩
 |tup xs=>obtain⟨z,its,r,ob,e,c⟩:=x;exact⟨z,its,r,ob,k _ _ (.inl rfl) e,c⟩
 |dK kvs=>obtain⟨z,y,vs,r,ob,es,ep,e,c⟩:=x;exact⟨z,y,vs,r,ob,es,ep,k _ _ (.inl rfl) e,c⟩
 |dT kvs=>
  obtain⟨z,y,xs,r,ob,es,ep,e,c⟩:=x
  exact⟨z,y,xs,Paired.mapP r fun p q z=>⟨z.1,ht _ _ z.2.1,z.2.2⟩,ob,es,ep,k _ _ (.inl rfl) e,c⟩
 |set S n=>obtain⟨ob,es,ep,t,e,c⟩:=x;exact⟨ob,es,ep,t,k _ _ (.inl rfl) e,c⟩
 |ins C dx fs=>
  obtain⟨d,z,ne,e,mA,⟨od,es,ep,e2,c⟩,r⟩:=x
  exact⟨ho _ d,z,ne,k _ _ (.inl rfl) e,mA,⟨od,es,ep,k _ _ (.inr d) e2,c⟩,r⟩
 |own y=>obtain⟨ob,e⟩:=x;exact⟨ob,k _ _ (.inl rfl) e⟩
 |xd fs=>obtain⟨mA,⟨od,es,ep,e,c⟩,r⟩:=x;exact⟨mA,⟨od,es,ep,k _ _ (.inl rfl) e,c⟩,r⟩
 |rng lo hi=>obtain⟨t,u,v,e⟩:=x;exact⟨t,u,v,k _ _ (.inl rfl) e⟩
 |frz ob u ih=>obtain⟨e,q⟩:=x;exact⟨k _ _ (.inl rfl) e,ih q⟩
 |tbl ps=>
  have e:h.get? a=some {cls:= .none,data:= .fields ps}:=x
  show h'.get? a=some {cls:= .none,data:= .fields ps}
  exact k a _ (.inl rfl) e
 |met f y=>
  have e:h.get? a=some (PySem.W.methodObj (.ref f) (.ref y)):=x
  show h'.get? a=some (PySem.W.methodObj (.ref f) (.ref y))
  exact k a _ (.inl rfl) e
 |ext φ=>obtain⟨p,⟨o,e⟩,st⟩:=x;exact⟨st _ _ p fun o q=>k _ _ (.inl rfl) q,⟨o,k _ _ (.inl rfl) e⟩,st⟩
theorem HOk.lt (x:HOk P w H h)(e:H a=some o):a<h.objs.size:=(x a o e).lt
theorem HOk.fresh (x:HOk P w H h)(e:h.objs.size≤a):H a=none:=by
 cases q:H a with
 |none=>rfl
 |some u=>exact absurd (Nat.lt_of_lt_of_le (x.lt q) e) (Nat.lt_irrefl _)
theorem HOk.kept (x:HOk P w H h)(k:∀b u,h.get? b=some u→h'.get? b=some u):HOk P w H h':=fun a o e=>
 (x a o e).stay (fun b u _ q=>k b u q) (fun _ q=>q) fun _ _ q=>q
theorem HOk.laid (x:HOk P w H h)(k:∀b u,h.get? b=some u→h'.get? b=some u)(hp:h.objs.size≤a)(new:ObjOk P w (upd H a o) h' a o):HOk P w (upd H a o) h':=fun b u e=>by
 have hn:=x.fresh hp
 by_cases hb:b=a
 ·subst hb;rw[d7] at e;cases e;exact new
 ·rw[b5 hb] at e
  exact(x b u e).stay (fun c v _ q=>k c v q) (fun c q=>by rw[b5 (b9 q hn)];exact q) fun c xs q=>by rw[b5 (b9 q hn)];exact q
end
def Rd (H:Hp)(a:Addr)(u:HO):Prop:=H a=some u∨∃o,H a=some (.frz o u)
theorem Rd.of {H:Hp}{a:Addr}{u:HO}(h:H a=some u):Rd H a u:= .inl h
theorem Rd.ok {P:Program}{w:World}{H:Hp}{h:Heap}{a:Addr}{u:HO}(r:Rd H a u)(x:HOk P w H h):ObjOk P w H h a u:=by
 rcases r with r|⟨o,r⟩
 ·exact x a u r
 ·obtain⟨_,q⟩:=x a _ r
  exact q
def Mut:Option HO→Prop
 |some (.lst _)=>True
 |some (.dK _)=>True
 |some (.dT _)=>True
 |some (.set _ _)=>True
 |some (.ins _ _ _)=>True
 |some (.ext _)=>True
 |_=>False
section
variable {P:Program} {w:World} {H:Hp} {h h':Heap} {x e:Addr} {o':HO}
theorem HOk.write (ok:HOk P w H h)(mu:Mut (H x))(he:e=x∨H e=some (.own x))(k:∀b u,b≠e→h.get? b=some u→h'.get? b=some u)(heo:∃u,h'.get? e=some u)
  (new:ObjOk P w (upd H x o') h' x o'):HOk P w (upd H x o') h':=fun b u q=>by
 have nown:∀c y,H c=some (.own y)→c≠x:=fun c y r z=>by subst z;rw[r] at mu;exact mu
 have ntup:∀c xs,H c=some (.tup xs)→c≠x:=fun c xs r z=>by subst z;rw[r] at mu;exact mu
 by_cases hb:b=x
 ·subst hb;rw[d7] at q;cases q;exact new
 ·rw[b5 hb] at q
  by_cases hbe:b=e
  ·have q':H b=some (.own x):=by
    rcases he with z|z
    ·exact absurd (hbe.trans z) hb
    ·rw[hbe];exact z
   rw[q] at q';cases q'
   obtain⟨v,hv⟩:=heo
   exact⟨v,by rw[hbe];exact hv⟩
  ·refine(ok b u q).stay (fun c v hc r=>k c v ?_ r) (fun c r=>by rw[b5 (nown c b r)];exact r) fun c xs r=>by rw[b5 (ntup c xs r)];exact r
   rcases hc with rfl|hc
   ·exact hbe
   ·rintro rfl
    rcases he with z|z
    ·exact nown c b hc z
    ·rw[hc] at z;cases z;exact hb rfl
end
structure Un (fs ex:List Addr) (H H':Hp) (h h':Heap):Prop where
 keep:∀b o,h.get? b=some o→H b=none→b∉fs→b∉ex→h'.get? b=some o
 slot:∀b o,h.get? b=some o→H b=none→b∈fs→b∉ex→∃sl,h'.get? b=some {o with slots:=sl}
 free:∀b o,h.get? b=some o→H b=none→b∉ex→H' b=none
 there:∀b o,h.get? b=some o→b∉ex→∃o',h'.get? b=some o'
 tups:∀b xs,H b=some (.tup xs)→H' b=some (.tup xs)
 frzs:∀b o u,H b=some (.frz o u)→H' b=some (.frz o u)
 tbls:∀b ps,H b=some (.tbl ps)→∃more,H' b=some (.tbl (ps++more))
section
variable {fs fs' ex ex':List Addr} {H H1 H2:Hp} {h h1 h2 h':Heap} {a x e:Addr} {o:HO}
theorem Un.any (u:Un fs ex H H1 h h1){b:Addr}{ob:Obj}(q:h.get? b=some ob)(n:H b=none)(hx:b∉ex):∃sl,h1.get? b=some {ob with slots:=sl}:=by
 by_cases hb:b∈fs
 ·exact u.slot b ob q n hb hx
 ·exact⟨ob.slots,u.keep b ob q n hb hx⟩
theorem Un.trans (a:Un fs ex H H1 h h1)(b:Un fs ex H1 H2 h1 h2):Un fs ex H H2 h h2 where
 keep:=fun c ob q n hc hx=>b.keep c ob (a.keep c ob q n hc hx) (a.free c ob q n hx) hc hx
 slot:=fun c ob q n hc hx=>by
  obtain⟨sl,e1⟩:=a.slot c ob q n hc hx
  obtain⟨sl',e2⟩:=b.slot c _ e1 (a.free c ob q n hx) hc hx
  exact⟨sl',e2⟩
 free:=fun c ob q n hx=>by
  obtain⟨o',e1⟩:=a.there c ob q hx
  exact b.free c o' e1 (a.free c ob q n hx) hx
 there:=fun c ob q hx=>by
  obtain⟨o',e1⟩:=a.there c ob q hx
  exact b.there c o' e1 hx
 tups:=fun c xs q=>b.tups c xs (a.tups c xs q)
 frzs:=fun c ob xs q=>b.frzs c ob xs (a.frzs c ob xs q)
 tbls:=fun c ps q=>by
  obtain⟨m1,e1⟩:=a.tbls c ps q
  obtain⟨m2,e2⟩:=b.tbls c _ e1
  exact⟨m1++m2,by rw[e2,Array.append_assoc]⟩
theorem Un.kept (k:∀b u,h.get? b=some u→h'.get? b=some u):Un fs ex H H h h':=
 ⟨fun b ob q _ _ _=>k b ob q,fun b ob q _ _ _=>⟨ob.slots,k b ob q⟩,fun _ _ _ n _=>n,fun b ob q _=>⟨ob,k b ob q⟩,fun _ _ q=>q,fun _ _ _ q=>q,fun _ ps q=>⟨#[],by rw[q];simp⟩⟩
theorem Un.refl:Un fs ex H H h h:=Un.kept fun _ _ q=>q
theorem Un.laid (k:∀b u,h.get? b=some u→h'.get? b=some u)(hp:h.objs.size≤a)(hn:H a=none):Un fs ex H (upd H a o) h h' where
 keep:=fun b u q _ _ _=>k b u q
 slot:=fun b u q _ _ _=>⟨u.slots,k b u q⟩
 free:=fun b u q n _=>by rw[b5 (Nat.ne_of_lt (Nat.lt_of_lt_of_le (Heap.lt_size q) hp))];exact n
 there:=fun b u q _=>⟨u,k b u q⟩
 tups:=fun b xs q=>by rw[b5 (b9 q hn)];exact q
 frzs:=fun b u xs q=>by rw[b5 (b9 q hn)];exact q
 tbls:=fun b ps q=>⟨#[],by rw[b5 (b9 q hn),q];simp⟩
theorem Un.write (mu:Mut (H x))(he:e=x∨H e=some (.own x))(k:∀b u,b≠e→h.get? b=some u→h'.get? b=some u)(heo:∃u,h'.get? e=some u):Un fs ex H (upd H x o) h h':=by
 have hx:∀b,H b=none→b≠x:=fun b n z=>by subst z;rw[n] at mu;exact mu
 have hb:∀b,H b=none→b≠e:=fun b n z=>by
  subst z
  rcases he with r|r
  ·exact hx b n r
  ·rw[n] at r;cases r
 have hm:∀b u,H b=some u→¬Mut (some u)→b≠x:=fun b u q nm z=>by subst z;rw[q] at mu;exact nm mu
 refine⟨fun b u q n _ _=>k b u (hb b n) q,fun b u q n _ _=>⟨u.slots,k b u (hb b n) q⟩,fun b u q n _=>by rw[b5 (hx b n)];exact n,fun b u q _=>?_,
  fun b xs q=>by rw[b5 (hm b _ q fun z=>z)];exact q,fun b u xs q=>by rw[b5 (hm b _ q fun z=>z)];exact q,fun b ps q=>⟨#[],by rw[b5 (hm b _ q fun z=>z),q];simp⟩⟩
 by_cases hbe:b=e
 ·subst hbe;exact heo
 ·exact⟨u,k b u hbe q⟩
theorem Un.mono (u:Un fs ex H H1 h h1)(hs:∀b∈fs,b∈fs')(hx:∀b∈ex,b∈ex'):Un fs' ex' H H1 h h1:=
 ⟨fun b ob q n hb he=>u.keep b ob q n (fun z=>hb (hs b z)) fun z=>he (hx b z),fun _ _ q n _ he=>u.any q n fun z=>he (hx _ z),fun b ob q n he=>u.free b ob q n fun z=>he (hx b z),fun b ob q he=>u.there b ob q fun z=>he (hx b z),u.tups,u.frzs,u.tbls⟩
end
def trk (h:Heap)(H:Hp):List Addr:=(List.range h.objs.size).filter fun a=>(H a).isSome
def a3W (h:Heap)(H:Hp):Heap:=PySem.W.hideAll h (trk h H)
theorem a8w (h:Heap)(H:Hp):(a3W h H).objs.size=h.objs.size:=PySem.W.hideAll_size _ _
theorem a8T {h:Heap}{H:Hp}{b:Addr}{o:Obj}(e:h.get? b=some o)(n:H b=none):(a3W h H).get? b=some o:=
 PySem.W.hideAll_get _ e fun hm=>by
  have q:(H b).isSome=true:=(List.mem_filter.mp hm).2
  rw[n] at q;simp at q
theorem b1B {h:Heap}{H:Hp}{b:Addr}{o:Obj}(e:(a3W h H).get? b=some o):h.get? b=some o∧H b=none:=by
 have e':h.get? b=some o:=PySem.W.of_hideAll (trk h H) e
 refine⟨e',?_⟩
 cases q:H b with
 |none=>rfl
 |some x=>
  have hm:b∈trk h H:=List.mem_filter.mpr ⟨List.mem_range.mpr (Heap.lt_size e'),by simp [q]⟩
  have z:(a3W h H).get? b=none:=PySem.W.hideAll_none (trk h H) hm
  rw[z] at e;cases e
def b1z (g h:Heap)(L:Addr):List (Addr×Obj):=(List.range h.objs.size).filterMap fun a=>if a=L∨(g.get? a).isSome=true then none else(h.get? a).map fun o=>(a,o)
def Y9 (g h:Heap)(L d:Addr):List (Addr×Obj):=(b1z g h L).filter fun p=>decide (p.1≠d)
end L2
namespace L2
open PySem PySem.Spec PyProof.Rows
structure Mod (K:PySem.W.Frag) (mg:Str→Option Value) (base:Heap):Prop where
 kin:K.In base
 glob:base.Ns mainGlobals mg
 blt:∃mb,base.Ns builtinsNs mb∧∀x:Str,x≠"__name__"→mb x=bootBuiltins x
 nolimit:base.NoLimit
structure Cx where
 prog:Program
 w:World
 K:PySem.W.Frag
 mg:Str→Option Value
 base:Heap
 A:Around
 N:List Str
 s₀:Shared
 H₀:Hp
 env:Env
 outer:List Env
 stack:List Env
 ex:List Addr
 fn:Str→Bool
 calm:Bool
 pn:List (Addr×Obj)
 xe:Value→Shared→Prop
def frs (l:List Env):List Addr:=l.filterMap (·.frame)
abbrev Cx.fs (X:Cx):List Addr:=frs X.outer
def Vis (sc:Scope)(x:Str):Prop:=sc.names.lookup x=some .local∨sc.names.lookup x=some .cell∨sc.names.lookup x=some .free
def Loc (sc:Scope)(x:Str):Prop:=sc.names.lookup x=some .local∨sc.names.lookup x=some .cell
def b6U (env:Env)(h:Heap)(m:Str→Option Value)(x:Str)(u:Value):Prop:=
 (env.kindOf x=some .local∧m x=some u)∨((env.kindOf x=some .cell∨env.kindOf x=some .free)∧∃c,env.cells.lookup x=some c∧h.IsCell c (some u))
structure Cx.Ok (X:Cx):Prop where
 mod:Mod X.K X.mg X.base
 kind:X.env.scope.kind= .function
 glob:X.env.globals=mainGlobals
 blt:X.env.builtins=builtinsNs
 above:X.s₀.heap.objs.size≤X.env.locals
 inj:∀x y c,X.env.cells.lookup x=some c→X.env.cells.lookup y=some c→x=y
 has:∀x,(X.env.kindOf x=some .cell∨X.env.kindOf x=some .free)→∃c,X.env.cells.lookup x=some c
 cab:∀x c,X.fn x=true→X.env.cells.lookup x=some c→X.s₀.heap.objs.size≤c
 hd:X.calm=true→X.A.handled=none
 frames:X.A.frames=some X.stack
 stk:X.stack=X.outer∨(X.stack=X.env::X.outer∧X.env.frame=some X.env.locals)
 exf:∀b∈X.ex,b≠X.env.locals∧∀x c,X.env.cells.lookup x=some c→c≠b
 bs:∀b o,X.base.get? b=some o→X.s₀.heap.get? b=some o∧X.H₀ b=none
 bsz:X.base.objs.size≤X.s₀.heap.objs.size
 noex:∀b o,X.base.get? b=some o→b∉X.ex
 exfs:∀b∈X.ex,b∉X.fs
 funs:X.s₀.heap.FunFrames X.base X.outer
 frf:∀b∈X.fs,X.H₀ b=none
structure Inv (X:Cx) (pins:List (Addr×Obj)) (σ:List (Option V)) (H:Hp) (s:Shared):Prop where
 ok:X.Ok
 os:s.os=X.s₀.os
 bare:AllBare s.gens
 base:Un X.fs X.ex X.H₀ H X.s₀.heap s.heap
 loc:∃m,s.heap.Ns X.env.locals m∧∀(i:Nat) (x:Str) (v:V),X.N[i]?=some x→σ[i]?=some (some v)→Vis X.env.scope x→∃u,RelV v u∧b6U X.env s.heap m x u
 cell:∀x c,X.env.cells.lookup x=some c→∃v,s.heap.IsCell c v
 free:H X.env.locals=none
 freeC:∀x c,X.env.cells.lookup x=some c→H c=none
 pin:∀p∈X.pn++pins,s.heap.get? p.1=some p.2∧H p.1=none∧p.1≠X.env.locals∧p.1∉X.fs∧∀v,p.2.data≠ .cell v
 hok:HOk X.prog X.w H s.heap
 len:σ.length=X.N.length
section
variable {X:Cx} {pins:List (Addr×Obj)} {σ:List (Option V)} {H H':Hp} {s:Shared} {h':Heap}
theorem Cx.Ok.nofr (ok:X.Ok){b:Addr}{o:Obj}(e:X.base.get? b=some o):b∉X.fs:=fun hb=>by
 have:=(ok.funs.mem hb).1
 rw[e] at this;cases this
theorem Inv.bs (I:Inv X pins σ H s):∀b o,X.base.get? b=some o→s.heap.get? b=some o∧H b=none:=fun b o e=>
 ⟨I.base.keep b o (I.ok.bs b o e).1 (I.ok.bs b o e).2 (I.ok.nofr e) (I.ok.noex b o e),I.base.free b o (I.ok.bs b o e).1 (I.ok.bs b o e).2 (I.ok.noex b o e)⟩
theorem Inv.bk (I:Inv X pins σ H s):∀b o,X.base.get? b=some o→s.heap.get? b=some o:=fun b o e=>(I.bs b o e).1
theorem Inv.mod (I:Inv X pins σ H s):Mod X.K X.mg X.base:=I.ok.mod
theorem Inv.kIn (I:Inv X pins σ H s):X.K.In s.heap:=I.ok.mod.kin.keeps I.bk
theorem Inv.nolimit (I:Inv X pins σ H s):s.heap.NoLimit:=I.ok.mod.nolimit.keeps I.bk
theorem Inv.fr (I:Inv X pins σ H s):∃m,Fr X.base X.env.locals s.heap m:=
 let ⟨m,hn,_⟩:=I.loc
 ⟨m,hn,I.bk,Nat.le_trans I.ok.bsz I.ok.above⟩
theorem Inv.lt (I:Inv X pins σ H s):X.env.locals<s.heap.objs.size:=let ⟨_,hn,_⟩:=I.loc;hn.lt
theorem Inv.sz (I:Inv X pins σ H s):X.s₀.heap.objs.size≤s.heap.objs.size:=Nat.le_trans I.ok.above (Nat.le_of_lt I.lt)
theorem Inv.nofs (I:Inv X pins σ H s){a:Addr}(h:s.heap.objs.size≤a):a∉X.fs:=fun hb=>by
 obtain⟨_,o,ho,_⟩:=I.ok.funs.mem hb
 exact absurd (Nat.lt_of_lt_of_le (Heap.lt_size ho) (Nat.le_trans I.sz h)) (Nat.lt_irrefl _)
theorem Inv.cne (I:Inv X pins σ H s):∀x c,X.env.cells.lookup x=some c→c≠X.env.locals:=fun x c e z=>by
 obtain⟨v,o,ho,hd⟩:=I.cell x c e
 obtain⟨m,⟨o',es,ep,ho',hd',_⟩,_⟩:=I.loc
 rw[z,ho'] at ho;cases ho;rw[hd'] at hd;cases hd
theorem Inv.funs (I:Inv X pins σ H s):s.heap.FunFrames X.base X.outer:=by
 have all:∀(l:List Env),(∀b∈frs l,b∈X.fs)→X.s₀.heap.FunFrames X.base l→s.heap.FunFrames X.base l:=by
  intro l
  induction l with
  |nil=>intro _ _;trivial
  |cons env r ih=>
   intro hs hl
   obtain⟨hk,⟨L,o,hf,hn,ho,hd⟩,hr⟩:=hl
   have hL:L∈X.fs:=hs L (by unfold frs;rw[List.filterMap_cons,hf];exact List.mem_cons_self)
   obtain⟨sl,e⟩:=I.base.slot L o ho (I.ok.frf L hL) hL fun z=>I.ok.exfs L z hL
   exact⟨hk,⟨L,_,hf,hn,e,hd⟩,ih (fun b hb=>hs b (by unfold frs;rw[List.filterMap_cons,hf];exact List.mem_cons_of_mem _ hb)) hr⟩
 exact all X.outer (fun _ hb=>hb) I.ok.funs
theorem Inv.stack (I:Inv X pins σ H s):s.heap.FunFrames X.base X.stack:=by
 rcases I.ok.stk with e|⟨e,hf⟩
 ·rw[e];exact I.funs
 ·rw[e]
  obtain⟨m,hn,_⟩:=I.loc
  refine .cons (by rw[I.ok.kind];decide) hf hn ?_ I.funs
  exact Heap.get?_none_of_le (Nat.le_trans I.ok.bsz I.ok.above)
theorem Inv.stkSub (I:Inv X pins σ H s):∀b∈frs X.stack,b∈X.env.locals::X.fs:=fun b hb=>by
 rcases I.ok.stk with e|⟨e,hf⟩
 ·rw[e] at hb;exact List.mem_cons_of_mem _ hb
 ·rw[e] at hb
  unfold frs at hb
  rw[List.filterMap_cons,hf] at hb
  exact hb
theorem Inv.stkFree (I:Inv X pins σ H s):∀b∈frs X.stack,H b=none:=fun b hb=>by
 rcases List.mem_cons.mp (I.stkSub b hb) with e|hb
 ·rw[e];exact I.free
 ·obtain⟨_,o,ho,_⟩:=I.ok.funs.mem hb
  exact I.base.free b o ho (I.ok.frf b hb) fun z=>I.ok.exfs b z hb
theorem Inv.step {g':Array GenState}{t':Nat}{d':Drawn}{ch:List Addr}(I:Inv X pins σ H s)
  (hch:∀b∈ch,(b∈X.ex∨X.s₀.heap.objs.size≤b)∧b≠X.env.locals∧(∀x c,X.env.cells.lookup x=some c→c≠b)∧∀p∈X.pn++pins,p.1≠b)
  (keep:∀b o,b≠X.env.locals→b∉X.fs→b∉ch→s.heap.get? b=some o→H b=none→h'.get? b=some o)
  (slot:∀b o,b≠X.env.locals→b∈X.fs→b∉ch→s.heap.get? b=some o→H b=none→∃sl,h'.get? b=some {o with slots:=sl}) (free:∀b o,b∉ch→s.heap.get? b=some o→H b=none→H' b=none)
  (there:∀b o,b∉ch→s.heap.get? b=some o→∃o',h'.get? b=some o')
  (tups:∀b xs,H b=some (.tup xs)→H' b=some (.tup xs)) (frzs:∀b o u,H b=some (.frz o u)→H' b=some (.frz o u)) (tbls:∀b ps,H b=some (.tbl ps)→∃more,H' b=some (.tbl (ps++more)))
  (ns:∀m,s.heap.Ns X.env.locals m→h'.Ns X.env.locals m) (hok:HOk X.prog X.w H' h') (hg:AllBare g'):
  Inv X pins σ H' {s with heap:=h',gens:=g',drawn:=d',toks:=t'}:=by
 have neL:∀b o,X.s₀.heap.get? b=some o→b≠X.env.locals:=fun b o e=>Nat.ne_of_lt (Nat.lt_of_lt_of_le (Heap.lt_size e) I.ok.above)
 have neC:∀b o,X.s₀.heap.get? b=some o→b∉X.ex→b∉ch:=fun b o e hx hb=>by
  rcases(hch b hb).1 with z|z
  ·exact hx z
  ·exact absurd (Nat.lt_of_lt_of_le (Heap.lt_size e) z) (Nat.lt_irrefl _)
 have cellK:∀x c,X.env.cells.lookup x=some c→∀v,s.heap.IsCell c v→h'.IsCell c v:=fun x c e v ⟨o,ho,hd⟩=>by
  have nch:c∉ch:=fun z=>(hch c z).2.2.1 x c e rfl
  by_cases hc:c∈X.fs
  ·obtain⟨sl,q⟩:=slot c o (I.cne x c e) hc nch ho (I.freeC x c e)
   exact⟨_,q,hd⟩
  ·exact⟨o,keep c o (I.cne x c e) hc nch ho (I.freeC x c e),hd⟩
 refine⟨I.ok,I.os,hg,⟨fun b o e n hb hx=>?_,fun b o e n hb hx=>?_,fun b o e n hx=>?_,fun b o e hx=>?_,fun b xs e=>tups b xs (I.base.tups b xs e),fun b o xs e=>frzs b o xs (I.base.frzs b o xs e),fun b ps e=>?_⟩,?_,fun x c e=>?_,?_,fun x c e=>?_,fun p hp=>?_,hok,I.len⟩
 ·exact keep b o (neL b o e) hb (neC b o e hx) (I.base.keep b o e n hb hx) (I.base.free b o e n hx)
 ·obtain⟨sl,e1⟩:=I.base.slot b o e n hb hx
  obtain⟨sl',e2⟩:=slot b _ (neL b o e) hb (neC b o e hx) e1 (I.base.free b o e n hx)
  exact⟨sl',e2⟩
 ·obtain⟨o',e1⟩:=I.base.there b o e hx
  exact free b o' (neC b o e hx) e1 (I.base.free b o e n hx)
 ·obtain⟨o',e1⟩:=I.base.there b o e hx
  exact there b o' (neC b o e hx) e1
 ·obtain⟨m1,e1⟩:=I.base.tbls b ps e
  obtain⟨m2,e2⟩:=tbls b _ e1
  exact⟨m1++m2,by rw[e2,Array.append_assoc]⟩
 ·obtain⟨m,hn,hl⟩:=I.loc
  refine⟨m,ns m hn,fun i x v e1 e2 e3=>?_⟩
  obtain⟨u,r,l⟩:=hl i x v e1 e2 e3
  refine⟨u,r,?_⟩
  rcases l with l|⟨k,c,e,z⟩
  ·exact .inl l
  ·exact .inr ⟨k,c,e,cellK x c e _ z⟩
 ·obtain⟨v,z⟩:=I.cell x c e
  exact⟨v,cellK x c e v z⟩
 ·obtain⟨m,⟨o,_,_,ho,_⟩,_⟩:=I.loc
  exact free _ o (fun z=>(hch _ z).2.1 rfl) ho I.free
 ·obtain⟨v,o,ho,hd⟩:=I.cell x c e
  exact free c o (fun z=>(hch c z).2.2.1 x c e rfl) ho (I.freeC x c e)
 ·obtain⟨e,n,ne,nf,d⟩:=I.pin p hp
  have nch:p.1∉ch:=fun z=>(hch p.1 z).2.2.2 p hp rfl
  exact⟨keep p.1 p.2 ne nf nch e n,free p.1 p.2 nch e n,ne,nf,d⟩
theorem Inv.un {t':Nat}(I:Inv X pins σ H s)(u:Un X.fs [] H H' s.heap h')(hok:HOk X.prog X.w H' h'):Inv X pins σ H' {s with heap:=h',toks:=t'}:=by
 obtain⟨m,⟨o,es,ep,ho,r⟩,_⟩:=id I.loc
 obtain⟨sl,hL⟩:=u.any ho I.free (by simp)
 exact I.step (g':=s.gens) (d':=s.drawn) (ch:=[]) (fun _ z=>nomatch z) (fun b o _ hb _ e n=>u.keep b o e n hb (by simp)) (fun b o _ hb _ e n=>u.slot b o e n hb (by simp)) (fun b o _ e n=>u.free b o e n (by simp)) (fun b o _ e=>u.there b o e (by simp)) u.tups u.frzs u.tbls (fun m' hm=>by
  obtain⟨o',es',ep',ho',r'⟩:=hm
  rw[ho] at ho';cases ho'
  exact⟨_,es',ep',hL,r'⟩) hok I.bare
theorem Inv.call {g':Array GenState}{t':Nat}{d':Drawn}{ch:List Addr}(I:Inv X pins σ H s)(u:Un (frs X.stack) ch H H' s.heap h')(hok:HOk X.prog X.w H' h')(hg:AllBare g')
  (hch:∀b∈ch,(b∈X.ex∨X.s₀.heap.objs.size≤b)∧b≠X.env.locals∧(∀x c,X.env.cells.lookup x=some c→c≠b)∧∀p∈X.pn++pins,p.1≠b):
  Inv X pins σ H' {s with heap:=h',gens:=g',drawn:=d',toks:=t'}:=by
 obtain⟨m,⟨o,es,ep,ho,r⟩,_⟩:=id I.loc
 obtain⟨sl,hL⟩:=u.any ho I.free fun z=>(hch _ z).2.1 rfl
 exact I.step (ch:=ch) hch (fun b o hL hb hc e n=>u.keep b o e n (fun z=>(List.mem_cons.mp (I.stkSub b z)).elim hL hb) hc) (fun b o _ _ hc e n=>u.any e n hc) (fun b o hc e n=>u.free b o e n hc) (fun b o hc e=>u.there b o e hc) u.tups u.frzs u.tbls (fun m' hm=>by
  obtain⟨o',es',ep',ho',r'⟩:=hm
  rw[ho] at ho';cases ho'
  exact⟨_,es',ep',hL,r'⟩) hok hg
theorem Inv.turned {t':Nat}{it:Addr}(I:Inv X pins σ H s)(k:∀b o,b≠it→s.heap.get? b=some o→h'.get? b=some o)(hn:H it=none)(hL:it≠X.env.locals)
  (h1:it∈X.ex∨X.s₀.heap.objs.size≤it) (h2:∀x c,X.env.cells.lookup x=some c→c≠it) (h3:∀p∈X.pn++pins,p.1≠it):Inv X pins σ H {s with heap:=h',toks:=t'}:=by
 have nit:∀b u,H b=some u→b≠it:=fun b u e z=>by rw[z,hn] at e;cases e
 refine I.step (g':=s.gens) (d':=s.drawn) (ch:=[it]) (fun b hb=>?_) (fun b o _ _ hc e _=>k b o (fun z=>hc (by simp [z])) e) (fun b o _ _ hc e _=>⟨o.slots,k b o (fun z=>hc (by simp [z])) e⟩) (fun _ _ _ _ n=>n)
  (fun b o hc e=>⟨o,k b o (fun z=>hc (by simp [z])) e⟩) (fun _ _ e=>e) (fun _ _ _ e=>e) (fun b ps e=>⟨#[],by rw[e];simp⟩) (fun m hm=>?_) (fun b u e=>?_) I.bare
 ·have e:b=it:=by simpa using hb
  subst e
  exact⟨h1,hL,h2,h3⟩
 ·obtain⟨o,es,ep,ho,r⟩:=hm
  exact⟨o,es,ep,k _ o (Ne.symm hL) ho,r⟩
 ·refine(I.hok b u e).stay (fun c v hc q=>k c v ?_ q) (fun _ q=>q) fun _ _ q=>q
  rcases hc with z|z
  ·rw[z];exact nit b u e
  ·exact nit c _ z
theorem Inv.tok (I:Inv X pins σ H s)(t:Nat):Inv X pins σ H {s with toks:=t}:=I.un (h':=s.heap) (t':=t) Un.refl I.hok
theorem Inv.kept {t':Nat}(I:Inv X pins σ H s)(k:∀b u,s.heap.get? b=some u→h'.get? b=some u):Inv X pins σ H {s with heap:=h',toks:=t'}:=I.un (Un.kept k) (I.hok.kept k)
theorem Inv.laid {a:Addr}{o:HO}{t':Nat}(I:Inv X pins σ H s)(k:∀b u,s.heap.get? b=some u→h'.get? b=some u)(hp:s.heap.objs.size≤a)(new:ObjOk X.prog X.w (upd H a o) h' a o):
  Inv X pins σ (upd H a o) {s with heap:=h',toks:=t'}:=I.un (Un.laid k hp (I.hok.fresh hp)) (I.hok.laid k hp new)
theorem Inv.write {x e:Addr}{o:HO}{t':Nat}(I:Inv X pins σ H s)(mu:Mut (H x))(he:e=x∨H e=some (.own x))(k:∀b u,b≠e→s.heap.get? b=some u→h'.get? b=some u)(heo:∃u,h'.get? e=some u)
  (new:ObjOk X.prog X.w (upd H x o) h' x o):Inv X pins σ (upd H x o) {s with heap:=h',toks:=t'}:=I.un (Un.write mu he k heo) (I.hok.write mu he k heo new)
theorem Inv.weak {σ':List (Option V)}(I:Inv X pins σ H s)(hl:σ'.length=σ.length)(w:∀(i:Nat) v,σ'[i]?=some (some v)→σ[i]?=some (some v)):Inv X pins σ' H s:=
 ⟨I.ok,I.os,I.bare,I.base,let ⟨m,hn,hl'⟩:=I.loc;⟨m,hn,fun i x v e1 e2 e3=>hl' i x v e1 (w i v e2) e3⟩,I.cell,I.free,I.freeC,I.pin,I.hok,hl.trans I.len⟩
theorem Inv.pins_of {pins':List (Addr×Obj)}(I:Inv X pins σ H s)(h:∀p∈pins',s.heap.get? p.1=some p.2∧H p.1=none∧p.1≠X.env.locals∧p.1∉X.fs∧∀v,p.2.data≠ .cell v):Inv X pins' σ H s:=
 ⟨I.ok,I.os,I.bare,I.base,I.loc,I.cell,I.free,I.freeC,fun p hp=>(List.mem_append.mp hp).elim (fun z=>I.pin p (List.mem_append_left _ z)) (h p),I.hok,I.len⟩
theorem a5o {N:List Str}(hN:N.Nodup){i j:Nat}{x:Str}(a:N[i]?=some x)(b:N[j]?=some x):i=j:=by
 obtain⟨h1,e1⟩:=List.getElem?_eq_some_iff.mp a
 obtain⟨h2,e2⟩:=List.getElem?_eq_some_iff.mp b
 exact(List.getElem_inj hN).mp (e1.trans e2.symm)
theorem a3y {M:Model}{A:Around}{E:Value→Shared→Prop}{i:Nat}{x:Str}{v:V}{u:Value}{Q:Unit→Shared→Prop}(I:Inv X pins σ H s)(hN:X.N.Nodup)(hi:X.N[i]?=some x)(hx:Loc X.env.scope x)(r:RelV v u)
  (h:∀s',Inv X pins (σ.set i (some v)) H s'→(∃a,Heap.SameBut a s.heap s'.heap∧(a=X.env.locals∨X.env.cells.lookup x=some a))→Q () s') (hf:X.fn x=true∨X.env.scope.names.lookup x=some .local:=by first|exact .inl rfl|exact .inr rfl|assumption):wpAny M A (storeName X.env x u) Q E s:=by
 obtain⟨m,hn,hl⟩:=id I.loc
 have hcls:(X.env.scope.kind== .class||(X.env.scope.kind== .module&&X.env.locals !=X.env.globals))=false:=by rw[I.ok.kind];rfl
 have hiσ:i<σ.length:=by rw[I.len];exact(List.getElem?_eq_some_iff.mp hi).1
 have cne:=I.cne
 have tracked:∀{a:Addr} {h':Heap},(∃o,s.heap.get? a=some o∧H a=none)→Heap.SameBut a s.heap h'→HOk X.prog X.w H h':=fun{a h'} ha hs b ob e=>by
  obtain⟨_,_,hfree⟩:=ha
  refine(I.hok b ob e).stay (fun c w' hc q=>(hs.2 c ?_).trans q) (fun _ q=>q) fun _ _ q=>q
  rintro rfl
  rcases hc with rfl|hc
  ·rw[hfree] at e;cases e
  ·rw[hfree] at hc;cases hc
 rcases hx with hk|hk
 ·refine wpAny_storeName_local hk hn (fun h' hn' hs=>?_) hcls
  obtain⟨oL,_,_,hoL,_⟩:=id hn
  refine h _ ⟨I.ok,I.os,I.bare,⟨fun b o e n hb hx=>?_,fun b o e n hb hx=>?_,I.base.free,fun b o e hx=>?_,I.base.tups,I.base.frzs,I.base.tbls⟩,⟨_,hn',fun j y v' e1 e2 e3=>?_⟩,fun y c e=>?_,I.free,I.freeC,fun p hp=>?_,tracked ⟨oL,hoL,I.free⟩ hs,by simpa using I.len⟩ ⟨_,hs,.inl rfl⟩
  ·exact(hs.2 b (Nat.ne_of_lt (Nat.lt_of_lt_of_le (Heap.lt_size e) I.ok.above))).trans (I.base.keep b o e n hb hx)
  ·obtain⟨sl,e1⟩:=I.base.slot b o e n hb hx
   exact⟨sl,(hs.2 b (Nat.ne_of_lt (Nat.lt_of_lt_of_le (Heap.lt_size e) I.ok.above))).trans e1⟩
  ·obtain⟨o',e1⟩:=I.base.there b o e hx
   exact⟨o',(hs.2 b (Nat.ne_of_lt (Nat.lt_of_lt_of_le (Heap.lt_size e) I.ok.above))).trans e1⟩
  ·by_cases hj:j=i
   ·subst hj
    rw[hi] at e1;cases e1
    rw[List.getElem?_set_self hiσ] at e2
    cases e2
    exact⟨u,r,.inl ⟨hk,by simp⟩⟩
   ·rw[List.getElem?_set_ne (Ne.symm hj)] at e2
    obtain⟨u',r',q⟩:=hl j y v' e1 e2 e3
    refine⟨u',r',?_⟩
    rcases q with⟨k,e⟩|⟨k,c,e,z⟩
    ·refine .inl ⟨k,?_⟩
     have:y≠x:=fun e=>hj (a5o hN e1 (e▸hi))
     simp [this,e]
    ·exact .inr ⟨k,c,e,z.sameBut hs (cne y c e)⟩
  ·obtain⟨w',z⟩:=I.cell y c e
   exact⟨w',z.sameBut hs (cne y c e)⟩
  ·obtain⟨e,n,ne,nf,d⟩:=I.pin p hp
   exact⟨(hs.2 p.1 ne).trans e,n,ne,nf,d⟩
 ·have hfn:X.fn x=true:=by
   rcases hf with z|z
   ·exact z
   ·rw[z] at hk;cases hk
  obtain⟨c,hc⟩:=I.ok.has x (.inl hk)
  obtain⟨w',z⟩:=I.cell x c hc
  refine wpAny_storeName_cell I.ok.kind hk hc z (fun h' hc' hs=>?_)
  obtain⟨oc,hoc,hocd⟩:=id z
  refine h {s with heap:=h'} ⟨I.ok,I.os,I.bare,⟨fun b o e n hb hx=>?_,fun b o e n hb hx=>?_,I.base.free,fun b o e hx=>?_,I.base.tups,I.base.frzs,I.base.tbls⟩,⟨m,hn.sameBut hs (Ne.symm (cne x c hc)),fun j y v' e1 e2 e3=>?_⟩,fun y c' e=>?_,I.free,I.freeC,fun p hp=>?_,tracked ⟨oc,hoc,I.freeC x c hc⟩ hs,by simpa using I.len⟩ ⟨c,hs,.inr hc⟩
  ·exact(hs.2 b (Nat.ne_of_lt (Nat.lt_of_lt_of_le (Heap.lt_size e) (I.ok.cab x c hfn hc)))).trans (I.base.keep b o e n hb hx)
  ·obtain⟨sl,e1⟩:=I.base.slot b o e n hb hx
   exact⟨sl,(hs.2 b (Nat.ne_of_lt (Nat.lt_of_lt_of_le (Heap.lt_size e) (I.ok.cab x c hfn hc)))).trans e1⟩
  ·obtain⟨o',e1⟩:=I.base.there b o e hx
   exact⟨o',(hs.2 b (Nat.ne_of_lt (Nat.lt_of_lt_of_le (Heap.lt_size e) (I.ok.cab x c hfn hc)))).trans e1⟩
  ·by_cases hj:j=i
   ·subst hj
    rw[hi] at e1;cases e1
    rw[List.getElem?_set_self hiσ] at e2
    cases e2
    exact⟨u,r,.inr ⟨.inl hk,c,hc,hc'⟩⟩
   ·rw[List.getElem?_set_ne (Ne.symm hj)] at e2
    obtain⟨u',r',q⟩:=hl j y v' e1 e2 e3
    refine⟨u',r',?_⟩
    rcases q with q|⟨k,c',e,z'⟩
    ·exact .inl q
    ·refine .inr ⟨k,c',e,z'.sameBut hs ?_⟩
     rintro rfl
     exact hj (a5o hN e1 (I.ok.inj _ _ _ e hc▸hi))
  ·by_cases hcc:c'=c
   ·subst hcc;exact⟨_,hc'⟩
   ·obtain⟨w2,z2⟩:=I.cell y c' e
    exact⟨w2,z2.sameBut hs hcc⟩
  ·obtain⟨e,n,ne,nf,d⟩:=I.pin p hp
   refine⟨(hs.2 p.1 ?_).trans e,n,ne,nf,d⟩
   intro q
   rw[q,hoc] at e
   have q':oc=p.2:=Option.some.inj e
   exact d w' (by rw[←q'];exact hocd)
theorem a5n {M:Model}{A:Around}{E:Value→Shared→Prop}{i:Nat}{x:Str}{v:V}{u:Value}{Q:Unit→Shared→Prop}(I:Inv X pins σ H s)(hN:X.N.Nodup)(hi:X.N[i]?=some x)(hx:Loc X.env.scope x)(r:RelV v u)
  (h:∀s',Inv X pins (σ.set i (some v)) H s'→Q () s') (hf:X.fn x=true∨X.env.scope.names.lookup x=some .local:=by first|exact .inl rfl|exact .inr rfl|assumption):wpAny M A (storeName X.env x u) Q E s:=
 a3y I hN hi hx r (fun s' I' _=>h s' I') hf
theorem Inv.call' {s':Shared}{ch:List Addr}(I:Inv X pins σ H s)(ho:s'.os=s.os)(u:Un (frs X.stack) ch H H' s.heap s'.heap)(hok:HOk X.prog X.w H' s'.heap)(hg:AllBare s'.gens)
  (hch:∀b∈ch,(b∈X.ex∨X.s₀.heap.objs.size≤b)∧b≠X.env.locals∧(∀x c,X.env.cells.lookup x=some c→c≠b)∧∀p∈X.pn++pins,p.1≠b):Inv X pins σ H' s':=by
 obtain⟨h',g',d',t',o'⟩:=s'
 have e:o'=s.os:=ho
 subst e
 exact I.call (g':=g') (t':=t') (d':=d') u hok hg hch
end
abbrev XK:=Value→Option Addr→Hp→Prop
abbrev St:=List (Option V)
abbrev VK:=V→Hp→Prop
abbrev TE:=St→Hp→VK→Prop
abbrev TT:=St→Hp→(Bool→Hp→Prop)→Prop
abbrev TA:=St→Hp→(List V→Hp→Prop)→Prop
structure a5R where
 nx:St→Hp→Prop
 rt:VK
 bk:St→Hp→Prop:=fun _ _=>False
 ct:St→Hp→Prop:=fun _ _=>False
abbrev TS:=a5R→St→Hp→Prop
def EP (X:Cx)(pins:List (Addr×Obj))(σ:St)(Q:VK)(u:Value)(s':Shared):Prop:=∃v H',Inv X pins σ H' s'∧RelV v u∧Q v H'
def TP (X:Cx)(pins:List (Addr×Obj))(σ:St)(Q:Bool→Hp→Prop)(b:Bool)(s':Shared):Prop:=∃H',Inv X pins σ H' s'∧Q b H'
def AP (X:Cx)(pins:List (Addr×Obj))(σ:St)(Q:List V→Hp→Prop)(us:List Value)(s':Shared):Prop:=∃vs H',Inv X pins σ H' s'∧Vals vs us∧Q vs H'
def SP (X:Cx)(pins:List (Addr×Obj))(D:a5R)(f:Flow)(s':Shared):Prop:=
 match f with
 | .next=>∃σ' H',Inv X pins σ' H' s'∧D.nx σ' H'
 | .brk=>∃σ' H',Inv X pins σ' H' s'∧D.bk σ' H'
 | .cont=>∃σ' H',Inv X pins σ' H' s'∧D.ct σ' H'
 | .ret u=>∃v σ' H',Inv X pins σ' H' s'∧RelV v u∧D.rt v H'
def PE (X:Cx)(e:Expr)(t:TE):Prop:=
 ∀(pins:List (Addr×Obj)) (s:Shared) (σ:St) (H:Hp) (Q:VK),Inv X pins σ H s→t σ H Q→wpAny (model X.prog X.w) X.A (eval e X.env) (EP X pins σ Q) X.xe s
def PT (X:Cx)(e:Expr)(t:TT):Prop:=
 ∀(pins:List (Addr×Obj)) (s:Shared) (σ:St) (H:Hp) (Q:Bool→Hp→Prop),Inv X pins σ H s→t σ H Q→wpAny (model X.prog X.w) X.A (isTrue e X.env (eval e X.env)) (TP X pins σ Q) X.xe s
def PW (X:Cx)(e:Expr)(t:TT):Prop:=
 ∀(whole:Sem Value) (pins:List (Addr×Obj)) (s:Shared) (σ:St) (H:Hp) (Q:Bool→Hp→Prop),Inv X pins σ H s→t σ H Q→wpAny (model X.prog X.w) X.A (isTrue e X.env whole) (TP X pins σ Q) X.xe s
theorem PW.pt {X:Cx}{e:Expr}{t:TT}(h:PW X e t):PT X e t:=h _
def PA (X:Cx)(es:List Expr)(t:TA):Prop:=
 ∀(pos:Pos) (pins:List (Addr×Obj)) (s:Shared) (σ:St) (H:Hp) (Q:List V→Hp→Prop),Inv X pins σ H s→t σ H Q→wpAny (model X.prog X.w) X.A (spliced (backTo pos (starEach es X.env))) (AP X pins σ Q) X.xe s
def PS (X:Cx)(st:Stmt)(t:TS):Prop:=
 ∀(pins:List (Addr×Obj)) (s:Shared) (σ:St) (H:Hp) (D:a5R),Inv X pins σ H s→t D σ H→wpAny (model X.prog X.w) X.A (exec st X.env) (SP X pins D) X.xe s
def PSs (X:Cx)(st:List Stmt)(t:TS):Prop:=
 ∀(pins:List (Addr×Obj)) (s:Shared) (σ:St) (H:Hp) (D:a5R),Inv X pins σ H s→t D σ H→wpAny (model X.prog X.w) X.A (execs st X.env) (SP X pins D) X.xe s
theorem thn {α:Type}{t:Sem α}{Q Q':α→Shared→Prop}{M:Model}{A:Around}{E:Value→Shared→Prop}{s:Shared}(h:wpAny M A t Q E s)(hQ:∀a s,Q a s→Q' a s):wpAny M A t Q' E s:=wpAny_mono h hQ fun _ _ x=>x
end L2
namespace L2
open PySem PySem.Spec PyProof.Rows
section
variable {X:Cx}
def b1I (i:Nat):TE:=fun σ H Q=>∃v,σ[i]?=some (some v)∧Q v H
def tC (v:V):TE:=fun _ H Q=>Q v H
theorem b4w {i:Nat}{x:Str}{pos:Pos}(hN:X.N[i]?=some x)(hv:Vis X.env.scope x)(hd:(x==("__debug__":Str))=false:=by decide)(hcd:(x==("__classdict__":Str))=false:=by decide):PE X (.Name x pos) (b1I i):=by
 intro pins s σ H Q I h
 obtain⟨v,e,h⟩:=h
 obtain⟨m,hn,hl⟩:=I.loc
 obtain⟨u,r,l⟩:=hl i x v hN e hv
 have fin:EP X pins σ Q u s:=⟨v,H,I,r,h⟩
 rcases l with⟨hk,hm⟩|⟨hk,c,hc,hcell⟩
 ·exact wpAny_Name (wpAny_loadName_local I.ok.kind hk hn hm fin) hd
 ·rcases hk with hk|hk
  ·exact wpAny_Name (wpAny_loadName_cell I.ok.kind hk hc hcell fin) hd
  ·exact wpAny_Name (wpAny_loadName_free I.ok.kind hk hc hcell fin hcd) hd
theorem b3L {i j pos}:PE X (.Constant (.int i) j pos) (tC (.int i)):=fun _ _ _ H _ I h=>wpAny_Constant_int ⟨.int i,H,I.tok _,⟨_,rfl⟩,h⟩
theorem b5L {b j pos}:PE X (.Constant (.bool b) j pos) (tC (.bl b)):=fun _ _ _ H _ I h=>Constant_bool ⟨.bl b,H,I,rfl,h⟩
theorem b3x {j pos}:PE X (.Constant .none j pos) (tC .non):=fun _ _ _ H _ I h=>Constant_none ⟨.non,H,I,rfl,h⟩
theorem b3k {x j pos}:PE X (.Constant (.str x) j pos) (tC (.str x)):=fun _ _ _ H _ I h=>Calls.Constant_str ⟨.str x,H,I.tok _,⟨_,rfl⟩,h⟩
def Gl (X:Cx)(x:Str):Prop:=X.env.kindOf x=some .globalImplicit
theorem b1j {E:Value→Shared→Prop}{pins:List (Addr×Obj)}{s:Shared}{σ:St}{H:Hp}{x:Str}{u:Value}{pos:Pos}{Q:Value→Shared→Prop}(I:Inv X pins σ H s)(hg:Gl X x)(hm:X.mg x=some u)(h:Q u s)
  (hd:(x==("__debug__":Str))=false:=by decide):wpAny (model X.prog X.w) X.A (eval (.Name x pos) X.env) Q E s:=
 Calls.Name_function_global I.ok.kind hg (Calls.loadGlobal_global (by rw[I.ok.glob];exact I.mod.glob.keeps I.bk) hm h) hd
theorem Z1 {E:Value→Shared→Prop}{pins:List (Addr×Obj)}{s:Shared}{σ:St}{H:Hp}{x:Str}{u:Value}{pos:Pos}{Q:Value→Shared→Prop}(I:Inv X pins σ H s)(hg:Gl X x)(hm:X.mg x=none)(hv:bootBuiltins x=some u)(h:Q u s)
  (hn:x≠"__name__":=by decide) (hd:(x==("__debug__":Str))=false:=by decide):wpAny (model X.prog X.w) X.A (eval (.Name x pos) X.env) Q E s:=by
 obtain⟨mb,h1,h2⟩:=I.mod.blt
 exact Calls.Name_function_global I.ok.kind hg (Calls.loadGlobal_builtin (by rw[I.ok.glob];exact I.mod.glob.keeps I.bk) hm (by rw[I.ok.blt];exact h1.keeps I.bk) ((h2 x hn).trans hv) h) hd
theorem b1a {x:Str}{v:V}{u:Value}{pos:Pos}(hg:Gl X x)(hm:X.mg x=none)(hv:bootBuiltins x=some u)(r:RelV v u)(hn:x≠"__name__":=by decide)(hd:(x==("__debug__":Str))=false:=by decide):PE X (.Name x pos) (tC v):=
 fun _ _ _ H _ I h=>Z1 I hg hm hv ⟨v,H,I,r,h⟩ hn hd
variable {a b:Expr} {ta tb:TE} {pos:Pos}
theorem RelV.none_iff {x:V}{v:Value}(r:RelV x v):(v==Value.none)=decide (x= .non):=by
 cases x with
 |non=>cases r;rfl
 |bl _=>cases r;rfl
 |int _=>obtain⟨t,rfl⟩:=r;rfl
 |str _=>obtain⟨t,rfl⟩:=r;rfl
 |byt _=>obtain⟨t,rfl⟩:=r;rfl
 |flt _=>obtain⟨t,rfl⟩:=r;rfl
 |ref _=>cases r;rfl
 |ty _=>cases r;rfl
variable {tA tB':TT} {Y9:List Expr}
def b4S (t u:TT):TT:=fun σ H Q=>t σ H fun c H1=>if c=true then u σ H1 Q else Q false H1
def tOr (t u:TT):TT:=fun σ H Q=>t σ H fun c H1=>if c=true then Q true H1 else u σ H1 Q
def b3p (t:TT):TT:=fun σ H Q=>t σ H fun c H1=>Q (!c) H1
theorem b2l (ha:PT X a tA):PW X (.BoolOp .And [a] pos) tA:=by
 intro wh pins s σ H Q I h
 refine isTrue_and (thn (ha pins s σ H Q I h) fun c s1 e=>?_)
 cases c with
 |true=>exact isTrue_and_nil e
 |false=>exact e
theorem b4U (ha:PT X a tA):PW X (.BoolOp .Or [a] pos) tA:=by
 intro wh pins s σ H Q I h
 refine isTrue_or (thn (ha pins s σ H Q I h) fun c s1 e=>?_)
 cases c with
 |false=>exact isTrue_or_nil e
 |true=>exact e
theorem b4F (ha:PT X a tA)(hb:PW X (.BoolOp .And (b::Y9) pos) tB'):PW X (.BoolOp .And (a::b::Y9) pos) (b4S tA tB'):=by
 intro wh pins s σ H Q I h
 refine isTrue_and (thn (ha pins s σ H _ I h) fun c s1 ⟨H1,I1,q1⟩=>?_)
 cases c with
 |true=>exact hb wh pins s1 σ H1 Q I1 q1
 |false=>exact⟨H1,I1,q1⟩
theorem b5P (ha:PT X a tA)(hb:PW X (.BoolOp .Or (b::Y9) pos) tB'):PW X (.BoolOp .Or (a::b::Y9) pos) (tOr tA tB'):=by
 intro wh pins s σ H Q I h
 refine isTrue_or (thn (ha pins s σ H _ I h) fun c s1 ⟨H1,I1,q1⟩=>?_)
 cases c with
 |true=>exact⟨H1,I1,q1⟩
 |false=>exact hb wh pins s1 σ H1 Q I1 q1
theorem b3Q (ha:PT X a tA):PT X (.UnaryOp .Not a pos) (b3p tA):=by
 intro pins s σ H Q I h
 exact isTrue_not (ha pins s σ H (fun c H1=>Q (!c) H1) I h)
def a9H (ta tb:TE):TE:=fun σ H Q=>ta σ H fun x H1=>∃c,x= .bl c∧if c=true then tb σ H1 Q else Q (.bl false) H1
def b6Z (ta tb:TE):TE:=fun σ H Q=>ta σ H fun x H1=>∃c,x= .bl c∧if c=true then Q (.bl true) H1 else tb σ H1 Q
def b6A (ta:TE):TE:=fun σ H Q=>ta σ H fun x H1=>∃c,x= .bl c∧Q (.bl (!c)) H1
theorem b4H {op}{t:TE}(h:PE X a t):PE X (.BoolOp op [a] pos) t:=fun pins s σ H Q I hw=>BoolOp_one (h pins s σ H Q I hw)
theorem b4A (ha:PE X a ta)(hb:PE X (.BoolOp .And (b::Y9) pos) tb):PE X (.BoolOp .And (a::b::Y9) pos) (a9H ta tb):=by
 intro pins s σ H Q I h
 refine BoolOp_and (thn (ha pins s σ H _ I h) fun v s1 ⟨x,H1,I1,r1,q1⟩=>?_)
 obtain⟨c,rfl,q1⟩:=q1
 cases r1
 refine wpAny_truthy_bool ?_
 cases c with
 |true=>exact hb pins s1 σ H1 Q I1 q1
 |false=>exact⟨.bl false,H1,I1,rfl,q1⟩
def tIf (t:TT)(ta tb:TE):TE:=fun σ H Q=>t σ H fun c H1=>if c=true then ta σ H1 Q else tb σ H1 Q
theorem a9r {c:Expr}(hc:PT X c tA)(ha:PE X a ta)(hb:PE X b tb):PE X (.IfExp c a b pos) (tIf tA ta tb):=by
 intro pins s σ H Q I h
 refine wpAny_IfExp (thn (hc pins s σ H _ I h) fun d s1 ⟨H1,I1,q1⟩=>?_)
 cases d with
 |true=>exact ha pins s1 σ H1 Q I1 q1
 |false=>exact hb pins s1 σ H1 Q I1 q1
end
end L2
namespace L2
open PySem PySem.Spec PyProof.Rows
def SqL (K:PySem.W.Frag)(H:Hp)(a:Addr)(xs:List V):Prop:=
 Rd H a (.lst xs)∨
  ∃(o:Obj) (its:Array Value) (n:Nat),K.lookup a=some o∧o.cls= .type "list"∧o.dict=none∧o.data= .seq its n∧its.size≤sizeLine∧Vals xs its.toList
def SqT (K:PySem.W.Frag)(H:Hp)(a:Addr)(xs:List V):Prop:=
 Rd H a (.tup xs)∨
  ∃(o:Obj) (its:Array Value) (n:Nat),K.lookup a=some o∧o.cls= .type "tuple"∧o.data= .seq its n∧its.size≤sizeLine∧Vals xs its.toList
def b7e:Value→Option V
 | .none=>some .non
 | .bool b=>some (.bl b)
 | .int i _=>some (.int i)
 | .str x _=>some (.str x)
 | .bytes b _=>some (.byt b)
 | .float b _=>some (.flt b)
 | .ref a=>some (.ref a)
 | .type n=>some (.ty n)
 |_=>none
theorem RelV.abs {x:V}{u:Value}(r:RelV x u):b7e u=some x:=by
 cases x with
 |non=>cases r;rfl
 |bl _=>cases r;rfl
 |int _=>obtain⟨t,rfl⟩:=r;rfl
 |str _=>obtain⟨t,rfl⟩:=r;rfl
 |byt _=>obtain⟨t,rfl⟩:=r;rfl
 |flt _=>obtain⟨t,rfl⟩:=r;rfl
 |ref _=>cases r;rfl
 |ty _=>cases r;rfl
theorem RelV.inj {x y:V}{u:Value}(r:RelV x u)(q:RelV y u):x=y:=Option.some.inj (r.abs.symm.trans q.abs)
theorem Vals.inj:∀{xs ys:List V} {us:List Value},Vals xs us→Vals ys us→xs=ys
 |_,_,_,.nil,.nil=>rfl
 |_,_,_,.cons r t,.cons r' t'=>by rw[r.inj r',Vals.inj t t']
section
variable {X:Cx} {pins:List (Addr×Obj)} {σ:St} {H:Hp} {s:Shared} {a:Addr} {xs ys:List V}
theorem SqL.of {K:PySem.W.Frag}(h:H a=some (.lst xs)):SqL K H a xs:= .inl (.inl h)
theorem SqT.of {K:PySem.W.Frag}(h:H a=some (.tup xs)):SqT K H a xs:= .inl (.inl h)
theorem Inv.list (I:Inv X pins σ H s)(h:SqL X.K H a xs):∃its:List Value,Vals xs its∧PlainL s.heap a its.toArray∧xs.length≤sizeLine:=by
 rcases h with h|⟨o,its,n,hk,hc,hd,hs,hz,r⟩
 ·obtain⟨z,its,n,r,e⟩:=h.ok I.hok
  exact⟨its,r,⟨_,n,e,rfl,rfl,rfl⟩,z⟩
 ·refine⟨its.toList,r,⟨o,n,I.kIn a o hk,hc,hd,by simpa using hs⟩,?_⟩
  have e:=r.length
  simp only[Array.length_toList] at e
  omega
theorem Inv.tuple (I:Inv X pins σ H s)(h:SqT X.K H a xs):∃its:List Value,Vals xs its∧IsTup s.heap a its.toArray∧xs.length≤sizeLine:=by
 rcases h with h|⟨o,its,n,hk,hc,hs,hz,r⟩
 ·obtain⟨z,its,r,p⟩:=h.ok I.hok
  exact⟨its,r,p,z⟩
 ·refine⟨its.toList,r,⟨o,I.kIn a o hk,hc,n,by simpa using hs⟩,?_⟩
  have e:=r.length
  simp only[Array.length_toList] at e
  omega
theorem Inv.list_inj (I:Inv X pins σ H s)(h:SqL X.K H a xs)(h':SqL X.K H a ys):xs=ys:=by
 obtain⟨its,r,⟨o,n,e,_,_,d⟩,_⟩:=I.list h
 obtain⟨its',r',⟨o',n',e',_,_,d'⟩,_⟩:=I.list h'
 rw[e] at e';cases e'
 rw[d] at d'
 injection d' with d1 _
 have:its=its':=by simpa using congrArg Array.toList d1
 subst this
 exact r.inj r'
theorem Inv.tuple_inj (I:Inv X pins σ H s)(h:SqT X.K H a xs)(h':SqT X.K H a ys):xs=ys:=by
 obtain⟨its,r,⟨o,e,_,n,d⟩,_⟩:=I.tuple h
 obtain⟨its',r',⟨o',e',_,n',d'⟩,_⟩:=I.tuple h'
 rw[e] at e';cases e'
 rw[d] at d'
 injection d' with d1 _
 have:its=its':=by simpa using congrArg Array.toList d1
 subst this
 exact r.inj r'
end
abbrev Cx.wish (X:Cx)(E:Value→Shared→Prop):Cx:={X with xe:=E}
abbrev Cx.nox (X:Cx):Cx:=X.wish fun _ _=>False
theorem Cx.Ok.wish {X:Cx}(ok:X.Ok)(E:Value→Shared→Prop):(X.wish E).Ok:=
 ⟨ok.mod,ok.kind,ok.glob,ok.blt,ok.above,ok.inj,ok.has,ok.cab,ok.hd,ok.frames,ok.stk,ok.exf,ok.bs,ok.bsz,ok.noex,ok.exfs,ok.funs,ok.frf⟩
theorem Cx.Ok.unwish {X:Cx}{E:Value→Shared→Prop}(ok:(X.wish E).Ok):X.Ok:=
 ⟨ok.mod,ok.kind,ok.glob,ok.blt,ok.above,ok.inj,ok.has,ok.cab,ok.hd,ok.frames,ok.stk,ok.exf,ok.bs,ok.bsz,ok.noex,ok.exfs,ok.funs,ok.frf⟩
section
variable {X:Cx} {pins:List (Addr×Obj)} {σ:St} {H:Hp} {s:Shared} {E:Value→Shared→Prop}
theorem Inv.wish (I:Inv X pins σ H s)(E:Value→Shared→Prop):Inv (X.wish E) pins σ H s:=⟨I.ok.wish E,I.os,I.bare,I.base,I.loc,I.cell,I.free,I.freeC,I.pin,I.hok,I.len⟩
theorem Inv.unwish (I:Inv (X.wish E) pins σ H s):Inv X pins σ H s:=⟨I.ok.unwish,I.os,I.bare,I.base,I.loc,I.cell,I.free,I.freeC,I.pin,I.hok,I.len⟩
theorem SP.unwish {D:a5R}{f:Flow}{s':Shared}(h:SP (X.wish E) pins D f s'):SP X pins D f s':=by
 cases f with
 |next=>obtain⟨σ',H',I,q⟩:=h;exact⟨σ',H',I.unwish,q⟩
 |brk=>obtain⟨σ',H',I,q⟩:=h;exact⟨σ',H',I.unwish,q⟩
 |cont=>obtain⟨σ',H',I,q⟩:=h;exact⟨σ',H',I.unwish,q⟩
 |ret u=>obtain⟨v,σ',H',I,r,q⟩:=h;exact⟨v,σ',H',I.unwish,r,q⟩
theorem PE.nox {e:Expr}{t:TE}(h:PE X.nox e t):PE X e t:=fun pins s σ H Q I hw=>
 wpAny_mono (h pins s σ H Q (I.wish _) hw) (fun _ _ ⟨v,H',I',r,q⟩=>⟨v,H',I'.unwish,r,q⟩) fun _ _ z=>False.elim z
theorem PT.nox {e:Expr}{t:TT}(h:PT X.nox e t):PT X e t:=fun pins s σ H Q I hw=>
 wpAny_mono (h pins s σ H Q (I.wish _) hw) (fun _ _ ⟨H',I',q⟩=>⟨H',I'.unwish,q⟩) fun _ _ z=>False.elim z
theorem PSs.nox {st:List Stmt}{t:TS}(h:PSs X.nox st t):PSs X st t:=fun pins s σ H D I hw=>
 wpAny_mono (h pins s σ H D (I.wish _) hw) (fun _ _ q=>q.unwish) fun _ _ z=>False.elim z
end
section
variable {X:Cx} {st:Stmt} {Y9:List Stmt} {t u:TS} {e:Expr} {te:TE} {pos:Pos}
def b0q:TS:=fun D σ H=>D.nx σ H
def a3K (t u:TS):TS:=fun D σ H=>t {D with nx:=u D} σ H
theorem b2a:PSs X [] b0q:=fun _ _ σ H _ I h=>wpAny_execs_nil ⟨σ,H,I,h⟩
theorem a9O (h1:PS X st t)(h2:PSs X Y9 u):PSs X (st::Y9) (a3K t u):=by
 intro pins s σ H D I h
 refine wpAny_execs_cons (thn (h1 pins s σ H {D with nx:=u D} I h) fun f s1 q=>?_)
 cases f with
 |next=>
  obtain⟨σ',H',I',q⟩:=q
  exact h2 pins s1 σ' H' D I' q
 |ret v=>exact q
 |brk=>exact q
 |cont=>exact q
theorem b2o (h1:PS X st t):PSs X [st] t:=by
 intro pins s σ H D I h
 refine wpAny_execs_cons (thn (h1 pins s σ H D I h) fun f s1 q=>?_)
 cases f with
 |next=>exact wpAny_execs_nil q
 |ret v=>exact q
 |brk=>exact q
 |cont=>exact q
theorem Inv.quiet {pins:List (Addr×Obj)}{σ:St}{H:Hp}{s:Shared}(I:Inv X pins σ H s):interactive X.env=false:=by simp [interactive,I.ok.kind]
def a9e (te:TE):TS:=fun D σ H=>te σ H fun _ H1=>D.nx σ H1
theorem b1g (he:PE X e te)(hs:swapsWith e none pos.line X.env=pure false:=by rfl):PS X (.Expr e pos) (a9e te):=by
 intro pins s σ H D I h
 exact wpAny_Expr_any (thn (he pins s σ H _ I h) fun v s1 ⟨x,H1,I1,r1,q1⟩=>⟨σ,H1,I1,q1⟩) I.quiet hs
def b1P (te:TE):TS:=fun D σ H=>te σ H D.rt
theorem b4B (he:PE X e te):PS X (.Return (some e) pos) (b1P te):=by
 intro pins s σ H D I h
 exact wpAny_Return_some (thn (he pins s σ H _ I h) fun v s1 ⟨x,H1,I1,r1,q1⟩=>⟨x,σ,H1,I1,r1,q1⟩)
def b3W (c:TT)(t u:TS):TS:=fun D σ H=>c σ H fun b H1=>if b=true then t D σ H1 else u D σ H1
theorem b5q {c:Expr}{a b:List Stmt}{tc:TT}(hc:PT X c tc)(ha:PSs X a t)(hb:PSs X b u):PS X (.If c a b pos) (b3W tc t u):=by
 intro pins s σ H D I h
 refine wpAny_If (thn (hc pins s σ H _ I h) fun d s1 ⟨H1,I1,q1⟩=>?_)
 cases d with
 |true=>exact ha pins s1 σ H1 D I1 q1
 |false=>exact hb pins s1 σ H1 D I1 q1
end
abbrev TG:=V→St→Hp→(St→Hp→Prop)→Prop
abbrev TGs:=List V→St→Hp→(St→Hp→Prop)→Prop
def PG (X:Cx)(target:Expr)(t:TG):Prop:=
 ∀(pins:List (Addr×Obj)) (s:Shared) (σ:St) (H:Hp) (v:V) (u:Value) (Q:St→Hp→Prop),Inv X pins σ H s→RelV v u→t v σ H Q→
  wpAny (model X.prog X.w) X.A (assign target X.env u) (fun _ s'=>∃σ' H',Inv X pins σ' H' s'∧Q σ' H') X.xe s
def PGs (X:Cx)(ts:List Expr)(t:TGs):Prop:=
 ∀(pins:List (Addr×Obj)) (s:Shared) (σ:St) (H:Hp) (vs:List V) (us:List Value) (Q:St→Hp→Prop),Inv X pins σ H s→Vals vs us→t vs σ H Q→
  wpAny (model X.prog X.w) X.A (assignInOrder ((assignEach ts X.env).map (·.2)) us) (fun _ s'=>∃σ' H',Inv X pins σ' H' s'∧Q σ' H') X.xe s
abbrev a6b:=V→V→V→Hp→(Hp→Prop)→Prop
def a7J (X:Cx)(t:a6b):Prop:=
 ∀(pins:List (Addr×Obj)) (s:Shared) (σ:St) (H:Hp) (o i v:V) (ov iv u:Value) (Q:Hp→Prop),Inv X pins σ H s→RelV o ov→RelV i iv→RelV v u→t o i v H Q→
  wpAny (model X.prog X.w) X.A (setItem ov iv u) (fun _ s'=>∃H',Inv X pins σ H' s'∧Q H') X.xe s
section
variable {X:Cx} {pos:Pos}
def P6 (i:Nat):TG:=fun v σ H Q=>Q (σ.set i (some v)) H
theorem b2c {i:Nat}{x:Str}(hN:X.N.Nodup)(hi:X.N[i]?=some x)(hx:Loc X.env.scope x)(hf:X.fn x=true∨X.env.scope.names.lookup x=some .local:=by first|exact .inl rfl|exact .inr rfl|assumption):PG X (.Name x pos) (P6 i):=by
 intro pins s σ H v u Q I r h
 exact wpAny_assign_Name (a5n I hN hi hx r (fun s' I'=>⟨_,H,I',h⟩) hf)
def b2f:TGs:=fun vs σ H Q=>vs=[]∧Q σ H
def a2d (t:TG)(u:TGs):TGs:=fun vs σ H Q=>∃v r,vs=v::r∧t v σ H fun σ' H'=>u r σ' H' Q
theorem b1L:PGs X [] b2f:=by
 intro pins s σ H vs us Q I r h
 obtain⟨e,h⟩:=h
 subst e
 cases r
 exact assignInOrder_nil ⟨σ,H,I,h⟩
theorem b0a {e:Expr}{es:List Expr}{t:TG}{u:TGs}(h1:PG X e t)(h2:PGs X es u)
  (hs:(assignEach (e::es) X.env).map (·.2)=assign e X.env::(assignEach es X.env).map (·.2):=by rfl):PGs X (e::es) (a2d t u):=by
 intro pins s σ H vs us Q I r h
 obtain⟨v,vr,e1,h⟩:=h
 subst e1
 cases r with
 |cons r rr=>
  rw[hs]
  refine assignInOrder_cons (thn (h1 pins s σ H _ _ _ I r h) fun _ s1 ⟨σ1,H1,I1,q1⟩=>?_)
  exact h2 pins s1 σ1 H1 _ _ Q I1 rr q1
def a9o (K:PySem.W.Frag)(n:Nat)(t:TGs):TG:=fun v σ H Q=>∃a xs,v= .ref a∧SqT K H a xs∧xs.length=n∧t xs σ H Q
theorem b3o {es:List Expr}{k:Nat}{t:TGs}{n:Nat}(hc:X.calm=true)(h:PGs X es t)
  (hn:(assignEach es X.env).length=n:=by rfl) (hst:(assignEach es X.env).findIdx? (·.1)=none:=by rfl):PG X (.Tuple es k pos) (a9o X.K n t):=by
 intro pins s σ H v u Q I r hw
 obtain⟨a,xs,e1,hq,hl,hw⟩:=hw
 subst e1
 cases r
 obtain⟨its,rv,ht,hz⟩:=I.tuple hq
 refine assign_Tuple_tuple (I.ok.hd hc) ht (by simp [hn,←hl,rv.length]) hst fun h' hx=>?_
 have I1:Inv X pins σ H {s with heap:=h'}:=I.kept (t':=s.toks) fun b o e=>hx b o (Nat.ne_of_lt (Heap.lt_size e)) e
 exact h pins _ σ H xs _ Q I1 (by simpa using rv) hw
def b3i (to ti:TE)(t:a6b):TG:=fun v σ H Q=>to σ H fun o H1=>ti σ H1 fun i H2=>t o i v H2 fun H3=>Q σ H3
theorem b3Z {o i:Expr}{to ti:TE}{t:a6b}(ho:PE X o to)(hi:PE X i ti)(hs:a7J X t)
  (ha:∀v,assign (.Subscript o i pos) X.env v=(do
   let ov←holding [v] (eval o X.env)
   let iv←holding [v,ov] (eval i X.env)
   standAt pos
   holding [v,ov,iv] (setItem ov iv v)
   release [v,ov,iv] []):=by intro _;rfl):PG X (.Subscript o i pos) (b3i to ti t):=by
 intro pins s σ H v u Q I r h
 rw[ha]
 refine wpAny_bind (wpAny_holding (thn (ho pins s σ H _ I h) fun ov s1 ⟨x,H1,I1,r1,q1⟩=>?_))
 refine wpAny_bind (wpAny_holding (thn (hi pins s1 σ H1 _ I1 q1) fun iv s2 ⟨y,H2,I2,r2,q2⟩=>?_))
 refine wpAny_bind (wpAny_standAt (wpAny_bind (wpAny_holding (thn (hs pins s2 σ H2 x y v ov iv u _ I2 r1 r2 r q2) fun _ s3 ⟨H3,I3,q3⟩=>?_))))
 exact wpAny_release ⟨σ,H3,I3,q3⟩
def a5P (te:TE)(g:TG):TS:=fun D σ H=>te σ H fun x H1=>g x σ H1 D.nx
theorem b4n {tg e:Expr}{te:TE}{g:TG}(he:PE X e te)(hg:PG X tg g)(hs:swapsWithSole [tg] e pos.line X.env=pure false:=by rfl)(hw:swappedStores [tg] e X.env=pure none:=by rfl)
  (h1:(assignEach [tg] X.env).map (·.2)=[assign tg X.env]:=by rfl):PS X (.Assign [tg] e pos) (a5P te g):=by
 intro pins s σ H D I h
 refine wpAny_Assign_stores (thn (he pins s σ H _ I h) fun v s1 ⟨x,H1,I1,r1,q1⟩=>?_) hs hw
 rw[h1]
 exact thn (hg pins s1 σ H1 x v _ I1 r1 q1) fun _ s2 q=>q
theorem b3D {i:Nat}{x:Str}{e:Expr}{te:TE}{pos':Pos}(hN:X.N.Nodup)(hi:X.N[i]?=some x)(hx:Loc X.env.scope x)(he:PE X e te)(hs:swapsWith e (some (.Name x pos')) pos.line X.env=pure false:=by rfl)(hf:X.fn x=true∨X.env.scope.names.lookup x=some .local:=by first|exact .inl rfl|exact .inr rfl|assumption):
  PS X (.Assign [.Name x pos'] e pos) (a5P te (P6 i)):=by
 intro pins s σ H D I h
 refine wpAny_Assign_Name (thn (he pins s σ H _ I h) fun v s1 ⟨y,H1,I1,r1,q1⟩=>?_) hs
 exact a5n I1 hN hi hx r1 (fun s2 I2=>⟨_,H1,I2,q1⟩) hf
def b7i (i j:Nat)(ta:TA):TS:=fun D σ H=>ta σ H fun vs H1=>∃v w,vs=[v,w]∧D.nx ((σ.set i (some v)).set j (some w)) H1
end
section
variable {X:Cx} {pos:Pos}
def a9u (c:TT)(tb:TS):TS:=fun D σ H=>∃W:Nat→St→Hp→Prop,(∃m,W m σ H)∧∀m σ H,W m σ H→
 c σ H fun b H1=>if b=true then ∃N:St→Hp→Prop,(∀σ' H',N σ' H'→∃m',m'<m∧W m' σ' H')∧tb {D with nx:=N,ct:=N,bk:=D.nx} σ H1 else D.nx σ H1
theorem a9D {c:Expr}{body:List Stmt}{tc:TT}{tb:TS}(hp:PassesOwn (model X.prog X.w) X.A X.env X.xe)(hc:PT X c tc)(hb:PSs X body tb):PS X (.While c body [] pos) (a9u tc tb):=by
 intro pins s σ H D I h
 obtain⟨W,⟨m0,w0⟩,turn⟩:=h
 refine wpAny_While (codeAny_whileLoop (fun n s'=>∃σ' H',Inv X pins σ' H' s'∧W n σ' H') ?_ m0 ⟨σ,H,I,w0⟩)
 rintro n s1 ⟨σ1,H1,I1,w1⟩
 refine wpAny_passesOwn hp (thn (hc pins s1 σ1 H1 _ I1 (turn n σ1 H1 w1)) fun b s2 ⟨H2,I2,q2⟩=>?_)
 cases b with
 |true=>
  obtain⟨N,hN,q2⟩:=q2
  rw[if_pos rfl]
  refine wpAny_passesOwn hp (thn (hb pins s2 σ1 H2 _ I2 q2) fun f s3 q3=>?_)
  cases f with
  |next=>
   obtain⟨σ3,H3,I3,n3⟩:=q3
   obtain⟨m',hm,w3⟩:=hN σ3 H3 n3
   exact⟨m',hm,σ3,H3,I3,w3⟩
  |cont=>
   obtain⟨σ3,H3,I3,n3⟩:=q3
   obtain⟨m',hm,w3⟩:=hN σ3 H3 n3
   exact⟨m',hm,σ3,H3,I3,w3⟩
  |brk=>exact q3
  |ret v=>exact q3
 |false=>
  rw[if_neg Bool.false_ne_true]
  exact wpAny_execs_nil ⟨σ1,H2,I2,q2⟩
end
structure It where
 go:Nat→Hp→Prop
 yld:Nat→Hp→V→Hp→Prop
 stop:Nat→Hp→Prop
def a0R (X:Cx)(pins:List (Addr×Obj))(H:Hp)(b:Addr):Prop:=
 H b=none∧b≠X.env.locals∧b∉X.fs∧(b∈X.ex∨X.s₀.heap.objs.size≤b)∧(∀x c,X.env.cells.lookup x=some c→c≠b)∧∀p∈X.pn++pins,p.1≠b
theorem Inv.fpOk {X:Cx}{pins:List (Addr×Obj)}{σ:St}{H H':Hp}{s:Shared}{b:Addr}(I:Inv X pins σ H s)(hb:s.heap.objs.size≤b)(hn:H' b=none):a0R X pins H' b:=by
 refine⟨hn,Nat.ne_of_gt (Nat.lt_of_lt_of_le I.lt hb),I.nofs hb,.inr (Nat.le_trans I.sz hb),fun x c e z=>?_,fun p hp z=>?_⟩
 ·obtain⟨v,q⟩:=I.cell x c e
  exact absurd (Nat.lt_of_lt_of_le q.lt (by rw[z];exact hb)) (Nat.lt_irrefl _)
 ·exact absurd (Nat.lt_of_lt_of_le (Heap.lt_size (I.pin p hp).1) (by rw[z];exact hb)) (Nat.lt_irrefl _)
structure a1o (P:Program) (w:World) (K:PySem.W.Frag) (tg:Expr) (J:It) (fp:List Addr) (it:Addr) (tn:Nat→Heap→Prop):Prop where
 mem:it∈fp
 obj:∀i h,tn i h→∀b∈fp,∃o,h.get? b=some o∧∀v,o.data≠ .cell v
 keep:∀i h h',tn i h→(∀b∈fp,∀o,h.get? b=some o→h'.get? b=some o)→tn i h'
 item:∀(X:Cx),X.prog=P→X.w=w→X.K=K→X.calm=true→∀(i:Nat) (pins:List (Addr×Obj)) (s:Shared) (σ:St) (H:Hp) (E:Value→Shared→Prop),Inv X pins σ H s→(∀b∈fp,a0R X pins H b)→tn i s.heap→J.go i H→
  wpAny (model P w) X.A (pyNext (.ref it)) (fun r s1=>∃u,r=some u∧
   wpAny (model P w) X.A (letOwnedTupleGo tg (.ref it) u) (fun _ s2=>∃x H',Inv X pins σ H' s2∧RelV x u∧J.yld i H x H'∧tn (i+1) s2.heap∧∀b∈fp,H' b=none) E s1) E s
 done:∀(X:Cx),X.prog=P→X.w=w→X.K=K→X.calm=true→∀(i:Nat) (pins:List (Addr×Obj)) (s:Shared) (σ:St) (H:Hp) (E:Value→Shared→Prop),Inv X pins σ H s→(∀b∈fp,a0R X pins H b)→tn i s.heap→J.stop i H→
  wpAny (model P w) X.A (pyNext (.ref it)) (fun r s1=>r=none∧Inv X pins σ H s1) E s
 self:∀(A:Around) (i:Nat) (s:Shared) (Q:Value→Shared→Prop) (E:Value→Shared→Prop),tn i s.heap→Q (.ref it) s→wpAny (model P w) A (pyIter (.ref it)) Q E s
abbrev TI:=St→Hp→(It→Hp→Prop)→Prop
def PIE (X:Cx)(pins:List (Addr×Obj))(σ:St)(tg:Expr)(R:It→Hp→Prop)(itv:Value)(s2:Shared):Prop:=
 ∃(it:Addr) (fp:List Addr) (tn:Nat→Heap→Prop) (J:It) (H':Hp),itv= .ref it∧Inv X pins σ H' s2∧a1o X.prog X.w X.K tg J fp it tn∧tn 0 s2.heap∧(∀b∈fp,a0R X pins H' b)∧R J H'
def PI (X:Cx)(tg iter:Expr)(wi:TI):Prop:=
 ∀(pins:List (Addr×Obj)) (s:Shared) (σ:St) (H:Hp) (R:It→Hp→Prop),Inv X pins σ H s→wi σ H R→
  wpAny (model X.prog X.w) X.A (eval iter X.env) (fun v s1=>wpAny (model X.prog X.w) X.A (pyIter v) (PIE X pins σ tg R) X.xe s1) X.xe s
theorem a6Z {M : Model} {A : Around} {E : Value → Shared → Prop} {s : Shared} {tg : Expr} {it : Addr} {u : Value} {o : Obj} {n : String} {vs : Array Value} {Q : Unit → Shared → Prop} (ho : s.heap.get? it = some o) (hc : o.cls = .type n) (hd : o.data = .fields vs)
    (hn : ["enumerate", "zip", "dict_itemiterator", "dict_reverseitemiterator", "odict_iterator", "itertools.zip_longest", "itertools.pairwise"].contains n = false) (hQ : Q () s) : wpAny M A (letOwnedTupleGo tg (.ref it) u) Q E s := by
  unfold letOwnedTupleGo
  cases tg <;> first
    | exact wpAny_pure hQ
    | (cases u <;> first
        | exact wpAny_pure hQ
        | (refine wpAny_bind (wpAny_load ho ?_)
           rw [hc, hd]
           show wpAny M A (if (["enumerate", "zip", "dict_itemiterator", "dict_reverseitemiterator", "odict_iterator", "itertools.zip_longest", "itertools.pairwise"].contains n && vs[0]? == some (rawInt _)) = true then _ else _) Q E s
           rw [if_neg (by intro h; rw [hn, Bool.false_and] at h; cases h)]
           exact wpAny_pure hQ))
def Itl (K:PySem.W.Frag)(a:Addr):It:=
 ⟨fun i H=>∃xs x,SqL K H a xs∧xs[i]?=some x,fun i H x H'=>H'=H∧∀xs,SqL K H a xs→xs[i]?=some x,fun i H=>∃xs,SqL K H a xs∧xs.length≤i⟩
def Itt (K:PySem.W.Frag)(a:Addr):It:=
 ⟨fun i H=>∃xs x,SqT K H a xs∧xs[i]?=some x,fun i H x H'=>H'=H∧∀xs,SqT K H a xs→xs[i]?=some x,fun i H=>∃xs,SqT K H a xs∧xs.length≤i⟩
def Itr (lo:Int)(n:Nat):It:=⟨fun i _=>i<n,fun i H x H'=>H'=H∧x= .int (lo+i),fun i _=>n≤i⟩
theorem a7W {P:Program}{w:World}{K:PySem.W.Frag}{tg:Expr}(a it:Addr):a1o P w K tg (Itl K a) [it] it (fun i h=>h.IsListIter it a i) where
 mem:=by simp
 obj:=fun i h st b hb=>by
  have e:b=it:=by simpa using hb
  subst e
  obtain⟨o,e,c,d⟩:=st
  exact⟨o,e,fun v z=>by rw[d] at z;cases z⟩
 keep:=fun i h h' st k=>st.at fun o e=>k it (by simp) o e
 item:=by
  intro X hP hw hK hc i pins s σ H E I hf st hg
  subst hP hw hK
  obtain⟨xs,x,hq,hx⟩:=hg
  obtain⟨its,rv,p,hz⟩:=I.list hq
  obtain⟨u,hu,ru⟩:=rv.get hx
  obtain⟨f0,f1,f2,f3,f4,f5⟩:=hf it (by simp)
  refine wpAny_pyNext_list_item st p.isList (x:=u) (by simpa using hu) fun h' st' sb=>?_
  have I1:Inv X pins σ H {s with heap:=h'}:=I.turned (t':=s.toks) (fun b o hb e=>(sb.2 b hb).trans e) f0 f1 f3 f4 f5
  obtain⟨o,e,c,d⟩:=id st'
  exact⟨u,rfl,a6Z (s:={s with heap:=h'}) e c d (by decide) ⟨x,H,I1,ru,⟨rfl,fun ys hy=>by rw[I.list_inj hy hq];exact hx⟩,st',fun b hb=>(hf b hb).1⟩⟩
 done:=by
  intro X hP hw hK hc i pins s σ H E I hf st hg
  subst hP hw hK
  obtain⟨xs,hq,hx⟩:=hg
  obtain⟨its,rv,p,hz⟩:=I.list hq
  obtain⟨f0,f1,f2,f3,f4,f5⟩:=hf it (by simp)
  have hl:=rv.length
  exact wpAny_pyNext_list_end (I.ok.hd hc) st p.isList (by simp;omega) fun h' eb=>⟨rfl,I.turned (t':=s.toks) (fun b o hb e=>eb b o hb e) f0 f1 f3 f4 f5⟩
 self:=fun _ _ _ _ _ st h=>wpAny_pyIter_listiter st h
theorem a5V {P:Program}{w:World}{K:PySem.W.Frag}{tg:Expr}(a it:Addr):a1o P w K tg (Itt K a) [it] it (fun i h=>h.IsTupleIter it a i) where
 mem:=by simp
 obj:=fun i h st b hb=>by
  have e:b=it:=by simpa using hb
  subst e
  obtain⟨o,e,c,d⟩:=st
  exact⟨o,e,fun v z=>by rw[d] at z;cases z⟩
 keep:=fun i h h' st k=>st.at fun o e=>k it (by simp) o e
 item:=by
  intro X hP hw hK hc i pins s σ H E I hf st hg
  subst hP hw hK
  obtain⟨xs,x,hq,hx⟩:=hg
  obtain⟨its,rv,p,hz⟩:=I.tuple hq
  obtain⟨u,hu,ru⟩:=rv.get hx
  obtain⟨f0,f1,f2,f3,f4,f5⟩:=hf it (by simp)
  refine wpAny_pyNext_tuple_item st (show s.heap.IsTuple a its.toArray from p) (x:=u) (by simpa using hu) fun h' st' sb=>?_
  have I1:Inv X pins σ H {s with heap:=h'}:=I.turned (t':=s.toks) (fun b o hb e=>(sb.2 b hb).trans e) f0 f1 f3 f4 f5
  obtain⟨o,e,c,d⟩:=id st'
  exact⟨u,rfl,a6Z (s:={s with heap:=h'}) e c d (by decide) ⟨x,H,I1,ru,⟨rfl,fun ys hy=>by rw[I.tuple_inj hy hq];exact hx⟩,st',fun b hb=>(hf b hb).1⟩⟩
 done:=by
  intro X hP hw hK hc i pins s σ H E I hf st hg
  subst hP hw hK
  obtain⟨xs,hq,hx⟩:=hg
  obtain⟨its,rv,p,hz⟩:=I.tuple hq
  obtain⟨f0,f1,f2,f3,f4,f5⟩:=hf it (by simp)
  have hl:=rv.length
  exact wpAny_pyNext_tuple_end (I.ok.hd hc) st (show s.heap.IsTuple a its.toArray from p) (by simp;omega) fun h' eb=>⟨rfl,I.turned (t':=s.toks) (fun b o hb e=>eb b o hb e) f0 f1 f3 f4 f5⟩
 self:=fun _ _ _ _ _ st h=>wpAny_pyIter_tupleiter st h
theorem a5K {P:Program}{w:World}{K:PySem.W.Frag}{tg:Expr}(it:Addr)(lo:Int)(n:Nat):a1o P w K tg (Itr lo n) [it] it (fun i h=>IsRangeIter h it (lo+(i:Nat)*1) ((n:Int) -(i:Nat)) 1) where
 mem:=by simp
 obj:=fun i h st b hb=>by
  have e:b=it:=by simpa using hb
  subst e
  exact⟨_,st,fun v z=>by
   have z':Data.fields _=Data.cell v:=z
   cases z'⟩
 keep:=fun i h h' st k=>k it (by simp) _ st
 item:=by
  intro X hP hw hK hc i pins s σ H E I hf st hg
  subst hP hw hK
  obtain⟨f0,f1,f2,f3,f4,f5⟩:=hf it (by simp)
  have W:=Walks.range (prog:=X.prog) (w:=X.w) (I.ok.hd hc) it lo 1 n
  refine W.item i s _ _ hg st fun v h' tk hv st' kk=>?_
  obtain⟨t,rfl⟩:=hv
  have I1:Inv X pins σ H {s with heap:=h',toks:=tk}:=I.turned (fun b o hb e=>kk b o (by simpa using hb) e) f0 f1 f3 f4 f5
  refine⟨_,rfl,a6Z (s:={s with heap:=h',toks:=tk}) (n:="range_iterator") st' rfl rfl (by decide) ⟨.int (lo+i),H,I1,⟨t,?_⟩,⟨rfl,rfl⟩,st',fun b hb=>(hf b hb).1⟩⟩
  rw[Int.mul_one]
 done:=by
  intro X hP hw hK hc i pins s σ H E I hf st hg
  subst hP hw hK
  obtain⟨f0,f1,f2,f3,f4,f5⟩:=hf it (by simp)
  exact wpAny_pyNext_range_end (I.ok.hd hc) st (by have:n≤i:=hg;omega) fun h' eb=>⟨rfl,I.turned (t':=s.toks) (fun b o hb e=>eb b o hb e) f0 f1 f3 f4 f5⟩
 self:=fun _ _ _ _ _ st h=>wpAny_pyIter_rangeiter st h
end L2
namespace L2
open PySem PySem.Spec PyProof.Rows
section
variable {X:Cx} {tg:Expr}
theorem a8J {pins:List (Addr×Obj)}{σ:St}{H:Hp}{s:Shared}{R:It→Hp→Prop}{E:Value→Shared→Prop}{lo hi:Int}{t u v:Tok}{tk:Nat}(I:Inv X pins σ H s)(h1: -(2 ^ 62)≤lo)(h2:lo<2 ^ 62)(h3: -(2 ^ 62)≤hi)(h4:hi<2 ^ 62)
  (q:R (Itr lo (hi -lo).toNat) H):wpAny (model X.prog X.w) X.A (pyIter (.ref s.heap.objs.size)) (PIE X pins σ tg R) E {s with heap:=s.heap.push {cls:= .type "range",data:= .fields #[.int lo t,.int hi u,.int 1 v]},toks:=tk}:=by
 refine wpAny_pyIter_range (IsRange.new ..) (small_one h1 h2 h3 h4) ?_
 have I1:Inv X pins σ H {s with heap:=s.heap.push {cls:= .type "range",data:= .fields #[.int lo t,.int hi u,.int 1 v]},toks:=tk}:=I.kept fun b o e=>Heap.get?_push_of_some _ e
 refine⟨(s.heap.push {cls:= .type "range",data:= .fields #[.int lo t,.int hi u,.int 1 v]}).objs.size,[(s.heap.push {cls:= .type "range",data:= .fields #[.int lo t,.int hi u,.int 1 v]}).objs.size],_,_,H,rfl,
  I1.kept (t':=tk) fun b o e=>Heap.get?_push_of_some _ e,a5K _ lo (hi -lo).toNat,?_,fun b hb=>?_,q⟩
 ·have e1:lo+((0:Nat):Int)*1=lo:=by simp
  have e2:(((hi -lo).toNat:Nat):Int) -((0:Nat):Int)=Builtin.Range.rangeSize lo hi 1:=by rw[rangeSize_one];split<;>omega
  show IsRangeIter _ _ (lo+((0:Nat):Int)*1) ((((hi -lo).toNat:Nat):Int) -((0:Nat):Int)) 1
  rw[e1,e2]
  exact Heap.get?_push_size _ rfl
 ·have e:b=(s.heap.push {cls:= .type "range",data:= .fields #[.int lo t,.int hi u,.int 1 v]}).objs.size:=by simpa using hb
  subst e
  exact I1.fpOk (Nat.le_refl _) (I1.hok.fresh (Nat.le_refl _))
def a8S (ta:TA):TI:=fun σ H R=>ta σ H fun vs H1=>∃j:Int,vs=[.int j]∧-(2 ^ 62)≤j∧j<2 ^ 62∧R (Itr 0 j.toNat) H1
theorem a7P {a:Expr}{ta:TA}{p pos:Pos}(hg:Gl X "range")(hm:X.mg "range"=none)(ha:PA X [a] ta)(hs:starEach [a] X.env=[(false,eval a X.env)]:=by rfl):PI X tg (.Call (.Name "range" p) [a] [] pos) (a8S ta):=by
 intro pins s σ H R I h
 refine Call_ (Z1 I hg hm boot_range (PyProof.Rows.callWith_type1 (thn (ha pos pins s σ H _ I h) fun us s1 ⟨vs,H1,I1,r1,q1⟩=>?_) hs rfl))
 obtain⟨j,e,q1,q2,q⟩:=q1
 subst e
 cases r1 with
 |cons r rr=>
  cases rr
  obtain⟨t,rfl⟩:=r
  exact call_range_1 (a8J I1 (by omega) (by omega) q1 q2 (by simpa using q))
def a2m (fp:List Addr)(h:Heap):List (Addr×Obj):=fp.filterMap fun b=>(h.get? b).map fun o=>(b,o)
theorem Y4 {fp:List Addr}{h:Heap}{b:Addr}{o:Obj}(hb:b∈fp)(e:h.get? b=some o):(b,o)∈a2m fp h:=List.mem_filterMap.mpr ⟨b,hb,by rw[e];rfl⟩
theorem a7N {fp:List Addr}{h:Heap}{p:Addr×Obj}(hp:p∈a2m fp h):p.1∈fp∧h.get? p.1=some p.2:=by
 obtain⟨b,hb,e⟩:=List.mem_filterMap.mp hp
 cases q:h.get? b with
 |none=>rw[q] at e;cases e
 |some o=>
  rw[q] at e
  have e':(b,o)=p:=Option.some.inj e
  subst e'
  exact⟨hb,q⟩
theorem Inv.pinned {pins:List (Addr×Obj)}{σ:St}{H:Hp}{s:Shared}{fp:List Addr}(I:Inv X pins σ H s)(hf:∀b∈fp,a0R X pins H b)(ho:∀b∈fp,∃o,s.heap.get? b=some o∧∀v,o.data≠ .cell v):Inv X (pins++a2m fp s.heap) σ H s:=
 I.pins_of fun p hp=>(List.mem_append.mp hp).elim (fun z=>I.pin p (List.mem_append_right _ z)) fun z=>by
  obtain⟨hb,e⟩:=a7N z
  obtain⟨f0,f1,f2,_⟩:=hf p.1 hb
  obtain⟨o,e',d⟩:=ho p.1 hb
  rw[e] at e';cases e'
  exact⟨e,f0,f1,f2,d⟩
theorem Inv.unpinned {pins pl:List (Addr×Obj)}{σ:St}{H:Hp}{s:Shared}(I:Inv X (pins++pl) σ H s):Inv X pins σ H s:=I.pins_of fun p hp=>I.pin p (List.mem_append_right _ (List.mem_append_left _ hp))
end
end L2
namespace L2
open PySem PySem.Spec PyProof.Rows
abbrev R2:=V→V→Hp→VK→Prop
def OpR (X:Cx)(f:Value→Value→Sem Value)(r:R2):Prop:=
 ∀(pins:List (Addr×Obj)) (s:Shared) (σ:St) (H:Hp) (x y:V) (v u:Value) (Q:VK),Inv X pins σ H s→RelV x v→RelV y u→r x y H Q→
  wpAny (model X.prog X.w) X.A (f v u) (EP X pins σ Q) X.xe s
def CallR (X:Cx)(f:Value)(r:List V→Hp→VK→Prop):Prop:=
 ∀(pins:List (Addr×Obj)) (s:Shared) (σ:St) (H:Hp) (xs:List V) (us:List Value) (Q:VK),Inv X pins σ H s→Vals xs us→r xs H Q→
  wpAny (model X.prog X.w) X.A (call f us) (EP X pins σ Q) X.xe s
def b7a (X:Cx)(r:V→Hp→(Bool→Hp→Prop)→Prop):Prop:=
 ∀(pins:List (Addr×Obj)) (s:Shared) (σ:St) (H:Hp) (x:V) (v:Value) (Q:Bool→Hp→Prop),Inv X pins σ H s→RelV x v→r x H Q→
  wpAny (model X.prog X.w) X.A (truthy v) (TP X pins σ Q) X.xe s
def tOp (r:R2)(ta tb:TE):TE:=fun σ H Q=>ta σ H fun x H1=>tb σ H1 fun y H2=>r x y H2 Q
def tUn (r:V→Hp→VK→Prop)(ta:TE):TE:=fun σ H Q=>ta σ H fun x H1=>r x H1 Q
def rI (C:Int→Int→Prop)(g:Int→Int→V):R2:=fun x y H Q=>∃i j,x= .int i∧y= .int j∧C i j∧Q (g i j) H
def rI0 (g:Int→Int→V):R2:=fun x y H Q=>∃i j,x= .int i∧y= .int j∧Q (g i j) H
def rU (g:Int→V):V→Hp→VK→Prop:=fun x H Q=>∃i,x= .int i∧Q (g i) H
section
variable {X:Cx} {a b c:Expr} {ta tb tc:TE} {pos:Pos}
theorem b4E (ha:PE X a ta)(hb:PE X b tb){pins:List (Addr×Obj)}{s:Shared}{σ:St}{H:Hp}{R:V→V→Hp→Prop}(I:Inv X pins σ H s)
  (h:ta σ H fun x H1=>tb σ H1 fun y H2=>R x y H2) {Q:Value→Shared→Prop} {f:Value→Value→Sem Value}
  (hf:∀v u s2 x y H2,Inv X pins σ H2 s2→RelV x v→RelV y u→R x y H2→wpAny (model X.prog X.w) X.A (f v u) Q X.xe s2):
  wpAny (model X.prog X.w) X.A (eval a X.env) (fun v s₁=>wpAny (model X.prog X.w) X.A (eval b X.env) (fun u s₂=>wpAny (model X.prog X.w) X.A (f v u) Q X.xe s₂) X.xe s₁) X.xe s:=by
 refine thn (ha pins s σ H _ I h) fun v s1 ⟨x,H1,I1,r1,q1⟩=>?_
 refine thn (hb pins s1 σ H1 _ I1 q1) fun u s2 ⟨y,H2,I2,r2,q2⟩=>?_
 exact hf v u s2 x y H2 I2 r1 r2 q2
theorem b5f {op:Operator}{r:R2}(ho:OpR X (binaryOp op) r)(ha:PE X a ta)(hb:PE X b tb):PE X (.BinOp a op b pos) (tOp r ta tb):=by
 intro pins s σ H Q I h
 exact wpAny_BinOp (b4E ha hb I h fun v u s2 x y H2 I2 rx ry q=>ho pins s2 σ H2 x y v u Q I2 rx ry q)
theorem opI {f:Value→Value→Sem Value}{C:Int→Int→Prop}{g:Int→Int→Int}
  (rule:∀(i j:Int) (t u:Tok) (s:Shared) (Q:Value→Shared→Prop) (E:Value→Shared→Prop),C i j→Q (.int (g i j) s.toks) {s with toks:=s.toks+1}→wpAny (model X.prog X.w) X.A (f (.int i t) (.int j u)) Q E s):
  OpR X f (rI C fun i j=> .int (g i j)):=by
 intro pins s σ H x y v u Q I rx ry h
 obtain⟨i,j,rfl,rfl,hc,q⟩:=h
 obtain⟨t,rfl⟩:=rx
 obtain⟨t',rfl⟩:=ry
 exact rule i j t t' s _ _ hc ⟨.int (g i j),H,I.tok _,⟨_,rfl⟩,q⟩
theorem b3R {f:Value→Value→Sem Value}{g:Int→Int→Int}
  (rule:∀(i j:Int) (t u:Tok) (s:Shared) (Q:Value→Shared→Prop) (E:Value→Shared→Prop),Q (.int (g i j) s.toks) {s with toks:=s.toks+1}→wpAny (model X.prog X.w) X.A (f (.int i t) (.int j u)) Q E s):
  OpR X f (rI0 fun i j=> .int (g i j)):=by
 intro pins s σ H x y v u Q I rx ry h
 obtain⟨i,j,rfl,rfl,q⟩:=h
 obtain⟨t,rfl⟩:=rx
 obtain⟨t',rfl⟩:=ry
 exact rule i j t t' s _ _ ⟨.int (g i j),H,I.tok _,⟨_,rfl⟩,q⟩
theorem b4p {f:Value→Value→Sem Value}{g:Int→Int→Bool}
  (rule:∀(i j:Int) (t u:Tok) (s:Shared) (Q:Value→Shared→Prop) (E:Value→Shared→Prop),Q (.bool (g i j)) s→wpAny (model X.prog X.w) X.A (f (.int i t) (.int j u)) Q E s):
  OpR X f (rI0 fun i j=> .bl (g i j)):=by
 intro pins s σ H x y v u Q I rx ry h
 obtain⟨i,j,rfl,rfl,q⟩:=h
 obtain⟨t,rfl⟩:=rx
 obtain⟨t',rfl⟩:=ry
 exact rule i j t t' s _ _ ⟨.bl (g i j),H,I,rfl,q⟩
def b5p (i j:Int):Prop:=0<j∧j<1073741824
def b7w (i j:Int):Prop:=0≤j∧j≤1000000∧i.natAbs<2 ^ 64
def CMul (i j:Int):Prop:=(-(2 ^ 64)<i∧i<2 ^ 64)∨(-(2 ^ 64)<j∧j<2 ^ 64)
theorem CMul.ok {i j:Int}(h:CMul i j):IntMulOk i j:=by
 rcases h with⟨h1,h2⟩|⟨h1,h2⟩
 ·exact .of_left (intBits_le_64 h1 h2)
 ·exact .of_right (intBits_le_64 h1 h2)
theorem a5N (k:Nat):(0:Int)≤2 ^ k:=by
 rw[two_pow_cast]
 exact Int.natCast_nonneg _
theorem op_add:OpR X (binaryOp .Add) (rI0 fun i j=> .int (i+j)):=b3R fun _ _ _ _ _ _ _ q=>add_int q
theorem b0x:OpR X (binaryOp .Sub) (rI0 fun i j=> .int (i -j)):=b3R fun _ _ _ _ _ _ _ q=>sub_int q
theorem op_mul:OpR X (binaryOp .Mult) (rI CMul fun i j=> .int (i*j)):=opI fun _ _ _ _ _ _ _ hc q=>mul_int q hc.ok
theorem u7:OpR X (binaryOp .FloorDiv) (rI b5p fun i j=> .int (i/j)):=opI fun i j _ _ _ _ _ hc q=>by
 have h1:(0:Int)<j:=hc.1
 have h2:j<1073741824:=hc.2
 exact floordiv_int (by omega) (by rw[Int.fdiv_eq_ediv_of_nonneg i (by omega)];exact q) (.inl (PyProof.noPylong_small (by omega)))
theorem j7:OpR X (binaryOp .Mod) (rI (fun _ j=>0<j) fun i j=> .int (i % j)):=opI fun i j _ _ _ _ _ hc q=>by
 have h1:(0:Int)<j:=hc
 exact mod_int' (by omega) (by rw[Int.fmod_eq_emod_of_nonneg i (by omega)];exact q)
theorem a9t:OpR X (binaryOp .RShift) (rI (fun _ j=>0≤j) fun i j=> .int (i/2 ^ j.toNat)):=opI fun i j _ _ _ _ _ hc q=>
 rshift_int hc (by rw[Int.fdiv_eq_ediv_of_nonneg i (a5N _)];exact q)
theorem a9S:OpR X (binaryOp .BitAnd) (rI0 fun i j=> .int (Builtin.bitAnd i j)):=b3R fun _ _ _ _ _ _ _ q=>and_int q
end
def b5T:V→V→Bool
 | .non,.non=>true| .non,.int _=>true| .int _,.non=>true| .non,.bl _=>true| .bl _,.non=>true| .non,.str _=>true| .str _,.non=>true
 | .int _,.int _=>true| .bl _,.bl _=>true| .str _,.str _=>true| .byt _,.byt _=>true
 | .int _,.str _=>true| .str _,.int _=>true| .bl _,.str _=>true| .str _,.bl _=>true
 |_,_=>false
def rEq:R2:=fun x y H Q=>b5T x y=true∧Q (.bl (decide (x=y))) H
def rNe:R2:=fun x y H Q=>b5T x y=true∧Q (.bl (!decide (x=y))) H
theorem a2b {i j:Int}:decide (V.int i=V.int j)=(i==j):=by
 rw[Bool.eq_iff_iff]
 simp
theorem a3J {i j:Bool}:decide (V.bl i=V.bl j)=(i==j):=by
 rw[Bool.eq_iff_iff]
 simp
theorem a3Z {i j:Str}:decide (V.str i=V.str j)=(i==j):=by
 rw[Bool.eq_iff_iff]
 simp
theorem a6I {i j:Array UInt8}:decide (V.byt i=V.byt j)=(i.toList==j.toList):=by
 rw[Bool.eq_iff_iff]
 cases i
 cases j
 simp
section
variable {X:Cx} {a b c:Expr} {ta tb tc:TE} {pos:Pos}
theorem q9 {pins:List (Addr×Obj)}{σ:St}{H:Hp}{s:Shared}{Q:VK}{k k':Bool}(I:Inv X pins σ H s)(q:Q (.bl k) H)(e:k=k'):EP X pins σ Q (.bool k') s:=by
 subst e
 exact⟨.bl k,H,I,rfl,q⟩
theorem op_eq:OpR X (compareOp .Eq) rEq:=by
 intro pins s σ H x y v u Q I rx ry h
 obtain⟨hs,q⟩:=h
 cases x with
 |non=>
  cases rx
  cases y with
  |non=>cases ry;exact PySem.EqNone.eq_none_none (q9 I q (by simp))
  |bl j=>cases ry;exact PySem.EqNone.eq_none_bool (q9 I q (by simp))
  |int j=>obtain⟨t',rfl⟩:=ry;exact PySem.EqNone.eq_none_int (q9 I q (by simp))
  |str j=>obtain⟨t',rfl⟩:=ry;exact PySem.EqNone.eq_none_str (q9 I q (by simp))
  |_=>exact absurd (show false=true from hs) Bool.false_ne_true
 |bl i=>
  cases rx
  cases y with
  |non=>cases ry;exact PySem.EqNone.eq_bool_none (q9 I q (by simp))
  |bl j=>cases ry;exact eq_bool (q9 I q a3J)
  |str j=>obtain⟨t',rfl⟩:=ry;exact PySem.EqMixed.eq_bool_str (q9 I q (by simp))
  |_=>exact absurd (show false=true from hs) Bool.false_ne_true
 |int i=>
  obtain⟨t,rfl⟩:=rx
  cases y with
  |non=>cases ry;exact PySem.EqNone.eq_int_none (q9 I q (by simp))
  |int j=>obtain⟨t',rfl⟩:=ry;exact eq_int (q9 I q a2b)
  |str j=>obtain⟨t',rfl⟩:=ry;exact PySem.EqMixed.eq_int_str (q9 I q (by simp))
  |_=>exact absurd (show false=true from hs) Bool.false_ne_true
 |str i=>
  obtain⟨t,rfl⟩:=rx
  cases y with
  |non=>cases ry;exact PySem.EqNone.eq_str_none (q9 I q (by simp))
  |bl j=>cases ry;exact PySem.EqMixed.eq_str_bool (q9 I q (by simp))
  |int j=>obtain⟨t',rfl⟩:=ry;exact PySem.EqMixed.eq_str_int (q9 I q (by simp))
  |str j=>obtain⟨t',rfl⟩:=ry;exact eq_str (q9 I q a3Z)
  |_=>exact absurd (show false=true from hs) Bool.false_ne_true
 |byt i=>
  obtain⟨t,rfl⟩:=rx
  cases y with
  |byt j=>obtain⟨t',rfl⟩:=ry;exact PySem.W.eq_bytes (q9 I q a6I)
  |_=>exact absurd (show false=true from hs) Bool.false_ne_true
 |_=>cases y<;>exact absurd (show false=true from hs) Bool.false_ne_true
theorem op_ne:OpR X (compareOp .NotEq) rNe:=by
 intro pins s σ H x y v u Q I rx ry h
 obtain⟨hs,q⟩:=h
 cases x with
 |non=>
  cases rx
  cases y with
  |non=>cases ry;exact PySem.EqNone.ne_none_none (q9 I q (by simp))
  |bl j=>cases ry;exact PySem.EqNone.ne_none_bool (q9 I q (by simp))
  |int j=>obtain⟨t',rfl⟩:=ry;exact PySem.EqNone.ne_none_int (q9 I q (by simp))
  |str j=>obtain⟨t',rfl⟩:=ry;exact PySem.EqNone.ne_none_str (q9 I q (by simp))
  |_=>exact absurd (show false=true from hs) Bool.false_ne_true
 |bl i=>
  cases rx
  cases y with
  |non=>cases ry;exact PySem.EqNone.ne_bool_none (q9 I q (by simp))
  |bl j=>cases ry;exact ne_bool (q9 I q (congrArg not a3J))
  |str j=>obtain⟨t',rfl⟩:=ry;exact PySem.EqMixed.ne_bool_str (q9 I q (by simp))
  |_=>exact absurd (show false=true from hs) Bool.false_ne_true
 |int i=>
  obtain⟨t,rfl⟩:=rx
  cases y with
  |non=>cases ry;exact PySem.EqNone.ne_int_none (q9 I q (by simp))
  |int j=>obtain⟨t',rfl⟩:=ry;exact ne_int (q9 I q (congrArg not a2b))
  |str j=>obtain⟨t',rfl⟩:=ry;exact PySem.EqMixed.ne_int_str (q9 I q (by simp))
  |_=>exact absurd (show false=true from hs) Bool.false_ne_true
 |str i=>
  obtain⟨t,rfl⟩:=rx
  cases y with
  |non=>cases ry;exact PySem.EqNone.ne_str_none (q9 I q (by simp))
  |bl j=>cases ry;exact PySem.EqMixed.ne_str_bool (q9 I q (by simp))
  |int j=>obtain⟨t',rfl⟩:=ry;exact PySem.EqMixed.ne_str_int (q9 I q (by simp))
  |str j=>obtain⟨t',rfl⟩:=ry;exact ne_str (q9 I q (congrArg not a3Z))
  |_=>exact absurd (show false=true from hs) Bool.false_ne_true
 |byt i=>
  obtain⟨t,rfl⟩:=rx
  cases y with
  |byt j=>obtain⟨t',rfl⟩:=ry;exact PySem.W.ne_bytes (q9 I q (congrArg not a6I))
  |_=>exact absurd (show false=true from hs) Bool.false_ne_true
 |_=>cases y<;>exact absurd (show false=true from hs) Bool.false_ne_true
theorem op_lt:OpR X (compareOp .Lt) (rI0 fun i j=> .bl (decide (i<j))):=b4p fun _ _ _ _ _ _ _ q=>lt_int q
theorem b5l:OpR X (compareOp .LtE) (rI0 fun i j=> .bl (decide (i≤j))):=b4p fun _ _ _ _ _ _ _ q=>le_int q
theorem b2N:OpR X (compareOp .Gt) (rI0 fun i j=> .bl (decide (j<i))):=b4p fun _ _ _ _ _ _ _ q=>gt_int q
theorem a7X:OpR X (compareOp .Lt) (fun x y H Q=>∃i j,x= .str i∧y= .str j∧Q (.bl (decide (i.cps.toList<j.cps.toList))) H):=by
 intro pins s σ H x y v u Q I rx ry h
 obtain⟨i,j,rfl,rfl,q⟩:=h
 obtain⟨t,rfl⟩:=rx
 obtain⟨t',rfl⟩:=ry
 exact lt_str (q9 I q rfl)
theorem a8j:OpR X (compareOp .In) (fun x y H Q=>∃i j,x= .str i∧y= .str j∧Q (.bl (!(Builtin.Str.occurrences j i 0 j.length 1).isEmpty)) H):=by
 intro pins s σ H x y v u Q I rx ry h
 obtain⟨i,j,rfl,rfl,q⟩:=h
 obtain⟨t,rfl⟩:=rx
 obtain⟨t',rfl⟩:=ry
 exact in_str (q9 I q rfl)
theorem OpR.or {f:Value→Value→Sem Value}{r r':R2}(h:OpR X f r)(h':OpR X f r'):OpR X f (fun x y H Q=>r x y H Q∨r' x y H Q):=by
 intro pins s σ H x y v u Q I rx ry q
 rcases q with q|q
 ·exact h pins s σ H x y v u Q I rx ry q
 ·exact h' pins s σ H x y v u Q I rx ry q
theorem t5 (b:Expr){op:CmpOp}(h:op≠ .In:=by decide)(h2:op≠ .NotIn:=by decide):behindInMarks op b=false:=by
 have e1:(op==CmpOp.In)=false:=by cases op<;>first|rfl|exact absurd rfl h
 have e2:(op==CmpOp.NotIn)=false:=by cases op<;>first|rfl|exact absurd rfl h2
 cases b<;>simp [behindInMarks,e1,e2]
theorem b1D {op:CmpOp}{r:R2}(ho:OpR X (compareOp op) r)(ha:PE X a ta)(hb:PE X b tb)(hm:behindInMarks op b=false):PE X (.Compare a [op] [b] pos) (tOp r ta tb):=by
 intro pins s σ H Q I h
 exact wpAny_Compare1 (b4E ha hb I h fun v u s2 x y H2 I2 rx ry q=>ho pins s2 σ H2 x y v u Q I2 rx ry q) hm
def a9p (t:TE):TT:=fun σ H Q=>t σ H fun x H'=>∃k,x= .bl k∧Q k H'
theorem b1W {op:CmpOp}{r:R2}(ho:OpR X (compareOp op) r)(ha:PE X a ta)(hb:PE X b tb)(hm:behindInMarks op b=false):PT X (.Compare a [op] [b] pos) (a9p (tOp r ta tb)):=by
 intro pins s σ H Q I h
 refine wpAny_isTrue_Compare1 (thn (ha pins s σ H _ I h) fun v s1 ⟨x,H1,I1,r1,q1⟩=>thn (hb pins s1 σ H1 _ I1 q1) fun u s2 ⟨y,H2,I2,r2,q2⟩=>
  thn (ho pins s2 σ H2 x y v u _ I2 r1 r2 q2) fun c s3 ⟨z,H3,I3,r3,k,e,q3⟩=>?_) hm
 subst e
 cases r3
 exact wpAny_truthy_bool ⟨H3,I3,q3⟩
def b4k (r r':R2)(ta tb tc:TE):TE:=fun σ H Q=>ta σ H fun x H1=>tb σ H1 fun y H2=>r x y H2 fun z H3=>∃k,z= .bl k∧
 (if k=true then tc σ H3 fun w' H4=>r' y w' H4 Q else Q (.bl false) H3)
def b0u (K:PySem.W.Frag)(x:V)(H:Hp)(k:Bool):Prop:=
 match x with
 | .non=>k=false
 | .bl b=>k=b
 | .int i=>k=(i !=0)
 | .str y=>y.length≤sizeLine∧k=((y.length:Int) !=0)
 | .byt y=>y.size≤sizeLine∧k=((y.size:Int) !=0)
 | .ref p=>(∃xs,SqL K H p xs∧k=!xs.isEmpty)∨(∃xs,SqT K H p xs∧k=!xs.isEmpty)∨∃kvs,H p=some (.dK kvs)∧k=!kvs.isEmpty
 |_=>False
theorem a5L {κ:Type}{kvs:List (κ×V)}{vs:List (κ×Value)}(r:KV kvs vs):(!vs.isEmpty)=!kvs.isEmpty:=by
 cases r<;>rfl
theorem a2I {xs:List V}{its:List Value}(r:Vals xs its):(!its.toArray.isEmpty)=!xs.isEmpty:=by
 cases r<;>simp
theorem a1C:(sizeLine:Nat)<2 ^ 63:=by rw[sizeLine_eq];decide
theorem b3g:b7a X (fun x H Q=>∃k,b0u X.K x H k∧Q k H):=by
 intro pins s σ H x v Q I rx h
 obtain⟨k,e,q⟩:=h
 have hl:=a1C
 have hs:sizeLine=16777216:=sizeLine_eq
 cases x with
 |non=>
  cases rx
  have e':k=false:=e
  subst e'
  exact truthy_none ⟨H,I,q⟩
 |bl b=>
  cases rx
  have e':k=b:=e
  subst e'
  exact wpAny_truthy_bool ⟨H,I,q⟩
 |int i=>
  obtain⟨t,rfl⟩:=rx
  have e':k=(i !=0):=e
  subst e'
  exact PySem.P.truthy_int ⟨H,I,q⟩
 |str y=>
  obtain⟨t,rfl⟩:=rx
  obtain⟨hy,e'⟩:y.length≤sizeLine∧k=((y.length:Int) !=0):=e
  subst e'
  exact PySem.P.truthy_str (by omega) ⟨H,I.tok _,q⟩
 |byt y=>
  obtain⟨t,rfl⟩:=rx
  obtain⟨hy,e'⟩:y.size≤sizeLine∧k=((y.size:Int) !=0):=e
  subst e'
  exact PySem.W.truthy_bytes (by omega) ⟨H,I.tok _,q⟩
 |ref p=>
  cases rx
  have e':(∃xs,SqL X.K H p xs∧k=!xs.isEmpty)∨(∃xs,SqT X.K H p xs∧k=!xs.isEmpty)∨∃kvs,H p=some (.dK kvs)∧k=!kvs.isEmpty:=e
  rcases e' with⟨xs,hx,e'⟩|⟨xs,hx,e'⟩|⟨kvs,hx,e'⟩
  ·subst e'
   obtain⟨its,r,pl,hz⟩:=I.list hx
   have hlen:=r.length
   exact wpAny_truthy_list pl.isList (by simp only[List.size_toArray];omega) ⟨H,I.tok _,by rw[a2I r];exact q⟩
  ·subst e'
   obtain⟨its,r,pl,hz⟩:=I.tuple hx
   have hlen:=r.length
   exact truthy_tuple pl (by simp only[List.size_toArray];omega) ⟨H,I.tok _,by rw[a2I r];exact q⟩
  ·subst e'
   obtain⟨hz,hS,vs,r,m⟩:kvs.length≤sizeLine∧(p==sysModules)=false∧∃vs,KV kvs vs∧s.heap.DictOf (j0 X.prog X.w) p vs:=I.hok p _ hx
   have hlen:kvs.length=vs.length:=Paired.length r
   exact wpAny_truthy_dict hS m (by omega) ⟨H,I.tok _,by rw[a5L r];exact q⟩
 |_=>exact(show False from e).elim
theorem b0I (ha:PE X a ta)(he:∀whole,isTrue a X.env whole=(do let v←whole;standAt a.pos;holding [v] (truthy v))):
  PT X a (fun σ H Q=>ta σ H fun x H'=>∃k,b0u X.K x H' k∧Q k H'):=by
 intro pins s σ H Q I h
 exact isTrue_plain (thn (ha pins s σ H _ I h) fun v s1 ⟨x,H1,I1,r1,q1⟩=>b3g pins s1 σ H1 x v Q I1 r1 q1) (he _)
theorem op_add_str:OpR X (binaryOp .Add) (fun x y H Q=>∃i j,x= .str i∧y= .str j∧i.length+j.length≤sizeLine∧Q (.str (i++j)) H):=by
 intro pins s σ H x y v u Q I rx ry h
 obtain⟨i,j,rfl,rfl,hz,q⟩:=h
 obtain⟨t,rfl⟩:=rx
 obtain⟨t',rfl⟩:=ry
 exact add_str (fun t' tk=>⟨.str (i++j),H,I.tok _,⟨_,rfl⟩,q⟩) hz
theorem P0 {x:V}{us:List Value}(r:Vals [x] us):∃u,us=[u]∧RelV x u:=by
 cases r with
 |cons r1 r2=>cases r2;exact⟨_,rfl,r1⟩
theorem W2 {x y:V}{us:List Value}(r:Vals [x,y] us):∃u w',us=[u,w']∧RelV x u∧RelV y w':=by
 cases r with
 |cons r1 r2=>
  cases r2 with
  |cons r3 r4=>cases r4;exact⟨_,_,rfl,r1,r3⟩
theorem a3j (hc:X.calm=true):CallR X (.builtin "min") (fun xs H Q=>∃i j,xs=[.int i,.int j]∧Q (.int (if j<i then j else i)) H):=by
 intro pins s σ H xs us Q I r h
 obtain⟨i,j,rfl,q⟩:=h
 obtain⟨u,w',rfl,⟨t,rfl⟩,⟨t',rfl⟩⟩:=W2 r
 refine min_two_ints (I.ok.hd hc) fun h' tk k=>⟨_,H,I.kept k,?_,q⟩
 by_cases hj:j<i
 ·rw[if_pos hj,if_pos hj];exact⟨_,rfl⟩
 ·rw[if_neg hj,if_neg hj];exact⟨_,rfl⟩
theorem a0n:CallR X (.type "int") (fun xs H Q=>(∃i,xs=[.int i]∧Q (.int i) H)∨∃k,xs=[.bl k]∧Q (.int (if k then 1 else 0)) H):=by
 intro pins s σ H xs us Q I r h
 rcases h with⟨i,rfl,q⟩|⟨k,rfl,q⟩
 ·obtain⟨u,rfl,t,rfl⟩:=P0 r
  exact call_int_int ⟨.int i,H,I,⟨_,rfl⟩,q⟩
 ·obtain⟨u,rfl,r1⟩:=P0 r
  cases r1
  exact call_int_bool ⟨.int (if k then 1 else 0),H,I.tok _,⟨_,rfl⟩,q⟩
def b6G (K:PySem.W.Frag)(x:V)(H:Hp)(n:Nat):Prop:=
 match x with
 | .str y=>y.length≤sizeLine∧n=y.length
 | .byt y=>y.size≤sizeLine∧n=y.size
 | .ref p=>(∃xs,SqL K H p xs∧n=xs.length)∨∃xs,SqT K H p xs∧n=xs.length
 |_=>False
theorem call_len:CallR X (.builtin "len") (fun xs H Q=>∃x n,xs=[x]∧b6G X.K x H n∧Q (.int n) H):=by
 intro pins s σ H xs us Q I r h
 obtain⟨x,n,rfl,e,q⟩:=h
 obtain⟨u,rfl,rx⟩:=P0 r
 have hl:=a1C
 have hs:sizeLine=16777216:=sizeLine_eq
 cases x with
 |str y=>
  obtain⟨t,rfl⟩:=rx
  obtain⟨hy,e'⟩:y.length≤sizeLine∧n=y.length:=e
  subst e'
  exact len_str (by omega) ⟨.int _,H,I.tok _,⟨_,rfl⟩,q⟩
 |byt y=>
  obtain⟨t,rfl⟩:=rx
  obtain⟨hy,e'⟩:y.size≤sizeLine∧n=y.size:=e
  subst e'
  exact PySem.W.len_bytes (by omega) ⟨.int _,H,I.tok _,⟨_,rfl⟩,q⟩
 |ref p=>
  cases rx
  have e':(∃xs,SqL X.K H p xs∧n=xs.length)∨∃xs,SqT X.K H p xs∧n=xs.length:=e
  rcases e' with⟨xs,hx,e'⟩|⟨xs,hx,e'⟩
  ·subst e'
   obtain⟨its,r',pl,hz⟩:=I.list hx
   have hlen:=r'.length
   exact Calls.call_len_list pl.isList (by simp only[List.size_toArray];omega) ⟨.int xs.length,H,I.tok _,⟨_,by simp only[List.size_toArray];rw[hlen]⟩,q⟩
  ·subst e'
   obtain⟨its,r',pl,hz⟩:=I.tuple hx
   have hlen:=r'.length
   exact len_tuple pl (by simp only[List.size_toArray];omega) ⟨.int xs.length,H,I.tok _,⟨_,by simp only[List.size_toArray];rw[hlen]⟩,q⟩
 |_=>exact(show False from e).elim
end
end L2
namespace L2
open PySem PySem.Spec PyProof.Rows
structure ObjM (h:Heap) (x dx C:Addr) (mA:Str→Option Value):Prop where
 obj:h.get? x=some (PySem.W.instObj C dx)
 ns:h.Ns1 dx mA
 ne:dx≠x
theorem a7V {h:Heap}{dx:Addr}{mA:Str→Option Value}(n:h.Ns1 dx mA):∃od,h.get? dx=some od∧∀name,PySem.W.lookIn name od=some (mA name):=by
 obtain⟨o,es,ep,ho,hd,hk,_,hm⟩:=n
 refine⟨o,ho,fun name=>?_⟩
 have e:=hm name
 unfold nsFind findBy at e
 rw[←Array.find?_toList] at e
 unfold PySem.W.lookIn
 rw[hd]
 dsimp only
 split
 ·rename_i y q
  rw[q] at e
  exact congrArg some e
 ·rename_i q
  rw[q] at e
  have a:es.toList.any (·.refKey)=false:=by
   rw[List.any_eq_false]
   intro y hy
   obtain⟨z,t,hkey⟩:=hk y (Array.mem_toList_iff.mp hy)
   simp [DictEntry.refKey,hkey]
  have a':¬es.toList.any (·.refKey)=true:=by rw[a];exact Bool.false_ne_true
  rw[if_neg a']
  exact congrArg some e
theorem ObjM.look {h:Heap}{x dx C:Addr}{mA:Str→Option Value}(I:ObjM h x dx C mA):∃od,PySem.W.InstAt h x (PySem.W.instObj C dx) C (some od)∧∀name,PySem.W.lookIn name od=some (mA name):=
 let ⟨od,ho,hl⟩:=a7V I.ns
 ⟨od,⟨I.obj,rfl,rfl,ho⟩,hl⟩
section
variable {prog:Program} {w:World} {A:Around} {E:Value→Shared→Prop} {s:Shared} {K:PySem.W.Frag} {x dx C f:Addr} {mA:Str→Option Value} {name:Str} {v:Value}
end
theorem RelO.some_of {v:V}{o:Option Value}(r:RelO (some v) o):∃u,o=some u∧RelV v u:=by
 cases o with
 |none=>exact(show False from r).elim
 |some u=>exact⟨u,rfl,r⟩
theorem RelO.none_of {o:Option Value}(r:RelO none o):o=none:=by
 cases o with
 |none=>rfl
 |some u=>exact(show False from r).elim
section
variable {P:Program} {w:World} {H H':Hp} {h h':Heap} {a C dx:Addr} {fs fs':List (Str×V)}
end
structure Cls (K:PySem.W.Frag) (C:Addr):Prop where
 pg:PySem.W.plainGet K C Str.empty=true
 hd:PySem.W.hasDictIn K C=true
 po:PySem.W.plainOver K C=true
 sa:PySem.W.findIn K (.ref C) "__setattr__"=some (some (.builtin "object.__setattr__"))
theorem Cls.get {K:PySem.W.Frag}{C:Addr}(c:Cls K C)(f:Str):PySem.W.plainGet K C f=true:=c.pg
structure Con (K:PySem.W.Frag) (C:Addr) (f:Str) (v:V) (u:Value):Prop where
 at_:PySem.W.findIn K (.ref C) f=some (some u)
 rel:RelV v u
 get:PySem.W.specialIn K u "__get__"=some none
 cp:PySem.W.copiedNames.contains f=false
structure b7K (K:PySem.W.Frag) (C:Addr) (m:Str) (f:Addr):Prop where
 at_:PySem.W.findIn K (.ref C) m=some (some (.ref f))
 fn:PySem.W.isFn K (.ref f)=true
 kp:PySem.W.keepIn K (.ref f)=true
section
variable {X:Cx} {pins:List (Addr×Obj)} {σ:St} {H:Hp} {s:Shared} {a C dx:Addr} {fs:List (Str×V)} {f:Str} {v:V} {A:Around} {E:Value→Shared→Prop}
theorem Inv.made (I:Inv X pins σ H s):Inv X pins σ (upd (upd H s.heap.objs.size (.own (s.heap.objs.size+1))) (s.heap.objs.size+1) (.ins C s.heap.objs.size []))
  {s with heap:=(s.heap.push PySem.W.emptyDict).push (PySem.W.instObj C s.heap.objs.size)}:=by
 have e1:(s.heap.push PySem.W.emptyDict).get? s.heap.objs.size=some PySem.W.emptyDict:=Heap.get?_push_size s.heap rfl
 have e2:((s.heap.push PySem.W.emptyDict).push (PySem.W.instObj C s.heap.objs.size)).get? (s.heap.objs.size+1)=some (PySem.W.instObj C s.heap.objs.size):=by
  have:=Heap.get?_push_size (s.heap.push PySem.W.emptyDict) (o:=PySem.W.instObj C s.heap.objs.size) rfl
  rwa [Heap.size_push] at this
 have e3:(s.heap.push PySem.W.emptyDict).Ns s.heap.objs.size (fun _=>none):=⟨PySem.W.emptyDict, #[],_,e1,rfl,(fun e he=>absurd he (by simp)),fun _=>rfl⟩
 have I1:=I.laid (a:=s.heap.objs.size) (o:= .own (s.heap.objs.size+1)) (h':=s.heap.push PySem.W.emptyDict) (t':=s.toks) (fun b u q=>Heap.get?_push_of_some _ q) (Nat.le_refl _) ⟨_,e1⟩
 refine I1.laid (a:=s.heap.objs.size+1) (o:= .ins C s.heap.objs.size []) (t':=s.toks) (fun b u q=>Heap.get?_push_of_some _ q) (Nat.le_of_eq (Heap.size_push _ _)) ?_
 have ne:s.heap.objs.size≠s.heap.objs.size+1:=Nat.ne_of_lt (Nat.lt_succ_self _)
 refine⟨by rw[b5 ne,d7],Nat.zero_le _,ne,e2,fun _=>none,(Heap.Ns1.of_empty e3).at fun o q=>Heap.get?_push_of_some _ q,fun _=>True.intro,fun y hy=>absurd rfl hy⟩
end
section
variable {X:Cx} {o e value:Expr} {f:Str} {pos pos' tpos:Pos} {ta tv:TE}
end
section
variable {X:Cx} {pins:List (Addr×Obj)} {σ:St} {H:Hp} {s:Shared} {A:Around} {E:Value→Shared→Prop} {Q:Value→Shared→Prop} {c:Value} {b:Bool}
inductive a2c (K:PySem.W.Frag) (H:Hp):V→Value→Prop where
 |non:a2c K H .non (.type "NoneType")
 |bl (x:Bool):a2c K H (.bl x) (.type "bool")
 |int (i:Int):a2c K H (.int i) (.type "int")
 |str (x:Str):a2c K H (.str x) (.type "str")
 |flt (x:UInt64):a2c K H (.flt x) (.type "float")
 |lst {a:Addr} {xs:List V} (e:H a=some (.lst xs)):a2c K H (.ref a) (.type "list")
 |frz {a:Addr} {o:Obj} {xs:List V} (e:H a=some (.frz o (.lst xs))):a2c K H (.ref a) (.type "list")
 |tup {a:Addr} {xs:List V} (e:H a=some (.tup xs)):a2c K H (.ref a) (.type "tuple")
 |dK {a:Addr} {kvs:List (Key×V)} (e:H a=some (.dK kvs)):a2c K H (.ref a) (.type "dict")
 |dT {a:Addr} {kvs:List (List Key×V)} (e:H a=some (.dT kvs)):a2c K H (.ref a) (.type "dict")
 |ins {a C dx:Addr} {fs:List (Str×V)} (e:H a=some (.ins C dx fs)) (cl:Cls K C) (ha:PySem.W.findIn K (.ref C) "__class__"=some (some (.builtin "object.__class__")))
   (hn:PySem.W.specialIn K (.builtin "object.__class__") "__get__"=some (some (.builtin "getset_descriptor.__get__"))) (htk:PySem.W.takesIn K (.builtin "object.__class__")=some true)
   (hm:PySem.W.mroIn K C (.type "object")=some true):a2c K H (.ref a) (.ref C)
end
end L2
namespace L2
open PySem PySem.Spec PyProof.Rows
structure Room (k:Nat) (A:Around):Prop where
 hd:A.handled=none
 dp:A.depth+3*k+5<recursionLimit
 un:A.units+16*k+200<cLine
theorem Room.mono {j k:Nat}{A:Around}(r:Room k A)(h:j≤k):Room j A:=⟨r.hd,by have:=r.dp;omega,by have:=r.un;omega⟩
theorem Room.deeper {k:Nat}{A:Around}(r:Room (k+1) A)(env:Env):Room k (A.deeper env):=
 ⟨r.hd,by have:=r.dp;show A.depth+1+3*k+5<_;omega,by have:=r.un;show A.units+3+16*k+200<_;omega⟩
theorem Room.in1 {k:Nat}{A:Around}(r:Room (k+1) A):Room k A.in1:=
 ⟨r.hd,by have:=r.dp;show A.depth+3*k+5<_;omega,by have:=r.un;show A.units+1+16*k+200<_;omega⟩
theorem a5O {A:Around}{C:Addr}{us:List Value}{kw:List (Str×Value)}:(A.under (.builtin "type.__call__" ⟨.ref C::us,kw⟩)).depth=A.depth+1:=by
 first|rfl|simp [Around.under,Code.weight,Code.isCreation,Code.isGuard,Code.isCaller,Code.frames,Code.isFrame,guardIds]
theorem a6c {A:Around}{C:Addr}{us:List Value}{kw:List (Str×Value)}:(A.under (.builtin "type.__call__" ⟨.ref C::us,kw⟩)).units=A.units+1:=by
 first|rfl|simp [Around.under,Code.cUnits,Code.frames,Code.isFrame]
theorem Room.make {k:Nat}{A:Around}(r:Room (k+1) A)(C:Addr)(us:List Value)(kw:List (Str×Value)):Room k (A.under (.builtin "type.__call__" ⟨.ref C::us,kw⟩)):=
 ⟨r.hd,by have:=r.dp;rw[a5O];omega,by have:=r.un;rw[a6c];omega⟩
theorem Room.depth {k:Nat}{A:Around}(r:Room k A):A.depth<recursionLimit:=by have:=r.dp;omega
theorem Room.units {k:Nat}{A:Around}(r:Room k A):A.units+64<cLine:=by have:=r.un;omega
def b1m:TA:=fun _ H Q=>Q [] H
def a7u (ta:TE)(tr:TA):TA:=fun σ H Q=>ta σ H fun x H1=>tr σ H1 fun xs H2=>Q (x::xs) H2
section
variable {X:Cx} {e:Expr} {es:List Expr} {te:TE} {t:TA} {pos:Pos}
theorem b3u:PA X [] b1m:=fun _ _ _ _ H Q I h=>Calls.spliced_nil ⟨[],H,I,.nil,h⟩
theorem b1U (ha:PE X e te)(hr:PA X es t)(hs:starEach (e::es) X.env=(false,eval e X.env)::starEach es X.env:=by rfl):PA X (e::es) (a7u te t):=by
 intro pos pins s σ H Q I h
 rw[hs]
 show wpAny _ _ (spliced ((false,eval e X.env)::backTo pos (starEach es X.env))) _ _ s
 refine Calls.spliced_cons (thn (ha pins s σ H _ I h) fun u s1 ⟨x,H1,I1,r1,q1⟩=>?_)
 exact thn (hr pos pins s1 σ H1 _ I1 q1) fun us s2 ⟨xs,H2,I2,r2,q2⟩=>⟨x::xs,H2,I2,.cons r1 r2,q2⟩
def b4g (t:TA):TE:=fun σ H Q=>t σ H fun xs H1=>xs.length≤sizeLine∧∀p,H1 p=none→Q (.ref p) (upd H1 p (.tup xs))
def b4q (t:TA):TE:=fun σ H Q=>t σ H fun xs H1=>xs.length≤sizeLine∧∀p,H1 p=none→Q (.ref p) (upd H1 p (.lst xs))
theorem b3h {x1}(h:PA X es t):PE X (.Tuple es x1 pos) (b4g t):=by
 intro pins s σ H Q I hq
 refine wpAny_Tuple_spliced (thn (h pos pins s σ H _ I hq) fun us s1 ⟨xs,H1,I1,r,z,q⟩=>⟨by rw[←r.length];exact z,?_⟩)
 have hf:H1 s1.heap.objs.size=none:=I1.hok.fresh (Nat.le_refl _)
 refine⟨.ref s1.heap.objs.size,upd H1 s1.heap.objs.size (.tup xs),I1.laid (t':=s1.toks) (fun b u e=>Heap.get?_push_of_some _ e) (Nat.le_refl _) ?_,rfl,q _ hf⟩
 exact⟨z,us,r,⟨_,Heap.get?_push_size _ rfl,rfl,_,rfl⟩⟩
theorem b4a (h:PA X es t):PE X (.List es pos) (b4q t):=by
 intro pins s σ H Q I hq
 refine wpAny_List_spliced (thn (h pos pins s σ H _ I hq) fun us s1 ⟨xs,H1,I1,r,z,q⟩=>⟨by rw[←r.length];exact z,?_⟩)
 have hf:H1 s1.heap.objs.size=none:=I1.hok.fresh (Nat.le_refl _)
 refine⟨.ref s1.heap.objs.size,upd H1 s1.heap.objs.size (.lst xs),I1.laid (t':=s1.toks) (fun b u e=>Heap.get?_push_of_some _ e) (Nat.le_refl _) ?_,rfl,q _ hf⟩
 exact⟨z,us,0,r,Heap.get?_push_size _ rfl⟩
end
abbrev Sp:=List V→Hp→VK→XK→Prop
abbrev CXT:=List Env→Hp→Shared→XK→Value→Shared→Prop
structure Env0 (P:Program) (w:World) (K:PySem.W.Frag) (mg:Str→Option Value) (base:Heap) (A:Around) (outer:List Env) (s:Shared) (H:Hp):Prop where
 frames:A.frames=some outer
 mod:Mod K mg base
 bs:∀b o,base.get? b=some o→s.heap.get? b=some o∧H b=none
 bsz:base.objs.size≤s.heap.objs.size
 funs:s.heap.FunFrames base outer
 frf:∀b∈frs outer,H b=none
 hok:HOk P w H s.heap
 bare:AllBare s.gens
def CE (outer:List Env)(P:Program)(w:World)(H:Hp)(s:Shared)(Q:VK)(u:Value)(s':Shared):Prop:=
 ∃v H',s'.os=s.os∧AllBare s'.gens∧Un (frs outer) [] H H' s.heap s'.heap∧HOk P w H' s'.heap∧RelV v u∧Q v H'
def CR (CX:CXT)(outer:List Env)(P:Program)(w:World)(H:Hp)(s:Shared)(Q:VK)(E:XK)(r:Result)(s':Shared):Prop:=
 match r with
 | .ok (.ret u)=>CE outer P w H s Q u s'
 | .ok _=>False
 | .error e=>CX outer H s E e s'
structure FnOk (P:Program) (w:World) (K:PySem.W.Frag) (mg:Str→Option Value) (base:Heap) (CX:CXT) (k:Nat) (f:Addr) (fd:FuncData) (ps:List Str) (sp:Sp):Prop where
 len:∀vs H Q E,sp vs H Q E→vs.length=ps.length
 run:∀(A:Around) (outer:List Env) (s:Shared) (H:Hp) (args:Args) (us:List Value) (vs:List V) (Q:VK) (E:XK),Room k A→Env0 P w K mg base A outer s H→BindsTo s fd args (ps.zip us)→Vals vs us→sp vs H Q E→
  codeAny (model P w) A (.call (.ref f) args) (CR CX outer P w H s Q E) s
theorem FnOk.mono {P:Program}{w:World}{K:PySem.W.Frag}{mg:Str→Option Value}{base:Heap}{CX:CXT}{j k:Nat}{f:Addr}{fd:FuncData}{ps:List Str}{sp:Sp}(F:FnOk P w K mg base CX j f fd ps sp)(h:j≤k):
  FnOk P w K mg base CX k f fd ps sp:=⟨F.len,fun A outer s H args us vs Q E hr=>F.run A outer s H args us vs Q E (hr.mono h)⟩
theorem FnOk.imp {P:Program}{w:World}{K:PySem.W.Frag}{mg:Str→Option Value}{base:Heap}{CX:CXT}{k:Nat}{f:Addr}{fd:FuncData}{ps:List Str}{sp sp':Sp}(F:FnOk P w K mg base CX k f fd ps sp)
  (h:∀vs H Q E,sp' vs H Q E→sp vs H Q E):FnOk P w K mg base CX k f fd ps sp':=
 ⟨fun vs H Q E q=>F.len vs H Q E (h _ _ _ _ q),fun A outer s H args us vs Q E hr he hb hv hs=>F.run A outer s H args us vs Q E hr he hb hv (h _ _ _ _ hs)⟩
theorem Env0.make {P:Program}{w:World}{K:PySem.W.Frag}{mg:Str→Option Value}{base:Heap}{A:Around}{outer:List Env}{s:Shared}{H:Hp}(e:Env0 P w K mg base A outer s H)(C:Addr)(us:List Value)(kw:List (Str×Value)):
  Env0 P w K mg base (A.under (.builtin "type.__call__" ⟨.ref C::us,kw⟩)) outer s H:=⟨by first|exact e.frames|(simpa [Around.under,Code.envs,Code.isFrame,pushEnvs] using e.frames),e.mod,e.bs,e.bsz,e.funs,e.frf,e.hok,e.bare⟩
theorem Env0.in1 {P:Program}{w:World}{K:PySem.W.Frag}{mg:Str→Option Value}{base:Heap}{A:Around}{outer:List Env}{s:Shared}{H:Hp}(e:Env0 P w K mg base A outer s H):
  Env0 P w K mg base A.in1 outer s H:=⟨e.frames,e.mod,e.bs,e.bsz,e.funs,e.frf,e.hok,e.bare⟩
section
variable {X:Cx} {pins:List (Addr×Obj)} {σ:St} {H:Hp} {s s':Shared}
theorem Inv.env0 (I:Inv X pins σ H s):Env0 X.prog X.w X.K X.mg X.base X.A X.stack s H:=
 ⟨I.ok.frames,I.ok.mod,I.bs,Nat.le_trans I.ok.bsz I.sz,I.stack,I.stkFree,I.hok,I.bare⟩
theorem Inv.after {Q:VK}{u:Value}(I:Inv X pins σ H s)(h:CE X.stack X.prog X.w H s Q u s'):EP X pins σ Q u s':=by
 obtain⟨v,H',os,bare,un,hok,r,q⟩:=h
 obtain⟨hh,g,d,t,os'⟩:=s'
 obtain rfl:os'=s.os:=os
 exact⟨v,H',I.call (h':=hh) (g':=g) (d':=d) (t':=t) (ch:=[]) un hok bare (fun b z=>absurd z (by simp)),r,q⟩
end
def a4E (sp:Sp)(dvs:List V)(E:XK)(t:TA):TE:=fun σ H Q=>t σ H fun vs H1=>sp (vs++dvs) H1 Q E
def Binds (K:PySem.W.Frag)(fd:FuncData)(ps:List Str)(ds:List Value):Prop:=
 ∀(s:Shared) (us:List Value),K.In s.heap→(us++ds).length=ps.length→BindsTo s fd ⟨us,[]⟩ (ps.zip (us++ds))
theorem Binds.all {K:PySem.W.Frag}{fd:FuncData}{ps:List Str}(h:∀us:List Value,us.length=ps.length→bindArgs fd ⟨us,[]⟩=pure (ps.zip us)):Binds K fd ps []:=fun s us _ hl=>by
 rw[List.append_nil] at hl⊢
 exact .of_eq (h us hl)
def a1B (CX:CXT)(X:Cx)(E:XK):Prop:=∀(pins:List (Addr×Obj)) (σ:St) (H:Hp) (s:Shared) (e:Value) (s':Shared),Inv X pins σ H s→CX X.stack H s E e s'→X.xe e s'
section
variable {X:Cx} {CX:CXT} {k:Nat} {f C:Addr} {fd:FuncData} {ps:List Str} {sp:Sp} {dvs:List V} {ds:List Value} {E:XK} {x m:Str} {p pos apos:Pos} {e o:Expr} {es:List Expr} {ta:TE} {t:TA}
theorem b3n {pins:List (Addr×Obj)}{σ:St}{H:Hp}{s:Shared}{Q:VK}{us:List Value}{vs:List V}(F:FnOk X.prog X.w X.K X.mg X.base CX k f fd ps sp)(hr:Room k X.A)(hb:Binds X.K fd ps ds)(hd:Vals dvs ds)(hx:a1B CX X E)
  (I:Inv X pins σ H s) (r:Vals vs us) (h:sp (vs++dvs) H Q E):wpAny (model X.prog X.w) X.A (call (.ref f) us) (EP X pins σ Q) X.xe s:=by
 have r2:Vals (vs++dvs) (us++ds):=r.append hd
 have hl:(us++ds).length=ps.length:=by rw[←r2.length];exact F.len _ _ _ _ h
 refine wpAny_call (codeAny_mono (F.run X.A X.stack s H ⟨us,[]⟩ (us++ds) (vs++dvs) Q E hr I.env0 (hb s us I.kIn hl) r2 h) fun r s' hq=>?_)
 cases r with
 |error e=>exact hx pins σ H s e s' I hq
 |ok fl=>
  cases fl with
  |ret u=>exact I.after hq
  |next=>exact False.elim hq
  |brk=>exact False.elim hq
  |cont=>exact False.elim hq
theorem b1R (F:FnOk X.prog X.w X.K X.mg X.base CX k f fd ps sp)(hr:Room k X.A)(hg:Gl X x)(hm:X.mg x=some (.ref f))(hk:PySem.W.keepIn X.K (.ref f)=true)(hb:Binds X.K fd ps ds)(hd:Vals dvs ds)(hx:a1B CX X E)
  (ha:PA X (e::es) t) (hdb:(x==("__debug__":Str))=false:=by decide) (he:starEach (e::es) X.env=(false,eval e X.env)::starEach es X.env:=by rfl) (hpl:(backTo pos (starEach es X.env)).any (·.1)=false:=by rfl):
  PE X (.Call (.Name x p) (e::es) [] pos) (a4E sp dvs E t):=by
 intro pins s σ H Q I h
 refine wpAny_Call_Name_kw (b1j I hg hm ?_ hdb)
 refine PySem.W.callWith_K (h₀:=X.base) I.ok.mod.kin hk (thn (ha pos pins s σ H _ I h) fun us s1 ⟨vs,H1,I1,r,q⟩=>⟨I1.kIn,?_⟩) he hpl
 exact b3n F hr hb hd hx I1 r q
structure Mk (K:PySem.W.Frag) (C f:Addr):Prop where
 makes:PySem.W.makesIn K C=true
 init:PySem.W.findIn K (.ref C) "__init__"=some (some (.ref f))
 fn:PySem.W.isFn K (.ref f)=true
 kp:PySem.W.keepIn K (.ref C)=true
end
section
variable {X:Cx} {CX:CXT} {k:Nat} {f C:Addr} {fd:FuncData} {ps ks:List Str} {sp:Sp} {E:XK} {x m:Str} {p pos apos kpos:Pos} {e o:Expr} {es:List Expr} {kws:List Keyword} {te ta:TE} {t tk:TA} {nm:Option Str}
structure b7b (K:PySem.W.Frag) (fd:FuncData) (ps ks:List Str) (g:List Value→List Value→List Value) (gV:List V→List V→List V):Prop where
 to:∀(s:Shared) (us ws:List Value),K.In s.heap→(g us ws).length=ps.length→BindsTo s fd ⟨us,ks.zip ws⟩ (ps.zip (g us ws))
 rel:∀{vs:List V} {us:List Value} {zs:List V} {ws:List Value},Vals vs us→Vals zs ws→Vals (gV vs zs) (g us ws)
variable {g:List Value→List Value→List Value} {gV:List V→List V→List V}
end
structure j6 (N P:List Str) (sc:Scope):Prop where
 kind:sc.kind= .function
 co:sc.isCoroutine=false
 gen:sc.isGenerator=false
 nd:N.Nodup
 pre:N.take P.length=P
 par:∀x∈P,sc.names.lookup x=some .local∨sc.names.lookup x=some .cell
 nofree:∀y∈sc.names,y.2≠ .free
theorem a3z {kindOf:Str→Option NameKind}{x:Str}:∀{binds:List (Str×Value)} {m:Str→Option Value},(∀v,(x,v)∉binds)→bindL kindOf binds m x=m x
 |[],_,_=>rfl
 |(n,v)::r,m,h=>by
  unfold bindL
  rw[a3z fun w hw=>h w (List.mem_cons_of_mem _ hw)]
  split
  ·have:x≠n:=by rintro rfl;exact h v List.mem_cons_self
   simp [this]
  ·rfl
theorem a3e {kindOf:Str→Option NameKind}{x:Str}:∀{binds:List (Str×Value)} {m:Str→Option Value},(∀v,(x,v)∉binds)→bindC kindOf binds m x=m x
 |[],_,_=>rfl
 |(n,v)::r,m,h=>by
  unfold bindC
  rw[a3e fun w hw=>h w (List.mem_cons_of_mem _ hw)]
  split
  ·rfl
  ·have:x≠n:=by rintro rfl;exact h v List.mem_cons_self
   simp [this]
theorem a3n {kindOf:Str→Option NameKind}{x:Str}{v:Value}:∀{P:List Str} {vs:List Value} {i:Nat} {m:Str→Option Value},P.Nodup→P[i]?=some x→vs[i]?=some v→kindOf x=some .local→
  bindL kindOf (P.zip vs) m x=some v
 |[],_,_,_,_,h,_,_=>by simp at h
 |_::_,[],_,_,_,_,h,_=>by simp at h
 |p::P,w::vs,0,m,nd,h1,h2,hk=>by
  simp at h1 h2;subst h1;subst h2
  show bindL kindOf ((p,w)::P.zip vs) m p=_
  unfold bindL
  rw[a3z fun v hv=>(List.nodup_cons.mp nd).1 (List.of_mem_zip hv).1,if_pos hk]
  simp
 |p::P,w::vs,i+1,m,nd,h1,h2,hk=>by
  show bindL kindOf ((p,w)::P.zip vs) m x=_
  unfold bindL
  exact a3n (i:=i) (List.nodup_cons.mp nd).2 (by simpa using h1) (by simpa using h2) hk
theorem a3o {kindOf:Str→Option NameKind}{x:Str}{v:Value}:∀{P:List Str} {vs:List Value} {i:Nat} {m:Str→Option Value},P.Nodup→P[i]?=some x→vs[i]?=some v→kindOf x≠some .local→
  bindC kindOf (P.zip vs) m x=some v
 |[],_,_,_,_,h,_,_=>by simp at h
 |_::_,[],_,_,_,_,h,_=>by simp at h
 |p::P,w::vs,0,m,nd,h1,h2,hk=>by
  simp at h1 h2;subst h1;subst h2
  show bindC kindOf ((p,w)::P.zip vs) m p=_
  unfold bindC
  rw[a3e fun v hv=>(List.nodup_cons.mp nd).1 (List.of_mem_zip hv).1,if_neg hk]
  simp
 |p::P,w::vs,i+1,m,nd,h1,h2,hk=>by
  show bindC kindOf ((p,w)::P.zip vs) m x=_
  unfold bindC
  exact a3o (i:=i) (List.nodup_cons.mp nd).2 (by simpa using h1) (by simpa using h2) hk
def a0T (N:List Str)(vs:List V):St:=vs.map some++List.replicate (N.length -vs.length) none
def a5Y (CX:CXT)(P:Program)(w:World)(K:PySem.W.Frag)(mg:Str→Option Value)(base:Heap)(N:List Str)(qual:Str)(scope:Scope)(f:Addr)(cd:Value)(A:Around)(outer:List Env)(s:Shared)(H:Hp)(E:XK):Cx where
 prog:=P
 w:=w
 K:=K
 mg:=mg
 base:=base
 A:=A.deeper (envOfC qual scope s.heap.objs.size f cd)
 N:=N
 s₀:=s
 H₀:=H
 env:=envOfC qual scope s.heap.objs.size f cd
 outer:=outer
 stack:=envOfC qual scope s.heap.objs.size f cd::outer
 ex:=[]
 calm:=true
 fn:=fun _=>true
 pn:=[]
 xe:=fun e s'=>wpAny (model P w) (A.deeper (envOfC qual scope s.heap.objs.size f cd)) («leaving» (envOfC qual scope s.heap.objs.size f cd) e) (fun _ s''=>CX outer H s E e s'') (fun e' s''=>CX outer H s E e' s'') s'
theorem a4t {sc:Scope}{n:Nat}{x:Str}(h:sc.names.lookup x=some .cell):∃c,(cellsFrom n sc.names []).lookup x=some c:=by
 have q:=PySem.W.cellsFrom_some sc.names n [] (.inl h)
 exact Option.isSome_iff_exists.mp q
theorem a8b {CX:CXT}{P:Program}{w:World}{K:PySem.W.Frag}{mg:Str→Option Value}{base:Heap}{N ps:List Str}{qual:Str}{scope:Scope}{f:Addr}{cd:Value}{A:Around}{outer:List Env}{s s1:Shared}{H:Hp}{E:XK}{us:List Value}{vs:List V}
  (S:j6 N ps scope) (hd:A.handled=none) (e0:Env0 P w K mg base A outer s H) (hl:vs.length=ps.length) (r:Vals vs us)
  (x:InCallC s s.heap.objs.size (bindL (envOfC qual scope s.heap.objs.size f cd).kindOf (ps.zip us) fun _=>none) (cellsFrom (s.heap.objs.size+1) scope.names []) (bindC (envOfC qual scope s.heap.objs.size f cd).kindOf (ps.zip us) fun _=>none) s1):
  Inv (a5Y CX P w K mg base N qual scope f cd A outer s H E) [] (a0T N vs) H s1:=by
 have hpl:ps.length≤N.length:=by have:=congrArg List.length S.pre;rw[List.length_take] at this;omega
 obtain⟨h1,tk,rfl,hk⟩:=x.done
 have noA:∀b:Addr,b∉(a5Y CX P w K mg base N qual scope f cd A outer s H E).ex:=fun b z=>absurd (show b∈([]:List Addr) from z) (by simp)
 refine⟨⟨e0.mod,S.kind,rfl,rfl,Nat.le_refl _,fun y z c h1 h2=>?_,fun y hy=>?_,fun y c _ h=>?_,fun _=>hd,Around.frames_deeper e0.frames,.inr ⟨rfl,rfl⟩,fun b z=>absurd z (noA b),e0.bs,e0.bsz,fun b _ _=>noA b,fun b z=>absurd z (noA b),e0.funs,e0.frf⟩,
  rfl,e0.bare,Un.kept hk,⟨_,x.toInCall.ns,fun i y v h1 h2 h3=>?_⟩,fun y c h=>⟨_,x.cell y c h⟩,e0.hok.fresh (Nat.le_refl _),fun y c h=>?_,fun p hp=>absurd (show p∈([]:List (Addr×Obj)) from hp) (by simp),e0.hok.kept hk,?_⟩
 ·exact name_of_addr x.apart (PySem.mem_of_lookup h1) (PySem.mem_of_lookup h2)
 ·have hy:scope.names.lookup y=some .cell∨scope.names.lookup y=some .free:=hy
  rcases hy with hy|hy
  ·exact a4t hy
  ·exact absurd rfl (S.nofree _ (PySem.mem_of_lookup hy))
 ·exact Nat.le_of_lt (x.above y c (PySem.mem_of_lookup h))
 ·have hi:i<vs.length:=by
   unfold a0T at h2
   by_cases hi:i<vs.length
   ·exact hi
   ·rw[List.getElem?_append_right (by simpa using hi)] at h2
    rw[List.getElem?_replicate] at h2
    split at h2<;>cases h2
  have ha:vs[i]?=some v:=by
   unfold a0T at h2
   rw[List.getElem?_append_left (by simpa using hi),List.getElem?_map] at h2
   cases e:vs[i]? with
   |none=>rw[e] at h2;cases h2
   |some a=>rw[e] at h2;cases h2;rfl
  obtain⟨u,hu,rv⟩:=r.get ha
  have hp:ps[i]?=some y:=by
   rw[←S.pre,List.getElem?_take_of_lt (by omega)];exact h1
  have ndP:ps.Nodup:=by rw[←S.pre];exact S.nd.sublist (List.take_sublist _ _)
  refine⟨u,rv,?_⟩
  rcases S.par y (List.mem_of_getElem? hp) with k|k
  ·exact .inl ⟨k,a3n ndP hp hu k⟩
  ·obtain⟨c,e⟩:=a4t (n:=s.heap.objs.size+1) k
   refine .inr ⟨.inl k,c,e,?_⟩
   have q:=x.cell y c e
   rw[a3o ndP hp hu (by show scope.names.lookup y≠_;rw[k];decide)] at q
   exact q
 ·exact e0.hok.fresh (Nat.le_of_lt (x.above y c (PySem.mem_of_lookup h)))
 ·unfold a0T
  show _=N.length
  rw[List.length_append,List.length_map,List.length_replicate]
  omega
theorem b2B {CX:CXT}{P:Program}{w:World}{K:PySem.W.Frag}{mg:Str→Option Value}{base:Heap}{k:Nat}{f:Addr}{name qual:Str}{params:Arguments}{body:List Stmt}{scope:Scope}{dV kV doc pm cdv ct oc:Value}{an od:Option Addr}
  {osl:Array (Option Value)} {N ps:List Str} {sp:Sp} (lk:K.lookup f=some ⟨oc,od,.func (PySem.W.fnOf name qual params body scope dV kV doc pm an cdv ct),osl⟩) (hcd:PySem.W.codeIn K cdv qual=true) (S:j6 N ps scope)
  (len:∀vs H Q E,sp vs H Q E→vs.length=ps.length)
  (hbody:∀(A:Around) (outer:List Env) (s:Shared) (H:Hp) (vs:List V) (Q:VK) (E:XK),Room k (A.deeper (envOfC qual scope s.heap.objs.size f cdv))→sp vs H Q E→
   ∃t,PSs (a5Y CX P w K mg base N qual scope f cdv A outer s H E) body t∧t {nx:=fun _ H'=>Q .non H',rt:=Q} (a0T N vs) H):
  FnOk P w K mg base CX (k+1) f (PySem.W.fnOf name qual params body scope dV kV doc pm an cdv ct) ps sp:=by
 refine⟨len,fun A outer s H args us vs Q E hr e0 hb r hsp=>?_⟩
 have hl:=len _ _ _ _ hsp
 have KX:K.In s.heap:=e0.mod.kin.keeps fun b o e=>(e0.bs b o e).1
 have lim:s.heap.NoLimit:=e0.mod.nolimit.keeps fun b o e=>(e0.bs b o e).1
 have hkind:∀y∈ps.zip us,scope.names.lookup y.1=some .local∨(scope.names.lookup y.1=some .cell∧((cellsFrom (s.heap.objs.size+1) scope.names []).lookup y.1).isSome=true):=fun⟨n,v⟩ hy=>by
  rcases S.par n (List.of_mem_zip hy).1 with q|q
  ·exact .inl q
  ·exact .inr ⟨q,PySem.W.cellsFrom_some _ _ _ (.inl q)⟩
 refine codeAny_call_function hr.depth (KX _ _ lk) rfl S.co S.gen rfl (PySem.W.codeRec_of KX hcd) (hb _ _ _ _ ?_)
 refine wpAny_newFunctionEnv_cells S.kind hkind fun env he s1 x=>?_
 subst he
 refine⟨lim.keeps x.toInCall.keep,codeAny_func ?_⟩
 obtain⟨t,ht,hq⟩:=hbody A outer s H vs Q E (hr.deeper _) hsp
 have I:Inv (a5Y CX P w K mg base N qual scope f cdv A outer s H E) [] (a0T N vs) H s1:=a8b S hr.hd e0 hl r x
 refine wpAny_mono (ht [] s1 (a0T N vs) H _ I hq) (fun fl s' hs=>?_) fun e s' hs=>hs
 have fin:∀{σ':St} {H':Hp} {v:V} {u:Value},Inv (a5Y CX P w K mg base N qual scope f cdv A outer s H E) [] σ' H' s'→RelV v u→Q v H'→CE outer P w H s Q u s':=
  fun{σ' H' v u} J rv q=>⟨v,H',J.os,J.bare,J.base,J.hok,rv,q⟩
 cases fl with
 |ret u=>
  obtain⟨v,σ',H',J,rv,q⟩:=hs
  exact fin J rv q
 |next=>
  obtain⟨σ',H',J,q⟩:=hs
  exact fin (v:=V.non) (u:=Value.none) J rfl q
 |brk=>
  obtain⟨_,_,_,q⟩:=hs
  exact False.elim q
 |cont=>
  obtain⟨_,_,_,q⟩:=hs
  exact False.elim q
end L2
namespace L2
open PySem PySem.Spec PyProof.Rows
section
variable {X:Cx} {x:Str} {p pos:Pos} {e:Expr} {es:List Expr} {t:TA} {id T:String} {r:List V→Hp→VK→Prop}
def tCB (r:List V→Hp→VK→Prop)(t:TA):TE:=fun σ H Q=>t σ H fun vs H1=>r vs H1 Q
theorem a9X (hc:CallR X (.builtin id) r)(hg:Gl X x)(hm:X.mg x=none)(hv:bootBuiltins x=some (.builtin id))(ha:PA X (e::es) t)(hn:x≠"__name__":=by decide)(hdb:(x==("__debug__":Str))=false:=by decide)
  (he:starEach (e::es) X.env=(false,eval e X.env)::starEach es X.env:=by rfl) (hpl:(backTo pos (starEach es X.env)).any (·.1)=false:=by rfl):PE X (.Call (.Name x p) (e::es) [] pos) (tCB r t):=by
 intro pins s σ H Q I h
 refine wpAny_Call_Name_kw (Z1 I hg hm hv ?_ hn hdb)
 exact PyProof.Rows.callWith_builtin1 (thn (ha pos pins s σ H _ I h) fun us s1 ⟨vs,H1,I1,r1,q1⟩=>hc pins s1 σ H1 vs us Q I1 r1 q1) he hpl
theorem a8h (hc:CallR X (.type T) r)(hg:Gl X x)(hm:X.mg x=none)(hv:bootBuiltins x=some (.type T))(ha:PA X (e::es) t)(hn:x≠"__name__":=by decide)(hdb:(x==("__debug__":Str))=false:=by decide)
  (he:starEach (e::es) X.env=(false,eval e X.env)::starEach es X.env:=by rfl) (hpl:(backTo pos (starEach es X.env)).any (·.1)=false:=by rfl):PE X (.Call (.Name x p) (e::es) [] pos) (tCB r t):=by
 intro pins s σ H Q I h
 refine wpAny_Call_Name_kw (Z1 I hg hm hv ?_ hn hdb)
 exact PyProof.Rows.callWith_type1 (thn (ha pos pins s σ H _ I h) fun us s1 ⟨vs,H1,I1,r1,q1⟩=>hc pins s1 σ H1 vs us Q I1 r1 q1) he hpl
end
end L2
namespace HT
open PySem PyProof.Rows
section
open PySem.SeqAt
open PySem.AutoSeq1 (wpAny_loadPart')
open PySem.MeetsSeq PySem.MeetsSeq2 PySem.MeetsSeq3
end
section
variable {prog:Program} {w:World} {A:Around} {E:Value→Shared→Prop} {s:Shared}
theorem cat_tup {t b:Addr}{vs ws:List Value}{Q:Value→Shared→Prop}(ht:IsTup s.heap t vs.toArray)(hb:IsTup s.heap b ws.toArray)(hv:vs≠[])
  (h1:ws=[]→Q (.ref t) s) (h2:ws≠[]→Q (.ref s.heap.objs.size) {s with heap:=s.heap.push {cls:= .type "tuple",data:= .seq (vs++ws).toArray}})
  (hsz:vs.length+ws.length≤sizeLine):wpAny (model prog w) A (binaryOp .Add (.ref t) (.ref b)) Q E s:=by
 obtain⟨⟨cls,dd,data,sl⟩,ho,hc,n,hd⟩:=id ht
 obtain⟨⟨cls2,dd2,data2,sl2⟩,ho2,hc2,n2,hd2⟩:=id hb
 simp only at hc hd hc2 hd2
 subst hc hd hc2 hd2
 have e:vs.toArray++ws.toArray=(vs++ws).toArray:=by simp
 by_cases hw:ws=[]
 ·exact concat_meets ⟨_,ho,rfl⟩ ⟨_,ho2,rfl⟩ noFill_tuple_add seq_tuple_add PySem.F.slot_tuple_add PySem.F.entry_tuple_add (PySem.F.args_tuple_add_2 _ _)
   (tuple_addW1 t b vs.toArray ws.toArray n n2 dd dd2 sl sl2 (by simpa using hv) (by simp [hw])) ⟨ho,ho2,h1 hw⟩
 ·refine concat_meets ⟨_,ho,rfl⟩ ⟨_,ho2,rfl⟩ noFill_tuple_add seq_tuple_add PySem.F.slot_tuple_add PySem.F.entry_tuple_add (PySem.F.args_tuple_add_2 _ _)
   (tuple_addW2 t b vs.toArray ws.toArray n n2 dd dd2 sl sl2 (by simpa using hv) (by simpa using hw) (by rw[List.size_toArray,List.size_toArray];exact hsz)) ⟨ho,ho2,?_⟩
  rw[e]
  exact h2 hw
def sIx (n d:Nat):Option Int→Nat
 |none=>d
 |some v=>if v<0 then(v+(n:Int)).toNat else min v.toNat n
theorem b3f (n d:Nat)(hd:d≤n)(o:Option Int):sIx n d o≤n:=by
 cases o with
 |none=>exact hd
 |some v=>
  show(if v<0 then(v+(n:Int)).toNat else min v.toNat n)≤n
  by_cases hv:v<0
  ·rw[if_pos hv];omega
  ·rw[if_neg hv];exact Nat.min_le_right _ _
theorem a7h (v:Int)(n d:Nat):(if v<0 then max (v+(n:Int)) 0 else min v (n:Int))=((sIx n d (some v):Nat):Int):=by
 show(if v<0 then max (v+(n:Int)) 0 else min v (n:Int))=(((if v<0 then(v+(n:Int)).toNat else min v.toNat n):Nat):Int)
 by_cases hv:v<0
 ·simp only[if_pos hv];omega
 ·simp only[if_neg hv];omega
theorem a6r (lo hi:Option Int)(n:Nat):Builtin.Slice.sliceAdjust lo hi 1 (n:Int)=(((sIx n 0 lo:Nat):Int),((sIx n n hi:Nat):Int)):=by
 have h1:¬((1:Int)<0):=by omega
 unfold Builtin.Slice.sliceAdjust
 simp only[h1,if_false]
 refine Prod.ext ?_ ?_
 ·cases lo with
  |none=>rfl
  |some v=>exact a7h v n 0
 ·cases hi with
  |none=>rfl
  |some v=>exact a7h v n n
theorem a5W (i j:Nat):Builtin.Slice.slicePlaces (i:Int) (j:Int) 1=j -i:=by
 unfold Builtin.Slice.slicePlaces
 have h1:(1:Int)>0:=by omega
 simp only[h1,if_true,Int.ediv_one]
 split<;>omega
theorem a2D {v:Value}{o:Option Int}{Q:Option Int→Shared→Prop}(p:IsPart v o)(h:Q o s):wpAny (model prog w) A (Builtin.Slice.slicePartIndex v) Q E s:=by
 cases p with
 |none=>exact slicePart_none h
 |int i t=>exact slicePart_int h
theorem a1u {sl:Addr}{vl vu:Value}{lo hi:Option Int}{n:Nat}{Q:Int×Int×Nat→Shared→Prop}(hs:s.heap.IsSliceOf sl vl vu .none)(pl:IsPart vl lo)(pu:IsPart vu hi)
  (h:Q (((sIx n 0 lo:Nat):Int),1,sIx n n hi -sIx n 0 lo) s):wpAny (model prog w) A (Builtin.Slice.sliceApplied (.ref sl) (pure (n:Int))) Q E s:=by
 obtain⟨os,hos,hcs,hds⟩:=id hs
 unfold Builtin.Slice.sliceApplied Builtin.Slice.sliceFields
 refine wpAny_bind (wpAny_bind (wpAny_field hos hds (x:=vl) rfl (wpAny_bind (wpAny_field hos hds (x:=vu) rfl (wpAny_bind (wpAny_field hos hds (x:= .none) rfl (wpAny_pure ?_)))))))
 refine wpAny_bind (slicePart_none ?_)
 show wpAny _ _ (if((1:Int)==0)=true then _ else _) _ _ s
 rw[if_neg (by decide)]
 refine wpAny_bind (a2D pl (wpAny_bind (a2D pu (wpAny_bind (wpAny_pure ?_)))))
 show wpAny _ _ (match Builtin.Slice.sliceAdjust lo hi 1 (n:Int) with|(lo,hi)=>pure (lo,(1:Int),Builtin.Slice.slicePlaces lo hi 1)) _ _ s
 rw[a6r lo hi n]
 show wpAny _ _ (pure (((sIx n 0 lo:Nat):Int),(1:Int),Builtin.Slice.slicePlaces ((sIx n 0 lo:Nat):Int) ((sIx n n hi:Nat):Int) 1)) _ _ s
 rw[a5W]
 exact wpAny_pure h
theorem a9f (xs:Array Value)(i k:Nat):((List.range k).filterMap fun(m:Nat)=>xs[((i:Int)+(m:Int)*1).toNat]?).toArray=((xs.toList.drop i).take k).toArray:=by
 have e:(fun(m:Nat)=>xs[((i:Int)+(m:Int)*1).toNat]?)=fun m=>xs[i+m]?:=by
  funext m
  have:((i:Int)+(m:Int)*1).toNat=i+m:=by omega
  rw[this]
 rw[e]
 have:=pick_run xs i k
 rw[List.filterMap_map] at this
 have e2:((fun x=>xs[x]?)∘fun x=>i+x)=fun m=>xs[i+m]?:=rfl
 rw[e2] at this
 rw[this]
theorem getItem_tuple_cut {t sl:Addr}{items:Array Value}{vl vu:Value}{lo hi:Option Int}{Q:Value→Shared→Prop}(ht:IsTup s.heap t items)(hs:s.heap.IsSliceOf sl vl vu .none)(pl:IsPart vl lo)(pu:IsPart vu hi)
  (hw:¬(sIx items.size 0 lo=0∧sIx items.size items.size hi=items.size))
  (h:Q (.ref s.heap.objs.size) {s with heap:=s.heap.push {cls:= .type "tuple",data:= .seq ((items.toList.drop (sIx items.size 0 lo)).take (sIx items.size items.size hi -sIx items.size 0 lo)).toArray}})
  (hsz:items.size≤sizeLine):wpAny (model prog w) A (getItem (.ref t) (.ref sl)) Q E s:=by
 have htake:sizeOk (.seq ((items.toList.drop (sIx items.size 0 lo)).take (sIx items.size items.size hi -sIx items.size 0 lo)).toArray):=by
  show((items.toList.drop (sIx items.size 0 lo)).take (sIx items.size items.size hi -sIx items.size 0 lo)).toArray.size≤sizeLine
  rw[List.size_toArray,List.length_take,List.length_drop,Array.length_toList]
  omega
 have hj:sIx items.size items.size hi≤items.size:=b3f _ _ (Nat.le_refl _) hi
 obtain⟨os,hos,hcs,hds⟩:=id hs
 have hTs:s.TypeIs (.ref sl) "slice":=⟨os,hos,hcs⟩
 unfold getItem
 try with_reducible refine wpAny_holding ?_
 first|refine wpAny_bind (wpAny_pure ?_)|skip
 refine wpAny_bind (wpAny_sequenceKey ht.typeIs (by decide) ?_)
 refine wpAny_bind (wpAny_callSpecial?_slot (name:=Str.ofString "__getitem__") ht.typeIs PyProof.Rows.slot_tuple_getitem
  (wpAny_call_entry PyProof.Rows.slot_tuple_getitem ht.typeIs entry_tuple_getitem ?_ (args_tuple_getitem _ _)))
 show wpAny _ _ (Builtin.Tuple.tupleItemsOf (.ref t)>>=_) _ _ s
 refine wpAny_bind (tupleItemsOf_ ht ?_)
 refine wpAny_bind (wpAny_typeOf hTs ?_)
 rw[if_pos (by decide)]
 refine wpAny_bind (a1u hs pl pu ?_)
 have hno:¬((((sIx items.size 0 lo:Nat):Int)==0&&(1:Int)==1&&(sIx items.size items.size hi -sIx items.size 0 lo)==items.size)=true):=by
  intro q
  rw[Bool.and_eq_true,Bool.and_eq_true] at q
  have q1:((sIx items.size 0 lo:Nat):Int)=0:=eq_of_beq q.1.1
  have q2:sIx items.size items.size hi -sIx items.size 0 lo=items.size:=eq_of_beq q.2
  exact hw ⟨by omega,by omega⟩
 show wpAny _ _ (if(((sIx items.size 0 lo:Nat):Int)==0&&(1:Int)==1&&(sIx items.size items.size hi -sIx items.size 0 lo)==items.size)=true then _ else _) _ _ s
 rw[if_neg hno,a9f]
 first
  |exact wpAny_bind (m:=Builtin.Tuple.tupleExact _) (wpAny_newObj_type (wpAny_pure ⟨_,rfl,wpAny_pure h⟩) htake)
  |exact wpAny_bind (m:=Builtin.Tuple.tupleExact _) (wpAny_newObj_type (wpAny_bind (wpAny_pure (wpAny_pure ⟨_,rfl,wpAny_pure h⟩))) htake)
  |exact wpAny_bind (wpAny_bind (m:=Builtin.Tuple.tupleExact _) (wpAny_newObj_type (wpAny_pure (wpAny_pure ⟨_,rfl,wpAny_pure h⟩)) htake))
  |exact wpAny_bind (wpAny_bind (m:=Builtin.Tuple.tupleExact _) (wpAny_newObj_type (wpAny_pure ⟨_,rfl,wpAny_pure h⟩) htake))
end
end HT
namespace L2
open PySem PySem.Spec PyProof.Rows
abbrev TO:=St→Hp→(Option Int→Hp→Prop)→Prop
def PO (X:Cx)(e:Option Expr)(t:TO):Prop:=
 ∀(pins:List (Addr×Obj)) (s:Shared) (σ:St) (H:Hp) (Q:Option Int→Hp→Prop),Inv X pins σ H s→t σ H Q→
  wpAny (model X.prog X.w) X.A (evalPart e X.env) (fun u s'=>∃o H',Inv X pins σ H' s'∧IsPart u o∧Q o H') X.xe s
def a3N:TO:=fun _ H Q=>Q none H
def b0h (t:TE):TO:=fun σ H Q=>t σ H fun x H1=>∃i,x= .int i∧Q (some i) H1
section
variable {X:Cx} {e:Expr} {te:TE} {lo hi:Option Expr} {tl th:TO} {pos p2:Pos}
theorem b0Z:PO X none a3N:=by
 intro pins s σ H Q I h
 rw[evalPart_none]
 exact wpAny_pure ⟨none,H,I,.none,h⟩
theorem b1r (h:PE X e te):PO X (some e) (b0h te):=by
 intro pins s σ H Q I hw
 rw[evalPart_some]
 refine thn (h pins s σ H _ I hw) fun u s1 ⟨x,H1,I1,r1,q1⟩=>?_
 obtain⟨i,rfl,q⟩:=q1
 obtain⟨t,rfl⟩:=r1
 exact⟨some i,H1,I1,.int i t,q⟩
def SlR (X:Cx)(r:V→Option Int→Option Int→Hp→VK→Prop):Prop:=
 ∀(pins:List (Addr×Obj)) (s:Shared) (σ:St) (H:Hp) (x:V) (v vl vu:Value) (lo hi:Option Int) (sl:Addr) (Q:VK),Inv X pins σ H s→RelV x v→s.heap.IsSliceOf sl vl vu .none→IsPart vl lo→IsPart vu hi→r x lo hi H Q→
  ∃T id,typeLookup (.type T) "__getitem__"=pure (some (.builtin id))∧s.TypeIs v T∧wpAny (model X.prog X.w) X.A (getItem v (.ref sl)) (EP X pins σ Q) X.xe s
theorem SlR.or {r r':V→Option Int→Option Int→Hp→VK→Prop}(h:SlR X r)(h':SlR X r'):SlR X (fun x lo hi H Q=>r x lo hi H Q∨r' x lo hi H Q):=by
 intro pins s σ H x v vl vu lo hi sl Q I rx hs pl pu q
 rcases q with q|q
 ·exact h pins s σ H x v vl vu lo hi sl Q I rx hs pl pu q
 ·exact h' pins s σ H x v vl vu lo hi sl Q I rx hs pl pu q
def tSl (r:V→Option Int→Option Int→Hp→VK→Prop)(te:TE)(tl th:TO):TE:=fun σ H Q=>te σ H fun x H1=>tl σ H1 fun l H2=>th σ H2 fun u H3=>r x l u H3 Q
theorem a9x {r:V→Option Int→Option Int→Hp→VK→Prop}(hr:SlR X r)(he:PE X e te)(hl:PO X lo tl)(hu:PO X hi th):PE X (.Subscript e (.Slice lo hi none p2) pos) (tSl r te tl th):=by
 intro pins s σ H Q I h
 refine Subscript_ (thn (he pins s σ H _ I h) fun v s1 ⟨x,H1,I1,r1,q1⟩=>?_)
 refine wpAny_Slice (thn (hl pins s1 σ H1 _ I1 q1) fun vl s2 ⟨l,H2,I2,pl,q2⟩=>thn (hu pins s2 σ H2 _ I2 q2) fun vu s3 ⟨u,H3,I3,pu,q3⟩=>?_)
 rw[evalPart_none]
 refine wpAny_pure ?_
 have I4:Inv X pins σ H3 {s3 with heap:=s3.heap.push {cls:= .type "slice",data:= .fields #[vl,vu,.none]}}:=I3.kept (t':=s3.toks) fun b ob q=>Heap.get?_push_of_some _ q
 obtain⟨T,id,hT,ht,hg⟩:=hr pins {s3 with heap:=s3.heap.push {cls:= .type "slice",data:= .fields #[vl,vu,.none]}} σ H3 x v vl vu l u s3.heap.objs.size Q I4 r1 (Heap.IsSliceOf.new ..) pl pu q3
 show wpAny (model X.prog X.w) X.A (subscriptTail e (.Slice lo hi none p2) v (.ref s3.heap.objs.size)) (EP X pins σ Q) X.xe {s3 with heap:=s3.heap.push {cls:= .type "slice",data:= .fields #[vl,vu,.none]}}
 exact tail_any (ops:=[.ref s3.heap.objs.size,v]) ht hT hg (by with_unfolding_all rfl)
def a1i (xs:List V)(lo hi:Option Int):List V:=(xs.drop (HT.sIx xs.length 0 lo)).take (HT.sIx xs.length xs.length hi -HT.sIx xs.length 0 lo)
theorem a1H (xs:List V)(lo hi:Option Int):(a1i xs lo hi).length≤xs.length:=by
 unfold a1i
 rw[List.length_take,List.length_drop]
 omega
def b6u (K:PySem.W.Frag):V→Option Int→Option Int→Hp→VK→Prop:=fun x lo hi H Q=>∃a xs,x= .ref a∧SqT K H a xs∧
 ¬(HT.sIx xs.length 0 lo=0∧HT.sIx xs.length xs.length hi=xs.length)∧∀p,H p=none→Q (.ref p) (upd H p (.tup (a1i xs lo hi)))
theorem sl_tup:SlR X (b6u X.K):=by
 intro pins s σ H x v vl vu lo hi sl Q I rx hs pl pu h
 obtain⟨a,xs,rfl,hx,hw,q⟩:=h
 cases rx
 obtain⟨its,r,ht,hz⟩:=I.tuple hx
 have hlen:its.toArray.size=xs.length:=by rw[List.size_toArray];exact r.length.symm
 refine⟨"tuple",_,PyProof.Rows.slot_tuple_getitem.lookup,ht.typeIs,?_⟩
 refine HT.getItem_tuple_cut ht hs pl pu (by rw[hlen];exact hw) ?_ (by rw[hlen];exact hz)
 rw[hlen]
 refine⟨.ref s.heap.objs.size,_,I.laid (t':=s.toks) (o:= .tup (a1i xs lo hi)) (fun b ob q=>Heap.get?_push_of_some _ q) (Nat.le_refl _) ?_,rfl,q _ (I.hok.fresh (Nat.le_refl _))⟩
 exact⟨Nat.le_trans (a1H xs lo hi) hz,_,(r.drop (HT.sIx xs.length 0 lo)).take (HT.sIx xs.length xs.length hi -HT.sIx xs.length 0 lo),IsTup.new _ _⟩
def b2T (K:PySem.W.Frag):R2:=fun x y H Q=>∃a b xs ys,x= .ref a∧y= .ref b∧SqT K H a xs∧SqT K H b ys∧xs≠[]∧xs.length+ys.length≤sizeLine∧
 (ys=[]→Q (.ref a) H)∧(ys≠[]→∀p,H p=none→Q (.ref p) (upd H p (.tup (xs++ys))))
theorem Vals.nil_iff {xs:List V}{us:List Value}(r:Vals xs us):us=[]↔xs=[]:=by
 cases r with
 |nil=>simp
 |cons _ _=>simp
theorem b1N:OpR X (binaryOp .Add) (b2T X.K):=by
 intro pins s σ H x y v u Q I rx ry h
 obtain⟨a,b,xs,ys,rfl,rfl,ha,hb,hx,hz,q1,q2⟩:=h
 cases rx
 cases ry
 obtain⟨its,r1,p1,_⟩:=I.tuple ha
 obtain⟨its2,r2,p2,_⟩:=I.tuple hb
 refine HT.cat_tup p1 p2 (fun z=>hx (r1.nil_iff.mp z)) (fun z=>⟨.ref a,H,I,rfl,q1 (r2.nil_iff.mp z)⟩) (fun z=>?_) (by rw[←r1.length,←r2.length];exact hz)
 refine⟨.ref s.heap.objs.size,_,I.laid (t':=s.toks) (o:= .tup (xs++ys)) (fun b ob q=>Heap.get?_push_of_some _ q) (Nat.le_refl _) ?_,rfl,q2 (fun w=>z (r2.nil_iff.mpr w)) _ (I.hok.fresh (Nat.le_refl _))⟩
 exact⟨by rw[List.length_append];exact hz,_,r1.append r2,IsTup.new _ _⟩
end
end L2
namespace L2
open PySem PySem.Spec PyProof.Rows
def ixN (n:Nat)(i:Int):Option Nat:=if 0≤i then(if i<n then some i.toNat else none) else if -(n:Int)≤i then some (i+n).toNat else none
def atI {α:Type}(xs:List α)(i:Int):Option α:=(ixN xs.length i).bind fun j=>xs[j]?
theorem a7v {n:Nat}{i:Int}{j:Nat}(h:ixN n i=some j):seqIndex? i n=some j∧j<n∧-(n:Int)≤i∧i<n:=by
 unfold ixN at h
 by_cases h0:0≤i
 ·rw[if_pos h0] at h
  by_cases h1:i<n
  ·rw[if_pos h1] at h
   have e:i.toNat=j:=Option.some.inj h
   exact⟨by rw[seqIndex_of h0 h1,e],by omega,by omega,h1⟩
  ·rw[if_neg h1] at h;cases h
 ·rw[if_neg h0] at h
  by_cases h1: -(n:Int)≤i
  ·rw[if_pos h1] at h
   have e:(i+n).toNat=j:=Option.some.inj h
   exact⟨by rw[seqIndex_neg (by omega) h1,e],by omega,h1,by omega⟩
  ·rw[if_neg h1] at h;cases h
theorem a4l {α:Type}{xs:List α}{i:Int}{v:α}(h:atI xs i=some v):∃j,seqIndex? i xs.length=some j∧xs[j]?=some v∧j<xs.length∧-(xs.length:Int)≤i∧i<xs.length:=by
 unfold atI at h
 cases e:ixN xs.length i with
 |none=>rw[e] at h;cases h
 |some j=>
  rw[e] at h
  obtain⟨h1,h2,h3,h4⟩:=a7v e
  exact⟨j,h1,h,h2,h3,h4⟩
theorem h8 {α:Type}{xs:List α}{j:Nat}{v:α}(h:xs[j]?=some v):atI xs (j:Int)=some v:=by
 have hj:j<xs.length:=(List.getElem?_eq_some_iff.mp h).1
 have e:ixN xs.length (j:Int)=some j:=by
  unfold ixN
  rw[if_pos (by omega),if_pos (by omega)];simp
 unfold atI;rw[e];exact h
theorem atI_last {α:Type}(xs:List α)(v:α):atI (xs++[v]) (-1)=some v:=by
 have hl:(xs++[v]).length=xs.length+1:=by simp
 have e:ixN (xs++[v]).length (-1)=some xs.length:=by
  unfold ixN
  rw[hl,if_neg (by decide),if_pos (by omega)]
  congr 1
  omega
 unfold atI
 rw[e]
 show(xs++[v])[xs.length]?=some v
 simp
def a6G (b:Expr):Prop:=∀o i,subscripted b false o i=operate [o,i] (getItem o i)
def IxR (X:Cx)(r:R2):Prop:=
 ∀(value slice:Expr) (pins:List (Addr×Obj)) (s:Shared) (σ:St) (H:Hp) (x y:V) (v u:Value) (Q:VK),Inv X pins σ H s→RelV x v→RelV y u→r x y H Q→
  subscripted slice false v u=operate [v,u] (getItem v u)→wpAny (model X.prog X.w) X.A (subscriptTail value slice v u) (EP X pins σ Q) X.xe s
def MtR (X:Cx)(id:String)(r:V→List V→Hp→VK→Prop):Prop:=
 ∀(pins:List (Addr×Obj)) (s:Shared) (σ:St) (H:Hp) (x:V) (xs:List V) (v:Value) (us:List Value) (Q:VK),Inv X pins σ H s→RelV x v→Vals xs us→r x xs H Q→
  wpAny (model X.prog X.w) X.A (call (.builtin id) (v::us)) (EP X pins σ Q) X.xe s
section
variable {X:Cx} {a b:Expr} {ta tb:TE} {pos:Pos}
theorem IxR.or {r r':R2}(h:IxR X r)(h':IxR X r'):IxR X (fun x y H Q=>r x y H Q∨r' x y H Q):=by
 intro value slice pins s σ H x y v u Q I rx ry q hs
 rcases q with q|q
 ·exact h value slice pins s σ H x y v u Q I rx ry q hs
 ·exact h' value slice pins s σ H x y v u Q I rx ry q hs
theorem MtR.or {id:String}{r r':V→List V→Hp→VK→Prop}(h:MtR X id r)(h':MtR X id r'):MtR X id (fun x xs H Q=>r x xs H Q∨r' x xs H Q):=by
 intro pins s σ H x xs v us Q I rx rs q
 rcases q with q|q
 ·exact h pins s σ H x xs v us Q I rx rs q
 ·exact h' pins s σ H x xs v us Q I rx rs q
theorem b5M {r:R2}(hr:IxR X r)(ha:PE X a ta)(hb:PE X b tb)(hs:a6G b):PE X (.Subscript a b pos) (tOp r ta tb):=by
 intro pins s σ H Q I h
 exact Subscript_ (b4E ha hb I h fun v u s2 x y H2 I2 rx ry q=>hr a b pins s2 σ H2 x y v u Q I2 rx ry q (hs _ _))
def b6D (K:PySem.W.Frag):R2:=fun x y H Q=>∃p xs i v,x= .ref p∧y= .int i∧SqL K H p xs∧atI xs i=some v∧Q v H
def b5Q (K:PySem.W.Frag):R2:=fun x y H Q=>∃p xs i v,x= .ref p∧y= .int i∧SqT K H p xs∧atI xs i=some v∧Q v H
def b6F:R2:=fun x y H Q=>∃z i c,x= .str z∧y= .int i∧z.length≤sizeLine∧atI z.cps.toList i=some c∧Q (.str ⟨#[c]⟩) H
theorem ix_list:IxR X (b6D X.K):=by
 intro value slice pins s σ H x y v u Q I rx ry h hs
 obtain⟨p,xs,i,z,rfl,rfl,hq,he,q⟩:=h
 cases rx
 obtain⟨t,rfl⟩:=ry
 obtain⟨its,r,pl,hz⟩:=I.list hq
 obtain⟨j,h1,h2,h3,h4,h5⟩:=a4l he
 obtain⟨w,ew,rw'⟩:=r.get h2
 have hl:=r.length
 have hn:=a1C
 have fin:EP X pins σ Q w s:=⟨z,H,I,rw',q⟩
 by_cases h0:0≤i
 ·have hj:i.toNat=j:=by
   rw[seqIndex_of h0 h5] at h1
   exact Option.some.inj h1
  exact item_listR pl.isList h0 (by omega) (by rw[hj];simpa using ew) fin hs
 ·have hj:(i+(its.toArray.size:Int)).toNat=j:=by
   rw[seqIndex_neg (by omega) h4] at h1
   rw[List.size_toArray,←hl]
   exact Option.some.inj h1
  exact subscriptTail_builtinR (x:=w) pl.isList.typeIs slot_list_getitem.lookup
   (wpAny_getItem_list_neg (Q:=fun r s'=>r=w∧EP X pins σ Q r s') pl.isList (by omega) (by rw[List.size_toArray]<;>omega) (by omega) (by rw[hj];simpa using ew) ⟨rfl,fin⟩) hs
theorem ix_tup:IxR X (b5Q X.K):=by
 intro value slice pins s σ H x y v u Q I rx ry h hs
 obtain⟨p,xs,i,z,rfl,rfl,hq,he,q⟩:=h
 cases rx
 obtain⟨t,rfl⟩:=ry
 obtain⟨its,r,pl,hz⟩:=I.tuple hq
 obtain⟨j,h1,h2,h3,h4,h5⟩:=a4l he
 obtain⟨w,ew,rw'⟩:=r.get h2
 have hl:=r.length
 have hn:=a1C
 have fin:EP X pins σ Q w s:=⟨z,H,I,rw',q⟩
 exact subscriptTail_builtinR (x:=w) pl.typeIs slot_tuple_getitem.lookup
  (getItem_tuple (j:=j) (Q:=fun r s'=>r=w∧EP X pins σ Q r s') pl (by omega) (by omega) (by rw[List.size_toArray,←hl];exact h1) (by simpa using ew) ⟨rfl,fin⟩) hs
theorem b3V:IxR X b6F:=by
 intro value slice pins s σ H x y v u Q I rx ry h hs
 obtain⟨z,i,c,rfl,rfl,hz,he,q⟩:=h
 obtain⟨t,rfl⟩:=rx
 obtain⟨t',rfl⟩:=ry
 obtain⟨j,h1,h2,h3,h4,h5⟩:=a4l he
 have hl:z.cps.toList.length=z.length:=by simp [Str.length]
 rw[hl] at h1 h4 h5
 have hn:=a1C
 exact tail_any (typeIs_str s z t) slot_str_getitem.lookup (getItem_str (c:=c) (by
  have e1:decide (i< -(2 ^ 63:Int))=false:=decide_eq_false (by omega)
  have e2:decide (i≥2 ^ 63)=false:=decide_eq_false (by omega)
  rw[e1,e2,Bool.or_false]) (by rw[h1];simpa using h2) ⟨.str ⟨#[c]⟩,H,I.tok _,⟨_,rfl⟩,q⟩) hs
def rIx (K:PySem.W.Frag):R2:=fun x y H Q=>b6D K x y H Q∨b5Q K x y H Q∨b6F x y H Q
theorem ix_seq:IxR X (rIx X.K):=ix_list.or (ix_tup.or b3V)
theorem a6j (its:List Value)(n j:Nat)(u:Value):Obj.mapSeq (·.setIfInBounds j u) {cls:= .type "list",data:= .seq its.toArray n}={cls:= .type "list",data:= .seq (its.set j u).toArray n}:=by
 simp [Obj.mapSeq]
theorem Inv.lst {pins:List (Addr×Obj)}{σ:St}{H:Hp}{s:Shared}{p:Addr}{xs:List V}(I:Inv X pins σ H s)(h:H p=some (.lst xs)):
  ∃(its:List Value) (n:Nat),Vals xs its∧s.heap.get? p=some {cls:= .type "list",data:= .seq its.toArray n}∧xs.length≤sizeLine:=by
 obtain⟨z,its,n,r,e⟩:=I.hok p _ h
 exact⟨its,n,r,e,z⟩
theorem Inv.lstUpd {pins:List (Addr×Obj)}{σ:St}{H:Hp}{s:Shared}{p:Addr}{xs ys:List V}{its its':List Value}{n n':Nat}{f:Obj→Obj}(I:Inv X pins σ H s)(h:H p=some (.lst xs))
  (ho:s.heap.get? p=some {cls:= .type "list",data:= .seq its.toArray n}) (hf:f {cls:= .type "list",data:= .seq its.toArray n}={cls:= .type "list",data:= .seq its'.toArray n'}) (r:Vals ys its') (hz:ys.length≤sizeLine) (t:Nat):
  Inv X pins σ (upd H p (.lst ys)) {s with heap:=s.heap.update p f,toks:=t}:=by
 have e:(s.heap.update p f).get? p=some {cls:= .type "list",data:= .seq its'.toArray n'}:=by
  rw[Heap.get?_update_self f ho (by rw[hf]<;>rfl),hf]
 refine I.write (x:=p) (e:=p) (by rw[h];trivial) (.inl rfl) (fun b u hb q=>(Heap.get?_update_other _ _ (Ne.symm hb)).trans q) ⟨_,e⟩ ?_
 exact⟨hz,its',n',r,e⟩
def b2x:V→V→V→Hp→(Hp→Prop)→Prop:=fun o i v H Q=>∃p xs k j,o= .ref p∧i= .int k∧H p=some (.lst xs)∧ixN xs.length k=some j∧Q (upd H p (.lst (xs.set j v)))
theorem a9m:a7J X b2x:=by
 intro pins s σ H o i v ov iv u Q I ro ri rv h
 obtain⟨p,xs,k,j,rfl,rfl,hp,hj,q⟩:=h
 cases ro
 obtain⟨t,rfl⟩:=ri
 obtain⟨its,n,r,ho,hz⟩:=I.lst hp
 obtain⟨h1,h2,h3,h4⟩:=a7v hj
 have hl:=r.length
 have hn:=a1C
 have I':Inv X pins σ (upd H p (.lst (xs.set j v))) {s with heap:=s.heap.update p (Obj.mapSeq (·.setIfInBounds j u))}:=
  I.lstUpd hp ho (a6j its n j u) (r.set rv j) (by rw[List.length_set];exact hz) s.toks
 by_cases h0:0≤k
 ·have hk:k.toNat=j:=by
   rw[seqIndex_of h0 h4] at h1
   exact Option.some.inj h1
  exact PySem.W.ki_setAt ho h0 (by omega) (by rw[List.size_toArray,←hl];exact h4) (by rw[hk];exact⟨_,I',q⟩)
 ·have hk:(k+(its.toArray.size:Int)).toNat=j:=by
   rw[seqIndex_neg (by omega) h3] at h1
   rw[List.size_toArray,←hl]
   exact Option.some.inj h1
  exact PySem.W.ki_setBack ho (by omega) (by rw[List.size_toArray,←hl];exact h3) (by omega) (by rw[hk];exact⟨_,I',q⟩)
theorem a3H (lo hi:Option Int)(n:Nat):(sliceBounds lo hi none n).1=((HT.sIx n 0 lo:Nat):Int)∧(sliceBounds lo hi none n).2.1=((HT.sIx n n hi:Nat):Int)∧(sliceBounds lo hi none n).2.2=1:=by
 refine⟨?_,?_,rfl⟩
 ·cases lo with
  |none=>simp [sliceBounds,HT.sIx]
  |some i=>
   simp only[sliceBounds,HT.sIx,Option.getD_none,show(1:Int)>0 by decide,if_true]
   by_cases h:i<0
   ·simp only[h,if_true]<;>omega
   ·simp only[h,if_false]<;>omega
 ·cases hi with
  |none=>simp [sliceBounds,HT.sIx]
  |some i=>
   simp only[sliceBounds,HT.sIx,Option.getD_none,show(1:Int)>0 by decide,if_true]
   by_cases h:i<0
   ·simp only[h,if_true]<;>omega
   ·simp only[h,if_false]<;>omega
theorem a3b (its:List Value)(lo hi:Option Int):slicePick its.toArray lo hi none=((its.drop (HT.sIx its.length 0 lo)).take (HT.sIx its.length its.length hi -HT.sIx its.length 0 lo)).toArray:=by
 obtain⟨h1,h2,h3⟩:=a3H lo hi its.toArray.size
 unfold slicePick
 rw[h1,h2,h3]
 simp only[sliceRange_one,pick_run,List.size_toArray]<;>rfl
def b6n (K:PySem.W.Frag):V→Option Int→Option Int→Hp→VK→Prop:=fun x lo hi H Q=>∃a xs,x= .ref a∧SqL K H a xs∧∀p,H p=none→Q (.ref p) (upd H p (.lst (a1i xs lo hi)))
theorem sl_list:SlR X (b6n X.K):=by
 intro pins s σ H x v vl vu lo hi sl Q I rx hs pl pu h
 obtain⟨a,xs,rfl,hx,q⟩:=h
 cases rx
 obtain⟨its,r,ht,hz⟩:=I.list hx
 have hlen:=r.length
 refine⟨"list",_,slot_list_getitem.lookup,ht.isList.typeIs,?_⟩
 refine wpAny_getItem_list_slice ht.isList hs pl pu .none (by simp) ?_ (by rw[List.size_toArray]<;>omega)
 rw[a3b,←hlen]
 refine⟨.ref s.heap.objs.size,_,I.laid (t':=s.toks) (o:= .lst (a1i xs lo hi)) (fun b ob q=>Heap.get?_push_of_some _ q) (Nat.le_refl _) ?_,rfl,q _ (I.hok.fresh (Nat.le_refl _))⟩
 exact⟨Nat.le_trans (a1H xs lo hi) hz,_,0,(r.drop (HT.sIx xs.length 0 lo)).take (HT.sIx xs.length xs.length hi -HT.sIx xs.length 0 lo),Heap.get?_push_size _ rfl⟩
def z6:V→Bool
 | .non=>true
 | .bl _=>true
 | .int _=>true
 | .str _=>true
 |_=>false
def eqV:V→V→Bool
 | .non,.non=>true
 | .bl a,.bl b=>a==b
 | .bl a,.int b=>(if a then 1 else 0)==b
 | .int a,.bl b=>a==(if b then 1 else 0)
 | .int a,.int b=>a==b
 | .str a,.str b=>a==b
 |_,_=>false
theorem R9 {A:Around}{s:Shared}{y x:V}{u v:Value}(ry:RelV y u)(rx:RelV x v)(fy:z6 y=true)(fx:z6 x=true):SeqAt.EqAt A s u v (eqV y x):=by
 cases y with
 |non=>
  cases ry
  cases x with
  |non=>cases rx;exact SeqAt.EqAt.same _
  |bl b=>cases rx;exact SeqAt.EqAt.none_bool b
  |int b=>obtain⟨t,rfl⟩:=rx;exact SeqAt.EqAt.none_int b t
  |str b=>obtain⟨t,rfl⟩:=rx;exact SeqAt.EqAt.none_str b t
  |_=>exact absurd (show false=true from fx) Bool.false_ne_true
 |bl a=>
  cases ry
  cases x with
  |non=>cases rx;exact SeqAt.EqAt.bool_none a
  |bl b=>cases rx;exact SeqAt.EqAt.bool_bool a b
  |int b=>obtain⟨t,rfl⟩:=rx;exact SeqAt.EqAt.bool_int a b t
  |str b=>obtain⟨t,rfl⟩:=rx;exact SeqAt.EqAt.bool_str a b t
  |_=>exact absurd (show false=true from fx) Bool.false_ne_true
 |int a=>
  obtain⟨t',rfl⟩:=ry
  cases x with
  |non=>cases rx;exact SeqAt.EqAt.int_none a t'
  |bl b=>cases rx;exact SeqAt.EqAt.int_bool a t' b
  |int b=>obtain⟨t,rfl⟩:=rx;exact SeqAt.EqAt.int_int a t' b t
  |str b=>obtain⟨t,rfl⟩:=rx;exact SeqAt.EqAt.int_str a t' b t
  |_=>exact absurd (show false=true from fx) Bool.false_ne_true
 |str a=>
  obtain⟨t',rfl⟩:=ry
  cases x with
  |non=>cases rx;exact SeqAt.EqAt.str_none a t'
  |bl b=>cases rx;exact SeqAt.EqAt.str_bool a t' b
  |int b=>obtain⟨t,rfl⟩:=rx;exact SeqAt.EqAt.str_int a t' b t
  |str b=>obtain⟨t,rfl⟩:=rx;exact SeqAt.EqAt.str_str a t' b t
  |_=>exact absurd (show false=true from fx) Bool.false_ne_true
 |_=>exact absurd (show false=true from fy) Bool.false_ne_true
def eqU (x:V)(u:Value):Bool:=match u with
 | .none=>eqV .non x
 | .bool b=>eqV (.bl b) x
 | .int i _=>eqV (.int i) x
 | .str z _=>eqV (.str z) x
 |_=>false
theorem a9T {x y:V}{u:Value}(r:RelV y u)(f:z6 y=true):eqU x u=eqV y x:=by
 cases y with
 |non=>cases r;rfl
 |bl b=>cases r;rfl
 |int i=>obtain⟨t,rfl⟩:=r;rfl
 |str z=>obtain⟨t,rfl⟩:=r;rfl
 |_=>exact absurd (show false=true from f) Bool.false_ne_true
theorem a0U {x:V}:∀{xs:List V} {us:List Value},Vals xs us→xs.all z6=true→us.any (eqU x)=xs.any fun y=>eqV y x
 |_,_,.nil,_=>rfl
 |y::xs,u::us,.cons r t,f=>by
  rw[List.all_cons,Bool.and_eq_true] at f
  rw[List.any_cons,List.any_cons,a9T r f.1,a0U t f.2]
theorem Z8 {A:Around}{s:Shared}{x:V}{v:Value}(rx:RelV x v)(fx:z6 x=true):∀{xs:List V} {us:List Value},Vals xs us→xs.all z6=true→∀u∈us,SeqAt.EqAt A s u v (eqU x u)
 |_,_,.nil,_=>fun u hu=>by cases hu
 |y::xs,u::us,.cons r t,f=>fun u' hu=>by
  rw[List.all_cons,Bool.and_eq_true] at f
  rcases List.mem_cons.mp hu with rfl|hu
  ·rw[a9T r f.1];exact R9 r rx f.1 fx
  ·exact Z8 rx fx t f.2 u' hu
def inV (x:V)(xs:List V):Bool:=xs.any fun y=>eqV y x
def rIn (K:PySem.W.Frag)(neg:Bool):R2:=fun x y H Q=>∃p xs,y= .ref p∧(SqL K H p xs∨SqT K H p xs)∧z6 x=true∧xs.all z6=true∧Q (.bl (if neg then !inV x xs else inV x xs)) H
theorem op_in_seq:OpR X (compareOp .In) (rIn X.K false):=by
 intro pins s σ H x y v u Q I rx ry h
 obtain⟨p,xs,rfl,hq,fx,fs,q⟩:=h
 cases ry
 rcases hq with hq|hq
 ·obtain⟨its,r,pl,hz⟩:=I.list hq
  refine SeqAt.in_listAt (eqU x) pl.isList (fun w hw=>Z8 rx fx r fs w (by simpa using hw)) ⟨.bl _,H,I,rfl,?_⟩
  rw[show its.toArray.any (eqU x)=its.any (eqU x) by simp,a0U r fs]
  exact q
 ·obtain⟨its,r,pl,hz⟩:=I.tuple hq
  refine SeqAt.in_tupleAt (eqU x) pl (fun w hw=>Z8 rx fx r fs w (by simpa using hw)) ⟨.bl _,H,I,rfl,?_⟩
  rw[show its.toArray.any (eqU x)=its.any (eqU x) by simp,a0U r fs]
  exact q
theorem op_notIn_seq:OpR X (compareOp .NotIn) (rIn X.K true):=by
 intro pins s σ H x y v u Q I rx ry h
 obtain⟨p,xs,rfl,hq,fx,fs,q⟩:=h
 cases ry
 rcases hq with hq|hq
 ·obtain⟨its,r,pl,hz⟩:=I.list hq
  refine SeqAt.notIn_listAt (eqU x) pl.isList (fun w hw=>Z8 rx fx r fs w (by simpa using hw)) ⟨.bl _,H,I,rfl,?_⟩
  rw[show its.toArray.any (eqU x)=its.any (eqU x) by simp,a0U r fs]
  exact q
 ·obtain⟨its,r,pl,hz⟩:=I.tuple hq
  refine SeqAt.notIn_tupleAt (eqU x) pl (fun w hw=>Z8 rx fx r fs w (by simpa using hw)) ⟨.bl _,H,I,rfl,?_⟩
  rw[show its.toArray.any (eqU x)=its.any (eqU x) by simp,a0U r fs]
  exact q
theorem a3O:OpR X (compareOp .NotIn) (fun x y H Q=>∃i j,x= .str i∧y= .str j∧Q (.bl (!(!(Builtin.Str.occurrences j i 0 j.length 1).isEmpty))) H):=by
 intro pins s σ H x y v u Q I rx ry h
 obtain⟨i,j,rfl,rfl,q⟩:=h
 obtain⟨t,rfl⟩:=rx
 obtain⟨t',rfl⟩:=ry
 exact notIn_str ⟨.bl _,H,I,rfl,q⟩
theorem CallR.or {f:Value}{r r':List V→Hp→VK→Prop}(h:CallR X f r)(h':CallR X f r'):CallR X f (fun xs H Q=>r xs H Q∨r' xs H Q):=by
 intro pins s σ H xs us Q I rs q
 rcases q with q|q
 ·exact h pins s σ H xs us Q I rs q
 ·exact h' pins s σ H xs us Q I rs q
theorem call_list_of:CallR X (.type "list") (fun xs H Q=>∃p ys,xs=[.ref p]∧(SqL X.K H p ys∨SqT X.K H p ys)∧∀l,H l=none→Q (.ref l) (upd H l (.lst ys))):=by
 intro pins s σ H xs us Q I r h
 obtain⟨p,ys,rfl,hq,q⟩:=h
 obtain⟨u,rfl,rx⟩:=P0 r
 cases rx
 have fin:∀(its:List Value),Vals ys its→ys.length≤sizeLine→∀(h':Heap) (c':Nat),(∀b o',s.heap.get? b=some o'→h'.get? b=some o')→
   h'.get? s.heap.objs.size=some {cls:= .type "list",dict:=none,data:= .seq its.toArray c',slots:= #[]}→EP X pins σ Q (.ref s.heap.objs.size) {s with heap:=h'}:=fun its r' hz h' c' kp e=>
  ⟨.ref s.heap.objs.size,_,I.laid (t':=s.toks) kp (Nat.le_refl _) (show ObjOk X.prog X.w _ h' _ (.lst ys) from⟨hz,its,c',r',e⟩),rfl,q _ (I.hok.fresh (Nat.le_refl _))⟩
 rcases hq with hq|hq
 ·obtain⟨its,r',pl,hz⟩:=I.list hq
  have hlen:=r'.length
  obtain⟨o,ho,hc,n,hd⟩:=pl.isList
  exact call_list_seq p (.inl rfl) ho hc hd (fun h' c' kp e=>fin its r' hz h' c' kp e) (by simp only[List.size_toArray]<;>omega)
 ·obtain⟨its,r',pl,hz⟩:=I.tuple hq
  have hlen:=r'.length
  obtain⟨o,ho,hc,n,hd⟩:=pl
  exact call_list_seq p (.inr rfl) ho hc hd (fun h' c' kp e=>fin its r' hz h' c' kp e) (by simp only[List.size_toArray]<;>omega)
def tyV (K:PySem.W.Frag)(T:String)(x:V)(H:Hp):Prop:=match x with
 | .str _=>T="str"
 | .int _=>T="int"
 | .ref p=>(T="list"∧∃xs,SqL K H p xs)∨(T="tuple"∧∃o,K.lookup p=some o∧o.cls= .type "tuple"∧o.dict=none)∨
   (T="dict"∧((∃kvs,H p=some (.dK kvs))∨∃kvs,H p=some (.dT kvs)))∨(T="set"∧∃S n,H p=some (.set S n))
 |_=>False
theorem b0A {pins:List (Addr×Obj)}{σ:St}{H:Hp}{s:Shared}{T:String}{x:V}{v:Value}(I:Inv X pins σ H s)(r:RelV x v)(ty:tyV X.K T x H):
  s.TypeIs v T∧∀a,v= .ref a→∃ob,s.heap.get? a=some ob∧ob.dict=none:=by
 cases x with
 |str z=>
  obtain⟨t,rfl⟩:=r
  cases (show T="str" from ty)
  exact⟨typeIs_str s z t,fun _ e=>nomatch e⟩
 |int i=>
  obtain⟨t,rfl⟩:=r
  cases (show T="int" from ty)
  exact⟨typeIs_int s i t,fun _ e=>nomatch e⟩
 |ref p=>
  cases r
  rcases ty with⟨rfl,xs,hq⟩|⟨rfl,o,hk,hc,hd⟩|⟨rfl,hk⟩|⟨rfl,S,n,hk⟩
  ·obtain⟨its,_,pl,_⟩:=I.list hq
   refine⟨pl.isList.typeIs,fun a e=>?_⟩
   cases e
   obtain⟨o,n,e,c,hd,_⟩:=pl
   exact⟨o,e,hd⟩
  ·refine⟨⟨o,I.kIn p o hk,hc⟩,fun a e=>?_⟩
   cases e
   exact⟨o,I.kIn _ o hk,hd⟩
  ·have z:∃o,s.heap.get? p=some o∧o.ExactDict:=by
    rcases hk with⟨kvs,hk⟩|⟨kvs,hk⟩
    ·obtain⟨_,_,_,_,o,_,_,e,ex,_⟩:=I.hok p _ hk
     exact⟨o,e,ex⟩
    ·obtain⟨_,_,_,_,o,_,_,e,ex,_⟩:=I.hok p _ hk
     exact⟨o,e,ex⟩
   obtain⟨o,e,ex⟩:=z
   refine⟨⟨o,e,ex.1⟩,fun a e2=>?_⟩
   cases e2
   exact⟨o,e,ex.2.1⟩
  ·obtain⟨o,_,_,_,e,ex,_⟩:=I.hok p _ hk
   refine⟨⟨o,e,ex.1⟩,fun a e2=>?_⟩
   cases e2
   exact⟨o,e,ex.2.1⟩
 |_=>exact False.elim ty
def b3E (K:PySem.W.Frag)(T:String)(r:V→List V→Hp→VK→Prop)(to:TE):TE:=fun σ H Q=>to σ H fun x H1=>tyV K T x H1∧r x [] H1 Q
def tBM (K:PySem.W.Frag)(T:String)(r:V→List V→Hp→VK→Prop)(to:TE)(t:TA):TE:=fun σ H Q=>to σ H fun x H1=>tyV K T x H1∧t σ H1 fun xs H2=>r x xs H2 Q
variable {o e:Expr} {es:List Expr} {to:TE} {t:TA} {name:Str} {apos cpos:Pos} {T id:String} {r:V→List V→Hp→VK→Prop}
theorem b4r (pa:PlainAttrs T)(slot:Slot T name id)(hty:typeOf (.builtin id)=pure (.type "method_descriptor"))(hm:MtR X id r)(ho:PE X o to)
  (hbase:attributeBase o name X.env (eval o X.env)=eval o X.env:=by rfl) (hline:(apos.endLine==cpos.line)=true:=by rfl):PE X (.Call (.Attribute o name apos) [] [] cpos) (b3E X.K T r to):=by
 intro pins s σ H Q I h
 refine wpAny_Call_method0_late hbase hline (thn (ho pins s σ H _ I h) fun v s1 ⟨x,H1,I1,r1,ty,q1⟩=>?_)
 obtain⟨h1,h2⟩:=b0A I1 r1 ty
 exact⟨T,id,pa,slot,hty,h1,h2,Calls.callWith_builtin rfl (PySem.evalArgs_none (hm pins s1 σ H1 x [] v [] Q I1 r1 .nil q1))⟩
theorem b6m (pa:PlainAttrs T)(slot:Slot T name id)(hty:typeOf (.builtin id)=pure (.type "method_descriptor"))(hm:MtR X id r)(ho:PE X o to)(ha:PA X (e::es) t)
  (hbase:attributeBase o name X.env (eval o X.env)=eval o X.env:=by rfl)
  (hfew:((backTo cpos (starEach (e::es) X.env)).all (fun x=>!x.1)&&(backToKw cpos (keywordEach [] X.env)).all (fun x=>x.1.isSome)
   &&decide ((e::es).length+([]:List Keyword).length+(if([]:List Keyword).isEmpty then 0 else 1)<30))=true:=by rfl)
  (hline:(apos.endLine==cpos.line)=true:=by rfl) (hs:starEach (e::es) X.env=(false,eval e X.env)::starEach es X.env:=by rfl) (hplain:(backTo cpos (starEach es X.env)).any (·.1)=false:=by rfl):
  PE X (.Call (.Attribute o name apos) (e::es) [] cpos) (tBM X.K T r to t):=by
 intro pins s σ H Q I h
 refine wpAny_Call_method_late hbase hfew hline rfl (thn (ho pins s σ H _ I h) fun v s1 ⟨x,H1,I1,r1,ty,q1⟩=>?_)
 obtain⟨h1,h2⟩:=b0A I1 r1 ty
 refine⟨T,id,pa,slot,hty,h1,h2,?_⟩
 have hA:=ha cpos pins s1 σ H1 _ I1 q1
 rw[hs] at hA⊢
 refine Calls.callWith_builtin (by show(false||(backTo cpos (starEach es X.env)).any (·.1))=false;rw[hplain]<;>rfl) (Calls.evalArgs_plain ?_)
 exact thn hA fun us s2 ⟨vs,H2,I2,r2,q2⟩=>hm pins s2 σ H2 x vs v us Q I2 r1 r2 q2
end
end L2
namespace L2
open PySem PySem.Spec PyProof.Rows
def MtM (X:Cx)(id:String)(r:V→List V→Hp→VK→Prop):Prop:=
 ∀(pins:List (Addr×Obj)) (s:Shared) (σ:St) (H:Hp) (x:V) (xs:List V) (v:Value) (us:List Value) (Q:VK),Inv X pins σ H s→RelV x v→Vals xs us→r x xs H Q→
  wpAny (model X.prog X.w) X.A (call (.builtin id) (v::us)) (EP X pins σ Q) X.xe s
theorem Vals.one:∀{x:V} {us:List Value},Vals [x] us→∃u,us=[u]∧RelV x u
 |_,_,.cons r .nil=>⟨_,rfl,r⟩
theorem Vals.two:∀{x y:V} {us:List Value},Vals [x,y] us→∃u v,us=[u,v]∧RelV x u∧RelV y v
 |_,_,_,.cons r (.cons q .nil)=>⟨_,_,rfl,r,q⟩
theorem Vals.zero:∀{us:List Value},Vals [] us→us=[]
 |_,.nil=>rfl
theorem Vals.dropLast {xs:List V}{us:List Value}(h:Vals xs us):Vals xs.dropLast us.dropLast:=by
 induction h with
 |nil=>exact .nil
 |cons r t ih=>
  cases t with
  |nil=>exact .nil
  |cons q t'=>exact .cons r ih
theorem Vals.eraseIdx:∀{xs:List V} {us:List Value} (i:Nat),Vals xs us→Vals (xs.eraseIdx i) (us.eraseIdx i)
 |_,_,_,.nil=> .nil
 |_,_,0,.cons _ t=>t
 |_,_,i+1,.cons r t=> .cons r (Vals.eraseIdx i t)
theorem Vals.reverse {xs:List V}{us:List Value}(h:Vals xs us):Vals xs.reverse us.reverse:=by
 induction h with
 |nil=>exact .nil
 |cons r t ih=>rw[List.reverse_cons,List.reverse_cons];exact Vals.append ih (.cons r .nil)
theorem a5T {α:Type}(l:List α):l.eraseIdx (l.length -1)=l.dropLast:=by
 induction l with
 |nil=>rfl
 |cons a r ih=>
  cases r with
  |nil=>rfl
  |cons b r=>
   have e:(a::b::r).length -1=((b::r).length -1)+1:=by
    have h1:(a::b::r).length=r.length+2:=rfl
    have h2:(b::r).length=r.length+1:=rfl
    omega
   rw[e,List.eraseIdx_cons_succ,ih]
   all_goals rfl
section
variable {X:Cx} {pins:List (Addr×Obj)} {σ:St} {H:Hp} {s:Shared} {l b:Addr} {xs ys zs:List V}
theorem Inv.lset {its its':List Value}{n:Nat}{f:Array Value→Array Value}{t':Nat}(I:Inv X pins σ H s)(hH:H l=some (.lst xs))
  (e:s.heap.get? l=some {cls:= .type "list",data:= .seq its.toArray n}) (hf:f its.toArray=its'.toArray) (hv:Vals ys its') (hz:ys.length≤sizeLine):
  Inv X pins σ (upd H l (.lst ys)) {s with heap:=s.heap.update l (Obj.mapSeq f),toks:=t'}:=by
 have q:=PySem.IsL.update e f
 rw[hf] at q
 refine I.write (x:=l) (e:=l) (by rw[hH];exact trivial) (.inl rfl) (fun b' u hb hu=>(Heap.get?_update_other s.heap (Obj.mapSeq f) (Ne.symm hb)).trans hu) ⟨_,q⟩ ?_
 exact⟨hz,its',_,hv,q⟩
theorem Inv.lnew {its:List Value}{t':Nat}(I:Inv X pins σ H s)(hv:Vals ys its)(hz:ys.length≤sizeLine):
  Inv X pins σ (upd H s.heap.objs.size (.lst ys)) {s with heap:=s.heap.push {cls:= .type "list",data:= .seq its.toArray},toks:=t'}:=
 I.laid (fun _ _ q=>Heap.get?_push_of_some _ q) (Nat.le_refl _) ⟨hz,its,0,hv,Heap.get?_push_size _ rfl⟩
theorem Inv.fresh (I:Inv X pins σ H s):H s.heap.objs.size=none:=I.hok.fresh (Nat.le_refl _)
theorem Inv.lstM (I:Inv X pins σ H s)(hH:H l=some (.lst xs)):xs.length≤sizeLine∧∃(its:List Value) (n:Nat),Vals xs its∧xs.length=its.length∧s.heap.get? l=some {cls:= .type "list",data:= .seq its.toArray n}:=by
 obtain⟨z,its,n,r,e⟩:=I.hok l _ hH
 exact⟨z,its,n,r,r.length,e⟩
theorem a2J {n:Nat}(h:n≤sizeLine):Builtin.List.listTooLong n=false:=by
 unfold Builtin.List.listTooLong
 exact decide_eq_false (by omega)
end
section
variable {X:Cx}
def a7r:V→List V→Hp→VK→Prop:=fun x vs H Q=>∃l xs y,x= .ref l∧vs=[y]∧H l=some (.lst xs)∧xs.length<sizeLine∧Q .non (upd H l (.lst (xs++[y])))
theorem a7A:MtM X "list.append" a7r:=by
 intro pins s σ H x vs v us Q I rx rv h
 obtain⟨l,xs,y,rfl,rfl,hH,hz,q⟩:=h
 cases rx
 obtain⟨u,rfl,ru⟩:=rv.one
 obtain⟨z,its,n,r,hl,e⟩:=I.lstM hH
 refine call_meets F.slot_list_append ⟨_,e,rfl⟩ F.entry_list_append (F.args_list_append_2 _ _) (PySem.list_append l its.toArray n u (by rw[List.size_toArray];omega)) ⟨e,?_⟩
 refine⟨.non,_,I.lset (its':=its++[u]) hH e (by simp) (r.append (.cons ru .nil)) ?_,rfl,q⟩
 rw[List.length_append,List.length_singleton]
 omega
def a7i:V→List V→Hp→VK→Prop:=fun x vs H Q=>∃l b xs zs,x= .ref l∧vs=[.ref b]∧H l=some (.lst xs)∧H b=some (.lst zs)∧xs.length+zs.length≤sizeLine∧Q .non (upd H l (.lst (xs++zs)))
theorem a7z:MtM X "list.extend" a7i:=by
 intro pins s σ H x vs v us Q I rx rv h
 obtain⟨l,b,xs,zs,rfl,rfl,hH,hB,hz,q⟩:=h
 cases rx
 obtain⟨u,rfl,ru⟩:=rv.one
 cases ru
 obtain⟨z,its,n,r,hl,e⟩:=I.lstM hH
 obtain⟨z2,its2,n2,r2,hl2,e2⟩:=I.lstM hB
 have hsz:its.toArray.size+its2.toArray.size≤sizeLine:=by rw[List.size_toArray,List.size_toArray];omega
 have hlong:¬(!its.toArray.isEmpty&&Builtin.List.listTooLong (its.toArray.size+its2.toArray.size))=true:=by
  rw[a2J hsz,Bool.and_false]
  exact Bool.false_ne_true
 refine call_meets F.slot_list_extend ⟨_,e,rfl⟩ F.entry_list_extend (F.args_list_extend_2 _ _)
  (AutoSeq1.list_extend_list_list_0 l its.toArray n b its2.toArray n2 hlong (by rw[List.size_toArray];omega) (by omega)) ⟨e,e2,?_⟩
 refine⟨.non,_,I.lset (its':=its++its2) hH e (by simp) (r.append r2) ?_,rfl,q⟩
 rw[List.length_append]
 omega
def b5t:V→List V→Hp→VK→Prop:=fun x vs H Q=>∃l xs y,x= .ref l∧vs=[]∧H l=some (.lst xs)∧xs[xs.length -1]?=some y∧Q y (upd H l (.lst xs.dropLast))
theorem b3B:MtM X "list.pop" b5t:=by
 intro pins s σ H x vs v us Q I rx rv h
 obtain⟨l,xs,y,rfl,rfl,hH,hy,q⟩:=h
 cases rx
 have hus:=rv.zero
 subst hus
 obtain⟨z,its,n,r,hl,e⟩:=I.lstM hH
 obtain⟨u,hu,ru⟩:=r.get hy
 have hy':its.toArray[its.toArray.size -1]?=some u:=by
  show its.toArray[its.length -1]?=some u
  rw[←Array.getElem?_toList,←hl]
  exact hu
 refine call_meets F.slot_list_pop ⟨_,e,rfl⟩ F.entry_list_pop (F.args_list_pop_1 _) (MeetsSeq.list_pop_last l its.toArray n u hy' (by rw[List.size_toArray];omega)) ⟨e,?_⟩
 refine⟨y,_,I.lset (its':=its.dropLast) hH e ?_ r.dropLast ?_,ru,q⟩
 ·show its.toArray.eraseIdxIfInBounds (its.toArray.size -1)=its.dropLast.toArray
  rw[List.size_toArray,List.eraseIdxIfInBounds_toArray,a5T]
 ·rw[List.length_dropLast]
  omega
def b6M:R2:=fun x y H Q=>∃l b xs zs,x= .ref l∧y= .ref b∧H l=some (.lst xs)∧H b=some (.lst zs)∧xs.length+zs.length≤sizeLine∧∀p,H p=none→Q (.ref p) (upd H p (.lst (xs++zs)))
theorem op_cat:OpR X (binaryOp .Add) b6M:=by
 intro pins s σ H x y v u Q I rx ry h
 obtain⟨l,b,xs,zs,rfl,rfl,hH,hB,hz,q⟩:=h
 cases rx
 cases ry
 obtain⟨z,its,n,r,hl,e⟩:=I.lstM hH
 obtain⟨z2,its2,n2,r2,hl2,e2⟩:=I.lstM hB
 refine PySem.P.add_list e e2 ?_ (by rw[List.size_toArray,List.size_toArray];omega)
 have ea:its.toArray++its2.toArray=(its++its2).toArray:=by simp
 rw[ea]
 exact⟨.ref _,_,I.lnew (t':=s.toks) (r.append r2) (by rw[List.length_append];omega),rfl,q _ I.fresh⟩
end
section
variable {prog:Program} {w:World} {A:Around} {E:Value→Shared→Prop} {s:Shared}
theorem a5I {a c n:Nat}(hac:a≤c)(hc:c≤n):sliceBounds (some (a:Int)) (some (c:Int)) none n=((a:Int),(c:Int),1):=by
 simp only[sliceBounds,Option.getD_none]
 have h1:¬((a:Int)<0):=by omega
 have h2:¬((c:Int)<0):=by omega
 simp only[h1,h2,if_false,show(1:Int)>0 by decide,if_true]
 congr 1
 ·omega
 ·congr 1;omega
set_option maxRecDepth 100000 in
theorem b0W {l b sl : Addr} {items new : Array Value} {n n2 : Nat} {vl vu : Value} {a c : Nat} {Q : Unit → Shared → Prop}
    (e : s.heap.get? l = some { cls := .type "list", data := .seq items n }) (e2 : s.heap.get? b = some { cls := .type "list", data := .seq new n2 }) (hne : l ≠ b)
    (hs : s.heap.IsSliceOf sl vl vu .none) (pl : IsPart vl (some (a : Int))) (pu : IsPart vu (some (c : Int))) (hac : a ≤ c) (hc : c ≤ items.size)
    (hsz : items.size + new.size ≤ sizeLine) (h : Q () { s with heap := s.heap.update l (Obj.mapSeq fun xs => xs.extract 0 a ++ new ++ xs.extract c xs.size) }) :
    wpAny (model prog w) A (setItem (.ref l) (.ref sl) (.ref b)) Q E s := by
  have hl : s.heap.IsList l items := PySem.IsL.isList e
  have hb : s.heap.IsList b new := PySem.IsL.isList e2
  obtain ⟨os, hos, hcs, hds⟩ := id hs
  have hTs : s.TypeIs (.ref sl) "slice" := ⟨os, hos, hcs⟩
  have hstep : ¬ ((rawPart none == rawInt 0) = true) := Bool.false_ne_true
  have hsame : Builtin.List.listSameRef (.ref l) (.ref b) = false := by
    unfold Builtin.List.listSameRef
    exact beq_eq_false_iff_ne.mpr hne
  have hmax : (max (a : Int) (c : Int)).toNat = c := by omega
  have hz' : ((fun xs : Array Value => xs.extract 0 a ++ new ++ xs.extract c xs.size) items).size ≤ sizeLine + 1 := by
    simp only [Array.size_append, Array.size_extract]
    omega
  unfold setItem
  try with_reducible refine wpAny_holding ?_
  first | refine wpAny_bind (wpAny_pure ?_) | skip
  refine wpAny_bind (wpAny_sequenceKey hl.typeIs (by decide) ?_)
  refine wpAny_bind (wpAny_callSpecial?_slot (name := Str.ofString "__setitem__") hl.typeIs slot_list_setitem
    (wpAny_call_entry slot_list_setitem hl.typeIs entry_list_setitem ?_ (args_list_setitem _ _ _)))
  show wpAny _ _ (Builtin.List.listSubscript? (.ref sl) >>= _) _ _ s
  refine wpAny_bind ?_
  unfold Builtin.List.listSubscript?
  refine wpAny_bind (wpAny_specialOf hTs slice_no_index ?_)
  simp only [Option.isNone_none, if_true]
  refine wpAny_pure ?_
  show wpAny _ _ (typeOf (.ref sl) >>= _) _ _ s
  refine wpAny_bind (wpAny_typeOf hTs ?_)
  first
    | rw [if_neg (by decide)]
    | refine PySem.W.KFB.if_not (by decide) ?_
  rw [listSliceParts_eq]
  refine wpAny_bind (wpAny_bind (wpAny_field hos hds (x := .none) rfl (wpAny_bind (wpAny_listPart .none ?_))))
  rw [if_neg hstep]
  refine wpAny_bind (wpAny_field hos hds (x := vl) rfl (wpAny_bind (wpAny_listPart pl ?_)))
  refine wpAny_bind (wpAny_field hos hds (x := vu) rfl (wpAny_bind (wpAny_listPart pu (wpAny_pure ?_))))
  first
    | simp only [hsame, Bool.false_eq_true, if_false]
    | refine PySem.W.KFB.if_not hsame ?_
    | (dsimp only
       rw [if_neg (by rw [hsame]; exact Bool.false_ne_true)])
  refine wpAny_bind (m := Builtin.List.listAllItems (.ref b) "must assign iterable to extended slice") ?_
  unfold Builtin.List.listAllItems
  refine wpAny_bind (wpAny_typeOf hb.typeIs ?_)
  first
    | refine PySem.W.KFB.if_so (by decide) ?_
    | rw [if_pos (by decide)]
    | simp only [beq_self_eq_true, Bool.true_or, if_true]
  unfold Builtin.List.listItems
  refine wpAny_bind (wpAny_seqItems e2 rfl (wpAny_pure ?_))
  refine wpAny_bind (wpAny_bind (wpAny_seqItems e rfl (wpAny_pure ?_)))
  refine wpAny_bind (wpAny_of_eq ((sliceIndices_raw (some (a : Int)) (some (c : Int)) none items.size (by simp)).trans (congrArg (pure : Int × Int × Int → Sem (Int × Int × Int)) (a5I hac hc))) ?_)
  show wpAny _ _ (if ((1 : Int) == 1) = true then _ else _) _ _ s
  rw [if_pos (by decide)]
  refine wpAny_bind (wpAny_rule ?_)
  first
    | simp only [a2J hsz, Bool.false_eq_true, if_false]
    | refine PySem.W.KFB.if_not (a2J hsz) ?_
  first | refine wpAny_bind (wpAny_pure ?_) | skip
  show wpAny _ _ (updateSeq l (fun xs => xs.extract 0 ((a : Int)).toNat ++ new ++ xs.extract (max (a : Int) (c : Int)).toNat xs.size) >>= _) _ _ s
  rw [hmax, Int.toNat_natCast]
  refine wpAny_bind (wpAny_updateSeq (hz := Nat.le_trans (Nat.le_add_right _ _) hsz) (_hz' := hz') e rfl ?_)
  refine wpAny_bind (wpAny_letGo ?_)
  first
    | exact wpAny_bind (wpAny_pure (wpAny_pure ⟨.none, rfl, wpAny_pure h⟩))
    | exact wpAny_pure ⟨.none, rfl, wpAny_pure h⟩
end
section
variable {X:Cx}
end
end L2
namespace L2
open PySem PySem.Spec PyProof.Rows
section
variable {κ:Type} [DecidableEq κ]
def p6 (kvs:List (κ×V))(k:κ):Option V:=(kvs.find? fun kv=>decide (kv.1=k)).map (·.2)
def B8 (kvs:List (κ×V))(k:κ)(v:V):List (κ×V):=
 if(kvs.any fun kv=>decide (kv.1=k))=true then kvs.map (fun kv=>if kv.1=k then(kv.1,v) else kv) else kvs++[(k,v)]
def b2y (kvs:List (κ×V))(k:κ):List (κ×V):=kvs.filter fun kv=>decide (kv.1≠k)
theorem A2 {p:κ×V}{r:List (κ×V)}{k:κ}(e:p.1=k):p6 (p::r) k=some p.2:=by simp [p6,List.find?_cons,e]
theorem A1 {p:κ×V}{r:List (κ×V)}{k:κ}(e:¬p.1=k):p6 (p::r) k=p6 r k:=by simp [p6,List.find?_cons,e]
theorem Q4 (k:κ):∀kvs:List (κ×V),(kvs.any fun kv=>decide (kv.1=k))=(p6 kvs k).isSome
 |[]=>rfl
 |p::r=>by
  rw[List.any_cons]
  by_cases e:p.1=k
  ·simp only[A2 e,decide_eq_true e,Bool.true_or,Option.isSome_some]
  ·rw[A1 e,decide_eq_false e,Bool.false_or];exact Q4 k r
theorem a5D (k j:κ)(y:V):∀kvs:List (κ×V),p6 (kvs.map fun kv=>if kv.1=k then(kv.1,y) else kv) j=(p6 kvs j).map fun x=>if j=k then y else x
 |[]=>rfl
 |p::r=>by
  have ih:=a5D k j y r
  rw[List.map_cons]
  by_cases h:p.1=k
  ·rw[if_pos h]
   by_cases e:p.1=j
   ·rw[A2 (p:=(p.1,y)) e,A2 e,Option.map_some,if_pos (e.symm.trans h)]
   ·rw[A1 (p:=(p.1,y)) e,A1 e,ih]
  ·rw[if_neg h]
   by_cases e:p.1=j
   ·rw[A2 (p:=p) e,A2 e,Option.map_some,if_neg (fun z=>h (e.trans z))]
   ·rw[A1 (p:=p) e,A1 e,ih]
theorem a3t (k j:κ)(y:V):∀kvs:List (κ×V),p6 kvs k=none→p6 (kvs++[(k,y)]) j=if j=k then some y else p6 kvs j
 |[],_=>by
  by_cases e:k=j
  ·rw[if_pos e.symm];exact A2 (p:=(k,y)) e
  ·rw[if_neg (fun z=>e z.symm)];exact A1 (p:=(k,y)) e
 |p::r,hn=>by
  rw[List.cons_append]
  have hk:¬p.1=k:=fun z=>by rw[A2 z] at hn;cases hn
  rw[A1 hk] at hn
  have ih:=a3t k j y r hn
  by_cases e:p.1=j
  ·rw[A2 e,A2 e,if_neg (fun z=>hk (e.trans z))]
  ·rw[A1 e,A1 e,ih]
theorem C6 (kvs:List (κ×V))(k j:κ)(y:V):p6 (B8 kvs k y) j=if j=k then some y else p6 kvs j:=by
 unfold B8
 by_cases a:(kvs.any fun kv=>decide (kv.1=k))=true
 ·rw[if_pos a,a5D]
  rw[Q4] at a
  by_cases e:j=k
  ·obtain⟨x,hx⟩:=Option.isSome_iff_exists.mp a
   rw[if_pos e,e,hx,Option.map_some,if_pos rfl]
  ·rw[if_neg e]
   cases p6 kvs j with
   |none=>rfl
   |some x=>rw[Option.map_some,if_neg e]
 ·rw[if_neg a]
  refine a3t k j y kvs ?_
  rw[Q4] at a
  cases q:p6 kvs k with
  |none=>rfl
  |some x=>rw[q] at a;exact(a rfl).elim
theorem O8 (kvs:List (κ×V))(k:κ)(v:V):(B8 kvs k v).length≤kvs.length+1:=by
 unfold B8
 split
 ·rw[List.length_map];omega
 ·rw[List.length_append,List.length_cons,List.length_nil];omega
theorem N1 {kvs:List (κ×V)}{k:κ}(v:V)(h:p6 kvs k=none):B8 kvs k v=kvs++[(k,v)]:=by
 unfold B8
 rw[Q4,h]
 exact if_neg (by decide)
theorem RelO.isSome_eq {o:Option V}{u:Option Value}(r:RelO o u):o.isSome=u.isSome:=by
 cases o with
 |none=>cases u with
  |none=>rfl
  |some _=>exact(show False from r).elim
 |some _=>cases u with
  |none=>exact(show False from r).elim
  |some _=>rfl
theorem RelO.getD {o:Option V}{u:Option Value}{d:V}{d':Value}(r:RelO o u)(rd:RelV d d'):RelV (o.getD d) (u.getD d'):=by
 cases o with
 |none=>cases u with
  |none=>exact rd
  |some _=>exact(show False from r).elim
 |some _=>cases u with
  |none=>exact(show False from r).elim
  |some _=>exact r
theorem KV.val {kvs:List (κ×V)}{vs:List (κ×Value)}(r:KV kvs vs)(k:κ):RelO (p6 kvs k) (valueAt vs k):=by
 unfold KV at r
 induction r with
 |nil=>exact True.intro
 | @cons p q ps qs h t ih=>
  obtain⟨h1,h2⟩:=h
  by_cases e:p.1=k
  ·have e':q.1=k:=h1.symm.trans e
   have b:valueAt (q::qs) k=some q.2:=by simp [valueAt,List.find?_cons,e']
   rw[A2 e,b];exact h2
  ·have e':¬q.1=k:=fun z=>e (h1.trans z)
   have b:valueAt (q::qs) k=valueAt qs k:=by simp [valueAt,List.find?_cons,e']
   rw[A1 e,b];exact ih
theorem KV.any {kvs:List (κ×V)}{vs:List (κ×Value)}(r:KV kvs vs)(k:κ):(kvs.any fun kv=>decide (kv.1=k))=vs.any fun kv=>decide (kv.1=k):=by
 unfold KV at r
 induction r with
 |nil=>rfl
 |cons h t ih=>rw[List.any_cons,List.any_cons,ih,h.1]
theorem KV.repl {kvs:List (κ×V)}{vs:List (κ×Value)}(r:KV kvs vs)(k:κ){y:V}{u:Value}(ry:RelV y u):
  KV (kvs.map fun kv=>if kv.1=k then(kv.1,y) else kv) (vs.map fun kv=>if kv.1=k then(kv.1,u) else kv):=by
 unfold KV at r⊢
 induction r with
 |nil=>exact .nil
 | @cons p q ps qs h t ih=>
  rw[List.map_cons,List.map_cons]
  refine .cons ?_ ih
  obtain⟨h1,h2⟩:=h
  by_cases e:p.1=k
  ·rw[if_pos e,if_pos (h1.symm.trans e)];exact⟨h1,ry⟩
  ·rw[if_neg e,if_neg (fun z=>e (h1.trans z))];exact⟨h1,h2⟩
theorem KV.put {kvs:List (κ×V)}{vs:List (κ×Value)}(r:KV kvs vs)(k:κ){y:V}{u:Value}(ry:RelV y u):KV (B8 kvs k y) (stored vs k u):=by
 unfold B8 stored
 rw[r.any k]
 by_cases e:(vs.any fun kv=>decide (kv.1=k))=true
 ·rw[if_pos e,if_pos e];exact r.repl k ry
 ·rw[if_neg e,if_neg e];exact Paired.snoc r ⟨rfl,ry⟩
theorem KV.drop {kvs:List (κ×V)}{vs:List (κ×Value)}(r:KV kvs vs)(k:κ):KV (b2y kvs k) (without vs k):=by
 unfold KV at r⊢
 unfold b2y without
 induction r with
 |nil=>exact .nil
 | @cons p q ps qs h t ih=>
  obtain⟨h1,h2⟩:=h
  rw[List.filter_cons,List.filter_cons]
  by_cases e:p.1=k
  ·have a:¬decide (p.1≠k)=true:=by simp [e]
   have b:¬decide (q.1≠k)=true:=by simp [h1.symm.trans e]
   rw[if_neg a,if_neg b];exact ih
  ·have e':¬q.1=k:=fun z=>e (h1.trans z)
   have a:decide (p.1≠k)=true:=by simp [e]
   have b:decide (q.1≠k)=true:=by simp [e']
   rw[if_pos a,if_pos b];exact .cons ⟨h1,h2⟩ ih
theorem KV.keys {kvs:List (κ×V)}{vs:List (κ×Value)}(r:KV kvs vs):kvs.map (·.1)=vs.map (·.1):=by
 unfold KV at r
 induction r with
 |nil=>rfl
 |cons h t ih=>rw[List.map_cons,List.map_cons,ih,h.1]
theorem KV.length {kvs:List (κ×V)}{vs:List (κ×Value)}(r:KV kvs vs):kvs.length=vs.length:=Paired.length r
end
theorem a1J {P:Program}{w:World}{k:Key}{u:Value}(r:RelV (kV k) u):(j0 P w).is k u=true:=by
 cases k with
 |inl i=>obtain⟨t,e⟩:=(show ∃t,u=Value.int i t from r);subst e;exact a5s P w i t
 |inr x=>obtain⟨t,e⟩:=(show ∃t,u=Value.str x t from r);subst e;exact a4V P w x t
theorem a3B {P:Program}{w:World}:∀{ks:List Key} {us:List Value},Vals (ks.map kV) us→ItemsAre (j0 P w) ks us
 |[],_,r=>by rw[List.map_nil] at r;cases r;exact .nil
 |k::ks,_,r=>by
  rw[List.map_cons] at r
  cases r with
  |cons h t=>exact .cons (a1J h) (a3B t)
abbrev KT (H:Hp):List (List Key×V)→List (List Key×Addr×Value)→Prop:=Paired fun p q=>p.1=q.1∧H q.2.1=some (.tup (p.1.map kV))∧RelV p.2 q.2.2
theorem KT.val {H:Hp}{kvs:List (List Key×V)}{xs:List (List Key×Addr×Value)}(r:KT H kvs xs)(k:List Key):RelO (p6 kvs k) ((atKey xs k).map (·.2)):=by
 induction r with
 |nil=>exact True.intro
 | @cons p q ps qs h t ih=>
  obtain⟨h1,_,h2⟩:=h
  by_cases e:p.1=k
  ·have e':q.1=k:=h1.symm.trans e
   have b:atKey (q::qs) k=some q.2:=by simp [atKey,List.find?_cons,e']
   rw[A2 e,b];exact h2
  ·have e':¬q.1=k:=fun z=>e (h1.trans z)
   have b:atKey (q::qs) k=atKey qs k:=by simp [atKey,List.find?_cons,e']
   rw[A1 e,b];exact ih
theorem KT.repl {H:Hp}{kvs:List (List Key×V)}{xs:List (List Key×Addr×Value)}(r:KT H kvs xs)(k:List Key){y:V}{u:Value}(ry:RelV y u):
  KT H (kvs.map fun kv=>if kv.1=k then(kv.1,y) else kv) (xs.map (putAt k u)):=by
 induction r with
 |nil=>exact .nil
 | @cons p q ps qs h t ih=>
  rw[List.map_cons,List.map_cons]
  refine .cons ?_ ih
  obtain⟨h1,h2,h3⟩:=h
  unfold putAt
  by_cases e:p.1=k
  ·rw[if_pos e,if_pos (h1.symm.trans e)];exact⟨h1,h2,ry⟩
  ·rw[if_neg e,if_neg (fun z=>e (h1.trans z))];exact⟨h1,h2,h3⟩
theorem KT.put {H:Hp}{kvs:List (List Key×V)}{xs:List (List Key×Addr×Value)}(r:KT H kvs xs)(k:List Key){b:Addr}{y:V}{u:Value}(hb:H b=some (.tup (k.map kV)))(ry:RelV y u):
  KT H (B8 kvs k y) (storedH xs k b u):=by
 have e:(kvs.any fun kv=>decide (kv.1=k))=(atKey xs k).isSome:=by
  rw[Q4,(r.val k).isSome_eq,Option.isSome_map]
 unfold B8 storedH
 rw[e]
 by_cases q:(atKey xs k).isSome=true
 ·rw[if_pos q,if_pos q];exact r.repl k ry
 ·rw[if_neg q,if_neg q];exact Paired.snoc r ⟨rfl,hb,ry⟩
theorem KT.keeps {H H':Hp}{kvs:List (List Key×V)}{xs:List (List Key×Addr×Value)}(r:KT H kvs xs)(ht:∀b ys,H b=some (.tup ys)→H' b=some (.tup ys)):KT H' kvs xs:=
 Paired.mapP r fun _ _ z=>⟨z.1,ht _ _ z.2.1,z.2.2⟩
section
variable {P:Program} {w:World} {H:Hp} {h:Heap} {a:Addr}
theorem b2F {u:HO}(ok:HOk P w H h)(e:Rd H a u):ObjOk P w H h a u:=e.ok ok
theorem L6 {kvs:List (Key×V)}(ok:HOk P w H h)(e:Rd H a (.dK kvs)):kvs.length≤sizeLine∧(a==sysModules)=false∧∃vs,KV kvs vs∧h.DictOf (j0 P w) a vs:=
 show ObjOk P w H h a (.dK kvs) from b2F ok e
theorem b0M {kvs:List (Key×V)}(ok:HOk P w H h)(e:H a=some (.dK kvs)):kvs.length≤sizeLine∧(a==sysModules)=false∧∃vs,KV kvs vs∧h.DictOf (j0 P w) a vs:=L6 ok (.inl e)
theorem a0D {ks:List Key}(ok:HOk P w H h)(e:H a=some (.tup (ks.map kV))):(tupleKind (j0 P w)).is h ks a:=by
 obtain⟨_,its,r,o,h1,h2,n,h3⟩:=(show ObjOk P w H h a (.tup (ks.map kV)) from ok a _ e)
 exact⟨o,its.toArray,n,h1,h2,h3,by simpa using a3B r⟩
theorem a2E {kvs:List (List Key×V)}(ok:HOk P w H h)(e:Rd H a (.dT kvs)):kvs.length≤sizeLine∧(a==sysModules)=false∧
  ∃xs,KT H kvs xs∧h.DictOfH (tupleKind (j0 P w)) a xs:=by
 obtain⟨z,y,xs,r,o,es,ep,h1,h2,h3,h4,h5⟩:=(show ObjOk P w H h a (.dT kvs) from b2F ok e)
 refine⟨z,y,xs,r,o,es,ep,h1,h2,h3,h4,fun x hx=>?_,h5⟩
 have all:∀{l:List (List Key×V)} {m:List (List Key×Addr×Value)},KT H l m→∀x∈m,(tupleKind (j0 P w)).is h x.1 x.2.1:=by
  intro l m q
  induction q with
  |nil=>intro x hx;exact nomatch hx
  | @cons p q ps qs hq t ih=>
   intro x hx
   rcases List.mem_cons.mp hx with e|hx
   ·subst e
    exact a0D ok (by rw[←hq.1];exact hq.2.1)
   ·exact ih x hx
 exact all r x hx
theorem b2M {kvs:List (List Key×V)}(ok:HOk P w H h)(e:H a=some (.dT kvs)):kvs.length≤sizeLine∧(a==sysModules)=false∧
  ∃xs,KT H kvs xs∧h.DictOfH (tupleKind (j0 P w)) a xs:=a2E ok (.inl e)
end
def DGet (H:Hp)(a:Addr)(y:V)(r:Option V):Prop:=
 (∃kvs k,Rd H a (.dK kvs)∧y=kV k∧r=p6 kvs k)∨∃kvs k b,Rd H a (.dT kvs)∧y= .ref b∧H b=some (.tup (k.map kV))∧r=p6 kvs k
def DPut (H:Hp)(a:Addr)(y v:V)(H':Hp):Prop:=
 (∃kvs k,H a=some (.dK kvs)∧y=kV k∧kvs.length<sizeLine∧H'=upd H a (.dK (B8 kvs k v)))∨
 ∃kvs k b,H a=some (.dT kvs)∧y= .ref b∧H b=some (.tup (k.map kV))∧kvs.length<sizeLine∧H'=upd H a (.dT (B8 kvs k v))
theorem DGet.k {H:Hp}{a:Addr}{kvs:List (Key×V)}{k:Key}(e:H a=some (.dK kvs)):DGet H a (kV k) (p6 kvs k):= .inl ⟨kvs,k,.inl e,rfl,rfl⟩
theorem DGet.t {H:Hp}{a b:Addr}{kvs:List (List Key×V)}{k:List Key}(e:H a=some (.dT kvs))(eb:H b=some (.tup (k.map kV))):DGet H a (.ref b) (p6 kvs k):= .inr ⟨kvs,k,b,.inl e,rfl,eb,rfl⟩
theorem DPut.k {H:Hp}{a:Addr}{kvs:List (Key×V)}{k:Key}{v:V}(e:H a=some (.dK kvs))(hl:kvs.length<sizeLine):DPut H a (kV k) v (upd H a (.dK (B8 kvs k v))):= .inl ⟨kvs,k,e,rfl,hl,rfl⟩
theorem DPut.t {H:Hp}{a b:Addr}{kvs:List (List Key×V)}{k:List Key}{v:V}(e:H a=some (.dT kvs))(eb:H b=some (.tup (k.map kV)))(hl:kvs.length<sizeLine):
  DPut H a (.ref b) v (upd H a (.dT (B8 kvs k v))):= .inr ⟨kvs,k,b,e,rfl,eb,hl,rfl⟩
section
variable {X:Cx} {pins:List (Addr×Obj)} {σ:St} {H:Hp} {s:Shared} {a:Addr} {y v:V} {u r:Value} {o:Option V} {A:Around} {E:Value→Shared→Prop}
theorem Inv.big (I:Inv X pins σ H s):sysModules<s.heap.objs.size:=by
 have h:mainGlobals<s.heap.objs.size:=(I.mod.glob.keeps I.bk).lt
 exact Nat.lt_trans (by decide) h
theorem a8D {Q:Value→Shared→Prop}(hu:A.units+1<cLine)(I:Inv X pins σ H s)(g:DGet H a y (some v))(ry:RelV y u)(h:∀w' s',Inv X pins σ H s'→RelV v w'→Q w' s'):
  wpAny (model X.prog X.w) A (getItem (.ref a) u) Q E s:=by
 rcases g with⟨kvs,k,e,ey,l⟩|⟨kvs,k,b,e,ey,eb,l⟩
 ·subst ey
  obtain⟨z,hd,vs,rel,dd⟩:=L6 I.hok e
  obtain⟨w',hw,rw'⟩:=RelO.some_of (v:=v) (o:=valueAt vs k) (by rw[l];exact rel.val k)
  exact wpAny_getItem_of (a1J ry) dd.mapOf hw (h w' _ (I.tok _) rw')
 ·subst ey
  cases (show u=Value.ref b from ry)
  obtain⟨z,hd,xs,rel,dd⟩:=a2E I.hok e
  obtain⟨w',hw,rw'⟩:=RelO.some_of (v:=v) (o:=(atKey xs k).map (·.2)) (by rw[l];exact rel.val k)
  obtain⟨p,hp,hp2⟩:=Option.map_eq_some_iff.mp hw
  refine wpAny_getItem_heap (tupleKind_room_in1 hu) (a0D I.hok eb) dd hp ?_
  rw[hp2]
  exact h w' _ (I.tok _) rw'
theorem b7l {Q:Value→Shared→Prop}(hu:A.units+1<cLine)(I:Inv X pins σ H s)(g:DGet H a y o)(ry:RelV y u)(h:∀s',Inv X pins σ H s'→Q (.bool o.isSome) s'):
  wpAny (model X.prog X.w) A (compareOp .In u (.ref a)) Q E s:=by
 rcases g with⟨kvs,k,e,ey,l⟩|⟨kvs,k,b,e,ey,eb,l⟩
 ·subst ey
  obtain⟨z,hd,vs,rel,dd⟩:=L6 I.hok e
  refine wpAny_in_of (a1J ry) hd dd.mapOf ?_
  rw[←(rel.val k).isSome_eq,←l]
  exact h _ (I.tok _)
 ·subst ey
  cases (show u=Value.ref b from ry)
  obtain⟨z,hd,xs,rel,dd⟩:=a2E I.hok e
  refine wpAny_in_heap (tupleKind_room_in1 hu) (a0D I.hok eb) hd dd ?_
  have q:=(rel.val k).isSome_eq
  rw[Option.isSome_map] at q
  rw[←q,←l]
  exact h _ (I.tok _)
theorem b1u {Q:Value→Shared→Prop}(hu:A.units+1<cLine)(I:Inv X pins σ H s)(g:DGet H a y o)(ry:RelV y u)(h:∀s',Inv X pins σ H s'→Q (.bool (!o.isSome)) s'):
  wpAny (model X.prog X.w) A (compareOp .NotIn u (.ref a)) Q E s:=by
 rcases g with⟨kvs,k,e,ey,l⟩|⟨kvs,k,b,e,ey,eb,l⟩
 ·subst ey
  obtain⟨z,hd,vs,rel,dd⟩:=L6 I.hok e
  refine wpAny_notIn_of (a1J ry) hd dd.mapOf ?_
  rw[←(rel.val k).isSome_eq,←l]
  exact h _ (I.tok _)
 ·subst ey
  cases (show u=Value.ref b from ry)
  obtain⟨z,hd,xs,rel,dd⟩:=a2E I.hok e
  refine wpAny_notIn_heap (tupleKind_room_in1 hu) (a0D I.hok eb) hd dd ?_
  have q:=(rel.val k).isSome_eq
  rw[Option.isSome_map] at q
  rw[←q,←l]
  exact h _ (I.tok _)
theorem a1h {h':Heap}{t':Nat}{ob:HO}(I:Inv X pins σ H s)(mu:Mut (H a))(hs:Heap.SameBut a s.heap h')(he:∃q,h'.get? a=some q)(new:ObjOk X.prog X.w (upd H a ob) h' a ob):
  Inv X pins σ (upd H a ob) {s with heap:=h',toks:=t'}:=
 I.write (x:=a) (e:=a) mu (.inl rfl) (fun b q hb z=>(hs.2 b hb).trans z) he new
theorem a2S {P:Program}{w:World}{H':Hp}{h':Heap}{kvs:List (Key×V)}{vs:List (Key×Value)}(z:kvs.length≤sizeLine)(hd:(a==sysModules)=false)(rel:KV kvs vs)(dd:h'.DictOf (j0 P w) a vs):
  ObjOk P w H' h' a (.dK kvs):=⟨z,hd,vs,rel,dd⟩
theorem a7Y {H':Hp}{Q:Unit→Shared→Prop}(hu:A.units+1<cLine)(I:Inv X pins σ H s)(g:DPut H a y v H')(ry:RelV y u)(rv:RelV v r)(h:∀s',Inv X pins σ H' s'→Q () s'):
  wpAny (model X.prog X.w) A (setItem (.ref a) u r) Q E s:=by
 rcases g with⟨kvs,k,e,ey,l,eH⟩|⟨kvs,k,b,e,ey,eb,l,eH⟩
 ·subst ey eH
  obtain⟨z,hd,vs,rel,dd⟩:=b0M I.hok e
  have hz:vs.length≤sizeLine:=by rw[←rel.length];exact z
  have hl:(B8 kvs k v).length≤sizeLine:=by have:=O8 kvs k v;omega
  refine wpAny_setItem_pairs (hsz:=hz) (a1J ry) dd fun h' dd' hs=>h _ ?_
  have he:∃q,h'.get? a=some q:=let ⟨q,_,_,hq,_⟩:=dd';⟨q,hq⟩
  exact a1h I (by rw[e];exact True.intro) hs he (a2S hl hd (rel.put k rv) dd')
 ·subst ey eH
  cases (show u=Value.ref b from ry)
  obtain⟨z,hd,xs,rel,dd⟩:=b2M I.hok e
  have hz:xs.length≤sizeLine:=by rw[←Paired.length rel];exact z
  have hl:(B8 kvs k v).length≤sizeLine:=by have:=O8 kvs k v;omega
  refine wpAny_setItem_heap (hsz:=hz) (tupleKind_room_in1 hu) (a0D I.hok eb) dd fun h' dd' hs=>h _ ?_
  obtain⟨q,es,ep,hq,h2,h3,h4,_,h5⟩:=dd'
  refine a1h I (by rw[e];exact True.intro) hs ⟨q,hq⟩ ⟨hl,hd,_,(rel.put k eb rv).keeps fun c ys ec=>?_,q,es,ep,hq,h2,h3,h4,h5⟩
  rw[b5 (b2J ec e (fun z=>nomatch z))]
  exact ec
end
section
variable {X:Cx} {pins:List (Addr×Obj)} {σ:St} {H:Hp} {s:Shared} {a:Addr} {kvs:List (Key×V)} {k:Key} {u:Value} {A:Around} {E:Value→Shared→Prop}
theorem b1K {Q:Value→Shared→Prop}(I:Inv X pins σ H s)(e:H a=some (.dK kvs))(h:∀s',Inv X pins σ (upd H a (.dK [])) s'→Q .none s'):wpAny (model X.prog X.w) A (call (.builtin "dict.clear") [.ref a]) Q E s:=by
 obtain⟨z,hd,vs,rel,dd⟩:=b0M I.hok e
 refine call_meetsIn PySem.F.slot_dict_clear dd.typeIs PySem.F.entry_dict_clear (PySem.F.args_dict_clear_1 _) (meets_dict_clear (j0 X.prog X.w) a) ⟨vs,dd,by rw[←rel.length];exact z,fun h' dd' hs=>h _ ?_⟩
 have he:∃q,h'.get? a=some q:=let ⟨q,_,_,hq,_⟩:=dd';⟨q,hq⟩
 exact a1h (t':=s.toks) I (by rw[e];exact True.intro) hs he (a2S (Nat.zero_le _) hd .nil dd')
theorem b6q {Q:Value→Shared→Prop}(I:Inv X pins σ H s)(e:Rd H a (.dK kvs))(h:∀t s',Inv X pins σ H s'→Q (.int kvs.length t) s'):wpAny (model X.prog X.w) A (call (.builtin "len") [.ref a]) Q E s:=by
 obtain⟨z,hd,vs,rel,dd⟩:=L6 I.hok e
 refine call_len_dict hd dd (by rw[←rel.length];rw[sizeLine_eq] at z;omega) ?_
 rw[←rel.length]
 exact h _ _ (I.tok _)
end
theorem a4x {X:Cx}{pins:List (Addr×Obj)}{σ:St}{H:Hp}{s:Shared}{a:Addr}{y:V}{o:Option V}(I:Inv X pins σ H s)(g:DGet H a y o):s.TypeIs (.ref a) "dict":=by
 rcases g with⟨kvs,k,e,_,_⟩|⟨kvs,k,b,e,_,_,_⟩
 ·obtain⟨_,_,vs,_,dd⟩:=L6 I.hok e
  exact dd.typeIs
 ·obtain⟨_,_,xs,_,dd⟩:=a2E I.hok e
  exact dd.typeIs
section
variable {X:Cx} {o i e value:Expr} {pos pos' tpos:Pos} {td ty tv:TE}
end
theorem a9k {P:Program}{w:World}{H:Hp}(h:Heap)(hb:sysModules<h.objs.size):ObjOk P w H (h.push {cls:= .type "dict",data:= .dict #[]}) h.objs.size (.dK []):=
 ⟨Nat.zero_le _,beq_eq_false_iff_ne.mpr (Ne.symm (Nat.ne_of_lt hb)),[],.nil,Heap.DictOf.new h⟩
theorem b0b {P:Program}{w:World}{H:Hp}(h:Heap)(hb:sysModules<h.objs.size):ObjOk P w H (h.push {cls:= .type "dict",data:= .dict #[]}) h.objs.size (.dT []):=
 ⟨Nat.zero_le _,beq_eq_false_iff_ne.mpr (Ne.symm (Nat.ne_of_lt hb)),[],.nil,_, #[],0,Heap.get?_push_size _ rfl,⟨rfl,rfl,rfl⟩,rfl,rfl,List.nodup_nil⟩
def a9M:TE:=fun _ H Q=>∀p,H p=none→Q (.ref p) (upd H p (.dK []))
def b0z:TE:=fun _ H Q=>∀p,H p=none→Q (.ref p) (upd H p (.dT []))
section
variable {X:Cx} {pos:Pos}
theorem a8Z:PE X (.Dict [] [] pos) a9M:=fun pins s σ H Q I h=>
 wpAny_Dict_empty ⟨.ref s.heap.objs.size,_,I.laid (a:=s.heap.objs.size) (o:= .dK []) (t':=s.toks) (fun _ _ q=>Heap.get?_push_of_some _ q) (Nat.le_refl _) (a9k s.heap I.big),rfl,h _ (I.hok.fresh (Nat.le_refl _))⟩
theorem a8O:PE X (.Dict [] [] pos) b0z:=fun pins s σ H Q I h=>
 wpAny_Dict_empty ⟨.ref s.heap.objs.size,_,I.laid (a:=s.heap.objs.size) (o:= .dT []) (t':=s.toks) (fun _ _ q=>Heap.get?_push_of_some _ q) (Nat.le_refl _) (b0b s.heap I.big),rfl,h _ (I.hok.fresh (Nat.le_refl _))⟩
end
def a9Z:List (TE×TE)→St→Hp→(List (V×V)→Hp→Prop)→Prop
 |[],_,H,Q=>Q [] H
 |(tk,tv)::r,σ,H,Q=>tk σ H fun x H1=>tv σ H1 fun y H2=>a9Z r σ H2 fun ps H3=>Q ((x,y)::ps) H3
abbrev VV:List (V×V)→List (Value×Value)→Prop:=Paired fun p q=>RelV p.1 q.1∧RelV p.2 q.2
def PPs (X:Cx)(pos:Pos)(keys:List (Option Expr))(values:List Expr)(trs:List (TE×TE)):Prop:=
 ∀(pins:List (Addr×Obj)) (s:Shared) (σ:St) (H:Hp) (Q:List (V×V)→Hp→Prop),Inv X pins σ H s→a9Z trs σ H Q→
  wpAny (model X.prog X.w) X.A (evalPairs (pairTrees keys values X.env pos)) (fun vs s'=>∃ps H',Inv X pins σ H' s'∧VV ps vs∧Q ps H') X.xe s
structure M1 (X:Cx) (o:Expr) (m:Str) (apos:Pos) (e:Expr) (cpos:Pos):Prop where
 base:attributeBase o m X.env (eval o X.env)=eval o X.env
 few:((backTo cpos (starEach [e] X.env)).all (fun x=>!x.1)&&(backToKw cpos (keywordEach [] X.env)).all (fun x=>x.1.isSome)
  &&decide (([e]:List Expr).length+([]:List Keyword).length+(if([]:List Keyword).isEmpty then 0 else 1)<30))=true
 line:(apos.endLine==cpos.line)=true
 trees:backTo cpos (starEach [e] X.env)=[(false,eval e X.env)]
structure M2 (X:Cx) (o:Expr) (m:Str) (apos:Pos) (e f:Expr) (cpos:Pos):Prop where
 base:attributeBase o m X.env (eval o X.env)=eval o X.env
 few:((backTo cpos (starEach [e,f] X.env)).all (fun x=>!x.1)&&(backToKw cpos (keywordEach [] X.env)).all (fun x=>x.1.isSome)
  &&decide (([e,f]:List Expr).length+([]:List Keyword).length+(if([]:List Keyword).isEmpty then 0 else 1)<30))=true
 line:(apos.endLine==cpos.line)=true
 trees:backTo cpos (starEach [e,f] X.env)=[(false,eval e X.env),(false,eval f X.env)]
def IsD (H:Hp)(a:Addr):Prop:=(∃kvs,Rd H a (.dK kvs))∨∃kvs,Rd H a (.dT kvs)
theorem b4D {X:Cx}{pins:List (Addr×Obj)}{σ:St}{H:Hp}{s:Shared}{a:Addr}(I:Inv X pins σ H s)(d:IsD H a):
  s.TypeIs (.ref a) "dict"∧(∀b,Value.ref a= .ref b→∃ob,s.heap.get? b=some ob∧ob.dict=none)∧(a==sysModules)=false:=by
 rcases d with⟨kvs,e⟩|⟨kvs,e⟩
 ·obtain⟨_,hd,vs,_,dd⟩:=L6 I.hok e
  refine⟨dd.typeIs,fun b q=>?_,hd⟩
  cases q
  obtain⟨ob,_,_,h1,h2,_⟩:=dd
  exact⟨ob,h1,h2.2.1⟩
 ·obtain⟨_,hd,xs,_,dd⟩:=a2E I.hok e
  refine⟨dd.typeIs,fun b q=>?_,hd⟩
  cases q
  obtain⟨ob,_,_,h1,h2,_⟩:=dd
  exact⟨ob,h1,h2.2.1⟩
section
variable {X:Cx} {pins:List (Addr×Obj)} {σ:St} {H:Hp} {s:Shared} {a:Addr} {y d:V} {u r:Value} {o:Option V} {A:Around} {E:Value→Shared→Prop}
theorem b4Y {Q:Value→Shared→Prop}(hu:A.units+1<cLine)(I:Inv X pins σ H s)(g:DGet H a y o)(ry:RelV y u)(rd:RelV d r)(h:∀w' s',Inv X pins σ H s'→RelV (o.getD d) w'→Q w' s'):
  wpAny (model X.prog X.w) A (call (.builtin "dict.get") [.ref a,u,r]) Q E s:=by
 rcases g with⟨kvs,k,e,ey,l⟩|⟨kvs,k,b,e,ey,eb,l⟩
 ·subst ey
  obtain⟨z,hd,vs,rel,dd⟩:=L6 I.hok e
  refine call_meetsIn PySem.F.slot_dict_get dd.typeIs PySem.F.entry_dict_get (PySem.F.args_dict_get_3 _ _ _) (meets_dict_get_default (j0 X.prog X.w) a (a1J ry) hd r) ⟨_,dd.mapOf,h _ _ (I.tok _) ?_⟩
  rw[l]
  exact(rel.val k).getD rd
 ·subst ey
  cases (show u=Value.ref b from ry)
  obtain⟨z,hd,xs,rel,dd⟩:=a2E I.hok e
  refine call_meetsIn PySem.F.slot_dict_get dd.typeIs PySem.F.entry_dict_get (PySem.F.args_dict_get_3 _ _ _) (meetsH_dict_get_default (tupleKind (j0 X.prog X.w)) a b hd r) ⟨tupleKind_room_in1 hu,k,xs,a0D I.hok eb,dd,h _ _ (I.tok _) ?_⟩
  rw[l]
  exact(rel.val k).getD rd
end
def b3A (td ty:TE):TE:=fun σ H Q=>td σ H fun x H1=>∃a,x= .ref a∧IsD H1 a∧ty σ H1 fun y H2=>∃o,DGet H2 a y o∧Q (o.getD .non) H2
def a6o (td ty tx:TE):TE:=fun σ H Q=>td σ H fun x H1=>∃a,x= .ref a∧IsD H1 a∧ty σ H1 fun y H2=>tx σ H2 fun z H3=>∃o,DGet H3 a y o∧Q (o.getD z) H3
section
variable {X:Cx} {o e f:Expr} {apos cpos:Pos} {td ty tx:TE}
theorem b0H (hu:X.A.units+1<cLine)(ho:PE X o td)(he:PE X e ty)(hf:PE X f tx)(m:M2 X o "get" apos e f cpos):PE X (.Call (.Attribute o "get" apos) [e,f] [] cpos) (a6o td ty tx):=by
 intro pins s σ H Q I h
 refine wpAny_Call_method m.base m.few m.line PySem.F.plainAttrs_dict PySem.F.slot_dict_get PySem.F.type_dict_get (thn (ho pins s σ H _ I h) fun u s1 ⟨x,H1,I1,rx,a,ex,d,q1⟩=>?_)
 subst ex
 obtain rfl:u=Value.ref a:=rx
 obtain⟨t1,t2,_⟩:=b4D I1 d
 refine⟨t1,t2,?_⟩
 rw[m.trees]
 refine Calls.callWith_builtin rfl (Calls.evalArgs_plain (Calls.spliced_cons (thn (he pins s1 σ H1 _ I1 q1) fun iv s2 ⟨y,H2,I2,ry,q2⟩=>
  Calls.spliced_cons (thn (hf pins s2 σ H2 _ I2 q2) fun fv s3 ⟨z,H3,I3,rz,ov,g,q3⟩=>Calls.spliced_nil ?_))))
 exact b4Y hu I3 g ry rz fun w' s4 I4 rw'=>⟨_,H3,I4,rw',q3⟩
end
section
variable {X:Cx} {pins:List (Addr×Obj)} {σ:St} {H:Hp} {s:Shared} {a:Addr} {kvs:List (Key×V)} {A:Around} {E:Value→Shared→Prop}
theorem b0d {Q:Value→Shared→Prop}(I:Inv X pins σ H s)(e:Rd H a (.dK kvs))(h:∀p s',H p=none→Inv X pins σ (upd H p (.dK kvs)) s'→Q (.ref p) s'):wpAny (model X.prog X.w) A (call (.type "dict") [.ref a]) Q E s:=by
 obtain⟨z,hd,vs,rel,dd⟩:=L6 I.hok e
 refine kt_call_dict hd dd (by rw[←rel.length];exact z) fun h' dd' hs=>?_
 refine h _ _ (I.hok.fresh (Nat.le_refl _)) (I.laid (a:=s.heap.objs.size) (o:= .dK kvs) (t':=s.toks) (fun b q hq=>?_) (Nat.le_refl _) (a2S z (beq_eq_false_iff_ne.mpr (Ne.symm (Nat.ne_of_lt I.big))) rel dd'))
 exact(hs.2 b (Nat.ne_of_lt (Heap.lt_size hq))).trans (Heap.get?_push_of_some _ hq)
end
section
variable {X:Cx} {pins:List (Addr×Obj)} {σ:St} {H:Hp} {s:Shared} {a:Addr} {y:V} {u:Value} {A:Around} {E:Value→Shared→Prop}
end
end L2
namespace Att
open PySem PySem.W PySem.Calls PyProof.Rows
theorem a1R {P:Params}{h:Heap}:∀(ns:List Int) (vs:List Value),WellAll P h vs (ns.map WData.int)→IntsAre vs ns:=by
 intro ns
 induction ns with
 |nil=>
  intro vs w
  rw[List.map_nil] at w
  cases w
  exact .nil
 |cons n ns ih=>
  intro vs w
  rw[List.map_cons] at w
  cases w with
  |cons a b=>
   cases a
   exact .cons _ _ (ih _ b)
theorem a7I {l:OpenLaw}{n:Nat}(hn:l.most=some n){P:Params}{h:Heap}{args:List WData}{vals:List Value}
  (hpre:l.row.toRowW.claim.pre args=true) (hwl:WellAll P h vals args):
  ∃a vs ns,vals=[Value.ref a]∧args=[WData.list (ns.map WData.int)]∧h.get? a=some {cls:= .type "list",data:= .seq vs.toArray}∧IntsAre vs ns∧ns.length≤n:=by
 have hsh:WShape.hasAll [] args [.list .int]=true:=(pre_splitW hpre).1
 have hc:l.pre.holds [] {args:=args}=true:=(pre_splitW hpre).2
 obtain⟨d,r,rfl,h1,h2⟩:=hasAllW_cons hsh
 obtain rfl:=hasAllW_nil h2
 obtain⟨xs,rfl,h3⟩:=hasW_list h1
 obtain⟨ns,rfl⟩:=items_int h3
 have hlen:ns.length≤n:=by
  unfold OpenLaw.pre at hc
  have h4:(WTm.not (.lt (.lit (.int (n:Int))) (.len (.arg 0)))).holds [] {args:=[.list (ns.map .int)]}=true:=by
   have h4:=(holds_andW hc).1
   rw[hn] at h4
   exact h4
  have h5:=condW_of h4 (w_not (w_lt w_lit (w_len_list (w_arg rfl))))
  rw[List.length_map] at h5
  refine Nat.le_of_not_lt fun q=>?_
  have q':(n:Int)<((ns.length:Nat):Int):=by omega
  first
   |(rw[decide_eq_true q'] at h5;exact absurd h5 (by decide))
   |(simp at h5;omega)
 cases hwl with
 |cons w1 w2=>
  cases w2
  cases w1 with
  |list ho hall=>exact⟨_,_,ns,rfl,rfl,ho,a1R ns _ hall,hlen⟩
theorem a8p (l:OpenLaw)(args:List WData):l.row.toRowW.claim.post args (.bool true) args=true:=
 postW_of (r:=l.row.toRowW) (X:=(true==true))
  (show WShape.has [] (.bool true) .bool=true by first|rfl|decide|simp [WShape.has,WShape.arms,WShape.armsAll])
  (show(WTm.eq .res (.lit (.bool true))).value [] {args:=args,res:=some (.bool true),after:=args}=some (.bool (true==true)) from w_eq_bool (w_res rfl) w_lit) rfl
theorem attach_call {l:OpenLaw}{n:Nat}{q:Program}{loose:List Str}{XP:(Str→Option Value)→Heap→Prop}{YP:World→Heap→Prop}{d:DefRec}
  (hn:l.most=some n) (hdf:d.params.defaults=[])
  (call:∀(w:World) (s₀ s₁:Shared) (mg mb:Str→Option Value) (fa:Addr) (o:Obj) (pm cd doc:Value) (a:Addr) (vs:List Value) (ns:List Int),
   Ground q loose [] XP w s₀ mg mb s₁.heap→YP w s₁.heap→
   s₁.heap.get? fa=some o→o.data= .func (docDef d.name d.params d.body d.scope pm cd doc)→s₁.heap.CodeRec cd d.name→mg d.name=some (.ref fa)→
   s₁.heap.get? a=some {cls:= .type "list",data:= .seq vs.toArray}→IntsAre vs ns→ns.length≤n→s₁.gens= #[]→
   codeAny (model l.prog w) callerA (.call (.ref fa) ⟨[.ref a],[]⟩) (fun r s'=>r= .ok (.ret (.bool true))∧OldK s₁.heap s'.heap∧s'.os=s₁.os∧AllBare s'.gens) s₁):
  WalkO q loose XP YP l.row.toRowW d [] (fun f vs=>PySem.call f vs):=by
 intro w s₀ s₁ mg mb G Y fa o pm cd doc dV kV ho hd hcd hD hmg hg args vals as hpre hlay hrd hwl hlo
 obtain rfl:dV= .none:=Dflts.none hD hdf
 obtain rfl:kV= .none:=Dflts.noKw hD
 obtain⟨a,vs,ns,rfl,rfl,hobj,hints,hlen⟩:=a7I hn hpre hwl
 refine enter_call (codeAny_mono (call w s₀ s₁ mg mb fa o pm cd doc a vs ns G Y ho (fd_plain hd) hcd hmg hobj hints hlen hg) fun r s' hq=>?_)
 obtain⟨rfl,h2,h3,h4⟩:=hq
 exact⟨.inl ⟨.bool true,.bool true,[],rfl,fun _=>rfl,.bool true,a8p l _,fun _=>⟨List.Pairwise.nil,fun _ hm=>(nomatch hm)⟩⟩,h2,h3,h4⟩
section
variable {prog:Program} {w:World} {A:Around} {E:Value→Shared→Prop} {s:Shared} {K:Frag}
end
end Att
namespace L2
open PySem PySem.Spec PyProof.Rows
theorem a3i:∀{vs:List Value} {ns:List Int},IntsAre vs ns→Vals (ns.map V.int) vs
 |_,_,.nil=> .nil
 |_,_,.cons n t h=> .cons ⟨t,rfl⟩ (a3i h)
def b3U (H:Hp):Prop:=∀b,H b=none∨∃o xs,H b=some (.frz o (.lst xs))
theorem a9Y {P:Program}{w:World}{K:PySem.W.Frag}{mg mb:Str→Option Value}{CX:CXT}{k:Nat}{fa a:Addr}{fd:FuncData}{x:Str}{sp:Sp}{s₁:Shared}{vs:List Value}{ns:List Int}
  (KX:K.In s₁.heap) (hns:s₁.heap.Ns mainGlobals mg) (hb:s₁.heap.Ns builtinsNs mb) (hbb:∀x:Str,x≠"__name__"→mb x=bootBuiltins x) (hlim:s₁.heap.NoLimit) (hg:s₁.gens= #[])
  (ha:s₁.heap.get? a=some {cls:= .type "list",data:= .seq vs.toArray}) (hi:IntsAre vs ns) (hl:ns.length≤sizeLine) (hr:Room k callerA)
  (F:∀base:Heap,K.In base→base.Ns mainGlobals mg→FnOk P w K mg base CX k fa fd [x] sp) (hbind:∀(s:Shared) (u:Value),BindsTo s fd ⟨[u],[]⟩ [(x,u)])
  (hsp:∀H:Hp,b3U H→SqL K H a (ns.map V.int)→sp [.ref a] H (fun v _=>v= .bl true) fun _ _ _=>False)
  (hCX:∀H e s',CX [] H s₁ (fun _ _ _=>False) e s'→False):
  codeAny (model P w) callerA (.call (.ref fa) ⟨[.ref a],[]⟩) (fun r s'=>r= .ok (.ret (.bool true))∧OldK s₁.heap s'.heap∧s'.os=s₁.os∧AllBare s'.gens) s₁:=by
 have rv:=a3i hi
 have lenV:=hi.length
 have core:∀H:Hp,b3U H→SqL K H a (ns.map V.int)→HOk P w H s₁.heap→(∀b,H b≠none→b=a)→(H a≠none→K.lookup a=none)→
   codeAny (model P w) callerA (.call (.ref fa) ⟨[.ref a],[]⟩) (fun r s'=>r= .ok (.ret (.bool true))∧OldK s₁.heap s'.heap∧s'.os=s₁.os∧AllBare s'.gens) s₁:=by
  intro H hO hS hok hA hK
  have base_of:∀{b:Addr} {o:Obj},s₁.heap.get? b=some o→H b=none→(a3W s₁.heap H).get? b=some o:=fun e n=>a8T e n
  have noA:∀{b:Addr} {o:Obj} {es:Array DictEntry} {ep:Nat},s₁.heap.get? b=some o→o.data= .dict es ep→H b=none:=fun{b o es ep} e d=>by
   cases q:H b with
   |none=>rfl
   |some u=>
    have e':b=a:=hA b (by rw[q];simp)
    subst e'
    rw[ha] at e;cases e
    have d':Data.seq vs.toArray _=Data.dict es ep:=d
    cases d'
  have nsK:∀{b:Addr} {m:Str→Option Value},s₁.heap.Ns b m→(a3W s₁.heap H).Ns b m:=fun{b m} ⟨o,es,ep,e,d,r⟩=>⟨o,es,ep,base_of e (noA e d),d,r⟩
  have hKb:K.In (a3W s₁.heap H):=fun b o e=>base_of (KX b o e) (by
   cases q:H b with
   |none=>rfl
   |some u=>
    have e':b=a:=hA b (by rw[q];simp)
    subst e'
    rw[hK (by rw[q];simp)] at e;cases e)
  have hM:Mod K mg (a3W s₁.heap H):=⟨hKb,nsK hns,⟨mb,nsK hb,hbb⟩,let ⟨mc,h1,h2⟩:=hlim;⟨mc,nsK h1,h2⟩⟩
  have e0:Env0 P w K mg (a3W s₁.heap H) callerA [] s₁ H:=⟨rfl,hM,fun b o e=>b1B e,Nat.le_of_eq (a8w _ _),trivial,fun b hb=>absurd (show b∈([]:List Addr) from hb) (by simp),hok,.of_eq hg⟩
  refine codeAny_mono ((F _ hKb (nsK hns)).run callerA [] s₁ H ⟨[.ref a],[]⟩ [.ref a] [.ref a] _ _ hr e0 (hbind s₁ (.ref a)) (.cons rfl .nil) (hsp H hO hS)) fun r s' h=>?_
  cases r with
  |error e=>exact(hCX H e s' h).elim
  |ok fl=>
   cases fl with
   |next=>exact False.elim h
   |brk=>exact False.elim h
   |cont=>exact False.elim h
   |ret u=>
    obtain⟨v,H',os,bare,un,hok',r',q⟩:=h
    have q':v= .bl true:=q
    subst q'
    obtain rfl:u=Value.bool true:=r'
    refine⟨rfl,OldK.of_keep fun b o e=>?_,os,bare⟩
    cases q:H b with
    |none=>exact un.keep b o e q (by intro z;exact absurd (show b∈([]:List Addr) from z) (by simp)) (by simp)
    |some u=>
     rcases hO b with z|⟨ob,xs,z⟩
     ·rw[q] at z;cases z
     ·have z2:=un.frzs b ob _ z
      obtain⟨e1,_⟩:=hok b _ z
      obtain⟨e2,_⟩:=hok' b _ z2
      rw[e] at e1;cases e1
      exact e2
 cases hk:K.lookup a with
 |some o=>
  have e:=KX a o hk
  rw[ha] at e
  cases e
  refine core (fun _=>none) (fun _=> .inl rfl) (.inr ⟨_,vs.toArray,_,hk,rfl,rfl,rfl,by rw[List.size_toArray,lenV];exact hl,by simpa using rv⟩) (fun b u z=>by have z':(none:Option HO)=some u:=z;cases z') (fun b z=>absurd rfl z) fun z=>absurd rfl z
 |none=>
  refine core (fun b=>if b=a then some (.frz {cls:= .type "list",data:= .seq vs.toArray} (.lst (ns.map V.int))) else none) (fun b=>?_) (.inl (.inr ⟨{cls:= .type "list",data:= .seq vs.toArray},if_pos rfl⟩)) (fun b u z=>?_) (fun b z=>?_) fun _=>hk
  ·by_cases hb:b=a
   ·exact .inr ⟨_,_,if_pos hb⟩
   ·exact .inl (if_neg hb)
  ·by_cases hb:b=a
   ·have z':=(if_pos hb).symm.trans z
    cases z'
    subst hb
    exact⟨ha,by rw[List.length_map];exact hl,vs,_,rv,ha⟩
   ·have z':=(if_neg hb).symm.trans z
    cases z'
  ·by_cases hb:b=a
   ·exact hb
   ·exact absurd (if_neg hb) z
end L2
namespace L2
open PySem PySem.Spec PyProof.Rows
theorem walk_of {l:PySem.W.OpenLaw}{n k:Nat}{q:Program}{loose:List Str}{XP:(Str→Option Value)→Heap→Prop}{YP:World→Heap→Prop}{d:DefRec}{K:Params→PySem.W.Frag}{CX:World→CXT}{sp:World→Sp}{x:Str}
  (hn:l.most=some n) (hn2:n≤sizeLine) (hdf:d.params.defaults=[]) (hr:Room k callerA)
  (hY:∀(w:World) (h:Heap),YP w h→(K w.params).In h)
  (F:∀(w:World) (mg:Str→Option Value) (fa:Addr) (h:Heap),(K w.params).In h→h.Ns mainGlobals mg→mg d.name=some (.ref fa)→
   ∃fd:FuncData,(∀(s:Shared) (u:Value),BindsTo s fd ⟨[u],[]⟩ [(x,u)])∧
    ∀base:Heap,(K w.params).In base→base.Ns mainGlobals mg→FnOk l.prog w (K w.params) mg base (CX w) k fa fd [x] (sp w))
  (hsp:∀(w:World) (H:Hp) (a:Addr) (ns:List Int),ns.length≤n→b3U H→SqL (K w.params) H a (ns.map V.int)→sp w [.ref a] H (fun v _=>v= .bl true) fun _ _ _=>False)
  (hCX:∀(w:World) (H:Hp) (s:Shared) (e:Value) (s':Shared),CX w [] H s (fun _ _ _=>False) e s'→False):
  PySem.W.WalkO q loose XP YP l.row.toRowW d [] (fun f vs=>PySem.call f vs):=by
 refine Att.attach_call hn hdf fun w s₀ s₁ mg mb fa o pm cd doc a vs ns G Y ho hd hcd hmg hobj hints hlen hg=>?_
 have KX:=hY w _ Y
 obtain⟨fd,hb,hF⟩:=F w mg fa _ KX G.T.g hmg
 exact a9Y KX G.T.g G.T.b G.T.builtins G.T.nolimit hg hobj hints (Nat.le_trans hlen hn2) hr hF hb (fun H hO hS=>hsp w H a ns hlen hO hS) fun H e s'=>hCX w H s₁ e s'
end L2
namespace L2
open PySem PySem.Spec PyProof.Rows
def j5 (s:Stmt):Arguments:=match s with
 | .FunctionDef _ a _ _ _ _ _ _ _ _=>a
 |_=>{posonlyargs:=[],args:=[],vararg:=none,kwonlyargs:=[],kw_defaults:=[],kwarg:=none,defaults:=[]}
def j4 (s:Stmt):List Stmt:=match s with
 | .FunctionDef _ _ b _ _ _ _ _ _ _=>b
 |_=>[]
def d6 (s:Stmt):Scope:=match s with
 | .FunctionDef _ _ _ _ _ _ sc _ _ _=>sc
 |_=>{kind:= .function,names:=[],isGenerator:=false,isCoroutine:=false}
abbrev CX0:CXT:=fun _ _ _ _ _ _=>False
abbrev E0:XK:=fun _ _ _=>False
theorem r9 {X:Cx}:a1B CX0 X E0:=fun _ _ _ _ _ _ _ h=>h.elim
structure Fun (K:PySem.W.Frag) (x qual:Str) (st:Stmt) (f:Addr) (fd:FuncData):Prop where
 ex:∃(oc:Value) (od:Option Addr) (kV doc pm:Value) (an:Option Addr) (cdv ct:Value) (osl:Array (Option Value)),
  fd=PySem.W.fnOf x qual (j5 st) (j4 st) (d6 st) .none kV doc pm an cdv ct∧K.lookup f=some ⟨oc,od,.func fd,osl⟩∧PySem.W.codeIn K cdv qual=true
 kp:PySem.W.keepIn K (.ref f)=true
section
variable {P:Program} {w:World} {K:PySem.W.Frag} {mg:Str→Option Value} {base:Heap}
theorem Fun.ok {x qual:Str}{st:Stmt}{f:Addr}{fd:FuncData}{N ps:List Str}{k:Nat}{sp:Sp}(F:Fun K x qual st f fd)(S:j6 N ps (d6 st))(len:∀vs H Q E,sp vs H Q E→vs.length=ps.length)
  (hbody:∀(cdv:Value) (A:Around) (outer:List Env) (s:Shared) (H:Hp) (vs:List V) (Q:VK) (E:XK),Room k (A.deeper (envOfC qual (d6 st) s.heap.objs.size f cdv))→sp vs H Q E→
   ∃t,PSs (a5Y CX0 P w K mg base N qual (d6 st) f cdv A outer s H E).nox (j4 st) t∧t {nx:=fun _ H'=>Q .non H',rt:=Q} (a0T N vs) H):FnOk P w K mg base CX0 (k+1) f fd ps sp:=by
 obtain⟨oc,od,kV,doc,pm,an,cdv,ct,osl,rfl,lk,hcd⟩:=F.ex
 refine b2B lk hcd S len fun A outer s H vs Q E hr hsp=>?_
 obtain⟨t,h,q⟩:=hbody cdv A outer s H vs Q E hr hsp
 exact⟨t,h.nox,q⟩
theorem Fun.binds {x qual:Str}{st:Stmt}{f:Addr}{fd:FuncData}{ps:List Str}(F:Fun K x qual st f fd)
  (h:∀(kV doc pm:Value) (an:Option Addr) (cdv ct:Value) (us:List Value),us.length=ps.length→bindArgs (PySem.W.fnOf x qual (j5 st) (j4 st) (d6 st) .none kV doc pm an cdv ct) ⟨us,[]⟩=pure (ps.zip us)):Binds K fd ps []:=by
 obtain⟨oc,od,kV,doc,pm,an,cdv,ct,osl,rfl,lk,hcd⟩:=F.ex
 exact .all (h kV doc pm an cdv ct)
theorem u8 {x qual:Str}{st:Stmt}{f:Addr}{oc:Value}{od an:Option Addr}{osl:Array (Option Value)}{kV doc pm cdv ct:Value}(l:K.lookup f=some ⟨oc,od,.func (PySem.W.fnOf x qual (j5 st) (j4 st) (d6 st) .none kV doc pm an cdv ct),osl⟩)
  (c:PySem.W.codeIn K cdv qual=true) (k:PySem.W.keepIn K (.ref f)=true):Fun K x qual st f (PySem.W.fnOf x qual (j5 st) (j4 st) (d6 st) .none kV doc pm an cdv ct):=⟨⟨oc,od,kV,doc,pm,an,cdv,ct,osl,rfl,l,c⟩,k⟩
end
theorem L5 {n:Nat}(h:n≤1000):n<sizeLine:=Nat.lt_of_le_of_lt h (by decide)
section
variable {X:Cx}
end
theorem b7x {A B:Prop}(h:B):if false=true then A else B:=by
 rw[if_neg Bool.false_ne_true]
 exact h
theorem b7n {A B:Prop}(h:A):if true=true then A else B:=by
 rw[if_pos rfl]
 exact h
def Same (H H':Hp):Prop:=∀b o,H b=some o→H' b=some o
theorem Same.refl (H:Hp):Same H H:=fun _ _ h=>h
theorem Same.trans {H H1 H2:Hp}(a:Same H H1)(b:Same H1 H2):Same H H2:=fun c o h=>b c o (a c o h)
theorem Same.free {H H':Hp}(e:Same H H'){l:Addr}(h:H' l=Option.none):H l=Option.none:=by
 cases q:H l with
 |none=>rfl
 |some o=>
  rw[e l o q] at h
  cases h
theorem Same.seq {K:PySem.W.Frag}{H H':Hp}{a:Addr}{xs:List V}(e:Same H H')(h:SqL K H a xs):SqL K H' a xs:=by
 rcases h with(h|⟨o,h⟩)|h
 ·exact .inl (.inl (e _ _ h))
 ·exact .inl (.inr ⟨o,e _ _ h⟩)
 ·exact .inr h
section
variable {κ:Type} [DecidableEq κ]
theorem a6S {kvs:List (κ×V)}{k:κ}{v:V}(h:p6 kvs k=some v):k∈kvs.map (·.1):=by
 have q:(kvs.any fun kv=>decide (kv.1=k))=true:=by
  rw[Q4,h]
  all_goals rfl
 obtain⟨p,hp,e⟩:=List.any_eq_true.mp q
 exact List.mem_map.mpr ⟨p,hp,of_decide_eq_true e⟩
theorem z0:∀{l:List κ} {k:κ},l.Nodup→¬k∈l→(l++[k]).Nodup
 |[],k,_,_=>by simp
 |a::r,k,h,hk=>by
  obtain⟨h1,h2⟩:=List.nodup_cons.mp h
  show(a::(r++[k])).Nodup
  refine List.nodup_cons.mpr ⟨fun m=>?_,z0 h2 fun m=>hk (List.mem_cons.mpr (Or.inr m))⟩
  rcases List.mem_append.mp m with q|q
  ·exact h1 q
  ·exact hk (List.mem_cons.mpr (Or.inl (List.mem_singleton.mp q).symm))
end
end L2
set_option Elab.async false
set_option linter.all false
set_option maxRecDepth 100000
set_option maxHeartbeats 4000000
namespace L2
open PySem PySem.Spec PyProof.Rows
def a1T (scope:Scope)(env:Env):List (Str×Addr):=(scope.names.filter fun x=>x.2== .free).reverse.map fun x=>(x.1,(env.cells.lookup x.1).getD 0)
theorem Z2 {env:Env}:∀(l:List (Str×NameKind)) (cs:List (Str×Addr)),(∀x∈l,x.2= .free→∃c,env.cells.lookup x.1=some c)→
  (forIn l cs fun(x:Str×NameKind) (r:List (Str×Addr))=>if(x.2==NameKind.free)=true then(do let a←cellOf env x.1;pure (ForInStep.yield ((x.1,a)::r))) else(pure (ForInStep.yield r):Sem (ForInStep (List (Str×Addr)))))=
   pure (((l.filter fun x=>x.2== .free).reverse.map fun x=>(x.1,(env.cells.lookup x.1).getD 0))++cs)
 |[],cs,_=>rfl
 |(n,k)::l,cs,h=>by
  rw[List.forIn_cons]
  by_cases hk:k= .free
  ·subst hk
   obtain⟨c,hc⟩:=h (n,.free) List.mem_cons_self rfl
   simp only[beq_self_eq_true,if_true]
   have hc':env.cells.lookup n=some c:=hc
   have e0:cellOf env n=pure c:=by unfold cellOf;rw[hc']
   simp only[e0,pure_bind]
   rw[Z2 l _ fun x hx=>h x (List.mem_cons_of_mem _ hx)]
   rw[List.filter_cons,if_pos (by rfl),List.reverse_cons,List.map_append,List.append_assoc]
   simp only[List.map_cons,List.map_nil,hc',Option.getD_some,List.cons_append,List.nil_append]
  ·have hb:(k==NameKind.free)=false:=by simpa using hk
   simp only[hb,Bool.false_eq_true,if_false,pure_bind]
   rw[Z2 l cs fun x hx=>h x (List.mem_cons_of_mem _ hx)]
   rw[List.filter_cons,if_neg (by simp [hb])]
theorem a2y {scope:Scope}{env:Env}(h:∀x∈scope.names,x.2= .free→∃c,env.cells.lookup x.1=some c):closureFor scope env=pure (a1T scope env):=by
 have e:=Z2 (env:=env) scope.names [] h
 rw[List.append_nil] at e
 unfold closureFor a1T
 simp only[]
 refine Eq.trans ?_ (congrArg (fun m=>m>>=fun r=>(pure r:Sem (List (Str×Addr)))) e)
 rfl
theorem P1 {env:Env}{x:Str}:∀(l:List (Str×NameKind)),(∀y∈l,∃c,env.cells.lookup y.1=some c)→(x∈l.map (·.1)→(l.map fun y=>(y.1,(env.cells.lookup y.1).getD 0)).lookup x=env.cells.lookup x)∧(x∉l.map (·.1)→(l.map fun y=>(y.1,(env.cells.lookup y.1).getD 0)).lookup x=none)
 |[],_=>⟨fun h=>by simp at h,fun _=>rfl⟩
 |(n,k)::l,h=>by
  have ih:=P1 (x:=x) l fun y hy=>h y (List.mem_cons_of_mem _ hy)
  obtain⟨c,hc⟩:=h (n,k) List.mem_cons_self
  have hc':env.cells.lookup n=some c:=hc
  by_cases e:x=n
  ·subst e
   refine⟨fun _=>?_,fun z=>absurd (by simp) z⟩
   simp [List.lookup_cons,hc']
  ·have eb:(x==n)=false:=by simpa using e
   refine⟨fun hm=>?_,fun hm=>?_⟩
   ·simp only[List.map_cons,List.lookup_cons,eb]
    exact ih.1 (by simpa [e] using hm)
   ·simp only[List.map_cons,List.lookup_cons,eb]
    exact ih.2 (fun z=>hm (by simp [z]))
theorem R4 {scope:Scope}{env:Env}(h:∀x∈scope.names,x.2= .free→∃c,env.cells.lookup x.1=some c){x:Str}{c:Addr}(e:(a1T scope env).lookup x=some c):env.cells.lookup x=some c:=by
 have hl:∀y∈(scope.names.filter fun x=>x.2== .free).reverse,∃c,env.cells.lookup y.1=some c:=fun y hy=>by
  obtain⟨h1,h2⟩:=List.mem_filter.mp (List.mem_reverse.mp hy)
  exact h y h1 (by simpa using h2)
 have a:=P1 (x:=x) _ hl
 by_cases hm:x∈(scope.names.filter fun x=>x.2== .free).reverse.map (·.1)
 ·rw[←a.1 hm];exact e
 ·have z:=a.2 hm
  unfold a1T at e
  rw[z] at e;cases e
theorem a5d {scope:Scope}{env:Env}(h:∀x∈scope.names,x.2= .free→∃c,env.cells.lookup x.1=some c){x:Str}(hx:(x,NameKind.free)∈scope.names):(a1T scope env).lookup x=env.cells.lookup x:=by
 have hl:∀y∈(scope.names.filter fun x=>x.2== .free).reverse,∃c,env.cells.lookup y.1=some c:=fun y hy=>by
  obtain⟨h1,h2⟩:=List.mem_filter.mp (List.mem_reverse.mp hy)
  exact h y h1 (by simpa using h2)
 exact(P1 (x:=x) _ hl).1 (List.mem_map.mpr ⟨(x,.free),List.mem_reverse.mpr (List.mem_filter.mpr ⟨hx,rfl⟩),rfl⟩)
theorem a3T {scope:Scope}{env:Env}(hc:∀y∈scope.names,y.2≠ .cell){x:Str}(h:(relabel scope env).names.lookup x=some .cell∨(relabel scope env).names.lookup x=some .free):(x,NameKind.free)∈scope.names:=by
 have key:∀(l:List (Str×NameKind)),(∀y∈l,y.2≠ .cell)→∀k,(k=NameKind.cell∨k=NameKind.free)→(l.map fun(n,k)=>if(k==NameKind.free&&env.scope.kind== .function&&env.kindOf n==some .cell) then(n,NameKind.cell) else(n,k)).lookup x=some k→(x,NameKind.free)∈l:=by
  intro l
  induction l with
  |nil=>intro _ k _ e;simp at e
  |cons y r ih=>
   obtain⟨n,k0⟩:=y
   intro hl k hk e
   have ih':=ih (fun y hy=>hl y (List.mem_cons_of_mem _ hy)) k hk
   rw[List.map_cons] at e
   have hk0:k0≠ .cell:=hl (n,k0) List.mem_cons_self
   dsimp only at e
   by_cases hcnd:(k0==NameKind.free&&env.scope.kind== .function&&env.kindOf n==some .cell)=true
   ·rw[if_pos hcnd] at e
    cases hx:x==n with
    |true=>
     have:x=n:=by simpa using hx
     subst this
     have:k0= .free:=by
      simp only[Bool.and_eq_true,beq_iff_eq] at hcnd
      exact hcnd.1.1
     subst this
     exact List.mem_cons_self
    |false=>
     simp only[List.lookup_cons,hx] at e
     exact List.mem_cons_of_mem _ (ih' e)
   ·rw[if_neg hcnd] at e
    cases hx:x==n with
    |true=>
     have:x=n:=by simpa using hx
     subst this
     simp only[List.lookup_cons,hx] at e
     have e':k0=k:=Option.some.inj e
     subst e'
     rcases hk with z|z
     ·exact absurd z hk0
     ·subst z;exact List.mem_cons_self
    |false=>
     simp only[List.lookup_cons,hx] at e
     exact List.mem_cons_of_mem _ (ih' e)
 rcases h with h|h
 ·exact key _ hc _ (.inl rfl) h
 ·exact key _ hc _ (.inr rfl) h
def cxB (X:Cx)(own:List Str)(js:List Nat)(scope:Scope)(C:Addr)(s:Shared)(H:Hp)(fp:List Addr):Cx:=
 {X with N:=own++js.map (fun j=>X.N.getD j Str.empty),s₀:=s,H₀:=H,env:=compEnvC scope (a1T scope X.env) C X.env,outer:=X.stack,stack:=X.stack,ex:=fp,fn:=fun _=>false,pn:=[],xe:=fun _ _=>False}
def stB (own:List Str)(js:List Nat)(σ:St):St:=own.map (fun _=>none)++js.map (fun j=>(σ[j]?).join)
def scB (X:Cx)(own:List Str)(js:List Nat)(scope:Scope):Bool:=
 (scope.kind== .function)&&(scope.names.all fun x=>x.2 != .cell)&&(scope.names.all fun x=>x.2 != .local||scope.names.lookup x.1==some .local)&&
 (scope.names.all fun x=>x.2 != .free||(X.env.kindOf x.1==some .cell||X.env.kindOf x.1==some .free))&&
 (js.all fun j=>decide (j<X.N.length)&&scope.names.any (fun y=>y.1==X.N.getD j Str.empty&&y.2== .free))&&
 (scope.names.all fun x=>x.2 != .free||scope.names.lookup x.1 !=some .local)
theorem a7l {own:List Str}{js:List Nat}{σ:St}{X:Cx}{scope:Scope}{C:Addr}{s:Shared}{H:Hp}{fp:List Addr}:(stB own js σ).length=(cxB X own js scope C s H fp).N.length:=by
 show(stB own js σ).length=(own++js.map (fun j=>X.N.getD j Str.empty)).length
 unfold stB;simp
section
variable {X:Cx} {pins:List (Addr×Obj)} {σ:St} {H:Hp} {s:Shared} {own:List Str} {js:List Nat} {scope:Scope} {fp:List Addr} {C D:Addr} {h1:Heap}
structure ScB (X:Cx) (own:List Str) (js:List Nat) (scope:Scope):Prop where
 kind:scope.kind= .function
 nocell:∀y∈scope.names,y.2≠ .cell
 names:∀x∈scope.names,x.2= .local→scope.names.lookup x.1=some .local
 free:∀x∈scope.names,x.2= .free→X.env.kindOf x.1=some .cell∨X.env.kindOf x.1=some .free
 js:∀j∈js,j<X.N.length∧(X.N.getD j Str.empty,NameKind.free)∈scope.names
 one:∀x,(x,NameKind.free)∈scope.names→scope.names.lookup x≠some .local
theorem b0L (h:scB X own js scope=true):ScB X own js scope:=by
 unfold scB at h
 simp only[Bool.and_eq_true,List.all_eq_true,Bool.or_eq_true,bne_iff_ne,beq_iff_eq,decide_eq_true_eq,List.any_eq_true] at h
 obtain⟨⟨⟨⟨⟨h1,h2⟩,h3⟩,h4⟩,h5⟩,h6⟩:=h
 refine⟨h1,h2,fun x hx e=>?_,fun x hx e=>?_,fun j hj=>?_,fun x hx=>?_⟩
 ·rcases h3 x hx with z|z
  ·exact absurd e z
  ·exact z
 ·rcases h4 x hx with z|z
  ·exact absurd e z
  ·exact z
 ·obtain⟨a,y,hy,e1,e2⟩:=h5 j hj
  refine⟨a,?_⟩
  obtain⟨n,k⟩:=y
  simp only at e1 e2
  rw[←e1,←e2];exact hy
 ·rcases h6 _ hx with z|z
  ·exact absurd rfl z
  ·exact z
theorem ScB.cells (S:ScB X own js scope)(I:Inv X pins σ H s):∀x∈scope.names,x.2= .free→∃c,X.env.cells.lookup x.1=some c:=fun x hx e=>I.ok.has x.1 (S.free x hx e)
theorem Inv.block (S:ScB X own js scope)(I:Inv X pins σ H s)(hf:∀b∈fp,a0R X pins H b)(hob:∀b∈fp,∃o,s.heap.get? b=some o)(hC:s.heap.objs.size≤C){m:Str→Option Value}{t':Nat}(hn:h1.Ns C m)(k:∀b u,s.heap.get? b=some u→h1.get? b=some u):
  Inv (cxB X own js scope C s H fp) (X.pn++pins) (stB own js σ) H {s with heap:=h1,toks:=t'}:=by
 have hcl:=S.cells I
 have below:∀b o,s.heap.get? b=some o→b≠C:=fun b o e=>Nat.ne_of_lt (Nat.lt_of_lt_of_le (Heap.lt_size e) hC)
 have stk:∀b,b≠X.env.locals→b∉X.fs→b∉frs X.stack:=fun b h1 h2 z=>by
  rcases List.mem_cons.mp (I.stkSub b z) with e|e
  ·exact h1 e
  ·exact h2 e
 have noex:∀b o,X.base.get? b=some o→b∉fp:=fun b o e z=>by
  rcases(hf b z).2.2.2.1 with q|q
  ·exact I.ok.noex b o e q
  ·exact absurd (Nat.lt_of_lt_of_le (Heap.lt_size e) (Nat.le_trans I.ok.bsz q)) (Nat.lt_irrefl _)
 refine⟨⟨I.ok.mod,S.kind,I.ok.glob,I.ok.blt,hC,fun x y c e1 e2=>?_,fun x hx=>?_,fun x c z _=>(Bool.false_ne_true z).elim,I.ok.hd,I.ok.frames,.inl rfl,fun b hb=>⟨?_,fun x c e=>?_⟩,I.bs,Nat.le_trans I.ok.bsz I.sz,noex,fun b hb=>?_,I.stack,I.stkFree⟩,
  rfl,I.bare,Un.kept k,⟨m,hn,fun i x v e1 e2 e3=>?_⟩,fun x c e=>?_,?_,fun x c e=>?_,fun p hp=>?_,I.hok.kept k,a7l⟩
 ·exact I.ok.inj x y c (R4 hcl e1) (R4 hcl e2)
 ·have hm:=a3T S.nocell (x:=x) (env:=X.env) hx
  obtain⟨c,e⟩:=hcl (x,.free) hm rfl
  exact⟨c,(a5d hcl hm).trans e⟩
 ·obtain⟨o,e⟩:=hob b hb;exact below b o e
 ·exact(hf b hb).2.2.2.2.1 x c (R4 hcl e)
 ·exact stk b (hf b hb).2.1 (hf b hb).2.2.1
 ·have e1':(own++js.map (fun j=>X.N.getD j Str.empty))[i]?=some x:=e1
  unfold stB at e2
  by_cases hi:i<own.length
  ·rw[List.getElem?_append_left (by simpa using hi),List.getElem?_map] at e2
   rw[List.getElem?_eq_getElem hi] at e2
   simp at e2
  ·rw[List.getElem?_append_right (by simpa using hi),List.getElem?_map] at e2
   rw[List.getElem?_append_right (by simpa using hi),List.getElem?_map] at e1'
   have el:(own.map fun _=>(none:Option V)).length=own.length:=by simp
   rw[el] at e2
   cases hj:js[i -own.length]? with
   |none=>rw[hj] at e1';simp at e1'
   |some j=>
    rw[hj] at e1' e2
    simp only[Option.map_some,Option.some.injEq] at e1' e2
    have hjm:j∈js:=List.mem_of_getElem? hj
    obtain⟨hlt,hmem⟩:=S.js j hjm
    have hNj:X.N[j]?=some x:=by
     rw[←e1',List.getD_eq_getElem?_getD,List.getElem?_eq_getElem hlt];simp
    have hσ:σ[j]?=some (some v):=by
     cases q:σ[j]? with
     |none=>rw[q] at e2;simp at e2
     |some w=>rw[q] at e2;simp at e2;rw[e2]
    rw[e1'] at hmem
    obtain⟨m0,hn0,hl0⟩:=I.loc
    have hkx:X.env.kindOf x=some .cell∨X.env.kindOf x=some .free:=S.free (x,.free) hmem rfl
    obtain⟨u,r,l⟩:=hl0 j x v hNj hσ (by rcases hkx with z|z;exact .inr (.inl z);exact .inr (.inr z))
    refine⟨u,r,?_⟩
    rcases l with⟨z,_⟩|⟨_,c,hc,hcell⟩
    ·rcases hkx with q|q
     ·rw[q] at z;cases z
     ·rw[q] at z;cases z
    ·have hc':(a1T scope X.env).lookup x=some c:=(a5d hcl hmem).trans hc
     obtain⟨oc,hoc,hocd⟩:=hcell
     refine .inr ⟨?_,c,hc',⟨oc,k _ _ hoc,hocd⟩⟩
     rcases e3 with z|z|z
     ·exfalso
      have hmm:(relabel scope X.env).names.lookup x=some .local:=z
      exact absurd hmm (by
       intro hh
       have key:∀l:List (Str×NameKind),(∀y∈l,y.2= .local→scope.names.lookup y.1=some .local)→(l.map fun(n,k)=>if(k==NameKind.free&&X.env.scope.kind== .function&&X.env.kindOf n==some .cell) then(n,NameKind.cell) else(n,k)).lookup x=some .local→scope.names.lookup x=some .local:=by
        intro l
        induction l with
        |nil=>intro _ e;simp at e
        |cons y r ih=>
         obtain⟨n,k0⟩:=y
         intro hl e
         rw[List.map_cons] at e
         dsimp only at e
         by_cases hcnd:(k0==NameKind.free&&X.env.scope.kind== .function&&X.env.kindOf n==some .cell)=true
         ·rw[if_pos hcnd] at e
          cases hx:x==n with
          |true=>simp only[List.lookup_cons,hx] at e;cases e
          |false=>simp only[List.lookup_cons,hx] at e;exact ih (fun y hy=>hl y (List.mem_cons_of_mem _ hy)) e
         ·rw[if_neg hcnd] at e
          cases hx:x==n with
          |true=>
           simp only[List.lookup_cons,hx] at e
           have e':k0= .local:=Option.some.inj e
           have:x=n:=by simpa using hx
           subst this
           exact hl (x,k0) List.mem_cons_self e'
          |false=>simp only[List.lookup_cons,hx] at e;exact ih (fun y hy=>hl y (List.mem_cons_of_mem _ hy)) e
       have a:=key scope.names S.names hh
       exact S.one x hmem a)
     ·exact .inl z
     ·exact .inr z
 ·obtain⟨v,o,ho,hd⟩:=I.cell x c (R4 hcl e)
  exact⟨v,o,k _ _ ho,hd⟩
 ·exact I.hok.fresh hC
 ·exact I.freeC x c (R4 hcl e)
 ·obtain⟨e,n,ne,nf,d⟩:=I.pin p hp
  exact⟨k _ _ e,n,below _ _ e,stk _ ne nf,d⟩
end
end L2
set_option Elab.async false
set_option linter.all false
set_option maxRecDepth 100000
set_option maxHeartbeats 4000000
namespace L2
open PySem PySem.Spec PyProof.Rows
theorem HOk.track {P:Program}{w:World}{H:Hp}{h h':Heap}{a C:Addr}{o:HO}(x:HOk P w H h)(hC:H C=none)(k:∀b,b≠C→h'.get? b=h.get? b)(hn:H a=none)(new:ObjOk P w (upd H a o) h' a o):HOk P w (upd H a o) h':=fun b u e=>by
 by_cases hb:b=a
 ·subst hb;rw[d7] at e;cases e;exact new
 ·rw[b5 hb] at e
  refine(x b u e).stay (fun c v hc q=>?_) (fun c q=>by rw[b5 (b9 q hn)];exact q) fun c xs q=>by rw[b5 (b9 q hn)];exact q
  have hcC:c≠C:=by
   rcases hc with z|z
   ·subst z;exact b9 e hC
   ·exact b9 z hC
  rw[k c hcC];exact q
abbrev a8L (ifs:List Expr)(env:Env):Sem Bool:=forIn ifs true fun c r=>if r=true then do let ok←isTrue c env (eval c env);pure (ForInStep.yield ok) else pure (ForInStep.yield r)
def a6w (X:Cx)(ifs:List Expr)(t:TT):Prop:=
 ∀(pins:List (Addr×Obj)) (s:Shared) (σ:St) (H:Hp) (Q:Bool→Hp→Prop),Inv X pins σ H s→t σ H Q→wpAny (model X.prog X.w) X.A (a8L ifs X.env) (TP X pins σ Q) X.xe s
theorem b7t {X:Cx}:a6w X [] (fun _ H Q=>Q true H):=fun pins s σ H Q I h=>wpAny_tests_nil ⟨H,I,h⟩
theorem b7A {X:Cx}{c:Expr}{t:TT}(h:PT X c t):a6w X [c] t:=fun pins s σ H Q I hq=>wpAny_tests_one (h pins s σ H Q I hq)
section
variable {X:Cx} {pins:List (Addr×Obj)} {σ:St} {H:Hp} {s:Shared} {own:List Str} {js:List Nat} {scope:Scope}
variable {tg iter elt:Expr} {ifs:List Expr} {pos:Pos} {g:TG} {ti:TT} {te:TE}
structure BlockEnd (X:Cx) (pins:List (Addr×Obj)) (own:List Str) (js:List Nat) (scope:Scope) (σ:St) (H:Hp) (s:Shared) (fp:List Addr) (C D:Addr) (out:List V) (H':Hp) (s':Shared):Prop where
 inv:Inv (cxB X own js scope C s H fp) (X.pn++pins) (stB own js σ) H' s'
 free:H' D=none
 obj:∃(its:List Value) (n:Nat),Vals out its∧s'.heap.get? D=some {cls:= .type "list",data:= .seq its.toArray n}
theorem BlockEnd.out {fp:List Addr}{C D:Addr}{out:List V}{H':Hp}{s':Shared}{h':Heap}(e:BlockEnd X pins own js scope σ H s fp C D out H' s')(I:Inv X pins σ H s)(hf:∀b∈fp,a0R X pins H b)(hD:s.heap.objs.size≤D)(hC:s.heap.objs.size≤C)(hDC:D≠C)
  (hl:out.length≤sizeLine) (sb:Heap.SameBut C s'.heap h'):Inv X pins σ (upd H' D (.lst out)) {s' with heap:=h'}:=by
 obtain⟨its,n,rv,ob⟩:=e.obj
 have J:=e.inv
 have U:Un (frs X.stack) fp H H' s.heap s'.heap:=J.base
 have same:∀b,b≠C→h'.get? b=s'.heap.get? b:=fun b hb=>sb.2 b hb
 have old:∀b o,s.heap.get? b=some o→b≠C∧b≠D:=fun b o q=>⟨Nat.ne_of_lt (Nat.lt_of_lt_of_le (Heap.lt_size q) hC),Nat.ne_of_lt (Nat.lt_of_lt_of_le (Heap.lt_size q) hD)⟩
 have hHC:H' C=none:=J.free
 refine I.call' (s':={s' with heap:=h'}) (ch:=fp) J.os ?_ ?_ J.bare fun b hb=>?_
 ·refine⟨fun b o q n hb hx=>?_,fun b o q n hb hx=>?_,fun b o q n hx=>?_,fun b o q hx=>?_,fun b xs q=>?_,fun b o u q=>?_,fun b ps q=>?_⟩
  ·show h'.get? b=_
   rw[same b (old b o q).1];exact U.keep b o q n hb hx
  ·show ∃sl,h'.get? b=_
   rw[same b (old b o q).1];exact U.slot b o q n hb hx
  ·rw[b5 (old b o q).2];exact U.free b o q n hx
  ·show ∃o',h'.get? b=_
   rw[same b (old b o q).1];exact U.there b o q hx
  ·rw[b5 (b9 (U.tups b xs q) e.free)];exact U.tups b xs q
  ·rw[b5 (b9 (U.frzs b o u q) e.free)];exact U.frzs b o u q
  ·obtain⟨mo,z⟩:=U.tbls b ps q
   exact⟨mo,by rw[b5 (b9 z e.free)];exact z⟩
 ·refine HOk.track J.hok hHC same e.free ?_
  exact⟨hl,its,n,rv,by rw[same D hDC];exact ob⟩
 ·exact⟨(hf b hb).2.2.2.1,(hf b hb).2.1,(hf b hb).2.2.2.2.1,(hf b hb).2.2.2.2.2⟩
theorem a3v (S:ScB X own js scope)(hc:X.calm=true){fp:List Addr}{it C D:Addr}{tn:Nat→Heap→Prop}{J:It}(T:a1o X.prog X.w X.K tg J fp it tn)(I:Inv X pins σ H s)(hf:∀b∈fp,a0R X pins H b)
  (hD:s.heap.objs.size≤D) (hC:s.heap.objs.size≤C) (hDC:D≠C) (hob:∀b∈fp,∃o,s.heap.get? b=some o)
  (hg:PG (cxB X own js scope C s H fp) tg g) (hi:a6w (cxB X own js scope C s H fp) ifs ti) (he:PE (cxB X own js scope C s H fp) elt te)
  (W:Nat→Nat→List V→Hp→Prop) {K:List V→Hp→Prop}
  (turn:∀i m out H,W i m out H→(J.stop i H∧(H D=none→out.length≤sizeLine∧K out H))∨
   (J.go i H∧∀x H',J.yld i H x H'→g x (stB own js σ) H' fun σ2 H2=>σ2.drop own.length=js.map (fun j=>(σ[j]?).join)∧ti σ2 H2 fun b H3=>
    if b=true then te σ2 H3 fun v H4=>out.length≤sizeLine∧∃m',m'<m∧W (i+1) m' (out++[v]) H4 else ∃m',m'<m∧W (i+1) m' out H3))
  {R:Result→Shared→Prop} (hR:∀out H' s',BlockEnd X pins own js scope σ H s fp C D out H' s'→out.length≤sizeLine→K out H'→R (.ok .next) s')
  {m0:Nat} {H1:Hp} {s1:Shared} (w0:W 0 m0 [] H1) (B:BlockEnd X pins own js scope σ H s fp C D [] H1 s1) (st:tn 0 s1.heap) (fr:∀b∈fp,H1 b=none):
  codeAny (model X.prog X.w) X.A (.compLoop (.ListComp elt [⟨tg,iter,ifs,0⟩] scope pos) 0 (.ref it) (.ref D) (compEnvC scope (a1T scope X.env) C X.env)) R s1:=by
 have stat:∀{H':Hp},(∀b∈fp,H' b=none)→∀b∈fp,a0R (cxB X own js scope C s H fp) (X.pn++pins) H' b:=fun hn b hb=>by
  obtain⟨o,ho⟩:=hob b hb
  refine⟨hn b hb,Nat.ne_of_lt (Nat.lt_of_lt_of_le (Heap.lt_size ho) hC),?_,.inl hb,fun x c e=>(hf b hb).2.2.2.2.1 x c (R4 (S.cells I) e),fun p hp=>(hf b hb).2.2.2.2.2 p hp⟩
  intro z
  rcases List.mem_cons.mp (I.stkSub b z) with e|e
  ·exact(hf b hb).2.1 e
  ·exact(hf b hb).2.2.1 e
 have Dfp:D∉fp:=fun z=>by
  obtain⟨o,ho⟩:=hob D z
  exact absurd (Nat.lt_of_lt_of_le (Heap.lt_size ho) hD) (Nat.lt_irrefl _)
 have Dcell:∀x c,(cxB X own js scope C s H fp).env.cells.lookup x=some c→c≠D:=fun x c e z=>by
  obtain⟨v,o,ho,_⟩:=I.cell x c (R4 (S.cells I) e)
  rw[z] at ho
  exact absurd (Nat.lt_of_lt_of_le (Heap.lt_size ho) hD) (Nat.lt_irrefl _)
 have Dpin:∀p∈X.pn++pins,p.1≠D:=fun p hp z=>by
  have ho:=(I.pin p hp).1
  rw[z] at ho
  exact absurd (Nat.lt_of_lt_of_le (Heap.lt_size ho) hD) (Nat.lt_irrefl _)
 have Dfs:D∉(cxB X own js scope C s H fp).fs:=fun z=>by
  obtain⟨_,o,ho,_⟩:=I.stack.mem z
  exact absurd (Nat.lt_of_lt_of_le (Heap.lt_size ho) hD) (Nat.lt_irrefl _)
 refine codeAny_loop rfl (fun n s'=>∃i out H',BlockEnd X pins own js scope σ H s fp C D out H' s'∧tn i s'.heap∧(∀b∈fp,H' b=none)∧W i n out H') (fun n s3 hI=>?_) m0 ⟨0,[],H1,B,st,fr,w0⟩
 obtain⟨i,out,H3,B3,st3,fr3,w3⟩:=hI
 obtain⟨its,nD,rv,obD⟩:=B3.obj
 have pinD:∀{σ':St} {H':Hp} {s':Shared},Inv (cxB X own js scope C s H fp) (X.pn++pins) σ' H' s'→H' D=none→s'.heap.get? D=some {cls:= .type "list",data:= .seq its.toArray nD}→
   Inv (cxB X own js scope C s H fp) (X.pn++pins++[(D,{cls:= .type "list",data:= .seq its.toArray nD})]) σ' H' s':=fun{σ' H' s'} I' n' e'=>I'.pins_of fun p hp=>by
  rcases List.mem_append.mp hp with z|z
  ·exact I'.pin p (by show p∈([]:List (Addr×Obj))++_;exact List.mem_append_right _ z)
  ·have z':p=(D,{cls:= .type "list",data:= .seq its.toArray nD}):=by simpa using z
   subst z'
   exact⟨e',n',hDC,Dfs,fun v q=>by cases q⟩
 have stat':∀{H':Hp},(∀b∈fp,H' b=none)→∀b∈fp,a0R (cxB X own js scope C s H fp) (X.pn++pins++[(D,{cls:= .type "list",data:= .seq its.toArray nD})]) H' b:=fun hn b hb=>by
  obtain⟨a1,a2,a3,a4,a5,a6⟩:=stat hn b hb
  refine⟨a1,a2,a3,a4,a5,fun p hp=>?_⟩
  have hp':p∈X.pn++pins++[(D,{cls:= .type "list",data:= .seq its.toArray nD})]:=hp
  rcases List.mem_append.mp hp' with z|z
  ·exact a6 p (by show p∈([]:List (Addr×Obj))++_;exact z)
  ·have z':p=(D,{cls:= .type "list",data:= .seq its.toArray nD}):=by simpa using z
   subst z'
   rintro rfl
   exact Dfp hb
 have thx:∀{α:Type} {t:Sem α} {Q Q':α→Shared→Prop} {E:Value→Shared→Prop} {s:Shared},wpAny (model X.prog X.w) X.A t Q (fun _ _=>False) s→(∀a s,Q a s→Q' a s)→wpAny (model X.prog X.w) X.A t Q' E s:=
  fun h hQ=>wpAny_mono h hQ fun _ _ x=>x.elim
 have unD:∀{pl:List (Addr×Obj)} {σ':St} {H':Hp} {s':Shared},Inv (cxB X own js scope C s H fp) (X.pn++pins++[(D,{cls:= .type "list",data:= .seq its.toArray nD})]++pl) σ' H' s'→Inv (cxB X own js scope C s H fp) (X.pn++pins) σ' H' s'∧H' D=none∧s'.heap.get? D=some {cls:= .type "list",data:= .seq its.toArray nD}:=fun{pl σ' H' s'} I'=>by
  have q:=I'.pin (D,{cls:= .type "list",data:= .seq its.toArray nD}) (List.mem_append_right _ (List.mem_append_left _ (List.mem_append_right _ (by simp))))
  exact⟨I'.unpinned.unpinned,q.2.1,q.1⟩
 show wpAny _ X.A ((compTurn (.ListComp elt [⟨tg,iter,ifs,0⟩] scope pos) 0 (.ref it) (.ref D) (compEnvC scope (a1T scope X.env) C X.env)).onRaise (fun x=>do noteFrame x (compEnvC scope (a1T scope X.env) C X.env);theTreesLotGoes x)) _ _ s3
 refine wpAny_noted ?_
 rw[compTurn_list]
 refine wpAny_bind (wpAny_standAt (wpAny_bind ?_))
 rcases turn i n out H3 w3 with⟨stop,fin⟩|⟨go,step⟩
 ·refine thn (T.done (cxB X own js scope C s H fp) rfl rfl rfl hc i _ s3 _ H3 _ (pinD B3.inv B3.free obD) (stat' fr3) st3 stop) fun r s4 ⟨hr,I4⟩=>?_
  subst hr
  obtain⟨J4,n4,o4⟩:=unD (pl:=[]) (by rw[List.append_nil];exact I4)
  obtain⟨hl,k⟩:=fin B3.free
  exact wpAny_pure (hR out H3 s4 ⟨J4,n4,its,nD,rv,o4⟩ hl k)
 ·refine thn (T.item (cxB X own js scope C s H fp) rfl rfl rfl hc i _ s3 _ H3 _ (pinD B3.inv B3.free obD) (stat' fr3) st3 go) fun r s4 ⟨u,hr,h4⟩=>?_
  subst hr
  refine wpAny_bind (thn h4 fun _ s5 ⟨x,H5,I5,r5,y5,st5,fr5⟩=>?_)
  have I5':=I5.pinned (stat' fr5) (T.obj _ _ st5)
  refine wpAny_bind (thx (hg _ s5 _ H5 x u _ I5' r5 (step x H5 y5)) fun _ s6 ⟨σ6,H6,I6,q6⟩=>?_)
  obtain⟨ed,q6⟩:=q6
  refine wpAny_bind (thx (hi _ s6 σ6 H6 _ I6 q6) fun ok s7 ⟨H7,I7,q7⟩=>?_)
  have stay:∀{H':Hp} {s':Shared},Inv (cxB X own js scope C s H fp) (X.pn++pins++[(D,{cls:= .type "list",data:= .seq its.toArray nD})]++a2m fp s5.heap) σ6 H' s'→tn (i+1) s'.heap∧∀b∈fp,H' b=none:=fun{H' s'} I'=>by
   refine⟨T.keep _ _ _ st5 fun b hb o e=>(I'.pin (b,o) (List.mem_append_right _ (List.mem_append_right _ (Y4 hb e)))).1,fun b hb=>?_⟩
   obtain⟨o,e,d⟩:=T.obj _ _ st5 b hb
   exact(I'.pin (b,o) (List.mem_append_right _ (List.mem_append_right _ (Y4 hb e)))).2.1
  have wk:∀{H':Hp} {s':Shared},Inv (cxB X own js scope C s H fp) (X.pn++pins) σ6 H' s'→Inv (cxB X own js scope C s H fp) (X.pn++pins) (stB own js σ) H' s':=fun{H' s'} I'=>by
   refine I'.weak (by rw[I'.len];exact a7l) fun k v e=>?_
   unfold stB at e
   by_cases hk:k<own.length
   ·rw[List.getElem?_append_left (by simpa using hk),List.getElem?_map,List.getElem?_eq_getElem hk] at e
    simp at e
   ·rw[List.getElem?_append_right (by simpa using hk)] at e
    have el:(own.map fun _=>(none:Option V)).length=own.length:=by simp
    rw[el,←ed,List.getElem?_drop] at e
    have ek:own.length+(k -own.length)=k:=by omega
    rw[ek] at e
    exact e
  cases ok with
  |false=>
   rw[if_neg Bool.false_ne_true] at q7
   obtain⟨m',hm,w7⟩:=q7
   obtain⟨J7,n7,o7⟩:=unD I7
   exact wpAny_pure ⟨rfl,m',hm,i+1,out,H7,⟨wk J7,n7,its,nD,rv,o7⟩,(stay I7).1,(stay I7).2,w7⟩
  |true=>
   rw[if_pos rfl] at q7
   refine wpAny_bind (wpAny_bind (thx (he _ s7 σ6 H7 _ I7 q7) fun y s8 ⟨v,H8,I8,r8,hl8,m',hm,w8⟩=>?_))
   obtain⟨J8,n8,o8⟩:=unD I8
   have isl:s8.heap.IsList D its.toArray:=⟨_,o8,rfl,nD,rfl⟩
   refine wpAny_bind (wpAny_list_append_plain (hsz:=by have:=rv.length;simp;omega) ⟨nD,o8⟩ fun h' hp' hs'=>?_)
   obtain⟨nn,ob'⟩:=hp'
   have ob2:h'.get? D=some {cls:= .type "list",data:= .seq (its++[y]).toArray nn}:=by
    rw[ob',List.push_toArray]
   have keep:∀b o,b≠D→s8.heap.get? b=some o→h'.get? b=some o:=fun b o hb e=>(hs'.2 b hb).trans e
   have J9:Inv (cxB X own js scope C s H fp) (X.pn++pins) σ6 H8 {s8 with heap:=h'}:=J8.turned (t':=s8.toks) keep n8 hDC (.inr hD) Dcell (fun p hp=>Dpin p (by
    have hp':p∈([]:List (Addr×Obj))++(X.pn++pins):=hp
    rw[List.nil_append] at hp'
    exact hp'))
   refine wpAny_pure (wpAny_pure ⟨rfl,m',hm,i+1,out++[v],H8,⟨wk J9,n8,its++[y],nn,rv.append (.cons r8 .nil),ob2⟩,?_,(stay I8).2,w8⟩)
   exact T.keep _ _ _ (stay I8).1 fun b hb o e=>keep b o (by rintro rfl;exact Dfp hb) e
end
end L2
set_option Elab.async false
set_option linter.all false
set_option maxRecDepth 100000
set_option maxHeartbeats 4000000
namespace L2
open PySem PySem.Spec PyProof.Rows
def Itw (n:Nat)(PV:Nat→V→Prop):It:=⟨fun i _=>i<n,fun i H x H'=>H'=H∧PV i x,fun i _=>n≤i⟩
theorem a7b {M:Model}{A:Around}{E:Value→Shared→Prop}{s:Shared}{tg:Expr}{it:Addr}{u:Value}{Q:Unit→Shared→Prop}(hu:∀a,u≠ .ref a)(hQ:Q () s):wpAny M A (letOwnedTupleGo tg (.ref it) u) Q E s:=by
 unfold letOwnedTupleGo
 cases tg<;>first
  |exact wpAny_pure hQ
  |(cases u<;>first
    |exact wpAny_pure hQ
    |exact absurd rfl (hu _))
theorem a2i {P:Program}{w:World}{K:PySem.W.Frag}{tg:Expr}{it:Addr}{n:Nat}{Pv:Nat→Value→Prop}{PV:Nat→V→Prop}{St:Nat→Heap→Prop}
  (W:∀A:Around,A.handled=none→Walks P w A it [it] [it] n Pv St) (hv:∀i u,Pv i u→(∀a,u≠ .ref a)∧∃x,RelV x u∧PV i x)
  (ho:∀i h,St i h→∃o,h.get? it=some o∧∀v,o.data≠ .cell v)
  (hk:∀i h h',St i h→(∀o,h.get? it=some o→h'.get? it=some o)→St i h')
  (hself:∀(A:Around) (i:Nat) (s:Shared) (Q:Value→Shared→Prop) (E:Value→Shared→Prop),St i s.heap→Q (.ref it) s→wpAny (model P w) A (pyIter (.ref it)) Q E s):
  a1o P w K tg (Itw n PV) [it] it (fun i h=>St i h∧i≤n) where
 mem:=by simp
 obj:=fun i h st b hb=>by
  have e:b=it:=by simpa using hb
  subst e
  exact ho i h st.1
 keep:=fun i h h' st k=>⟨hk i h h' st.1 fun o e=>k it (by simp) o e,st.2⟩
 item:=by
  intro X hP hw hK hc i pins s σ H E I hf st hg
  subst hP hw hK
  obtain⟨f0,f1,f2,f3,f4,f5⟩:=hf it (by simp)
  refine(W X.A (I.ok.hd hc)).item i s _ _ hg st.1 fun v h' tk hv' st' kk=>?_
  obtain⟨hne,x,rx,px⟩:=hv i v hv'
  have I1:Inv X pins σ H {s with heap:=h',toks:=tk}:=I.turned (fun b o hb e=>kk b o (by simpa using hb) e) f0 f1 f3 f4 f5
  exact⟨v,rfl,a7b hne ⟨x,H,I1,rx,⟨rfl,px⟩,⟨st',hg⟩,fun b hb=>(hf b hb).1⟩⟩
 done:=by
  intro X hP hw hK hc i pins s σ H E I hf st hg
  subst hP hw hK
  obtain⟨f0,f1,f2,f3,f4,f5⟩:=hf it (by simp)
  have e:i=n:=Nat.le_antisymm st.2 hg
  subst e
  exact(W X.A (I.ok.hd hc)).done s _ _ st.1 fun h' tk kk=>⟨rfl,I.turned (fun b o hb e=>kk b o (by simpa using hb) e) f0 f1 f3 f4 f5⟩
 self:=fun A i s Q E st h=>hself A i s Q E st.1 h
def sgn (c:Nat):V:= .str ⟨#[c]⟩
def b2L (x:Str)(i:Nat)(v:V):Prop:=∃c,x.cps[i]?=some c∧v=sgn c
def Its (x:Str):It:=Itw x.cps.size (b2L x)
theorem a9i {x:Str}{i:Nat}{u:Value}(h:SignAt x i u):(∀a,u≠ .ref a)∧∃v,RelV v u∧b2L x i v:=by
 obtain⟨c,t,hc,rfl⟩:=h
 exact⟨fun a z=>(by cases z),sgn c,⟨t,rfl⟩,c,hc,rfl⟩
theorem a8c {P:Program}{w:World}{K:PySem.W.Frag}{tg:Expr}(it:Addr)(x:Str)(t:Tok):a1o P w K tg (Its x) [it] it (fun i h=>h.IsStrIter it "str_ascii_iterator" x t i∧i≤x.cps.size):=
 a2i (fun A hh=>Walks.strAscii hh it x t) (fun i u h=>a9i h)
  (fun i h st=>by obtain⟨o,e,c,d⟩:=st;exact⟨o,e,fun v z=>by rw[d] at z;cases z⟩)
  (fun i h h' st k=>let ⟨o,e,r⟩:=st;⟨o,k o e,r⟩)
  (fun A i s Q E st h=>wpAny_pyIter_striter_ascii st h)
theorem a7S {P:Program}{w:World}{K:PySem.W.Frag}{tg:Expr}(it:Addr)(x:Str)(t:Tok):a1o P w K tg (Its x) [it] it (fun i h=>h.IsStrIter it "str_iterator" x t i∧i≤x.cps.size):=
 a2i (fun A hh=>Walks.strWide hh it x t) (fun i u h=>a9i h)
  (fun i h st=>by obtain⟨o,e,c,d⟩:=st;exact⟨o,e,fun v z=>by rw[d] at z;cases z⟩)
  (fun i h h' st k=>let ⟨o,e,r⟩:=st;⟨o,k o e,r⟩)
  (fun A i s Q E st h=>wpAny_pyIter_striter_wide st h)
section
variable {X:Cx} {tg:Expr}
def rIter (K:PySem.W.Frag)(v:V)(H:Hp)(R:It→Hp→Prop):Prop:=
 (∃a,v= .ref a∧(∃xs,SqL K H a xs)∧R (Itl K a) H)∨(∃a,v= .ref a∧(∃xs,SqT K H a xs)∧R (Itt K a) H)∨(∃x,v= .str x∧R (Its x) H)
theorem b0w {pins:List (Addr×Obj)}{σ:St}{H1:Hp}{s1:Shared}{x:V}{v:Value}{R:It→Hp→Prop}(I1:Inv X pins σ H1 s1)(r1:RelV x v)(q1:rIter X.K x H1 R):
  wpAny (model X.prog X.w) X.A (pyIter v) (PIE X pins σ tg R) X.xe s1:=by
 have fp0:∀b∈[s1.heap.objs.size],a0R X pins H1 b:=fun b hb=>by
  have e:b=s1.heap.objs.size:=by simpa using hb
  subst e
  exact I1.fpOk (Nat.le_refl _) (I1.hok.fresh (Nat.le_refl _))
 rcases q1 with⟨a,e,⟨xs,hq⟩,q⟩|⟨a,e,⟨xs,hq⟩,q⟩|⟨z,e,q⟩
 ·subst e
  cases r1
  obtain⟨its,rv,p,hz⟩:=I1.list hq
  refine wpAny_pyIter_list p.isList ?_
  exact⟨s1.heap.objs.size,[s1.heap.objs.size],_,_,H1,rfl,I1.kept (t':=s1.toks) fun b o e=>Heap.get?_push_of_some _ e,a7W a _,⟨_,Heap.get?_push_size _ rfl,rfl,rfl⟩,fp0,q⟩
 ·subst e
  cases r1
  obtain⟨its,rv,p,hz⟩:=I1.tuple hq
  refine wpAny_pyIter_tuple (show s1.heap.IsTuple a its.toArray from p) ?_
  exact⟨s1.heap.objs.size,[s1.heap.objs.size],_,_,H1,rfl,I1.kept (t':=s1.toks) fun b o e=>Heap.get?_push_of_some _ e,a5V a _,⟨_,Heap.get?_push_size _ rfl,rfl,rfl⟩,fp0,q⟩
 ·subst e
  obtain⟨t,rfl⟩:=r1
  cases ha:z.cps.all (·<128) with
  |false=>exact wpAny_pyIter_wide ha ⟨s1.heap.objs.size,[s1.heap.objs.size],_,_,H1,rfl,I1.kept (t':=s1.toks) fun b o e=>Heap.get?_push_of_some _ e,a7S _ z t,⟨⟨_,Heap.get?_push_size _ rfl,rfl,rfl⟩,Nat.zero_le _⟩,fp0,q⟩
  |true=>exact wpAny_pyIter_ascii ha ⟨s1.heap.objs.size,[s1.heap.objs.size],_,_,H1,rfl,I1.kept (t':=s1.toks) fun b o e=>Heap.get?_push_of_some _ e,a8c _ z t,⟨⟨_,Heap.get?_push_size _ rfl,rfl,rfl⟩,Nat.zero_le _⟩,fp0,q⟩
end
section
variable {X:Cx}
theorem a6M:∀{bs:List Bool} {us:List Value},Vals (bs.map V.bl) us→us=bs.map Value.bool
 |[],_,.nil=>rfl
 |b::bs,_,.cons r t=>by
  have e:_=Value.bool b:=r
  rw[e,a6M t];rfl
theorem a5H (bs:List Bool):((List.range bs.length).all fun i=>(bs[i]?).getD true)=bs.all id:=by
 rw[Bool.eq_iff_iff,List.all_eq_true,List.all_eq_true]
 constructor
 ·intro h b hb
  obtain⟨i,hi,rfl⟩:=List.getElem_of_mem hb
  have:=h i (List.mem_range.mpr hi)
  simpa [List.getElem?_eq_getElem hi] using this
 ·intro h i hi
  have hi':=List.mem_range.mp hi
  simpa [List.getElem?_eq_getElem hi'] using h _ (List.getElem_mem hi')
theorem b1n {s:Shared}{h':Heap}{o:Obj}(hk:∀b x,b∉[s.heap.objs.size]→(s.heap.push o).get? b=some x→h'.get? b=some x):∀b x,s.heap.get? b=some x→h'.get? b=some x:=
 fun b x e=>hk b x (fun hm=>by rw[List.mem_singleton.mp hm] at e;exact Nat.lt_irrefl _ (Heap.lt_size e)) (Heap.get?_push_of_some _ e)
def b2n (K:PySem.W.Frag):List V→Hp→VK→Prop:=fun xs H Q=>∃(p:Addr) (bs:List Bool),xs=[.ref p]∧SqL K H p (bs.map V.bl)∧Q (.bl (bs.all id)) H
theorem a8g (hc:X.calm=true):CallR X (.builtin "all") (b2n X.K):=by
 intro pins s σ H xs us Q I r h
 obtain⟨l,bs,rfl,hx,q⟩:=h
 obtain⟨u,rfl,ru⟩:=P0 r
 cases ru
 obtain⟨its,rv,ht,hz⟩:=I.list hx
 have e:=a6M rv
 subst e
 have hl:=ht.isList
 have hlt:l<s.heap.objs.size:=ht.lt
 refine call_all_walk (wpAny_pyIter_list hl ?_)
 refine⟨s.heap.objs.size,[s.heap.objs.size,l],[s.heap.objs.size],(bs.map Value.bool).toArray.size,_,_,fun i=>(bs[i]?).getD true,rfl,Walks.list (A:=X.A.in1) (I.ok.hd hc) _ l (Nat.ne_of_lt hlt) (bs.map Value.bool).toArray,
  ⟨⟨_,Heap.get?_push_size _ rfl,rfl,rfl⟩,hl.push _⟩,fun i v s' Q' E' hP hQ=>?_,fun h' tk hk=>?_⟩
 ·have hP':(bs.map Value.bool)[i]?=some v:=by simpa using hP
  rw[List.getElem?_map] at hP'
  cases e:bs[i]? with
  |none=>rw[e] at hP';cases hP'
  |some b=>
   rw[e] at hP'
   cases hP'
   simp only[e,Option.getD_some] at hQ
   exact wpAny_truthy_bool hQ
 ·have e:((List.range (bs.map Value.bool).toArray.size).all fun i=>(bs[i]?).getD true)=bs.all id:=by
   rw[List.size_toArray,List.length_map];exact a5H bs
  rw[e]
  exact⟨.bl (bs.all id),H,I.kept (b1n hk),rfl,q⟩
def b5k:V→Option Int→Option Int→Hp→VK→Prop:=fun x lo hi H Q=>∃z,x= .str z∧z.length≤sizeLine∧Q (.str (Txt.slice z lo hi)) H
theorem b3Y:SlR X b5k:=by
 intro pins s σ H x v vl vu lo hi sl Q I rx hs pl pu h
 obtain⟨z,rfl,hz,q⟩:=h
 obtain⟨t,rfl⟩:=rx
 refine⟨"str",_,F.slot_str_getitem.lookup,typeIs_str _ _ _,?_⟩
 have fin:∀t' k,EP X pins σ Q (.str (Txt.slice z lo hi) t') {s with toks:=k}:=fun t' k=>⟨.str _,H,I.tok _,⟨t',rfl⟩,q⟩
 cases pl with
 |none=>
  cases pu with
  |none=>exact wpAny_getItem_str_slice (l:=none) (u:=none) (st:=none) hs rfl (post_val_or_str ⟨Nat.le_trans (Txt.slice_le z _ _) hz,fin⟩)
  |int j tj=>exact wpAny_getItem_str_slice (l:=none) (u:=some (j,tj)) (st:=none) hs rfl (post_val_or_str ⟨Nat.le_trans (Txt.slice_le z _ _) hz,fin⟩)
 |int i ti=>
  cases pu with
  |none=>exact wpAny_getItem_str_slice (l:=some (i,ti)) (u:=none) (st:=none) hs rfl (post_val_or_str ⟨Nat.le_trans (Txt.slice_le z _ _) hz,fin⟩)
  |int j tj=>exact wpAny_getItem_str_slice (l:=some (i,ti)) (u:=some (j,tj)) (st:=none) hs rfl (post_val_or_str ⟨Nat.le_trans (Txt.slice_le z _ _) hz,fin⟩)
def rSl (K:PySem.W.Frag):V→Option Int→Option Int→Hp→VK→Prop:=fun x lo hi H Q=>b6n K x lo hi H Q∨b6u K x lo hi H Q∨b5k x lo hi H Q
theorem b4h:SlR X (rSl X.K):=sl_list.or (sl_tup.or b3Y)
theorem RelV.plainB {x:V}{v:Value}(r:RelV x v)(b:Bool):plainIs v (.bool b)=true∧(v==Value.bool b)=decide (x= .bl b):=by
 cases x with
 |non=>cases r;exact⟨rfl,rfl⟩
 |bl c=>cases r;exact⟨rfl,by cases b<;>cases c<;>rfl⟩
 |int _=>obtain⟨t,rfl⟩:=r;exact⟨rfl,rfl⟩
 |str _=>obtain⟨t,rfl⟩:=r;exact⟨rfl,rfl⟩
 |byt _=>obtain⟨t,rfl⟩:=r;exact⟨rfl,rfl⟩
 |flt _=>obtain⟨t,rfl⟩:=r;exact⟨rfl,rfl⟩
 |ref _=>cases r;exact⟨rfl,rfl⟩
 |ty _=>cases r;exact⟨rfl,rfl⟩
def rIs (neg:Bool):R2:=fun x y H Q=>(y= .non∨∃b,y= .bl b)∧Q (.bl (if neg then !decide (x=y) else decide (x=y))) H
theorem a9J:OpR X (compareOp .Is) (rIs false):=by
 intro pins s σ H x y v u Q I rx ry h
 obtain⟨hy,q⟩:=h
 rcases hy with rfl|⟨b,rfl⟩
 ·cases ry;exact is_none_gen ⟨.bl _,H,I,by rw[rx.none_iff];rfl,q⟩
 ·cases ry
  exact wpAny_is_plain (rx.plainB b).1 ⟨.bl _,H,I,by rw[(rx.plainB b).2];rfl,q⟩
theorem a8U:OpR X (compareOp .IsNot) (rIs true):=by
 intro pins s σ H x y v u Q I rx ry h
 obtain⟨hy,q⟩:=h
 rcases hy with rfl|⟨b,rfl⟩
 ·cases ry;exact isnot_none_gen ⟨.bl _,H,I,by rw[rx.none_iff];rfl,q⟩
 ·cases ry
  exact wpAny_isNot_plain (rx.plainB b).1 ⟨.bl _,H,I,by rw[(rx.plainB b).2];rfl,q⟩
def TyB (K:PySem.W.Frag)(H:Hp):V→String→Prop
 | .non,t=>t="NoneType"
 | .bl _,t=>t="bool"
 | .int _,t=>t="int"
 | .str _,t=>t="str"
 | .ref a,t=>(t="list"∧∃xs,SqL K H a xs)∨(t="tuple"∧∃xs,SqT K H a xs)∨(t="dict"∧∃kvs,Rd H a (.dK kvs))
 |_,_=>False
def a5a (t T:String):Bool:=t==T||(t=="bool"&&T=="int")
def b1d (K:PySem.W.Frag):List V→Hp→VK→Prop:=fun xs H Q=>∃x T t,xs=[x,.ty T]∧TyB K H x t∧(T="str"∨T="int"∨T="bool"∨T="list"∨T="tuple"∨T="dict")∧Q (.bl (a5a t T)) H
theorem T4 {K:PySem.W.Frag}{t T:String}(ht:t="NoneType"∨t="bool"∨t="int"∨t="str"∨t="list"∨t="tuple"∨t="dict")(hT:T="str"∨T="int"∨T="bool"∨T="list"∨T="tuple"∨T="dict"):
  PySem.W.kitOne K (.type t) (.type T)=some (a5a t T):=by
 rcases ht with rfl|rfl|rfl|rfl|rfl|rfl|rfl<;>rcases hT with rfl|rfl|rfl|rfl|rfl|rfl<;>rfl
theorem call_isi:CallR X (.builtin "isinstance") (b1d X.K):=by
 intro pins s σ H xs us Q I r h
 obtain⟨x,T,t,rfl,ty,hT,q⟩:=h
 obtain⟨u,c,rfl,rx,rc⟩:=W2 r
 cases rc
 have fin:∀tk,EP X pins σ Q (.bool (a5a t T)) {s with toks:=tk}:=fun tk=>⟨.bl _,H,I.tok tk,rfl,q⟩
 cases x with
 |non=>cases ty;cases (show u=Value.none from rx);exact PySem.W.kia_one PySem.W.kitx_none I.kIn True.intro (T4 (by simp) hT) (fun z=>nomatch z) fin
 |bl y=>cases ty;cases (show u=Value.bool y from rx);exact PySem.W.kia_one PySem.W.kitx_bool I.kIn True.intro (T4 (by simp) hT) (fun z=>nomatch z) fin
 |int i=>cases ty;obtain⟨t,q⟩:=(show ∃t,u=Value.int i t from rx);cases q;exact PySem.W.kia_one PySem.W.kitx_int I.kIn True.intro (T4 (by simp) hT) (fun z=>nomatch z) fin
 |str y=>cases ty;obtain⟨t,q⟩:=(show ∃t,u=Value.str y t from rx);cases q;exact PySem.W.kia_one PySem.W.kitx_str I.kIn True.intro (T4 (by simp) hT) (fun z=>nomatch z) fin
 |byt _=>exact False.elim ty
 |flt _=>exact False.elim ty
 |ty _=>exact False.elim ty
 |ref a=>
  cases (show u=Value.ref a from rx)
  rcases ty with⟨rfl,ys,hy⟩|⟨rfl,ys,hy⟩|⟨rfl,kvs,hy⟩
  ·obtain⟨its,_,⟨o,n,e,c,_,_⟩,_⟩:=I.list hy
   exact PySem.W.kia_one PySem.W.kitx_list I.kIn ⟨o,e,c⟩ (T4 (by simp) hT) (fun z=>nomatch z) fin
  ·obtain⟨its,_,⟨o,e,c,_⟩,_⟩:=I.tuple hy
   exact PySem.W.kia_one PySem.W.kitx_tuple I.kIn ⟨o,e,c⟩ (T4 (by simp) hT) (fun z=>nomatch z) fin
  ·obtain⟨_,_,vs,_,o,es,ep,h1,h2,_⟩:=L6 I.hok hy
   exact PySem.W.kia_one PySem.W.kitx_dict I.kIn ⟨o,h1,h2.1⟩ (T4 (by simp) hT) (fun z=>nomatch z) fin
end
end L2
set_option Elab.async false
set_option linter.all false
set_option maxRecDepth 100000
set_option maxHeartbeats 4000000
namespace L2
open PySem PySem.Spec PyProof.Rows
section
variable {X:Cx}
def a4U (K:PySem.W.Frag):R2:=fun x y H Q=>rI0 (fun i j=> .int (i+j)) x y H Q∨(∃i j,x= .str i∧y= .str j∧i.length+j.length≤sizeLine∧Q (.str (i++j)) H)∨b6M x y H Q∨b2T K x y H Q
theorem b1v:OpR X (binaryOp .Add) (a4U X.K):=op_add.or (op_add_str.or (op_cat.or b1N))
theorem op_in_sgn:OpR X (compareOp .In) (fun x y H Q=>∃c j,x=sgn c∧y= .str j∧Q (.bl (decide (c∈j.cps.toList))) H):=by
 intro pins s σ H x y v u Q I rx ry h
 obtain⟨c,j,rfl,rfl,q⟩:=h
 refine a8j pins s σ H _ _ v u Q I rx ry ⟨⟨#[c]⟩,j,rfl,rfl,?_⟩
 rw[StrLaws.found_one];exact q
theorem op_notIn_sgn:OpR X (compareOp .NotIn) (fun x y H Q=>∃c j,x=sgn c∧y= .str j∧Q (.bl (!decide (c∈j.cps.toList))) H):=by
 intro pins s σ H x y v u Q I rx ry h
 obtain⟨c,j,rfl,rfl,q⟩:=h
 refine a3O pins s σ H _ _ v u Q I rx ry ⟨⟨#[c]⟩,j,rfl,rfl,?_⟩
 rw[StrLaws.found_one];exact q
theorem a5U (hu:X.A.units+1<cLine):OpR X (compareOp .In) (fun y x H Q=>∃a o,x= .ref a∧DGet H a y o∧Q (.bl o.isSome) H):=by
 intro pins s σ H y x v u Q I ry rx h
 obtain⟨a,o,rfl,g,q⟩:=h
 cases rx
 exact b7l hu I g ry fun s' I'=>⟨.bl _,H,I',rfl,q⟩
theorem a2X (hu:X.A.units+1<cLine):OpR X (compareOp .NotIn) (fun y x H Q=>∃a o,x= .ref a∧DGet H a y o∧Q (.bl (!o.isSome)) H):=by
 intro pins s σ H y x v u Q I ry rx h
 obtain⟨a,o,rfl,g,q⟩:=h
 cases rx
 exact b1u hu I g ry fun s' I'=>⟨.bl _,H,I',rfl,q⟩
def a7L (K:PySem.W.Frag):R2:=fun x y H Q=>(∃c j,x=sgn c∧y= .str j∧Q (.bl (decide (c∈j.cps.toList))) H)∨rIn K false x y H Q∨(∃a o,y= .ref a∧DGet H a x o∧Q (.bl o.isSome) H)
def a1b (K:PySem.W.Frag):R2:=fun x y H Q=>(∃c j,x=sgn c∧y= .str j∧Q (.bl (!decide (c∈j.cps.toList))) H)∨rIn K true x y H Q∨(∃a o,y= .ref a∧DGet H a x o∧Q (.bl (!o.isSome)) H)
theorem b3F (hu:X.A.units+1<cLine):OpR X (compareOp .In) (a7L X.K):=op_in_sgn.or (op_in_seq.or (a5U hu))
theorem a7Q (hu:X.A.units+1<cLine):OpR X (compareOp .NotIn) (a1b X.K):=op_notIn_sgn.or (op_notIn_seq.or (a2X hu))
def b4J:R2:=fun x y H Q=>rI0 (fun i j=> .bl (decide (i<j))) x y H Q∨(∃i j,x= .str i∧y= .str j∧Q (.bl (decide (i.cps.toList<j.cps.toList))) H)
theorem a9v:OpR X (compareOp .Lt) b4J:=op_lt.or a7X
theorem b1T (hu:X.A.units+1<cLine):IxR X (fun x y H Q=>∃a v,x= .ref a∧DGet H a y (some v)∧Q v H):=by
 intro value slice pins s σ H x y v u Q I rx ry h hs
 obtain⟨a,z,rfl,g,q⟩:=h
 cases rx
 exact tail_any (a4x I g) PySem.F.slot_dict_getitem.lookup (a8D hu I g ry fun w2 s' I' r'=>⟨z,H,I',r',q⟩) hs
def a5m (K:PySem.W.Frag):R2:=fun x y H Q=>rIx K x y H Q∨(∃a v,x= .ref a∧DGet H a y (some v)∧Q v H)
theorem b3l (hu:X.A.units+1<cLine):IxR X (a5m X.K):=ix_seq.or (b1T hu)
def a8y (K:PySem.W.Frag):List V→Hp→VK→Prop:=fun xs H Q=>(∃x n,xs=[x]∧b6G K x H n∧Q (.int n) H)∨(∃a kvs,xs=[V.ref a]∧Rd H a (.dK kvs)∧Q (.int kvs.length) H)
theorem call_lenX:CallR X (.builtin "len") (a8y X.K):=by
 refine call_len.or ?_
 intro pins s σ H xs us Q I r h
 obtain⟨a,kvs,rfl,ha,q⟩:=h
 obtain⟨u,rfl,ru⟩:=P0 r
 cases ru
 exact b6q I ha fun t s' I'=>⟨.int kvs.length,H,I',⟨t,rfl⟩,q⟩
end
def Cal (P:Program)(w:World)(K:PySem.W.Frag)(mg:Str→Option Value)(base:Heap)(CX:CXT)(k:Nat)(x:Str)(ps:List Str)(dvs:List V)(sp:Sp):Prop:=
 ∃f fd ds,FnOk P w K mg base CX k f fd ps sp∧mg x=some (.ref f)∧PySem.W.keepIn K (.ref f)=true∧Binds K fd ps ds∧Vals dvs ds
section
variable {X:Cx} {CX:CXT} {k:Nat} {x:Str} {ps:List Str} {dvs:List V} {sp:Sp} {E:XK} {e:Expr} {es:List Expr} {t:TA} {p pos:Pos}
theorem b0G (C:Cal X.prog X.w X.K X.mg X.base CX k x ps dvs sp)(hr:Room k X.A)(hx:a1B CX X E)(ha:PA X (e::es) t)(hg:Gl X x:=by rfl)
  (hdb:(x==("__debug__":Str))=false:=by decide) (he:starEach (e::es) X.env=(false,eval e X.env)::starEach es X.env:=by rfl) (hpl:(backTo pos (starEach es X.env)).any (·.1)=false:=by rfl):
  PE X (.Call (.Name x p) (e::es) [] pos) (a4E sp dvs E t):=by
 obtain⟨f,fd,ds,F,hm,hk,hb,hd⟩:=C
 exact b1R F hr hg hm hk hb hd hx ha hdb he hpl
theorem B9 {k:Nat}{A:Around}(r:Room k A):A.units+1<cLine:=by have:=r.un;omega
end
section
variable {K:PySem.W.Frag} {σ:St} {H:Hp} {Q:VK} {D:a5R} {nx bk ct:St→Hp→Prop} {rt:VK}
theorem b6Q {i:Nat}{v:V}(h:σ[i]?=some (some v))(q:Q v H):b1I i σ H Q:=⟨v,h,q⟩
theorem r_C {v:V}(q:Q v H):tC v σ H Q:=q
theorem b6W {r:R2}{ta tb:TE}(q:ta σ H fun x H1=>tb σ H1 fun y H2=>r x y H2 Q):tOp r ta tb σ H Q:=q
theorem b4M {t:TE}{Qb:Bool→Hp→Prop}(q:t σ H fun x H'=>∃k,x= .bl k∧Qb k H'):a9p t σ H Qb:=q
theorem b7s {b:Bool}{Qb:Bool→Prop}(q:Qb b):∃k,V.bl b= .bl k∧Qb k:=⟨b,rfl,q⟩
theorem b6S {b:Bool}{Qb:Bool→Prop}(q:Qb b):∃k,b0u K (V.bl b) H k∧Qb k:=⟨b,rfl,q⟩
theorem b6L {t:TT}{Qb:Bool→Hp→Prop}(q:t σ H fun c H1=>Qb (!c) H1):b3p t σ H Qb:=q
theorem b6f {t u:TT}{Qb:Bool→Hp→Prop}(q:t σ H fun c H1=>if c=true then u σ H1 Qb else Qb false H1):b4S t u σ H Qb:=q
theorem b7k {t u:TT}{Qb:Bool→Hp→Prop}(q:t σ H fun c H1=>if c=true then Qb true H1 else u σ H1 Qb):tOr t u σ H Qb:=q
theorem b4i {ta tb:TE}(q:ta σ H fun x H1=>∃c,x= .bl c∧if c=true then tb σ H1 Q else Q (.bl false) H1):a9H ta tb σ H Q:=q
theorem b6p {ta tb:TE}(q:ta σ H fun x H1=>∃c,x= .bl c∧if c=true then Q (.bl true) H1 else tb σ H1 Q):b6Z ta tb σ H Q:=q
theorem b4v {ta:TE}(q:ta σ H fun x H1=>∃c,x= .bl c∧Q (.bl (!c)) H1):b6A ta σ H Q:=q
theorem b7d {t:TT}{ta tb:TE}(q:t σ H fun c H1=>if c=true then ta σ H1 Q else tb σ H1 Q):tIf t ta tb σ H Q:=q
theorem b6g {Qa:List V→Hp→Prop}(q:Qa [] H):b1m σ H Qa:=q
theorem b3K {ta:TE}{tr:TA}{Qa:List V→Hp→Prop}(q:ta σ H fun x H1=>tr σ H1 fun xs H2=>Qa (x::xs) H2):a7u ta tr σ H Qa:=q
theorem b3O {sp:Sp}{dvs:List V}{E:XK}{t:TA}(q:t σ H fun vs H1=>sp (vs++dvs) H1 Q E):a4E sp dvs E t σ H Q:=q
theorem b7c {r:List V→Hp→VK→Prop}{t:TA}(q:t σ H fun vs H1=>r vs H1 Q):tCB r t σ H Q:=q
theorem b7G {r:V→Option Int→Option Int→Hp→VK→Prop}{te:TE}{tl th:TO}(q:te σ H fun x H1=>tl σ H1 fun l H2=>th σ H2 fun u H3=>r x l u H3 Q):tSl r te tl th σ H Q:=q
theorem b0O {Qo:Option Int→Hp→Prop}(q:Qo none H):a3N σ H Qo:=q
theorem b4V {t:TE}{Qo:Option Int→Hp→Prop}(q:t σ H fun x H1=>∃i,x= .int i∧Qo (some i) H1):b0h t σ H Qo:=q
theorem b5S {i:Int}{Qo:Int→Prop}(q:Qo i):∃j,V.int i= .int j∧Qo j:=⟨i,rfl,q⟩
theorem b2i {r r':R2}{ta tb tc:TE}(q:ta σ H fun x H1=>tb σ H1 fun y H2=>r x y H2 fun z H3=>∃k,z= .bl k∧(if k=true then tc σ H3 fun w' H4=>r' y w' H4 Q else Q (.bl false) H3)):b4k r r' ta tb tc σ H Q:=q
theorem a8z {i j:Int}(q:Q (.int (i+j)) H):a4U K (.int i) (.int j) H Q:= .inl ⟨i,j,rfl,rfl,q⟩
theorem L4 {i j:Str}(h:i.length+j.length≤sizeLine)(q:Q (.str (i++j)) H):a4U K (.str i) (.str j) H Q:= .inr (.inl ⟨i,j,rfl,rfl,h,q⟩)
theorem b7j {g:Int→Int→V}{i j:Int}(q:Q (g i j) H):rI0 g (.int i) (.int j) H Q:=⟨i,j,rfl,rfl,q⟩
theorem r_i {C:Int→Int→Prop}{g:Int→Int→V}{i j:Int}(h:C i j)(q:Q (g i j) H):rI C g (.int i) (.int j) H Q:=⟨i,j,rfl,rfl,h,q⟩
theorem a8I {i j:Int}(q:Q (.bl (decide (i<j))) H):b4J (.int i) (.int j) H Q:= .inl ⟨i,j,rfl,rfl,q⟩
theorem a9G {i j:Str}(q:Q (.bl (decide (i.cps.toList<j.cps.toList))) H):b4J (.str i) (.str j) H Q:= .inr ⟨i,j,rfl,rfl,q⟩
theorem a4S {i j:Int}(q:Q (.bl (decide (i=j))) H):rEq (.int i) (.int j) H Q:=⟨rfl,by rw[a2b];rw[show(i==j)=decide (i=j) from Bool.beq_eq_decide_eq i j];exact q⟩
theorem a6L {i j:Bool}(q:Q (.bl (decide (i=j))) H):rEq (.bl i) (.bl j) H Q:=⟨rfl,by rw[a3J];rw[show(i==j)=decide (i=j) from Bool.beq_eq_decide_eq i j];exact q⟩
theorem a4G {i j:Str}(q:Q (.bl (decide (i=j))) H):rEq (.str i) (.str j) H Q:=⟨rfl,by rw[a3Z];rw[show(i==j)=decide (i=j) from Bool.beq_eq_decide_eq i j];exact q⟩
theorem b0y {c:Nat}{j:Str}(q:Q (.bl (decide (c∈j.cps.toList))) H):a7L K (sgn c) (.str j) H Q:= .inl ⟨c,j,rfl,rfl,q⟩
theorem a4D {c:Nat}{j:Str}(q:Q (.bl (!decide (c∈j.cps.toList))) H):a1b K (sgn c) (.str j) H Q:= .inl ⟨c,j,rfl,rfl,q⟩
theorem a3s {y:Str}(h:y.length≤sizeLine)(q:Q (.int y.length) H):a8y K [.str y] H Q:= .inl ⟨.str y,y.length,rfl,⟨h,rfl⟩,q⟩
theorem j8 {p:Addr}{xs:List V}(h:SqL K H p xs)(q:Q (.int xs.length) H):a8y K [.ref p] H Q:= .inl ⟨.ref p,xs.length,rfl,.inl ⟨xs,h,rfl⟩,q⟩
theorem a3h {p:Addr}{kvs:List (Key×V)}(h:Rd H p (.dK kvs))(q:Q (.int kvs.length) H):a8y K [.ref p] H Q:= .inr ⟨p,kvs,rfl,h,q⟩
theorem i7 {p:Addr}{xs:List V}{i:Int}{v:V}(h:SqL K H p xs)(e:atI xs i=some v)(q:Q v H):a5m K (.ref p) (.int i) H Q:= .inl (.inl ⟨p,xs,i,v,rfl,rfl,h,e,q⟩)
theorem d8 {p:Addr}{xs:List V}{i:Int}{v:V}(h:SqT K H p xs)(e:atI xs i=some v)(q:Q v H):a5m K (.ref p) (.int i) H Q:= .inl (.inr (.inl ⟨p,xs,i,v,rfl,rfl,h,e,q⟩))
theorem Z5 {z:Str}{i:Int}{c:Nat}(hz:z.length≤sizeLine)(e:atI z.cps.toList i=some c)(q:Q (sgn c) H):a5m K (.str z) (.int i) H Q:= .inl (.inr (.inr ⟨z,i,c,rfl,rfl,hz,e,q⟩))
theorem v0 {p:Addr}{y v:V}(g:DGet H p y (some v))(q:Q v H):a5m K (.ref p) y H Q:= .inr ⟨p,v,rfl,g,q⟩
theorem a5B {p:Addr}{xs:List V}{lo hi:Option Int}(h:SqL K H p xs)(q:∀p,H p=none→Q (.ref p) (upd H p (.lst (a1i xs lo hi)))):rSl K (.ref p) lo hi H Q:= .inl ⟨p,xs,rfl,h,q⟩
theorem a1a {z:Str}{lo hi:Option Int}(hz:z.length≤sizeLine)(q:Q (.str (Txt.slice z lo hi)) H):rSl K (.str z) lo hi H Q:= .inr (.inr ⟨z,rfl,hz,q⟩)
theorem a7g {l b:Addr}{xs zs:List V}(h1:H l=some (.lst xs))(h2:H b=some (.lst zs))(hz:xs.length+zs.length≤sizeLine)(q:∀p,H p=none→Q (.ref p) (upd H p (.lst (xs++zs)))):a4U K (.ref l) (.ref b) H Q:= .inr (.inr (.inl ⟨l,b,xs,zs,rfl,rfl,h1,h2,hz,q⟩))
theorem b7m {neg:Bool}{x:V}{b:Bool}(q:Q (.bl (if neg then !decide (x= .bl b) else decide (x= .bl b))) H):rIs neg x (.bl b) H Q:=⟨.inr ⟨b,rfl⟩,q⟩
theorem b6v {neg:Bool}{x:V}(q:Q (.bl (if neg then !decide (x= .non) else decide (x= .non))) H):rIs neg x .non H Q:=⟨.inl rfl,q⟩
theorem a9y {x:V}{t T:String}(ty:TyB K H x t)(hT:T="str"∨T="int"∨T="bool"∨T="list"∨T="tuple"∨T="dict")(q:Q (.bl (a5a t T)) H):b1d K [x,.ty T] H Q:=⟨x,T,t,rfl,ty,hT,q⟩
theorem b5X {p:Addr}{bs:List Bool}(h:SqL K H p (bs.map V.bl))(q:Q (.bl (bs.all id)) H):b2n K [.ref p] H Q:=⟨p,bs,rfl,h,q⟩
theorem b5W {t:TA}(q:t σ H fun xs H1=>xs.length≤sizeLine∧∀p,H1 p=none→Q (.ref p) (upd H1 p (.tup xs))):b4g t σ H Q:=q
theorem b6I {t:TA}(q:t σ H fun xs H1=>xs.length≤sizeLine∧∀p,H1 p=none→Q (.ref p) (upd H1 p (.lst xs))):b4q t σ H Q:=q
theorem C5 {t u:TS}(q:t ⟨u ⟨nx,rt,bk,ct⟩,rt,bk,ct⟩ σ H):a3K t u ⟨nx,rt,bk,ct⟩ σ H:=q
theorem b4b (q:nx σ H):b0q ⟨nx,rt,bk,ct⟩ σ H:=q
theorem b5m {te:TE}(q:te σ H rt):b1P te ⟨nx,rt,bk,ct⟩ σ H:=q
theorem b3c {te:TE}(q:te σ H fun _ H1=>nx σ H1):a9e te ⟨nx,rt,bk,ct⟩ σ H:=q
theorem b5w {c:TT}{t u:TS}(q:c σ H fun b H1=>if b=true then t ⟨nx,rt,bk,ct⟩ σ H1 else u ⟨nx,rt,bk,ct⟩ σ H1):b3W c t u ⟨nx,rt,bk,ct⟩ σ H:=q
theorem b5Z {te:TE}{g:TG}(q:te σ H fun x H1=>g x σ H1 nx):a5P te g ⟨nx,rt,bk,ct⟩ σ H:=q
theorem b3s {i:Nat}{v:V}{Qs:St→Hp→Prop}(q:Qs (σ.set i (some v)) H):P6 i v σ H Qs:=q
end
end L2
set_option Elab.async false
set_option linter.all false
set_option maxRecDepth 100000
set_option maxHeartbeats 4000000
namespace L2
open PySem PySem.Spec PyProof.Rows
section
variable {X:Cx} {pins:List (Addr×Obj)} {σ:St} {H:Hp} {s:Shared} {d:Addr} {kvs:List (Key×V)} {o:Obj}
abbrev C8 (d:Addr)(o:Obj)(kvs:List (Key×V))(H:Hp):Hp:=upd H d (.frz o (.dK kvs))
theorem Inv.freeze (I:Inv X pins σ H s)(h:H d=some (.dK kvs))(ho:s.heap.get? d=some o):Inv X pins σ (C8 d o kvs H) s:=by
 have nd:∀b u,H b=some u→u≠ .dK kvs→b≠d:=fun b u e n z=>by
  subst z;rw[h] at e;exact n (Option.some.inj e).symm
 have hok:HOk X.prog X.w (C8 d o kvs H) s.heap:=fun b u e=>by
  have st:∀{a:Addr} {u:HO},ObjOk X.prog X.w H s.heap a u→ObjOk X.prog X.w (C8 d o kvs H) s.heap a u:=fun{a u} x=>
   x.stay (fun c v _ q=>q) (fun c q=>by unfold C8;rw[b5 (nd c _ q (by intro z;cases z))];exact q) fun c xs q=>by unfold C8;rw[b5 (nd c _ q (by intro z;cases z))];exact q
  by_cases hb:b=d
  ·subst hb
   unfold C8 at e
   rw[d7] at e
   cases e
   exact⟨ho,st (I.hok _ _ h)⟩
  ·unfold C8 at e
   rw[b5 hb] at e
   exact st (I.hok b u e)
 have q:=I.un (H':=C8 d o kvs H) (h':=s.heap) (t':=s.toks) ⟨fun b o e n hb hx=>e,fun b o e n hb hx=>⟨o.slots,e⟩,fun b o e n hx=>by
  unfold C8;rw[b5 (fun z=>by subst z;rw[h] at n;cases n)];exact n,fun b o e _=>⟨o,e⟩,fun b xs e=>by unfold C8;rw[b5 (nd b _ e (by intro z;cases z))];exact e,
  fun b o u e=>by unfold C8;rw[b5 (nd b _ e (by intro z;cases z))];exact e,fun b ps e=>⟨#[],by unfold C8;rw[b5 (nd b _ e (by intro z;cases z))];simpa using e⟩⟩ hok
 exact q
def b6o:Option HO→Option HO
 |some (.frz _ u)=>some u
 |o=>o
def thaw (d:Addr)(H:Hp):Hp:=fun b=>if b=d then b6o (H d) else H b
theorem T5 {b:Addr}(h:b≠d):thaw d H b=H b:=by unfold thaw;rw[if_neg h]
theorem thaw_at {u:HO}(h:H d=some (.frz o u)):thaw d H d=some u:=by unfold thaw;rw[if_pos rfl,h];rfl
theorem b0e {u:HO}(h:H d=some (.frz o u)):thaw d H=upd H d u:=by
 funext b
 by_cases hb:b=d
 ·subst hb;rw[thaw_at h,d7]
 ·rw[T5 hb,b5 hb]
theorem b1Q (h:∀o u,H d≠some (.frz o u)):thaw d H=H:=by
 funext b
 by_cases hb:b=d
 ·subst hb
  unfold thaw
  rw[if_pos rfl]
  cases q:H b with
  |none=>rfl
  |some u=>cases u with
   |frz o u=>exact absurd q (h o u)
   |_=>rfl
 ·exact T5 hb
def b1f (X:Cx)(th:Hp→Hp):Prop:=∀(pins:List (Addr×Obj)) (σ:St) (H:Hp) (s:Shared),Inv X pins σ H s→Inv X pins σ (th H) s
theorem a0Y:b1f X id:=fun _ _ _ _ I=>I
theorem a8f (hn:∀o u,X.H₀ d≠some (.frz o u)):b1f X (thaw d):=fun pins σ H s I=>by
 by_cases hf:∃o u,H d=some (.frz o u)
 ·obtain⟨o,u,h⟩:=hf
  rw[b0e h]
  have nd:∀b v,H b=some v→v≠ .frz o u→b≠d:=fun b v e n z=>by
   subst z;rw[h] at e;exact n (Option.some.inj e).symm
  have nn:∀b,H b=none→b≠d:=fun b e z=>by subst z;rw[h] at e;cases e
  have st:∀{a:Addr} {v:HO},ObjOk X.prog X.w H s.heap a v→ObjOk X.prog X.w (upd H d u) s.heap a v:=fun{a v} x=>
   x.stay (fun c v _ q=>q) (fun c q=>by rw[b5 (nd c _ q (by intro z;cases z))];exact q) fun c xs q=>by rw[b5 (nd c _ q (by intro z;cases z))];exact q
  refine⟨I.ok,I.os,I.bare,⟨I.base.keep,I.base.slot,fun b ob e n hx=>?_,I.base.there,fun b xs e=>?_,fun b ob v e=>?_,fun b ps e=>?_⟩,I.loc,I.cell,?_,fun x c e=>?_,fun p hp=>?_,fun b v e=>?_,I.len⟩
  ·have q:=I.base.free b ob e n hx
   rw[b5 (nn b q)];exact q
  ·have q:=I.base.tups b xs e
   rw[b5 (nd b _ q (by intro z;cases z))];exact q
  ·have q:=I.base.frzs b ob v e
   rw[b5 (fun z=>by subst z;exact hn ob v e)];exact q
  ·obtain⟨m,q⟩:=I.base.tbls b ps e
   exact⟨m,by rw[b5 (nd b _ q (by intro z;cases z))];exact q⟩
  ·rw[b5 (nn _ I.free)];exact I.free
  ·have q:=I.freeC x c e
   rw[b5 (nn _ q)];exact q
  ·obtain⟨a1,a2,a3⟩:=I.pin p hp
   exact⟨a1,by rw[b5 (nn _ a2)];exact a2,a3⟩
  ·by_cases hb:b=d
   ·subst hb
    rw[d7] at e
    cases e
    exact st (I.hok _ _ h).2
   ·rw[b5 hb] at e
    exact st (I.hok b v e)
 ·rw[b1Q fun o u e=>hf ⟨o,u,e⟩];exact I
theorem Same.thaw {H H':Hp}(h:H d=some (.dK kvs))(e:Same (C8 d o kvs H) H'):Same H (thaw d H'):=fun b u q=>by
 by_cases hb:b=d
 ·subst hb
  rw[h] at q;cases q
  have z:=e b _ (show C8 b o kvs H b=some _ from d7)
  exact thaw_at z
 ·rw[T5 hb]
  exact e b u (by unfold C8;rw[b5 hb];exact q)
end
abbrev TI2:=St→Hp→(It→(Hp→Hp)→Hp→Prop)→Prop
def PI2 (X:Cx)(tg iter:Expr)(wi:TI2):Prop:=
 ∀(pins:List (Addr×Obj)) (s:Shared) (σ:St) (H:Hp) (R:It→(Hp→Hp)→Hp→Prop),Inv X pins σ H s→wi σ H R→
  wpAny (model X.prog X.w) X.A (eval iter X.env) (fun v s1=>wpAny (model X.prog X.w) X.A (pyIter v) (PIE X pins σ tg fun J H'=>∃th,b1f X th∧R J th H') X.xe s1) X.xe s
theorem PI.two {X:Cx}{tg iter:Expr}{wi:TI}(h:PI X tg iter wi):PI2 X tg iter (fun σ H R=>wi σ H fun J H'=>R J id H'):=by
 intro pins s σ H R I q
 refine thn (h pins s σ H _ I q) fun v s1 h1=>thn h1 fun itv s2 h2=>?_
 obtain⟨it,fp,tn,J,H',e,I',T,st,f,q⟩:=h2
 exact⟨it,fp,tn,J,H',e,I',T,st,f,id,a0Y,q⟩
def b1X (J:It)(th:Hp→Hp)(g:TG)(tb:TS)(nx:St→Hp→Prop)(rt:VK)(σ:St)(H1:Hp):Prop:=∃W:Nat→Nat→St→Hp→Prop,(∃m,W 0 m σ H1)∧∀i m σ H,W i m σ H→
 (J.stop i H∧nx σ (th H))∨(J.go i H∧∃N:St→Hp→Prop,(∀σ' H',N σ' H'→∃m',m'<m∧W (i+1) m' σ' H')∧∀x H',J.yld i H x H'→g x σ H' fun σ2 H2=>tb ⟨N,fun v H=>rt v (th H),fun σ H=>nx σ (th H),N⟩ σ2 H2)
def b0m (wi:TI2)(g:TG)(tb:TS):TS:=fun D σ H=>wi σ H fun J th H1=>b1X J th g tb D.nx D.rt σ H1
theorem b0X {X:Cx}{tg iter:Expr}{body:List Stmt}{wi:TI2}{g:TG}{tb:TS}{pos:Pos}(hp:PassesOwn (model X.prog X.w) X.A X.env X.xe)(hc:X.calm=true)(hi:PI2 X tg iter wi)(hg:PG X tg g)(hb:PSs X body tb)
  (hs:∀x,foldedSetIterable iter X.env x=pure x:=by intro _;rfl):PS X (.For tg iter body [] pos) (b0m wi g tb):=by
 intro pins s σ H D I h
 refine wpAny_For (thn (hi pins s σ H _ I h) fun v s1 h1=>thn h1 fun itv s2 h2=>?_) hs
 obtain⟨it,fp,tn,J,H2,e,I2,T,st2,f2,th,hth,W,⟨m0,w0⟩,turn⟩:=h2
 subst e
 have stat:∀{H':Hp},(∀b∈fp,H' b=none)→∀b∈fp,a0R X pins H' b:=fun hn b hb=>⟨hn b hb,(f2 b hb).2⟩
 refine codeAny_forLoop_any (fun n s'=>∃i σ' H',Inv X pins σ' H' s'∧tn i s'.heap∧(∀b∈fp,H' b=none)∧W i n σ' H') ?_ m0 ⟨0,σ,H2,I2,st2,fun b hb=>(f2 b hb).1,w0⟩
 rintro n s3 ⟨i,σ3,H3,I3,st3,fr3,w3⟩
 rcases turn i n σ3 H3 w3 with⟨stop,qn⟩|⟨go,N,hN,step⟩
 ·refine wpAny_passesOwn hp (thn (T.done X rfl rfl rfl hc i pins s3 σ3 H3 X.xe I3 (stat fr3) st3 stop) fun r s4 ⟨hr,I4⟩=>?_)
  subst hr
  exact wpAny_execs_nil ⟨σ3,th H3,hth _ _ _ _ I4,qn⟩
 ·refine wpAny_passesOwn hp (thn (T.item X rfl rfl rfl hc i pins s3 σ3 H3 X.xe I3 (stat fr3) st3 go) fun r s4 ⟨u,hr,h4⟩=>?_)
  subst hr
  refine wpAny_passesOwn hp (thn h4 fun _ s5 ⟨x,H5,I5,r5,y5,st5,fr5⟩=>?_)
  have I5':=I5.pinned (stat fr5) (T.obj _ _ st5)
  refine wpAny_passesOwn hp (thn (hg _ s5 σ3 H5 x u _ I5' r5 (step x H5 y5)) fun _ s6 ⟨σ6,H6,I6,q6⟩=>?_)
  refine wpAny_passesOwn hp (thn (hb _ s6 σ6 H6 _ I6 q6) fun f s7 q7=>?_)
  have again:∀{σ7:St} {H7:Hp},Inv X (pins++a2m fp s5.heap) σ7 H7 s7→N σ7 H7→∃m,m<n∧∃i σ' H',Inv X pins σ' H' s7∧tn i s7.heap∧(∀b∈fp,H' b=none)∧W i m σ' H':=fun{σ7 H7} I7 n7=>by
   obtain⟨m',hm,w7⟩:=hN σ7 H7 n7
   refine⟨m',hm,i+1,σ7,H7,I7.unpinned,T.keep _ _ _ st5 fun b hb o e=>(I7.pin (b,o) (List.mem_append_right _ (List.mem_append_right _ (Y4 hb e)))).1,fun b hb=>?_,w7⟩
   obtain⟨o,e,d⟩:=T.obj _ _ st5 b hb
   exact(I7.pin (b,o) (List.mem_append_right _ (List.mem_append_right _ (Y4 hb e)))).2.1
  cases f with
  |next=>obtain⟨σ7,H7,I7,n7⟩:=q7;exact again I7 n7
  |cont=>obtain⟨σ7,H7,I7,n7⟩:=q7;exact again I7 n7
  |brk=>obtain⟨σ7,H7,I7,q7⟩:=q7;exact⟨σ7,th H7,hth _ _ _ _ I7.unpinned,q7⟩
  |ret v=>obtain⟨x7,σ7,H7,I7,r7,q7⟩:=q7;exact⟨x7,σ7,th H7,hth _ _ _ _ I7.unpinned,r7,q7⟩
def b0l (own:List Str)(js:List Nat)(J:It)(th:Hp→Hp)(g:TG)(ti:TT)(te:TE)(Q:VK)(σ:St)(H1:Hp):Prop:=∃W:Nat→Nat→List V→Hp→Prop,(∃m,W 0 m [] H1)∧∀i m out H,W i m out H→
 (J.stop i H∧∀D,H D=none→out.length≤sizeLine∧Q (.ref D) (th (upd H D (.lst out))))∨
 (J.go i H∧∀x H',J.yld i H x H'→g x (stB own js σ) H' fun σ2 H2=>σ2.drop own.length=js.map (fun j=>(σ[j]?).join)∧ti σ2 H2 fun b H3=>
  if b=true then te σ2 H3 fun v H4=>out.length≤sizeLine∧∃m',m'<m∧W (i+1) m' (out++[v]) H4 else ∃m',m'<m∧W (i+1) m' out H3)
def a2K (own:List Str)(js:List Nat)(wi:TI2)(g:TG)(ti:TT)(te:TE):TE:=fun σ H Q=>wi σ H fun J th H1=>b0l own js J th g ti te Q σ H1
def b4X:TT:=fun _ H Q=>Q true H
theorem b6l {X:Cx}:a6w X [] b4X:=b7t
theorem a8B {X:Cx}{own:List Str}{js:List Nat}{scope:Scope}{tg iter elt:Expr}{ifs:List Expr}{pos:Pos}{g:TG}{ti:TT}{te:TE}{wi:TI2}(S:scB X own js scope=true)(hc:X.calm=true)(hit:PI2 X tg iter wi)
  (hg:∀C s H fp,PG (cxB X own js scope C s H fp) tg g) (hi:∀C s H fp,a6w (cxB X own js scope C s H fp) ifs ti) (he:∀C s H fp,PE (cxB X own js scope C s H fp) elt te)
  (hs:∀x,foldedSetIterable iter X.env x=pure x:=by intro _;rfl):
  PE X (.ListComp elt [⟨tg,iter,ifs,0⟩] scope pos) (a2K own js wi g ti te):=by
 have SB:=b0L S
 intro pins s σ H Q I h
 rw[eval_ListComp]
 refine wpAny_comprehension_free (use:=none) rfl hs (a2y (SB.cells I)) SB.kind SB.names (thn (hit pins s σ H _ I h) fun v s1 h1=>thn h1 fun itv s2 h2=>?_)
 obtain⟨it,fp,tn,J,H2,e,I2,T,st2,f2,th,hth,W,⟨m0,w0⟩,turn⟩:=h2
 subst e
 refine wpAny_newObj_type (wpAny_newFunctionEnv SB.nocell (by intro y hy;simp at hy) (fun h₁ hns₁ hsb₁=>?_) SB.kind)
 dsimp only at hns₁ hsb₁⊢
 generalize hH2:s2.heap.push {cls:= .type "list",dict:=none,data:= .seq ([]:List Value).toArray}=G2 at hns₁ hsb₁⊢
 have hCs:G2.objs.size=s2.heap.objs.size+1:=by rw[←hH2,Heap.size_push]
 have hDC:s2.heap.objs.size≠G2.objs.size:=by rw[hCs];exact Nat.ne_of_lt (Nat.lt_succ_self _)
 have hC:s2.heap.objs.size≤G2.objs.size:=by rw[hCs];exact Nat.le_succ _
 have old:∀b o,s2.heap.get? b=some o→h₁.get? b=some o:=fun b o e=>
  hsb₁.extBut b o (Nat.ne_of_lt (Nat.lt_of_lt_of_le (Heap.lt_size e) hC)) (Heap.get?_push_of_some _ (hH2▸Heap.get?_push_of_some _ e))
 have hob:∀b∈fp,∃o,s2.heap.get? b=some o:=fun b hb=>let ⟨o,e,_⟩:=T.obj _ _ st2 b hb;⟨o,e⟩
 have hacc:h₁.get? s2.heap.objs.size=some {cls:= .type "list",data:= .seq ([]:List Value).toArray}:=
  hsb₁.extBut _ _ hDC (Heap.get?_push_of_some _ (hH2▸Heap.get?_push_size _ rfl))
 have loop:∀s3:Shared,s3={s2 with heap:=h₁,toks:=s2.toks+([]:List (Str×Value)).length}→
   codeAny (model X.prog X.w) X.A (.compLoop (.ListComp elt [⟨tg,iter,ifs,0⟩] scope pos) 0 (.ref it) (.ref s2.heap.objs.size) (compEnvC scope (a1T scope X.env) G2.objs.size X.env))
    (compPost (model X.prog X.w) X.A X.xe none (EP X pins σ Q) (.ref s2.heap.objs.size) G2.objs.size) s3:=by
  rintro s3 rfl
  refine a3v (K:=fun out H'=>Q (.ref s2.heap.objs.size) (th (upd H' s2.heap.objs.size (.lst out)))) SB hc T I2 f2 (Nat.le_refl _) hC hDC hob (hg _ _ _ _) (hi _ _ _ _) (he _ _ _ _) W (fun i m out H' w=>?_) (fun out H' s' B hl k=>?_) w0
   ⟨Inv.block SB I2 f2 hob hC hns₁ old,I2.hok.fresh (Nat.le_refl _),[],_,.nil,hacc⟩ (T.keep _ _ _ st2 fun b _ o e=>old b o e) (fun b hb=>(f2 b hb).1)
  ·rcases turn i m out H' w with⟨a,b⟩|c
   ·exact .inl ⟨a,fun n=>b _ n⟩
   ·exact .inr c
  ·obtain⟨mm,hn,_⟩:=B.inv.loc
   exact⟨mm,hn,fun h' sb=>⟨.ref s2.heap.objs.size,_,hth _ _ _ _ (B.out I2 f2 (Nat.le_refl _) hC hDC hl sb),rfl,k⟩⟩
 exact codeAny_compStart_list (loop _ rfl) (T.self _ 0 _ _ _ (T.keep _ _ _ st2 fun b _ o e=>old b o e) (loop _ rfl))
theorem w4 {α β:Type}{F:α→β→Prop}:∀{l₁:List α} {l₂:List β} {i:Nat} {a:α},Paired F l₁ l₂→l₁[i]?=some a→∃b,l₂[i]?=some b∧F a b
 |_,_,_,_,.nil,e=>by simp at e
 |_,_,0,_,.cons r _,e=>by simp at e;subst e;exact⟨_,rfl,r⟩
 |_,_,i+1,a,.cons _ t,e=>by
  obtain⟨u,h1,h2⟩:=w4 (i:=i) (a:=a) t (by simpa using e)
  exact⟨u,by simpa using h1,h2⟩
section
variable {P:Program} {w:World}
theorem a1g {k:Key}{v:Value}(h:(j0 P w).is k v=true):RelV (kV k) v:=by
 rcases w9 (show a0u k v=true from h) with⟨i,t,rfl,rfl⟩|⟨x,t,rfl,rfl⟩
 ·exact⟨t,rfl⟩
 ·exact⟨t,rfl⟩
theorem a8G {k:Key}{v:Value}(h:(j0 P w).is k v=true):∀a,v≠ .ref a:=by
 rcases w9 (show a0u k v=true from h) with⟨i,t,rfl,rfl⟩|⟨x,t,rfl,rfl⟩<;>exact fun a z=>by cases z
structure a9s (P:Program) (w:World) (d:Addr) (o:Obj) (kvs:List (Key×V)) (vs:List (Key×Value)) (ep:Nat):Prop where
 kv:KV kvs vs
 at_:∀h:Heap,h.get? d=some o→h.DictAt (j0 P w) d vs ep
 nd:(kvs.map (·.1)).Nodup
theorem a0N {H:Hp}{h:Heap}{d:Addr}{kvs:List (Key×V)}(ok:HOk P w H h)(e:Rd H d (.dK kvs)):(d==sysModules)=false∧∃o vs ep,h.get? d=some o∧a9s P w d o kvs vs ep:=by
 obtain⟨z,hd,vs,rel,o,es,ep,h1,r⟩:=L6 ok e
 refine⟨hd,o,vs,ep,h1,rel,fun h' e'=>⟨o,es,e',r⟩,?_⟩
 rw[KV.keys rel]
 exact r.2.2.2.2
def Itd (d:Addr)(o:Obj)(kvs:List (Key×V))(f:Key×V→V):It:=
 ⟨fun i H=>H d=some (.frz o (.dK kvs))∧i<kvs.length,fun i H x H'=>H'=H∧∃kv,kvs[i]?=some kv∧x=f kv,fun i H=>H d=some (.frz o (.dK kvs))∧kvs.length≤i⟩
def Iti (d:Addr)(o:Obj)(kvs:List (Key×V)):It:=
 ⟨fun i H=>H d=some (.frz o (.dK kvs))∧i<kvs.length,fun i H x H'=>∃t kv,kvs[i]?=some kv∧H t=none∧x= .ref t∧H'=upd H t (.tup [kV kv.1,kv.2]),fun i H=>H d=some (.frz o (.dK kvs))∧kvs.length≤i⟩
theorem a8E {K:PySem.W.Frag}{tg:Expr}{d:Addr}{o:Obj}{kvs:List (Key×V)}{vs:List (Key×Value)}{ep:Nat}(D:a9s P w d o kvs vs ep)(it:Addr):
  a1o P w K tg (Itd d o kvs fun kv=>kV kv.1) [it] it (fun i h=>h.IsKeyIter it d i vs.length ep) where
 mem:=by simp
 obj:=fun i h st b hb=>by
  have e:b=it:=by simpa using hb
  subst e
  obtain⟨o,e,c,dd⟩:=st
  exact⟨o,e,fun v z=>by rw[dd] at z;cases z⟩
 keep:=fun i h h' st k=>st.at fun o e=>k it (by simp) o e
 item:=by
  intro X hP hw hK hc i pins s σ H E I hf st hg
  subst hP hw hK
  obtain⟨hfz,hi⟩:=hg
  obtain⟨f0,f1,f2,f3,f4,f5⟩:=hf it (by simp)
  have dat:=D.at_ s.heap (I.hok d _ hfz).1
  have hl:=KV.length D.kv
  obtain⟨kv,hkv⟩:∃kv,kvs[i]?=some kv:=⟨kvs[i],by simp [hi]⟩
  obtain⟨⟨k,x⟩,hx⟩:∃p,vs[i]?=some p:=⟨vs[i]'(by omega),by simp [show i<vs.length by omega]⟩
  have hkk:kv.1=k:=by
   have e1:(kvs.map (·.1))[i]?=some kv.1:=by rw[List.getElem?_map,hkv];rfl
   rw[KV.keys D.kv,List.getElem?_map,hx] at e1
   exact(Option.some.inj e1).symm
  refine wpAny_pyNext_dict_item st dat hx fun key h' hkey hit' hs'=>?_
  have I1:Inv X pins σ H {s with heap:=h'}:=I.turned (t':=s.toks) (fun b o hb e=>hs'.extBut b o hb e) f0 f1 f3 f4 f5
  exact⟨key,rfl,a7b (a8G hkey) ⟨kV kv.1,H,I1,by rw[hkk];exact a1g hkey,⟨rfl,kv,hkv,rfl⟩,hit',fun b hb=>(hf b hb).1⟩⟩
 done:=by
  intro X hP hw hK hc i pins s σ H E I hf st hg
  subst hP hw hK
  obtain⟨hfz,hi⟩:=hg
  obtain⟨f0,f1,f2,f3,f4,f5⟩:=hf it (by simp)
  have dat:=D.at_ s.heap (I.hok d _ hfz).1
  have hl:=KV.length D.kv
  exact wpAny_pyNext_dict_end (I.ok.hd hc) st dat (by simp;omega) fun h' eb=>⟨rfl,I.turned (t':=s.toks) (fun b o hb e=>eb b o hb e) f0 f1 f3 f4 f5⟩
 self:=fun _ _ _ _ _ st h=>wpAny_pyIter_keyiter st h
theorem a5S {K:PySem.W.Frag}{elts:List Expr}{x1}{tpos:Pos}{d:Addr}{o:Obj}{kvs:List (Key×V)}{vs:List (Key×Value)}{ep:Nat}(D:a9s P w d o kvs vs ep)(it:Addr):
  a1o P w K (.Tuple elts x1 tpos) (Iti d o kvs) [it] it (fun i h=>∃ok ov,IsItemIter h it d i vs.length ep ok ov) where
 mem:=by simp
 obj:=fun i h st b hb=>by
  have e:b=it:=by simpa using hb
  subst e
  obtain⟨ok,ov,e⟩:=st
  exact⟨_,e,fun v z=>by
   have z':Data.fields _=Data.cell v:=z
   cases z'⟩
 keep:=fun i h h' st k=>let ⟨ok,ov,e⟩:=st;⟨ok,ov,k it (by simp) _ e⟩
 item:=by
  intro X hP hw hK hc i pins s σ H E I hf st hg
  subst hP hw hK
  obtain⟨hfz,hi⟩:=hg
  obtain⟨ok,ov,st⟩:=st
  obtain⟨f0,f1,f2,f3,f4,f5⟩:=hf it (by simp)
  have dat:=D.at_ s.heap (I.hok d _ hfz).1
  have hl:=KV.length D.kv
  obtain⟨kv,hkv⟩:∃kv,kvs[i]?=some kv:=⟨kvs[i],by simp [hi]⟩
  obtain⟨⟨k,x⟩,hx⟩:∃p,vs[i]?=some p:=⟨vs[i]'(by omega),by simp [show i<vs.length by omega]⟩
  obtain⟨hkk,rx⟩:kv.1=k∧RelV kv.2 x:=by
   have q:=w4 D.kv hkv
   obtain⟨p,hp,r⟩:=q
   rw[hx] at hp;cases hp
   exact r
  refine wpAny_pyNext_items_item st dat hx fun key h' hkey hout htup hsz hk=>?_
  have hitlt:it<s.heap.objs.size:=Heap.lt_size st
  refine⟨.ref s.heap.objs.size,rfl,wpAny_letOwnedTupleGo_items (s:={s with heap:=h'}) hout fun h'' hit'' hs''=>?_⟩
  have hs2:Heap.SameBut it h' h'':=hs''
  have kp:∀b o,b≠it→s.heap.get? b=some o→h''.get? b=some o:=fun b o hb e=>hs2.extBut b o hb (hk b o hb e)
  have tupAt:h''.get? s.heap.objs.size=some {cls:= .type "tuple",data:= .seq #[key,x]}:=hs2.extBut _ _ (Nat.ne_of_gt hitlt) htup
  have fresh:H s.heap.objs.size=none:=I.hok.fresh (Nat.le_refl _)
  have nsz:∀b o,s.heap.get? b=some o→b≠s.heap.objs.size:=fun b o e=>Nat.ne_of_lt (Heap.lt_size e)
  have hH:∀b u,H b=some u→b≠s.heap.objs.size∧b≠it:=fun b u e=>⟨b9 e fresh,b9 e f0⟩
  have hok:HOk X.prog X.w (upd H s.heap.objs.size (.tup [kV kv.1,kv.2])) h'':=fun b u e=>by
   by_cases hb:b=s.heap.objs.size
   ·subst hb
    rw[d7] at e;cases e
    refine⟨by show 2≤sizeLine;decide,[key,x],.cons (by rw[hkk];exact a1g hkey) (.cons rx .nil),⟨_,tupAt,rfl,_,rfl⟩⟩
   ·rw[b5 hb] at e
    refine(I.hok b u e).stay (fun c v hc q=>kp c v ?_ q) (fun c q=>by rw[b5 (hH c _ q).1];exact q) fun c xs q=>by rw[b5 (hH c _ q).1];exact q
    rcases hc with z|z
    ·rw[z];exact(hH b _ e).2
    ·exact(hH c _ z).2
  have I1:Inv X pins σ (upd H s.heap.objs.size (.tup [kV kv.1,kv.2])) {s with heap:=h''}:=by
   refine I.call' (s':={s with heap:=h''}) (ch:=[it]) rfl ⟨fun b o e n hb hx=>kp b o (by simpa using hx) e,fun b o e n hb hx=>⟨o.slots,kp b o (by simpa using hx) e⟩,fun b o e n hx=>by rw[b5 (nsz b o e)];exact n,
    fun b o e hx=>⟨o,kp b o (by simpa using hx) e⟩,fun b xs e=>by rw[b5 (hH b _ e).1];exact e,fun b ob v e=>by rw[b5 (hH b _ e).1];exact e,fun b ps e=>⟨#[],by rw[b5 (hH b _ e).1];simpa using e⟩⟩ hok I.bare fun b hb=>?_
   have e:b=it:=by simpa using hb
   subst e
   exact⟨f3,f1,f4,f5⟩
  refine⟨.ref s.heap.objs.size,_,I1,rfl,⟨_,kv,hkv,fresh,rfl,rfl⟩,⟨_,_,hit''⟩,fun b hb=>?_⟩
  have e:b=it:=by simpa using hb
  subst e
  rw[b5 (Nat.ne_of_lt hitlt)];exact f0
 done:=by
  intro X hP hw hK hc i pins s σ H E I hf st hg
  subst hP hw hK
  obtain⟨hfz,hi⟩:=hg
  obtain⟨ok,ov,st⟩:=st
  obtain⟨f0,f1,f2,f3,f4,f5⟩:=hf it (by simp)
  have dat:=D.at_ s.heap (I.hok d _ hfz).1
  have hl:=KV.length D.kv
  exact wpAny_pyNext_items_end (I.ok.hd hc) st dat (by simp;omega) fun h' eb=>⟨rfl,I.turned (t':=s.toks) (fun b o hb e=>eb b o hb e) f0 f1 f3 f4 f5⟩
 self:=fun _ _ _ _ _ st h=>by
  obtain⟨ok,ov,st⟩:=st
  exact PySem.W.kcp_self st h
end
section
variable {X:Cx} {tg:Expr}
def rIterD (mk:Addr→Obj→List (Key×V)→It)(v:V)(H:Hp)(R:It→(Hp→Hp)→Hp→Prop):Prop:=
 ∃d kvs,v= .ref d∧((H d=some (.dK kvs)∧((kvs.map (·.1)).Nodup→∀o,R (mk d o kvs) (thaw d) (C8 d o kvs H)))∨(∃o,H d=some (.frz o (.dK kvs))∧((kvs.map (·.1)).Nodup→R (mk d o kvs) id H)))
theorem rIterD.rd {mk:Addr→Obj→List (Key×V)→It}{v:V}{H:Hp}{R:It→(Hp→Hp)→Hp→Prop}(h:rIterD mk v H R):∃d kvs,v= .ref d∧Rd H d (.dK kvs):=by
 obtain⟨d,kvs,e,h⟩:=h
 rcases h with⟨h,_⟩|⟨o,h,_⟩
 ·exact⟨d,kvs,e,.inl h⟩
 ·exact⟨d,kvs,e,.inr ⟨o,h⟩⟩
theorem rIterD.go {mk:Addr→Obj→List (Key×V)→It}{x:V}{u:Value}{pins:List (Addr×Obj)}{σ:St}{H:Hp}{s:Shared}{R:It→(Hp→Hp)→Hp→Prop}(I:Inv X pins σ H s)(r:RelV x u)(h:rIterD mk x H R):
  ∃d kvs o vs ep th H',u= .ref d∧(d==sysModules)=false∧s.heap.get? d=some o∧a9s X.prog X.w d o kvs vs ep∧Inv X pins σ H' s∧b1f X th∧R (mk d o kvs) th H':=by
 obtain⟨d,kvs,e,h⟩:=h
 subst e
 cases r
 rcases h with⟨h,q⟩|⟨o,h,q⟩
 ·obtain⟨hd,o,vs,ep,ho,D⟩:=a0N I.hok (.inl h)
  refine⟨d,kvs,o,vs,ep,thaw d,_,rfl,hd,ho,D,I.freeze h ho,a8f fun ob v z=>?_,q D.nd o⟩
  have z':=I.base.frzs d ob v z
  rw[h] at z';cases z'
 ·obtain⟨hd,o',vs,ep,ho,D⟩:=a0N I.hok (.inr ⟨o,h⟩)
  have e:=(I.hok d _ h).1
  rw[ho] at e;cases e
  exact⟨d,kvs,_,vs,ep,id,H,rfl,hd,ho,D,I,a0Y,q D.nd⟩
theorem rIter.mono {K:PySem.W.Frag}{v:V}{H:Hp}{R R':It→Hp→Prop}(h:rIter K v H R)(k:∀J H,R J H→R' J H):rIter K v H R':=by
 rcases h with⟨a,e,hq,q⟩|⟨a,e,hq,q⟩|⟨x,e,q⟩
 ·exact .inl ⟨a,e,hq,k _ _ q⟩
 ·exact .inr (.inl ⟨a,e,hq,k _ _ q⟩)
 ·exact .inr (.inr ⟨x,e,k _ _ q⟩)
abbrev ItK (d:Addr)(o:Obj)(kvs:List (Key×V)):It:=Itd d o kvs fun kv=>kV kv.1
def b0t (K:PySem.W.Frag)(v:V)(H:Hp)(R:It→(Hp→Hp)→Hp→Prop):Prop:=rIter K v H (fun J H'=>R J id H')∨rIterD ItK v H R
def iIt (K:PySem.W.Frag)(tl:TE):TI2:=fun σ H R=>tl σ H fun v H1=>b0t K v H1 R
theorem b5x {l:Expr}{tl:TE}(hl:PE X l tl):PI2 X tg l (iIt X.K tl):=by
 intro pins s σ H R I h
 refine thn (hl pins s σ H _ I h) fun v s1 ⟨x,H1,I1,r1,q1⟩=>?_
 rcases q1 with q1|q1
 ·exact b0w I1 r1 (q1.mono fun J H' q=>⟨id,a0Y,q⟩)
 ·obtain⟨d,kvs,o,vs,ep,th,H',rfl,hd,ho,D,I2,hth,q⟩:=rIterD.go I1 r1 q1
  refine wpAny_pyIter_dict hd (D.at_ _ ho) ?_
  refine⟨s1.heap.objs.size,[s1.heap.objs.size],_,_,H',rfl,I2.kept (t':=s1.toks) fun b o e=>Heap.get?_push_of_some _ e,a8E D _,⟨_,Heap.get?_push_size _ rfl,rfl,rfl⟩,fun b hb=>?_,th,hth,q⟩
  have e:b=s1.heap.objs.size:=by simpa using hb
  subst e
  exact I2.fpOk (Nat.le_refl _) (I2.hok.fresh (Nat.le_refl _))
def a6t (tl:TE):TI2:=fun σ H R=>tl σ H fun v H1=>rIterD Iti v H1 R
theorem a9c {elts:List Expr}{x1}{tpos:Pos}{o:Expr}{tl:TE}{apos cpos:Pos}(ho:PE X o tl)
  (hbase:attributeBase o "items" X.env (eval o X.env)=eval o X.env:=by rfl) (hline:(apos.endLine==cpos.line)=true:=by rfl):
  PI2 X (.Tuple elts x1 tpos) (.Call (.Attribute o "items" apos) [] [] cpos) (a6t tl):=by
 intro pins s σ H R I h
 refine wpAny_Call_method0_late hbase hline (thn (ho pins s σ H _ I h) fun v s1 ⟨x,H1,I1,r1,q1⟩=>?_)
 obtain⟨d,kvs,ob,vs,ep,th,H',rfl,hd,hob,D,I2,hth,q⟩:=rIterD.go I1 r1 q1
 have dof:=(D.at_ _ hob).dictOf
 refine⟨"dict","dict.items",F.plainAttrs_dict,F.slot_dict_items,F.type_dict_items,dof.typeIs,dof.mapOf.noDict,Calls.callWith_builtin rfl (PySem.evalArgs_none ?_)⟩
 refine call_meetsIn F.slot_dict_items dof.typeIs F.entry_dict_items (F.args_dict_items_1 _) (meets_dict_items (j0 X.prog X.w) d hd) ⟨⟨vs,dof⟩,?_⟩
 have I3:Inv X pins σ H' {s1 with heap:=s1.heap.push {cls:= .type "dict_items",data:= .fields #[.ref d]}}:=I2.kept (t':=s1.toks) fun b o e=>Heap.get?_push_of_some _ e
 refine wpAny_pyIter_items (s:={s1 with heap:=s1.heap.push {cls:= .type "dict_items",data:= .fields #[.ref d]}}) (knd:=j0 X.prog X.w) ⟨_,Heap.get?_push_size _ rfl,rfl,rfl⟩ (D.at_ _ (Heap.get?_push_of_some _ hob)) ?_
 generalize hG:s1.heap.push {cls:= .type "dict_items",data:= .fields #[.ref d]}=G at I3⊢
 refine⟨G.objs.size,[G.objs.size],_,_,H',rfl,I3.kept (t':=s1.toks) fun b o e=>Heap.get?_push_of_some _ e,a5S D _,⟨.none,.none,Heap.get?_push_size _ rfl⟩,fun b hb=>?_,th,hth,q⟩
 have e:b=G.objs.size:=by simpa using hb
 subst e
 exact I3.fpOk (Nat.le_refl _) (I3.hok.fresh (Nat.le_refl _))
end
end L2
set_option Elab.async false
set_option linter.all false
set_option maxRecDepth 100000
set_option maxHeartbeats 4000000
namespace L2
open PySem PySem.Spec PyProof.Rows
section
variable {J:It} {th:Hp→Hp} {n:Nat} {g:TG} {tb:TS} {nx bk ct:St→Hp→Prop} {rt:VK} {σ:St} {H:Hp} {own:List Str} {js:List Nat} {ti:TT} {te:TE} {Q:VK} {K:PySem.W.Frag}
theorem L9 (Pv:Nat→St→Hp→Prop)(h0:Pv 0 σ H)(hgo:∀i σ H,i<n→Pv i σ H→J.go i H)
  (hs:∀i x σ H H',i<n→Pv i σ H→J.yld i H x H'→g x σ H' fun σ2 H2=>tb ⟨Pv (i+1),fun v H=>rt v (th H),fun σ H=>nx σ (th H),Pv (i+1)⟩ σ2 H2)
  (hd:∀σ H,Pv n σ H→J.stop n H∧nx σ (th H)):
  b1X J th g tb nx rt σ H:=by
 refine⟨fun i m σ H=>m=n -i∧i≤n∧Pv i σ H,⟨n,by simp,Nat.zero_le _,h0⟩,?_⟩
 rintro i m σ H ⟨rfl,hi,p⟩
 by_cases hlt:i<n
 ·exact .inr ⟨hgo i σ H hlt p,Pv (i+1),fun σ' H' p'=>⟨n -(i+1),by omega,rfl,hlt,p'⟩,fun x H' y=>hs i x σ H H' hlt p y⟩
 ·have e:i=n:=by omega
  subst e
  exact .inl (hd σ H p)
theorem D3 (Pv:Nat→List V→Hp→Prop)(h0:Pv 0 [] H)(hgo:∀i out H,i<n→Pv i out H→J.go i H)
  (hs:∀(N:List V→Hp→Prop) i x out H H',i<n→Pv i out H→J.yld i H x H'→(∀out' H',Pv (i+1) out' H'→N out' H')→g x (stB own js σ) H' fun σ2 H2=>σ2.drop own.length=js.map (fun j=>(σ[j]?).join)∧ti σ2 H2 fun b H3=>
   if b=true then te σ2 H3 fun v H4=>out.length≤sizeLine∧N (out++[v]) H4 else N out H3)
  (hd:∀out H,Pv n out H→J.stop n H∧∀D,H D=none→out.length≤sizeLine∧Q (.ref D) (th (upd H D (.lst out)))):
  b0l own js J th g ti te Q σ H:=by
 refine⟨fun i m out H=>m=n -i∧i≤n∧Pv i out H,⟨n,by simp,Nat.zero_le _,h0⟩,?_⟩
 rintro i m out H ⟨rfl,hi,p⟩
 by_cases hlt:i<n
 ·exact .inr ⟨hgo i out H hlt p,fun x H' y=>hs (fun out' H'=>∃m',m'<n -i∧m'=n -(i+1)∧i+1≤n∧Pv (i+1) out' H') i x out H H' hlt p y fun out' H' q=>⟨n -(i+1),by omega,rfl,hlt,q⟩⟩
 ·have e:i=n:=by omega
  subst e
  exact .inl (hd out H p)
theorem b5G {wi:TI2}(q:wi σ H fun J th H1=>b1X J th g tb nx rt σ H1):b0m wi g tb ⟨nx,rt,bk,ct⟩ σ H:=q
theorem b4K {wi:TI2}(q:wi σ H fun J th H1=>b0l own js J th g ti te Q σ H1):a2K own js wi g ti te σ H Q:=q
theorem b6b {Qb:Bool→Hp→Prop}(q:Qb true H):b4X σ H Qb:=q
theorem b7I {tl:TE}{R:It→(Hp→Hp)→Hp→Prop}(q:tl σ H fun v H1=>b0t K v H1 R):iIt K tl σ H R:=q
theorem a9W {x:Str}{R:It→(Hp→Hp)→Hp→Prop}(q:R (Its x) id H):b0t K (.str x) H R:= .inl (.inr (.inr ⟨x,rfl,q⟩))
theorem z8 {a:Addr}{xs:List V}{R:It→(Hp→Hp)→Hp→Prop}(h:SqL K H a xs)(q:R (Itl K a) id H):b0t K (.ref a) H R:= .inl (.inl ⟨a,rfl,⟨xs,h⟩,q⟩)
theorem a2p {d:Addr}{kvs:List (Key×V)}{R:It→(Hp→Hp)→Hp→Prop}(h:H d=some (.dK kvs))(q:(kvs.map (·.1)).Nodup→∀o,R (ItK d o kvs) (thaw d) (C8 d o kvs H)):b0t K (.ref d) H R:=
 .inr ⟨d,kvs,rfl,.inl ⟨h,q⟩⟩
theorem b1l {tl:TE}{R:It→(Hp→Hp)→Hp→Prop}(q:tl σ H fun v H1=>rIterD Iti v H1 R):a6t tl σ H R:=q
theorem T8 {d:Addr}{kvs:List (Key×V)}{R:It→(Hp→Hp)→Hp→Prop}(h:H d=some (.dK kvs))(q:(kvs.map (·.1)).Nodup→∀o,R (Iti d o kvs) (thaw d) (C8 d o kvs H)):rIterD Iti (.ref d) H R:=⟨d,kvs,rfl,.inl ⟨h,q⟩⟩
theorem b4L {ta:TA}{R:It→Hp→Prop}(q:ta σ H fun vs H1=>∃j:Int,vs=[.int j]∧-(2 ^ 62)≤j∧j<2 ^ 62∧R (Itr 0 j.toNat) H1):a8S ta σ H R:=q
theorem N0 {i:Int}{R:Int→Prop}(h0:0≤i)(h1:i<1000000)(q:R i):∃j:Int,[V.int i]=[.int j]∧-(2 ^ 62)≤j∧j<2 ^ 62∧R j:=⟨i,rfl,by omega,by omega,q⟩
theorem M4 {p:Prop}[Decidable p]{A B:Prop}(h1:p→A)(h2:¬p→B):if decide p=true then A else B:=by
 by_cases h:p
 ·rw[if_pos (decide_eq_true h)];exact h1 h
 ·rw[if_neg (by simp [h])];exact h2 h
theorem a0z {p:Prop}[Decidable p]{A B:Prop}(h1:¬p→A)(h2:p→B):if(!decide p)=true then A else B:=by
 by_cases h:p
 ·rw[if_neg (by simp [h])];exact h2 h
 ·rw[if_pos (by simp [h])];exact h1 h
theorem U4 {b:Bool}{A B:Prop}(h1:b=true→A)(h2:b=false→B):if b=true then A else B:=by
 cases b with
 |true=>rw[if_pos rfl];exact h1 rfl
 |false=>rw[if_neg Bool.false_ne_true];exact h2 rfl
theorem b1w {b:Bool}{A B:Prop}(h1:b=false→A)(h2:b=true→B):if(!b)=true then A else B:=by
 cases b with
 |true=>rw[if_neg (by simp)];exact h2 rfl
 |false=>rw[if_pos (by simp)];exact h1 rfl
theorem b6r {A B:Prop}(h:A):if(!false)=true then A else B:=by rw[if_pos (by rfl)];exact h
theorem b5b {A B:Prop}(h:B):if(!true)=true then A else B:=by rw[if_neg (by decide)];exact h
theorem b6x {t u:TS}(P:St→Hp→Prop)(h1:∀σ H,P σ H→u ⟨nx,rt,bk,ct⟩ σ H)(h2:∀nx':St→Hp→Prop,(∀σ H,P σ H→nx' σ H)→t ⟨nx',rt,bk,ct⟩ σ H):a3K t u ⟨nx,rt,bk,ct⟩ σ H:=h2 _ h1
theorem b7 {o:HO}{p:Addr}(hp:H p=none):∃H',upd H p o=H'∧H' p=some o∧Same H H'∧∀b,b≠p→H' b=H b:=⟨_,rfl,d7,fun b u e=>by rw[b5 (b9 e hp)];exact e,fun b hb=>b5 hb⟩
theorem a1t {α:Type}{xs:List α}{i:Int}(h0:0≤i)(h1:i<xs.length):∃v,atI xs i=some v∧xs[i.toNat]?=some v:=by
 obtain⟨j,rfl⟩:=Int.eq_ofNat_of_zero_le h0
 have hj:j<xs.length:=by omega
 exact⟨xs[j],h8 (by simp [hj]),by simp [hj]⟩
theorem a0M (x y:Str):(x++y).length=x.length+y.length:=by
 show(x.cps++y.cps).size=_
 simp [Str.length]
theorem T1 (c:Nat):(⟨#[c]⟩:Str).length=1:=rfl
theorem a3Q (x:Str):x.length=x.cps.toList.length:=by simp [Str.length]
theorem i6 {n:Nat}(h:n≤1000):n≤sizeLine:=Nat.le_trans h (by decide)
theorem Same.rd {H H':Hp}{a:Addr}{u:HO}(s:Same H H')(h:Rd H a u):Rd H' a u:=by
 rcases h with h|⟨o,h⟩
 ·exact .inl (s _ _ h)
 ·exact .inr ⟨o,s _ _ h⟩
theorem Same.tup {H H':Hp}{a:Addr}{xs:List V}(s:Same H H')(h:SqT K H a xs):SqT K H' a xs:=by
 rcases h with h|h
 ·exact .inl (s.rd h)
 ·exact .inr h
theorem TyB.mono {H H':Hp}{v:V}{t:String}(h:TyB K H v t)(s:Same H H'):TyB K H' v t:=by
 cases v with
 |ref a=>
  rcases h with⟨e,xs,h⟩|⟨e,xs,h⟩|⟨e,kvs,h⟩
  ·exact .inl ⟨e,xs,s.seq h⟩
  ·exact .inr (.inl ⟨e,xs,s.tup h⟩)
  ·exact .inr (.inr ⟨e,kvs,s.rd h⟩)
 |_=>exact h
theorem Its.lt {x:Str}{i:Nat}{H H':Hp}{v:V}(h:(Its x).yld i H v H'):H'=H∧∃c,x.cps.toList[i]?=some c∧v=sgn c:=by
 obtain⟨e,c,hc,hv⟩:=h
 exact⟨e,c,by simpa using hc,hv⟩
theorem Itl.get {a:Addr}{xs:List V}{i:Nat}{H H':Hp}{v:V}(h:(Itl K a).yld i H v H')(hx:SqL K H a xs):H'=H∧xs[i]?=some v:=⟨h.1,h.2 xs hx⟩
theorem a0t {α β:Type}{l:List α}{i:Nat}{a:α}(f:α→β)(h:l[i]?=some a):(l.take i).map f++[f a]=(l.take (i+1)).map f:=by
 rw[List.take_succ,h];simp
end
end L2
set_option Elab.async false
set_option linter.all false
set_option maxRecDepth 100000
set_option maxHeartbeats 4000000
namespace L2
open PySem PySem.Spec PyProof.Rows
section
variable {X:Cx} (K:PySem.W.Frag) {a e:Expr} {ta te:TE} {tg:Expr} {pos:Pos}
theorem B4 (h:X.K=K:=by rfl):OpR X (binaryOp .Add) (a4U K):=h▸b1v
theorem kIn (hu:X.A.units+1<cLine)(h:X.K=K:=by rfl):OpR X (compareOp .In) (a7L K):=h▸b3F hu
theorem U7 (hu:X.A.units+1<cLine)(h:X.K=K:=by rfl):OpR X (compareOp .NotIn) (a1b K):=h▸a7Q hu
theorem kIx (hu:X.A.units+1<cLine)(h:X.K=K:=by rfl):IxR X (a5m K):=h▸b3l hu
theorem kSl (h:X.K=K:=by rfl):SlR X (rSl K):=h▸b4h
theorem b7f (hc:X.calm=true)(h:X.K=K:=by rfl):CallR X (.builtin "all") (b2n K):=h▸a8g hc
def b4N (ta:TE):TT:=fun σ H Q=>ta σ H fun x H'=>∃k,b0u K x H' k∧Q k H'
theorem b7z (ha:PE X a ta)(h:X.K=K:=by rfl)(he:∀whole,isTrue a X.env whole=(do let v←whole;standAt a.pos;holding [v] (truthy v)):=by intro _;rfl):PT X a (b4N K ta):=h▸b0I ha he
theorem b3m {σ:St}{H:Hp}{Qb:Bool→Hp→Prop}(q:ta σ H fun x H'=>∃k,b0u K x H' k∧Qb k H'):b4N K ta σ H Qb:=q
theorem kIt (hl:PE X a ta)(h:X.K=K:=by rfl):PI2 X tg a (iIt K ta):=h▸b5x hl
theorem b7p {es:List Expr}{k:Nat}{t:TGs}{n:Nat}(hc:X.calm=true)(hg:PGs X es t)(h:X.K=K:=by rfl)
  (hn:(assignEach es X.env).length=n:=by rfl) (hst:(assignEach es X.env).findIdx? (·.1)=none:=by rfl):PG X (.Tuple es k pos) (a9o K n t):=h▸b3o hc hg hn hst
end
end L2
set_option Elab.async false
set_option linter.all false
set_option maxRecDepth 100000
set_option maxHeartbeats 4000000
namespace L2
open PySem PySem.Spec PyProof.Rows
def u6:Expr→Bool
 | .Starred _ _=>false
 |_=>true
def A0 (es:List Expr):Bool:=es.all u6
theorem Q7 {e:Expr}{es:List Expr}{env:Env}(h:u6 e=true):starEach (e::es) env=(false,eval e env)::starEach es env:=by
 cases e<;>first|rfl|cases h
theorem a1v {env:Env}{pos:Pos}:∀{es:List Expr},A0 es=true→(backTo pos (starEach es env)).any (·.1)=false
 |[],_=>rfl
 |e::es,h=>by
  have h':(u6 e&&A0 es)=true:=h
  rw[Bool.and_eq_true] at h'
  rw[Q7 h'.1]
  show(false||(backTo pos (starEach es env)).any (·.1))=false
  rw[a1v h'.2];rfl
theorem a7o {e:Expr}{es:List Expr}{env:Env}(h:u6 e=true):assignEach (e::es) env=(false,assign e env)::assignEach es env:=by
 cases e<;>first|rfl|cases h
theorem b0j {env:Env}:∀{es:List Expr},A0 es=true→(assignEach es env).length=es.length
 |[],_=>rfl
 |e::es,h=>by
  have h':(u6 e&&A0 es)=true:=h
  rw[Bool.and_eq_true] at h'
  rw[a7o h'.1,List.length_cons,b0j h'.2,List.length_cons]
theorem a9K {env:Env}:∀{es:List Expr},A0 es=true→(assignEach es env).findIdx? (·.1)=none
 |[],_=>rfl
 |e::es,h=>by
  have h':(u6 e&&A0 es)=true:=h
  rw[Bool.and_eq_true] at h'
  rw[a7o h'.1,List.findIdx?_cons]
  simp [a9K h'.2]
section
variable {X:Cx} {K:PySem.W.Frag} {e:Expr} {es:List Expr} {te:TE} {t:TA} {x:Str} {p pos:Pos} {id T:String} {r:List V→Hp→VK→Prop}
theorem paC (ha:PE X e te)(hr:PA X es t)(h:u6 e=true:=by rfl):PA X (e::es) (a7u te t):=b1U ha hr (Q7 h)
theorem cB (hc:CallR X (.builtin id) r)(hm:X.mg x=none)(hv:bootBuiltins x=some (.builtin id))(ha:PA X (e::es) t)(hg:Gl X x:=by rfl)(hn:x≠"__name__":=by decide)(hdb:(x==("__debug__":Str))=false:=by decide)
  (h:A0 (e::es)=true:=by rfl):PE X (.Call (.Name x p) (e::es) [] pos) (tCB r t):=by
 have h':(u6 e&&A0 es)=true:=h
 rw[Bool.and_eq_true] at h'
 exact a9X hc hg hm hv ha hn hdb (Q7 h'.1) (a1v h'.2)
theorem cTy (hc:CallR X (.type T) r)(hm:X.mg x=none)(hv:bootBuiltins x=some (.type T))(ha:PA X (e::es) t)(hg:Gl X x:=by rfl)(hn:x≠"__name__":=by decide)(hdb:(x==("__debug__":Str))=false:=by decide)
  (h:A0 (e::es)=true:=by rfl):PE X (.Call (.Name x p) (e::es) [] pos) (tCB r t):=by
 have h':(u6 e&&A0 es)=true:=h
 rw[Bool.and_eq_true] at h'
 exact a8h hc hg hm hv ha hn hdb (Q7 h'.1) (a1v h'.2)
theorem cC {CX:CXT}{k:Nat}{ps:List Str}{dvs:List V}{sp:Sp}{E:XK}(C:Cal X.prog X.w X.K X.mg X.base CX k x ps dvs sp)(hr:Room k X.A)(hx:a1B CX X E)(ha:PA X (e::es) t)(hg:Gl X x:=by rfl)
  (hdb:(x==("__debug__":Str))=false:=by decide) (h:A0 (e::es)=true:=by rfl):PE X (.Call (.Name x p) (e::es) [] pos) (a4E sp dvs E t):=by
 have h':(u6 e&&A0 es)=true:=h
 rw[Bool.and_eq_true] at h'
 exact b0G C hr hx ha hg hdb (Q7 h'.1) (a1v h'.2)
theorem gT {tg:Expr}{k:Nat}{u:TGs}(hc:X.calm=true)(hg:PGs X es u)(hK:X.K=K:=by rfl)(h:A0 es=true:=by rfl):PG X (.Tuple es k pos) (a9o K es.length u):=b7p K hc hg hK (b0j h) (a9K h)
theorem gC {g:TG}{u:TGs}(h1:PG X e g)(h2:PGs X es u)(h:u6 e=true:=by rfl):PGs X (e::es) (a2d g u):=b0a h1 h2 (by rw[a7o h];rfl)
end
end L2
set_option Elab.async false
set_option linter.all false
set_option maxRecDepth 100000
set_option maxHeartbeats 4000000
namespace L2
open PySem PySem.Spec PyProof.Rows
structure QE (X:Cx) (e:Expr) (t:TE):Prop where
 r:PE X e t
structure QT (X:Cx) (e:Expr) (t:TT):Prop where
 r:PT X e t
structure QW (X:Cx) (e:Expr) (t:TT):Prop where
 r:PW X e t
structure QA (X:Cx) (es:List Expr) (t:TA):Prop where
 r:PA X es t
structure QS (X:Cx) (st:Stmt) (t:TS):Prop where
 r:PS X st t
structure QSs (X:Cx) (st:List Stmt) (t:TS):Prop where
 r:PSs X st t
structure QG (X:Cx) (tg:Expr) (t:TG):Prop where
 r:PG X tg t
structure QGs (X:Cx) (tg:List Expr) (t:TGs):Prop where
 r:PGs X tg t
structure QI (X:Cx) (tg iter:Expr) (t:TI2):Prop where
 r:PI2 X tg iter t
structure QIf (X:Cx) (ifs:List Expr) (t:TT):Prop where
 r:a6w X ifs t
structure QO (X:Cx) (e:Option Expr) (t:TO):Prop where
 r:PO X e t
structure QP (X:Cx) (pos:Pos) (keys:List (Option Expr)) (values:List Expr) (trs:List (TE×TE)):Prop where
 r:PPs X pos keys values trs
section
variable {X:Cx} {a b c e o:Expr} {es:List Expr} {ta tb tc te to:TE} {tA tB':TT} {t:TA} {Y9:List Expr} {pos apos cpos p2:Pos} {x:Str} {p:Pos} {bid T:String}
theorem a5Z {j}:QE X (.Constant .none j pos) (tC .non):=⟨b3x⟩
theorem qBl {b:Bool}{j}:QE X (.Constant (.bool b) j pos) (tC (.bl b)):=⟨b5L⟩
theorem d9 {i:Int}{j}:QE X (.Constant (.int i) j pos) (tC (.int i)):=⟨b3L⟩
theorem a7w {x:Str}{j}:QE X (.Constant (.str x) j pos) (tC (.str x)):=⟨b3k⟩
theorem qV (i:Nat)(hN:X.N[i]?=some x:=by rfl)(hv:Vis X.env.scope x:=by first|exact Or.inl rfl|exact Or.inr (Or.inl rfl)|exact Or.inr (Or.inr rfl))(hd:(x==("__debug__":Str))=false:=by decide)
  (hcd:(x==("__classdict__":Str))=false:=by decide):QE X (.Name x pos) (b1I i):=⟨b4w hN hv hd hcd⟩
theorem qTy (n:String)(hm:X.mg x=none)(hv:bootBuiltins x=some (.type n))(hg:Gl X x:=by rfl)(hn:x≠"__name__":=by decide)(hd:(x==("__debug__":Str))=false:=by decide):QE X (.Name x pos) (tC (.ty n)):=⟨b1a hg hm hv rfl hn hd⟩
theorem qOp {op:Operator}{r:R2}(ho:OpR X (binaryOp op) r)(ha:QE X a ta)(hb:QE X b tb):QE X (.BinOp a op b pos) (tOp r ta tb):=⟨b5f ho ha.r hb.r⟩
theorem b7g {op}(h:QE X a ta):QE X (.BoolOp op [a] pos) ta:=⟨b4H h.r⟩
theorem b6Y (ha:QE X a ta)(hb:QE X (.BoolOp .And (b::Y9) pos) tb):QE X (.BoolOp .And (a::b::Y9) pos) (a9H ta tb):=⟨b4A ha.r hb.r⟩
theorem a3d {op:CmpOp}{r:R2}(ho:OpR X (compareOp op) r)(ha:QE X a ta)(hb:QE X b tb)(hm:behindInMarks op b=false):QE X (.Compare a [op] [b] pos) (tOp r ta tb):=⟨b1D ho ha.r hb.r hm⟩
theorem w5 {op:CmpOp}{r:R2}(ho:OpR X (compareOp op) r)(ha:QE X a ta)(hb:QE X b tb)(hm:behindInMarks op b=false):QT X (.Compare a [op] [b] pos) (a9p (tOp r ta tb)):=⟨b1W ho ha.r hb.r hm⟩
theorem b5J (hc:QT X c tA)(ha:QE X a ta)(hb:QE X b tb):QE X (.IfExp c a b pos) (tIf tA ta tb):=⟨a9r hc.r ha.r hb.r⟩
theorem qoN:QO X none a3N:=⟨b0Z⟩
theorem qoS (h:QE X e te):QO X (some e) (b0h te):=⟨b1r h.r⟩
theorem qSl {lo hi:Option Expr}{tl th:TO}{r:V→Option Int→Option Int→Hp→VK→Prop}(hr:SlR X r)(he:QE X e te)(hl:QO X lo tl)(hu:QO X hi th):QE X (.Subscript e (.Slice lo hi none p2) pos) (tSl r te tl th):=⟨a9x hr he.r hl.r hu.r⟩
theorem qIx {r:R2}(hr:IxR X r)(ha:QE X a ta)(hb:QE X b tb)(hs:a6G b):QE X (.Subscript a b pos) (tOp r ta tb):=⟨b5M hr ha.r hb.r hs⟩
theorem O7 (h:QA X es t):QE X (.List es pos) (b4q t):=⟨b4a h.r⟩
theorem X7 {x1}(h:QA X es t):QE X (.Tuple es x1 pos) (b4g t):=⟨b3h h.r⟩
theorem qD0:QE X (.Dict [] [] pos) a9M:=⟨a8Z⟩
theorem qa0:QA X [] b1m:=⟨b3u⟩
theorem qa1 (ha:QE X e te)(hr:QA X es t)(h:u6 e=true:=by rfl):QA X (e::es) (a7u te t):=⟨paC ha.r hr.r h⟩
theorem qB {r:List V→Hp→VK→Prop}(hc:CallR X (.builtin bid) r)(hm:X.mg x=none)(hv:bootBuiltins x=some (.builtin bid))(ha:QA X (e::es) t)(hg:Gl X x:=by rfl)(hn:x≠"__name__":=by decide)(hdb:(x==("__debug__":Str))=false:=by decide)
  (h:A0 (e::es)=true:=by rfl):QE X (.Call (.Name x p) (e::es) [] pos) (tCB r t):=⟨cB hc hm hv ha.r hg hn hdb h⟩
theorem qBT {r:List V→Hp→VK→Prop}(hc:CallR X (.type T) r)(hm:X.mg x=none)(hv:bootBuiltins x=some (.type T))(ha:QA X (e::es) t)(hg:Gl X x:=by rfl)(hn:x≠"__name__":=by decide)(hdb:(x==("__debug__":Str))=false:=by decide)
  (h:A0 (e::es)=true:=by rfl):QE X (.Call (.Name x p) (e::es) [] pos) (tCB r t):=⟨cTy hc hm hv ha.r hg hn hdb h⟩
theorem qC {CX:CXT}{k:Nat}{ps:List Str}{dvs:List V}{sp:Sp}{E:XK}(C:Cal X.prog X.w X.K X.mg X.base CX k x ps dvs sp)(hr:Room k X.A)(hx:a1B CX X E)(ha:QA X (e::es) t)(hg:Gl X x:=by rfl)
  (hdb:(x==("__debug__":Str))=false:=by decide) (h:A0 (e::es)=true:=by rfl):QE X (.Call (.Name x p) (e::es) [] pos) (a4E sp dvs E t):=⟨cC C hr hx ha.r hg hdb h⟩
theorem qM {name:Str}{r:V→List V→Hp→VK→Prop}(pa:PlainAttrs T)(slot:Slot T name bid)(hty:typeOf (.builtin bid)=pure (.type "method_descriptor"))(hm:MtR X bid r)(K:PySem.W.Frag)(ho:QE X o to)(ha:QA X (e::es) t)(hK:X.K=K:=by rfl)
  (hbase:attributeBase o name X.env (eval o X.env)=eval o X.env:=by rfl)
  (h:A0 (e::es)=true:=by rfl) (h2:decide ((e::es).length<30)=true:=by rfl) (hline:(apos.endLine==cpos.line)=true:=by rfl):QE X (.Call (.Attribute o name apos) (e::es) [] cpos) (tBM K T r to t):=by
 have h':(u6 e&&A0 es)=true:=h
 rw[Bool.and_eq_true] at h'
 have hall:∀{l:List Expr},A0 l=true→(backTo cpos (starEach l X.env)).all (fun x=>!x.1)=true:=fun{l} hl=>by
  have q:=a1v (env:=X.env) (pos:=cpos) hl
  rw[List.all_eq_true]
  intro y hy
  rw[List.any_eq_false] at q
  simpa using q y hy
 subst hK
 refine⟨b6m pa slot hty hm ho.r ha.r hbase ?_ hline (Q7 h'.1) (a1v h'.2)⟩
 rw[hall h]
 show(true&&true&&decide ((e::es).length+0+0<30))=true
 simpa using h2
theorem qM0 {name:Str}{r:V→List V→Hp→VK→Prop}(pa:PlainAttrs T)(slot:Slot T name bid)(hty:typeOf (.builtin bid)=pure (.type "method_descriptor"))(hm:MtR X bid r)(K:PySem.W.Frag)(ho:QE X o to)(hK:X.K=K:=by rfl)
  (hbase:attributeBase o name X.env (eval o X.env)=eval o X.env:=by rfl) (hline:(apos.endLine==cpos.line)=true:=by rfl):QE X (.Call (.Attribute o name apos) [] [] cpos) (b3E K T r to):=⟨hK▸b4r pa slot hty hm ho.r hbase hline⟩
theorem a0O {own:List Str}{js:List Nat}{scope:Scope}{tg iter elt:Expr}{ifs:List Expr}{g:TG}{ti:TT}{wi:TI2}(S:scB X own js scope=true)(hc:X.calm=true)(hit:QI X tg iter wi)
  (hg:∀C s H fp,QG (cxB X own js scope C s H fp) tg g) (hi:∀C s H fp,QIf (cxB X own js scope C s H fp) ifs ti) (he:∀C s H fp,QE (cxB X own js scope C s H fp) elt te)
  (hs:∀x,foldedSetIterable iter X.env x=pure x:=by intro _;rfl):QE X (.ListComp elt [⟨tg,iter,ifs,0⟩] scope pos) (a2K own js wi g ti te):=
 ⟨a8B S hc hit.r (fun C s H fp=>(hg C s H fp).r) (fun C s H fp=>(hi C s H fp).r) (fun C s H fp=>(he C s H fp).r) hs⟩
theorem a7H:QIf X [] b4X:=⟨b6l⟩
theorem a3S (h:QT X c tA):QIf X [c] tA:=⟨b7A h.r⟩
theorem a6E (ha:QT X a tA):QT X (.UnaryOp .Not a pos) (b3p tA):=⟨b3Q ha.r⟩
theorem a0s (K:PySem.W.Frag)(ha:QE X a ta)(h:X.K=K:=by rfl)(he:∀whole,isTrue a X.env whole=(do let v←whole;standAt a.pos;holding [v] (truthy v)):=by intro _;rfl):QT X a (b4N K ta):=⟨b7z K ha.r h he⟩
theorem qtW (h:QW X a tA):QT X a tA:=⟨h.r.pt⟩
theorem a2x (ha:QT X a tA):QW X (.BoolOp .And [a] pos) tA:=⟨b2l ha.r⟩
theorem a4O (ha:QT X a tA):QW X (.BoolOp .Or [a] pos) tA:=⟨b4U ha.r⟩
theorem a2H (ha:QT X a tA)(hb:QW X (.BoolOp .And (b::Y9) pos) tB'):QW X (.BoolOp .And (a::b::Y9) pos) (b4S tA tB'):=⟨b4F ha.r hb.r⟩
theorem a4H (ha:QT X a tA)(hb:QW X (.BoolOp .Or (b::Y9) pos) tB'):QW X (.BoolOp .Or (a::b::Y9) pos) (tOr tA tB'):=⟨b5P ha.r hb.r⟩
theorem qgN {i:Nat}(hN:X.N.Nodup)(hi:X.N[i]?=some x)(hx:Loc X.env.scope x)(hf:X.fn x=true∨X.env.scope.names.lookup x=some .local:=by first|exact .inl rfl|exact .inr rfl|assumption):QG X (.Name x pos) (P6 i):=⟨b2c hN hi hx hf⟩
theorem qg0:QGs X [] b2f:=⟨b1L⟩
theorem qg1 {g:TG}{u:TGs}(h1:QG X e g)(h2:QGs X es u)(h:u6 e=true:=by rfl):QGs X (e::es) (a2d g u):=⟨gC h1.r h2.r h⟩
theorem qgT (K:PySem.W.Frag){k:Nat}{u:TGs}(hc:X.calm=true)(hg:QGs X es u)(hK:X.K=K:=by rfl)(h:A0 es=true:=by rfl):QG X (.Tuple es k pos) (a9o K es.length u):=⟨gT (tg:= .Name Str.empty pos) hc hg.r hK h⟩
theorem qgS {i:Expr}{ti:TE}{u:a6b}(ho:QE X o to)(hi:QE X i ti)(hs:a7J X u)
  (ha:∀v,assign (.Subscript o i pos) X.env v=(do
   let ov←holding [v] (eval o X.env)
   let iv←holding [v,ov] (eval i X.env)
   standAt pos
   holding [v,ov,iv] (setItem ov iv v)
   release [v,ov,iv] []):=by intro _;rfl):QG X (.Subscript o i pos) (b3i to ti u):=⟨b3Z ho.r hi.r hs ha⟩
theorem V1 (K:PySem.W.Frag){tg:Expr}(hl:QE X a ta)(h:X.K=K:=by rfl):QI X tg a (iIt K ta):=⟨kIt K hl.r h⟩
def b6i (wi:TI):TI2:=fun σ H R=>wi σ H fun J H'=>R J id H'
theorem b5C {wi:TI}{σ:St}{H:Hp}{R:It→(Hp→Hp)→Hp→Prop}(q:wi σ H fun J H'=>R J id H'):b6i wi σ H R:=q
theorem a2f {tg:Expr}(hm:X.mg "range"=none)(ha:QA X [a] t)(hg:Gl X "range":=by rfl)(h:u6 a=true:=by rfl):QI X tg (.Call (.Name "range" p) [a] [] pos) (b6i (a8S t)):=⟨(a7P hg hm ha.r (Q7 h)).two⟩
theorem a1U {elts:List Expr}{x1}{tpos:Pos}(ho:QE X o to)
  (hbase:attributeBase o "items" X.env (eval o X.env)=eval o X.env:=by rfl) (hline:(apos.endLine==cpos.line)=true:=by rfl):QI X (.Tuple elts x1 tpos) (.Call (.Attribute o "items" apos) [] [] cpos) (a6t to):=⟨a9c ho.r hbase hline⟩
variable {st:Stmt} {sts body orelse:List Stmt} {u u':TS} {g:TG}
theorem qs0:QSs X [] b0q:=⟨b2a⟩
theorem qs1 (h:QS X st u):QSs X [st] u:=⟨b2o h.r⟩
theorem qsC (h1:QS X st u)(h2:QSs X sts u'):QSs X (st::sts) (a3K u u'):=⟨a9O h1.r h2.r⟩
theorem o0 {i:Nat}{pos':Pos}(hN:X.N.Nodup)(hi:X.N[i]?=some x)(hx:Loc X.env.scope x)(he:QE X e te)(hs:swapsWith e (some (.Name x pos')) pos.line X.env=pure false:=by rfl)(hf:X.fn x=true∨X.env.scope.names.lookup x=some .local:=by first|exact .inl rfl|exact .inr rfl):
  QS X (.Assign [.Name x pos'] e pos) (a5P te (P6 i)):=⟨b3D hN hi hx he.r hs hf⟩
theorem U3 {tg:Expr}(he:QE X e te)(hg:QG X tg g)(hs:swapsWithSole [tg] e pos.line X.env=pure false:=by rfl)(hw:swappedStores [tg] e X.env=pure none:=by rfl)(h:u6 tg=true:=by rfl):QS X (.Assign [tg] e pos) (a5P te g):=
 ⟨b4n he.r hg.r hs hw (by rw[a7o h];rfl)⟩
theorem qIf (hc:QT X c tA)(ht:QSs X body u)(he:QSs X orelse u'):QS X (.If c body orelse pos) (b3W tA u u'):=⟨b5q hc.r ht.r he.r⟩
theorem D5 (he:QE X e te):QS X (.Return (some e) pos) (b1P te):=⟨b4B he.r⟩
theorem qEx (he:QE X e te)(hs:swapsWith e none pos.line X.env=pure false:=by rfl):QS X (.Expr e pos) (a9e te):=⟨b1g he.r hs⟩
theorem N5 {tg iter:Expr}{wi:TI2}(hp:PassesOwn (model X.prog X.w) X.A X.env X.xe)(hc:X.calm=true)(hi:QI X tg iter wi)(hg:QG X tg g)(hb:QSs X body u)(hs:∀x,foldedSetIterable iter X.env x=pure x:=by intro _;rfl):QS X (.For tg iter body [] pos) (b0m wi g u):=
 ⟨b0X hp hc hi.r hg.r hb.r hs⟩
theorem b3e (hp:PassesOwn (model X.prog X.w) X.A X.env X.xe)(hc:QT X c tA)(hb:QSs X body u):QS X (.While c body [] pos) (a9u tA u):=⟨a9D hp hc.r hb.r⟩
end
end L2
set_option Elab.async false
set_option linter.all false
set_option maxRecDepth 100000
set_option maxHeartbeats 4000000
namespace L2
open PySem PySem.Spec PyProof.Rows
theorem Y3:∀{ss:List Str} {us:List Value},Vals (ss.map V.str) us→StrsAre us ss
 |[],_,.nil=> .nil
 |x::ss,_,.cons r t=>by
  obtain⟨k,rfl⟩:=r
  exact .cons x k (Y3 t)
theorem Y2:∀{us:List Value} {ss:List Str},StrsAre us ss→Vals (ss.map V.str) us
 |_,_,.nil=> .nil
 |_,_,.cons y t r=> .cons ⟨t,rfl⟩ (Y2 r)
theorem T6:∀{xs:List V} {us:List Value},xs.length=us.length→(∀(i:Nat) x u,xs[i]?=some x→us[i]?=some u→RelV x u)→Vals xs us
 |[],[],_,_=> .nil
 |[],_::_,h,_=>by simp at h
 |_::_,[],h,_=>by simp at h
 |x::xs,u::us,h,k=> .cons (k 0 x u rfl rfl) (T6 (by simpa using h) fun i y v e1 e2=>k (i+1) y v (by simpa using e1) (by simpa using e2))
section
variable {X:Cx}
theorem Inv.newL {pins:List (Addr×Obj)}{σ:St}{H:Hp}{s:Shared}{h':Heap}{tk:Nat}{a:Addr}{xs:List V}{out:Array Value}{e:Nat}(I:Inv X pins σ H s)(k:∀b u,s.heap.get? b=some u→h'.get? b=some u)(ha:s.heap.objs.size≤a)
  (ho:h'.get? a=some {cls:= .type "list",data:= .seq out e}) (rv:Vals xs out.toList) (hz:xs.length≤sizeLine):Inv X pins σ (upd H a (.lst xs)) {s with heap:=h',toks:=tk}:=
 I.laid k ha ⟨hz,out.toList,e,rv,by rw[ho]⟩
theorem ObjOk.live {P:Program}{w:World}{H:Hp}{h:Heap}{a:Addr}{o:HO}(x:ObjOk P w H h a o):∃ob,h.get? a=some ob:=by
 cases o with
 |lst xs=>obtain⟨_,_,_,_,e⟩:=x;exact⟨_,e⟩
 |tup xs=>obtain⟨_,_,_,o,e,_⟩:=x;exact⟨_,e⟩
 |dK kvs=>obtain⟨_,_,_,_,o,_,_,e,_⟩:=x;exact⟨_,e⟩
 |dT kvs=>obtain⟨_,_,_,_,o,_,_,e,_⟩:=x;exact⟨_,e⟩
 |set S n=>obtain⟨o,_,_,_,e,_⟩:=x;exact⟨_,e⟩
 |ins C dx fs=>obtain⟨_,_,_,e,_⟩:=x;exact⟨_,e⟩
 |own y=>exact x
 |xd fs=>obtain⟨_,⟨_,_,_,e,_⟩,_⟩:=x;exact⟨_,e⟩
 |rng lo hi=>obtain⟨_,_,_,e⟩:=x;exact⟨_,e⟩
 |frz ob u=>obtain⟨e,_⟩:=x;exact⟨_,e⟩
 |tbl ps=>exact⟨_,(show h.get? a=some _ from x)⟩
 |met f y=>exact⟨_,(show h.get? a=some _ from x)⟩
 |ext φ=>obtain⟨_,e,_⟩:=x;exact e
theorem Inv.newN {pins:List (Addr×Obj)}{σ:St}{H:Hp}{s:Shared}{h':Heap}{tk:Nat}{a:Addr}{xs:List V}{out:Array Value}{e:Nat}(I:Inv X pins σ H s)(k:∀b u,s.heap.get? b=some u→h'.get? b=some u)(hn:s.heap.get? a=none)
  (ho:h'.get? a=some {cls:= .type "list",data:= .seq out e}) (rv:Vals xs out.toList) (hz:xs.length≤sizeLine):H a=none∧Inv X pins σ (upd H a (.lst xs)) {s with heap:=h',toks:=tk}:=by
 have hH:H a=none:=by
  cases q:H a with
  |none=>rfl
  |some u=>
   obtain⟨ob,z⟩:=(I.hok a u q).live
   rw[hn] at z;cases z
 have na:∀b o,s.heap.get? b=some o→b≠a:=fun b o z w=>by rw[w,hn] at z;cases z
 have nh:∀b u,H b=some u→b≠a:=fun b u z=>b9 z hH
 refine⟨hH,I.un ⟨fun b o z n _ _=>k b o z,fun b o z n _ _=>⟨o.slots,k b o z⟩,fun b o z n _=>by rw[b5 (na b o z)];exact n,fun b o z _=>⟨o,k b o z⟩,fun b ys z=>by rw[b5 (nh b _ z)];exact z,
  fun b ob u z=>by rw[b5 (nh b _ z)];exact z,fun b ps z=>⟨#[],by rw[b5 (nh b _ z)];simpa using z⟩⟩ fun b u z=>?_⟩
 by_cases hb:b=a
 ·subst hb
  rw[d7] at z;cases z
  exact⟨hz,out.toList,e,rv,by rw[ho]⟩
 ·rw[b5 hb] at z
  exact(I.hok b u z).stay (fun c v _ y=>k c v y) (fun c y=>by rw[b5 (nh c _ y)];exact y) fun c ys y=>by rw[b5 (nh c _ y)];exact y
def a4p (K:PySem.W.Frag):List V→Hp→VK→Prop:=fun xs H Q=>∃(p:Addr) (ss:List Str),xs=[.ref p]∧(SqL K H p (ss.map V.str)∨∃kvs:List (Key×V),Rd H p (.dK kvs)∧kvs.map (·.1)=ss.map Sum.inr)∧ss.length<64∧
 ∀ss':List Str,ss'.Perm ss→sortedS ss'=true→∀l,H l=none→Q (.ref l) (upd H l (.lst (ss'.map V.str)))
theorem a8m {M:Program}{w:World}{A:Around}{E:Value→Shared→Prop}{s:Shared}{a:Addr}{vs:List Value}{ss:List Str}{n:Nat}{Q:Value→Shared→Prop}(ho:s.heap.get? a=some (seqObj "list" vs.toArray n))(hS:StrsAre vs ss)(h64:vs.length<64)
  (h:∀(out:Array Value) (ss':List Str),StrsAre out.toList ss'→ss'.Perm ss→sortedS ss'=true→Q .none {s with heap:=sortedHeap s.heap a vs out}):
  wpAny (model M w) A (call (.builtin "list.sort") [.ref a]) Q E s:=by
 refine wpAny_call_entry PySem.F.slot_list_sort ⟨_,ho,rfl⟩ PySem.F.entry_list_sort ?_ (PySem.F.args_list_sort_1 _)
 refine list_sort_treeK strKind_oneLt ho hS.keysOf (fun v₁ v₂ Y9 e=>keyKind_strs (by rw[←e];exact hS)) h64 fun st' hp hs=>?_
 obtain⟨ss',h1,h2,h3⟩:=sorted_out_str hS hp hs
 exact⟨_,rfl,h _ ss' h1 h2 h3⟩
theorem a4i (hc:X.calm=true):CallR X (.builtin "sorted") (a4p X.K):=by
 intro pins s σ H xs us Q I r h
 obtain⟨p,ss,rfl,hx,h64,q⟩:=h
 obtain⟨u,rfl,ru⟩:=P0 r
 cases ru
 have hsl:(64:Nat)≤sizeLine:=by decide
 rcases hx with hx|⟨kvs,hx,hk⟩
 ·obtain⟨its,rv,ht,hz⟩:=I.list hx
  have hS:=Y3 rv
  have hl:its.length=ss.length:=by have:=rv.length;simpa using this.symm
  refine sorted_strs ht.isList hS (by omega) fun out ss' a1 a2 a3=>?_
  obtain⟨e,he⟩:=sortedAll_at s.heap its out
  have hl':=a2.length_eq
  exact⟨.ref (s.heap.objs.size+1),_,I.newL (tk:=s.toks) (fun _ _=>sortedAll_old) (Nat.le_succ _) he (Y2 a1) (by rw[List.length_map];omega),rfl,q ss' a2 a3 _ (I.hok.fresh (Nat.le_succ _))⟩
 ·obtain⟨hd,o,vs,ep,ho,D⟩:=a0N I.hok hx
  have dat:=D.at_ _ ho
  have hlen:kvs.length=ss.length:=by have:=congrArg List.length hk;simpa using this
  have hlv:=KV.length D.kv
  refine Calls.call_function_entry kind_sorted plain_sorted entry_sorted (args_sorted1 _) ?_
  unfold Builtin.«sorted»
  refine wpAny_bind (m:=checkCount "sorted" 1 1 _) (wpAny_pure ?_)
  refine wpAny_bind (PySem.W.kdu_collect (A:=X.A.in1) (PySem.W.kdl_dict (knd:=j0 X.prog X.w) (kvs:=vs) (ep:=ep) hd) (I.ok.hd hc) dat (by omega) fun h' tk acc hkp hacc=>?_)
  have hl:acc.toList.length=vs.length:=by rw[Array.length_toList];exact hacc.1
  have hS:StrsAre acc.toList ss:=by
   refine Y3 (T6 (by rw[List.length_map];omega) fun i x u e1 e2=>?_)
   obtain⟨k,y,hy,hky⟩:=hacc.2 i u (by rw[←Array.getElem?_toList];exact e2)
   have e3:(kvs.map (·.1))[i]?=some k:=by rw[KV.keys D.kv,List.getElem?_map,hy];rfl
   rw[hk,List.getElem?_map] at e3
   rw[List.getElem?_map] at e1
   cases e4:ss[i]? with
   |none=>rw[e4] at e1;cases e1
   |some z=>
    rw[e4] at e1 e3
    cases e1
    cases e3
    exact a1g hky
  refine wpAny_bind (wpAny_newList ?_ (by rw[hl];omega))
  refine wpAny_bind (wpAny_holding (a8m (s:={s with heap:=h'.push {cls:= .type "list",data:= .seq acc.toList.toArray},toks:=tk}) (n:=0) (Heap.get?_push_size _ rfl) hS (by omega) fun out ss' a1 a2 a3=>?_))
  obtain⟨e,he⟩:=sortedHeap_at (h:=h'.push {cls:= .type "list",data:= .seq acc.toList.toArray}) (a:=h'.objs.size) (vs:=acc.toList) (n:=0) (out:=out) (Heap.get?_push_size _ rfl)
  have hno:s.heap.get? h'.objs.size=none:=by
   cases z:s.heap.get? h'.objs.size with
   |none=>rfl
   |some ob=>exact absurd (Heap.lt_size (hkp _ _ z)) (Nat.lt_irrefl _)
  have hl':=a2.length_eq
  obtain⟨hH,I2⟩:=I.newN (tk:=tk) (h':=sortedHeap (h'.push {cls:= .type "list",data:= .seq acc.toList.toArray}) h'.objs.size acc.toList out) (xs:=ss'.map V.str) (fun b u eb=>by
   have hb:=Heap.lt_size (hkp b u eb)
   rw[sortedHeap_old (b:=b) (Nat.ne_of_lt hb) (by rw[Heap.size_push];exact Nat.lt_succ_of_lt hb)]
   exact Heap.get?_push_of_some _ (hkp b u eb)) hno he (Y2 a1) (by rw[List.length_map];omega)
  exact wpAny_pure ⟨_,rfl,.ref h'.objs.size,_,I2,rfl,q ss' a2 a3 _ hH⟩
def b2I (K:PySem.W.Frag):List V→Hp→VK→Prop:=fun xs H Q=>(∃p ys,xs=[.ref p]∧(SqL K H p ys∨SqT K H p ys)∧∀l,H l=none→Q (.ref l) (upd H l (.lst ys)))∨
 (∃(p:Addr) (kvs:List (Key×V)),xs=[.ref p]∧Rd H p (.dK kvs)∧∀l,H l=none→Q (.ref l) (upd H l (.lst (kvs.map fun kv=>kV kv.1))))
theorem a6u (hc:X.calm=true):CallR X (.type "list") (b2I X.K):=by
 refine call_list_of.or ?_
 intro pins s σ H xs us Q I r h
 obtain⟨p,kvs,rfl,hx,q⟩:=h
 obtain⟨u,rfl,ru⟩:=P0 r
 cases ru
 obtain⟨hd,o,vs,ep,ho,D⟩:=a0N I.hok hx
 have hlv:=KV.length D.kv
 have hz:kvs.length≤sizeLine:=(L6 I.hok hx).1
 refine PySem.W.kdl_call (PySem.W.kdl_dict (knd:=j0 X.prog X.w) (kvs:=vs) (ep:=ep) hd) (I.ok.hd hc) (D.at_ _ ho) (by omega) fun h' tk acc c hkp hS hacc=>?_
 refine⟨.ref s.heap.objs.size,_,I.newL (tk:=tk) hkp (Nat.le_refl _) hS (T6 (by have:=hacc.1;simp;omega) fun i x u e1 e2=>?_) (by rw[List.length_map];exact hz),rfl,q _ (I.hok.fresh (Nat.le_refl _))⟩
 obtain⟨k,y,hy,hky⟩:=hacc.2 i u (by rw[←Array.getElem?_toList];exact e2)
 rw[List.getElem?_map] at e1
 cases e4:kvs[i]? with
 |none=>rw[e4] at e1;cases e1
 |some kv=>
  rw[e4] at e1
  cases e1
  have e3:(kvs.map (·.1))[i]?=some kv.1:=by rw[List.getElem?_map,e4];rfl
  rw[KV.keys D.kv,List.getElem?_map,hy] at e3
  cases e3
  exact a1g hky
def b2A:List V→Hp→VK→Prop:=fun xs H Q=>∃(p:Addr) (kvs:List (Key×V)),xs=[.ref p]∧Rd H p (.dK kvs)∧∀l,H l=none→Q (.ref l) (upd H l (.dK kvs))
theorem a5G:CallR X (.type "dict") b2A:=by
 intro pins s σ H xs us Q I r h
 obtain⟨p,kvs,rfl,hx,q⟩:=h
 obtain⟨u,rfl,ru⟩:=P0 r
 cases ru
 exact b0d I hx fun l s' hl I'=>⟨.ref l,_,I',rfl,q l hl⟩
def b2K:R2:=fun x y H Q=>rI CMul (fun i j=> .int (i*j)) x y H Q∨(∃z n,x= .str z∧y= .int n∧z.length≤1000∧-1000≤n∧n≤1000∧Q (.str (Txt.mul z n)) H)
theorem K0:OpR X (binaryOp .Mult) b2K:=by
 refine op_mul.or ?_
 intro pins s σ H x y v u Q I rx ry h
 obtain⟨z,n,rfl,rfl,h1,h2,h3,q⟩:=h
 obtain⟨t,rfl⟩:=rx
 obtain⟨t',rfl⟩:=ry
 exact SB.mul (mulOk_of 1000 1000 h1 h3 (by omega) (by decide) (by decide)) fun t2 k=>⟨.str _,H,I.tok _,⟨t2,rfl⟩,q⟩
def a7p:a6b:=fun o i v H Q=>b2x o i v H Q∨(∃a H',o= .ref a∧DPut H a i v H'∧Q H')
theorem b1O (hu:X.A.units+1<cLine):a7J X a7p:=by
 intro pins s σ H o i v ov iv u Q I ro ri rv h
 rcases h with h|⟨a,H',rfl,g,q⟩
 ·exact a9m pins s σ H o i v ov iv u Q I ro ri rv h
 ·cases ro
  exact a7Y hu I g ri rv fun s' I'=>⟨H',I',q⟩
end
end L2
set_option Elab.async false
set_option linter.all false
set_option maxRecDepth 100000
set_option maxHeartbeats 4000000
namespace L2
open PySem PySem.Spec PyProof.Rows
section
variable {X:Cx}
theorem Inv.pairNew {pins:List (Addr×Obj)}{σ:St}{H:Hp}{s:Shared}{fp:List Addr}{h':Heap}{tk:Nat}{x y:V}{u v:Value}{e:Nat}(I:Inv X pins σ H s)(hf:∀b∈fp,a0R X pins H b)
  (kp:∀b o,b∉fp→s.heap.get? b=some o→h'.get? b=some o) (there:∀b∈fp,b<s.heap.objs.size) (tup:h'.get? s.heap.objs.size=some {cls:= .type "tuple",data:= .seq #[u,v] e}) (rx:RelV x u) (ry:RelV y v):
  H s.heap.objs.size=none∧Inv X pins σ (upd H s.heap.objs.size (.tup [x,y])) {s with heap:=h',toks:=tk}∧∀b∈fp,upd H s.heap.objs.size (.tup [x,y]) b=none:=by
 have fresh:H s.heap.objs.size=none:=I.hok.fresh (Nat.le_refl _)
 have nsz:∀b o,s.heap.get? b=some o→b≠s.heap.objs.size:=fun b o z=>Nat.ne_of_lt (Heap.lt_size z)
 have hH:∀b w,H b=some w→b≠s.heap.objs.size∧b∉fp:=fun b w z=>⟨b9 z fresh,fun m=>by rw[(hf b m).1] at z;cases z⟩
 have hok:HOk X.prog X.w (upd H s.heap.objs.size (.tup [x,y])) h':=fun b w z=>by
  by_cases hb:b=s.heap.objs.size
  ·subst hb
   rw[d7] at z;cases z
   exact⟨by show 2≤sizeLine;decide,[u,v],.cons rx (.cons ry .nil),⟨_,tup,rfl,_,rfl⟩⟩
  ·rw[b5 hb] at z
   refine(I.hok b w z).stay (fun c ob hc q=>kp c ob ?_ q) (fun c q=>by rw[b5 (hH c _ q).1];exact q) fun c ys q=>by rw[b5 (hH c _ q).1];exact q
   rcases hc with m|m
   ·rw[m];exact(hH b _ z).2
   ·exact(hH c _ m).2
 refine⟨fresh,I.call' (s':={s with heap:=h',toks:=tk}) (ch:=fp) rfl ⟨fun b o z n _ hx=>kp b o hx z,fun b o z n _ hx=>⟨o.slots,kp b o hx z⟩,fun b o z n _=>by rw[b5 (nsz b o z)];exact n,
  fun b o z hx=>⟨o,kp b o hx z⟩,fun b ys z=>by rw[b5 (hH b _ z).1];exact z,fun b ob w z=>by rw[b5 (hH b _ z).1];exact z,fun b ps z=>⟨#[],by rw[b5 (hH b _ z).1];simpa using z⟩⟩ hok I.bare fun b hb=>?_,fun b hb=>?_⟩
 ·obtain⟨f0,f1,f2,f3,f4,f5⟩:=hf b hb
  exact⟨f3,f1,f4,f5⟩
 ·rw[b5 (Nat.ne_of_lt (there b hb))];exact(hf b hb).1
theorem Inv.turnedAll {pins:List (Addr×Obj)}{σ:St}{H:Hp}{s:Shared}{fp:List Addr}{h':Heap}{tk:Nat}(I:Inv X pins σ H s)(hf:∀b∈fp,a0R X pins H b)
  (kp:∀b o,b∉fp→s.heap.get? b=some o→h'.get? b=some o):Inv X pins σ H {s with heap:=h',toks:=tk}:=by
 have hH:∀b w,H b=some w→b∉fp:=fun b w z m=>by rw[(hf b m).1] at z;cases z
 refine I.call' (s':={s with heap:=h',toks:=tk}) (ch:=fp) rfl ⟨fun b o z n _ hx=>kp b o hx z,fun b o z n _ hx=>⟨o.slots,kp b o hx z⟩,fun b o z n _=>n,
  fun b o z hx=>⟨o,kp b o hx z⟩,fun b ys z=>z,fun b ob w z=>z,fun b ps z=>⟨#[],by simpa using z⟩⟩ (fun b w z=>?_) I.bare fun b hb=>?_
 ·refine(I.hok b w z).stay (fun c ob hc q=>kp c ob ?_ q) (fun c q=>q) fun c ys q=>q
  rcases hc with m|m
  ·rw[m];exact hH b _ z
  ·exact hH c _ m
 ·obtain⟨f0,f1,f2,f3,f4,f5⟩:=hf b hb
  exact⟨f3,f1,f4,f5⟩
end
def Ite (K:PySem.W.Frag)(l:Addr):It:=
 ⟨fun i H=>∃xs x,SqL K H l xs∧xs[i]?=some x,fun i H x H'=>∃t v,(∀xs,SqL K H l xs→xs[i]?=some v)∧H t=none∧x= .ref t∧H'=upd H t (.tup [.int i,v]),fun i H=>∃xs,SqL K H l xs∧xs.length≤i⟩
theorem a7F {P:Program}{w:World}{K:PySem.W.Frag}{elts:List Expr}{x1}{tpos:Pos}{en it l:Addr}(hne:en≠it):a1o P w K (.Tuple elts x1 tpos) (Ite K l) [en,it] en (fun i h=>∃old,IsEnum h en it i old∧h.IsListIter it l i) where
 mem:=by simp
 obj:=fun i h st b hb=>by
  obtain⟨old,h1,o,e,c,d⟩:=st
  have hb':b=en∨b=it:=by simpa using hb
  rcases hb' with rfl|rfl
  ·exact⟨_,h1,fun v z=>by
    have z':Data.fields _=Data.cell v:=z
    cases z'⟩
  ·exact⟨o,e,fun v z=>by rw[d] at z;cases z⟩
 keep:=fun i h h' st k=>by
  obtain⟨old,h1,h2⟩:=st
  exact⟨old,k en (by simp) _ h1,h2.at fun o e=>k it (by simp) o e⟩
 item:=by
  intro X hP hw hK hc i pins s σ H E I hf st hg
  subst hP hw hK
  obtain⟨old,st1,st2⟩:=st
  obtain⟨xs,x,hq,hx⟩:=hg
  obtain⟨its,rv,p,hz⟩:=I.list hq
  obtain⟨u,hu,ru⟩:=rv.get hx
  have hen:en<s.heap.objs.size:=Heap.lt_size st1
  have hit:it<s.heap.objs.size:=by obtain⟨o,e,_⟩:=st2;exact Heap.lt_size e
  refine wpAny_pyNext_enum_item st1 st2 p.isList (x:=u) (by simpa using hu) hne fun h' heo hit1 ht1 hz1 hk1=>?_
  refine⟨.ref s.heap.objs.size,rfl,wpAny_letOwnedTupleGo_enum (s:={s with heap:=h',toks:=s.toks+1}) heo fun h'' he'' hs''=>?_⟩
  have hs2:Heap.SameBut en h' h'':=hs''
  have tupAt:h''.get? s.heap.objs.size=some {cls:= .type "tuple",data:= .seq #[.int i s.toks,u]}:=hs2.extBut _ _ (Nat.ne_of_gt hen) ht1
  obtain⟨fr,I1,fr2⟩:=I.pairNew (fp:=[en,it]) (h':=h'') (tk:=s.toks+1) (x:= .int i) (y:=x) hf (fun b o hb e=>by
   have hb':b≠en∧b≠it:=by simpa using hb
   exact hs2.extBut b o hb'.1 (hk1 b o hb'.1 hb'.2 e)) (fun b hb=>by
   have hb':b=en∨b=it:=by simpa using hb
   rcases hb' with rfl|rfl
   ·exact hen
   ·exact hit) tupAt ⟨_,rfl⟩ ru
  refine⟨.ref s.heap.objs.size,_,I1,rfl,⟨_,x,fun ys hy=>by rw[I.list_inj hy hq];exact hx,fr,rfl,rfl⟩,⟨_,he'',?_⟩,fr2⟩
  exact hit1.at fun o e=>hs2.extBut it o (Ne.symm hne) e
 done:=by
  intro X hP hw hK hc i pins s σ H E I hf st hg
  subst hP hw hK
  obtain⟨old,st1,st2⟩:=st
  obtain⟨xs,hq,hx⟩:=hg
  obtain⟨its,rv,p,hz⟩:=I.list hq
  have hl:=rv.length
  exact wpAny_pyNext_enum_end (I.ok.hd hc) st1 st2 p.isList (by simp;omega) fun h' eb=>⟨rfl,I.turnedAll (fp:=[en,it]) (tk:=s.toks) hf fun b o hb e=>eb b o (by
   have hb':b≠en∧b≠it:=by simpa using hb
   exact hb'.2) e⟩
 self:=fun _ _ _ _ _ st h=>by
  obtain⟨old,st1,st2⟩:=st
  exact wpAny_pyIter_enum st1 h
section
variable {X:Cx} {a b:Expr} {t:TA} {p pos:Pos}
def b5B (K:PySem.W.Frag)(ta:TA):TI:=fun σ H R=>ta σ H fun vs H1=>∃l xs,vs=[.ref l]∧SqL K H1 l xs∧R (Ite K l) H1
end
def Itz (K : PySem.W.Frag) (l m : Addr) : It :=
  ⟨fun i H => ∃ xs ys x y, SqL K H l xs ∧ SqL K H m ys ∧ xs[i]? = some x ∧ ys[i]? = some y,
   fun i H v H' => ∃ t x y, (∀ xs, SqL K H l xs → xs[i]? = some x) ∧ (∀ ys, SqL K H m ys → ys[i]? = some y) ∧ H t = none ∧ v = .ref t ∧ H' = upd H t (.tup [x, y]),
   fun i H => ∃ xs ys, SqL K H l xs ∧ SqL K H m ys ∧ (xs.length ≤ i ∨ ys.length ≤ i)⟩
section
variable {X:Cx} {a b:Expr} {t:TA} {p pos:Pos}
def b7E (K:PySem.W.Frag)(ta:TA):TI:=fun σ H R=>ta σ H fun vs H1=>∃l m xs ys,vs=[.ref l,.ref m]∧SqL K H1 l xs∧SqL K H1 m ys∧R (Itz K l m) H1
end
section
variable {X:Cx} (K:PySem.W.Frag) {a b:Expr} {t:TA} {p pos:Pos}
theorem J5 (hc:X.calm=true)(h:X.K=K:=by rfl):CallR X (.builtin "sorted") (a4p K):=h▸a4i hc
end
theorem u0 {X:Cx}:MtR X "list.append" a7r:=a7A
section
variable {K:PySem.W.Frag} {σ:St} {H:Hp} {Q:VK}
theorem p0 {p:Addr}{kvs:List (Key×V)}{ss:List Str}(h:Rd H p (.dK kvs))(hk:kvs.map (·.1)=ss.map Sum.inr)(h64:ss.length<64)(q:∀ss':List Str,ss'.Perm ss→sortedS ss'=true→∀l,H l=none→Q (.ref l) (upd H l (.lst (ss'.map V.str)))):a4p K [.ref p] H Q:=⟨p,ss,rfl,.inr ⟨kvs,h,hk⟩,h64,q⟩
theorem a8A {i j:Int}(h:CMul i j)(q:Q (.int (i*j)) H):b2K (.int i) (.int j) H Q:= .inl ⟨i,j,rfl,rfl,h,q⟩
theorem b4l {to ti:TE}{t:a6b}{v:V}{Qs:St→Hp→Prop}(q:to σ H fun o H1=>ti σ H1 fun i H2=>t o i v H2 fun H3=>Qs σ H3):b3i to ti t v σ H Qs:=q
theorem p8 {a:Addr}{kvs:List (Key×V)}{k:Key}{v:V}{Qh:Hp→Prop}(h:H a=some (.dK kvs))(hl:kvs.length<sizeLine)(q:Qh (upd H a (.dK (B8 kvs k v)))):a7p (.ref a) (kV k) v H Qh:= .inr ⟨a,_,rfl,DPut.k h hl,q⟩
theorem b3w {ta:TA}{R:It→Hp→Prop}(q:ta σ H fun vs H1=>∃l xs,vs=[.ref l]∧SqL K H1 l xs∧R (Ite K l) H1):b5B K ta σ H R:=q
theorem b6P {ta:TA}{R:It→Hp→Prop}(q:ta σ H fun vs H1=>∃l m xs ys,vs=[.ref l,.ref m]∧SqL K H1 l xs∧SqL K H1 m ys∧R (Itz K l m) H1):b7E K ta σ H R:=q
theorem K3 {n:Nat}{t:TGs}{a:Addr}{xs:List V}{Qs:St→Hp→Prop}(h:SqT K H a xs)(hl:xs.length=n)(q:t xs σ H Qs):a9o K n t (.ref a) σ H Qs:=⟨a,xs,rfl,h,hl,q⟩
theorem b2j {t:TG}{u:TGs}{v:V}{r:List V}{Qs:St→Hp→Prop}(q:t v σ H fun σ' H'=>u r σ' H' Qs):a2d t u (v::r) σ H Qs:=⟨v,r,rfl,q⟩
theorem b4o {Qs:St→Hp→Prop}(q:Qs σ H):b2f [] σ H Qs:=⟨rfl,q⟩
theorem b6X {T:String}{r:V→List V→Hp→VK→Prop}{to:TE}{t:TA}(q:to σ H fun x H1=>tyV K T x H1∧t σ H1 fun xs H2=>r x xs H2 Q):tBM K T r to t σ H Q:=q
theorem b5V {T:String}{r:V→List V→Hp→VK→Prop}{to:TE}(q:to σ H fun x H1=>tyV K T x H1∧r x [] H1 Q):b3E K T r to σ H Q:=q
theorem a4s {p:Addr}{x:V}{o:Option V}(g:DGet H p x o)(q:Q (.bl o.isSome) H):a7L K x (.ref p) H Q:= .inr (.inr ⟨p,o,rfl,g,q⟩)
theorem a1E {p:Addr}{x:V}{o:Option V}(g:DGet H p x o)(q:Q (.bl (!o.isSome)) H):a1b K x (.ref p) H Q:= .inr (.inr ⟨p,o,rfl,g,q⟩)
theorem a5x {p:Addr}{x:V}{xs:List V}(h:SqL K H p xs∨SqT K H p xs)(h1:z6 x=true)(h2:xs.all z6=true)(q:Q (.bl (inV x xs)) H):a7L K x (.ref p) H Q:= .inr (.inl ⟨p,xs,rfl,h,h1,h2,q⟩)
theorem a1m {p:Addr}{xs:List V}{lo hi:Option Int}(h:SqT K H p xs)(hw:¬(HT.sIx xs.length 0 lo=0∧HT.sIx xs.length xs.length hi=xs.length))(q:∀p,H p=none→Q (.ref p) (upd H p (.tup (a1i xs lo hi)))):rSl K (.ref p) lo hi H Q:= .inr (.inl ⟨p,xs,rfl,h,hw,q⟩)
theorem R0 {a:Addr}{kvs:List (Key×V)}{k:Key}(e:Rd H a (.dK kvs)):DGet H a (kV k) (p6 kvs k):= .inl ⟨kvs,k,e,rfl,rfl⟩
end
end L2
set_option Elab.async false
set_option linter.all false
set_option maxRecDepth 100000
set_option maxHeartbeats 4000000
namespace L2
open PySem PySem.Spec PyProof.Rows
open PySem.AutoSeq1 (wpAny_loadPart')
def EqP (P:Program)(w:World)(A:Around)(s:Shared)(y x:Value)(b:Bool):Prop:=∀(E:Value→Shared→Prop) (Q:Bool→Shared→Prop),Q b s→wpAny (model P w) A (eqBool y x) Q E s
def RcP (P:Program)(w:World)(A:Around)(s:Shared)(y x:Value)(b:Bool):Prop:=∀(E:Value→Shared→Prop) (Q:Value→Shared→Prop),Q (.bool b) s→wpAny (model P w) A (richCompare .Eq y x) Q E s
theorem EqP.of {P:Program}{w:World}{A:Around}{s:Shared}{y x:Value}{b:Bool}(h:SeqAt.EqAt A s y x b):EqP P w A s y x b:=fun E Q q=>h P w E Q q
theorem EqP.refs {P:Program}{w:World}{A:Around}{s:Shared}{l m:Addr}{k:Bool}(hne:l≠m)(h:RcP P w A s (.ref l) (.ref m) k):EqP P w A s (.ref l) (.ref m) k:=fun E Q q=>by
 unfold eqBool
 refine wpAny_holding (wpAny_ite_split (fun z=>absurd (Value.ref.inj (eq_of_beq z)) hne) fun _=>wpAny_bind (h E _ (wpAny_truthy_bool q)))
theorem b4t {P:Program}{w:World}(l m:Addr)(xs ys:Array Value)(n1 n2:Nat)(d1 d2:Option Addr)(s1 s2:Array (Option Value))(f:Nat→Bool):
  MeetsIn P w (Builtin.«tuple.__eq__» ⟨[.ref l,.ref m],[]⟩) (fun A R s=>
   s.heap.get? l=some {cls:= .type "tuple",dict:=d1,data:= .seq xs n1,slots:=s1}∧s.heap.get? m=some {cls:= .type "tuple",dict:=d2,data:= .seq ys n2,slots:=s2}∧
   (∀j (g1:j<xs.size) (g2:j<ys.size),EqP P w A.in1 s xs[j] ys[j] (f j))∧
   R (.ok (.ret (.bool ((List.range (min xs.size ys.size)).all f&&xs.size==ys.size)))) s):=
 .of_wp fun A R s hyp=>by
  obtain⟨hp,gg,dr,tk,os⟩:=s
  obtain⟨e1,e2,he,fin⟩:=hyp
  have sub:=AutoSeq1.sub_tuple_tuple
  have len:(xs.toList.zip ys.toList).length=min xs.size ys.size:=by simp
  wp_walk using wpAny_loadPart' e1,wpAny_loadPart' e2,wpAny_forIn_list _ (fun more acc st=>acc.1=none∧st=⟨hp,gg,dr,tk,os⟩∧∃i,more=(xs.toList.zip ys.toList).drop i∧
   R (.ok (.ret (.bool (((List.range (min xs.size ys.size)).drop i).all f&&xs.size==ys.size)))) ⟨hp,gg,dr,tk,os⟩) _
  case turn=>
   rintro⟨y,x⟩ more acc st ⟨ha,rfl,i,hi,hR⟩
   have lt:i<(xs.toList.zip ys.toList).length:=by
    rcases Nat.lt_or_ge i (xs.toList.zip ys.toList).length with z|z
    ·exact z
    ·rw[List.drop_of_length_le z] at hi
     cases hi
   have lm:i<min xs.size ys.size:=len▸lt
   have lx:i<xs.size:=Nat.lt_of_lt_of_le lm (Nat.min_le_left _ _)
   have ly:i<ys.size:=Nat.lt_of_lt_of_le lm (Nat.min_le_right _ _)
   rw[List.drop_eq_getElem_cons lt] at hi
   injection hi with h1 h2
   have q1:y=xs[i]:=by simpa using congrArg Prod.fst h1
   have q2:x=ys[i]:=by simpa using congrArg Prod.snd h1
   subst q1 q2
   have dr1:(List.range (min xs.size ys.size)).drop i=i::(List.range (min xs.size ys.size)).drop (i+1):=by simp [List.drop_eq_getElem_cons,lm]
   rw[dr1,List.all_cons] at hR
   refine wpAny_bind (he i lx ly _ _ ?_)
   cases hf:f i with
   |true=>
    rw[hf] at hR
    wp_walk
    exact⟨rfl,rfl,i+1,h2,by simpa using hR⟩
   |false=>
    rw[hf] at hR
    wp_walk
    exact⟨_,rfl,by simpa using hR⟩
  case fin=>
   rintro⟨c1,c2⟩ st ⟨ha,rfl,i,hi,hR⟩
   simp only at ha
   subst ha
   have ge:min xs.size ys.size≤i:=by
    rcases Nat.lt_or_ge i (xs.toList.zip ys.toList).length with z|z
    ·rw[List.drop_eq_getElem_cons z] at hi
     cases hi
    ·exact len▸z
   rw[List.drop_of_length_le (by simpa using ge)] at hR
   wp_walk
   exact⟨_,rfl,by simpa [Builtin.Tuple.tupleCompareSizes] using hR⟩
  case h=>
   exact⟨rfl,rfl,0,rfl,by simpa using fin⟩
theorem RcP.tup {P:Program}{w:World}{A:Around}{s:Shared}{l m:Addr}{xs ys:Array Value}{f:Nat→Bool}(hl:s.heap.IsTuple l xs)(hm:s.heap.IsTuple m ys)(hu:A.units<cLine)
  (he:∀j (g1:j<xs.size) (g2:j<ys.size),EqP P w A.in1 s xs[j] ys[j] (f j)):RcP P w A s (.ref l) (.ref m) ((List.range (min xs.size ys.size)).all f&&xs.size==ys.size):=fun E Q q=>by
 obtain⟨⟨c1,d1,a1,s1⟩,o1,k1,n1,t1⟩:=id hl
 obtain⟨⟨c2,d2,a2,s2⟩,o2,k2,n2,t2⟩:=id hm
 simp only at k1 t1 k2 t2
 subst k1 t1 k2 t2
 refine wpAny_richCompare_same_room (op:= .Eq) ⟨_,o1,rfl⟩ ⟨_,o2,rfl⟩ PySem.F.slot_tuple_eq (call_meetsIn PySem.F.slot_tuple_eq ⟨_,o1,rfl⟩ PySem.F.entry_tuple_eq (PySem.F.args_tuple_eq_2 _ _) (b4t l m xs ys n1 n2 d1 d2 s1 s2 f) ⟨o1,o2,he,?_⟩) hu
 exact⟨(fun z=>nomatch z),q⟩
def L7:List V→List V→Bool
 |[],[]=>true
 |x::xs,y::ys=>eqV x y&&L7 xs ys
 |_,_=>false
inductive Eq1 (K:PySem.W.Frag) (H:Hp):V→V→Bool→Prop
 |flat {x y:V}:z6 x=true→z6 y=true→Eq1 K H x y (eqV x y)
 |tup {a b:Addr} {xs ys:List V}:SqT K H a xs→SqT K H b ys→xs.all z6=true→ys.all z6=true→Eq1 K H (.ref a) (.ref b) (L7 xs ys)
 |nt {a:Addr} {xs:List V}:SqT K H a xs→Eq1 K H .non (.ref a) false
 |tn {a:Addr} {xs:List V}:SqT K H a xs→Eq1 K H (.ref a) .non false
theorem R7:∀{x:V},z6 x=true→eqV x x=true
 | .non,_=>rfl
 | .bl b,_=>by simp [eqV]
 | .int i,_=>by simp [eqV]
 | .str x,_=>by simp [eqV]
theorem a0j:∀{xs:List V},xs.all z6=true→L7 xs xs=true
 |[],_=>rfl
 |x::xs,h=>by
  rw[List.all_cons,Bool.and_eq_true] at h
  show(eqV x x&&L7 xs xs)=true
  rw[R7 h.1,a0j h.2];rfl
theorem K6:∀(xs ys:List V),((List.range (min xs.length ys.length)).all (fun j=>eqV (xs.getD j .non) (ys.getD j .non))&&xs.length==ys.length)=L7 xs ys
 |[],[]=>rfl
 |[],_::_=>by simp [L7]
 |_::_,[]=>by simp [L7]
 |x::xs,y::ys=>by
  have ih:=K6 xs ys
  have e:min (x::xs).length (y::ys).length=min xs.length ys.length+1:=by simp
  rw[e,List.range_succ_eq_map,List.all_cons,List.all_map]
  show((eqV x y&&(List.range (min xs.length ys.length)).all _)&&(xs.length+1==ys.length+1))=(eqV x y&&L7 xs ys)
  rw[←ih,Bool.and_assoc]
  congr 1
  congr 1
  simp
section
variable {X:Cx} {pins:List (Addr×Obj)} {σ:St} {H:Hp} {s:Shared} {A:Around}
theorem Eq1.at_ {x y:V}{u v:Value}{b:Bool}(I:Inv X pins σ H s)(h:Eq1 X.K H x y b)(rx:RelV x u)(ry:RelV y v)(hu:A.units+8<cLine):SeqAt.EqAt A s u v b:=by
 cases h with
 |flat fx fy=>exact R9 rx ry fx fy
 | @tup a c xs ys ha hc fx fy=>
  cases rx
  cases ry
  obtain⟨its,r1,p1,z1⟩:=I.tuple ha
  obtain⟨its',r2,p2,z2⟩:=I.tuple hc
  by_cases hac:a=c
  ·subst hac
   have e:=I.tuple_inj ha hc
   subst e
   rw[a0j fx]
   exact SeqAt.EqAt.same _
  ·have l1:=r1.length
   have l2:=r2.length
   have q:=SeqAt.RcAt.tuples (A:=A) (e:=fun j=>eqV (xs.getD j .non) (ys.getD j .non)) (show s.heap.IsTuple a its.toArray from p1) (show s.heap.IsTuple c its'.toArray from p2) (by omega) fun j g1 g2=>by
    have g1':j<its.length:=by simpa using g1
    have g2':j<its'.length:=by simpa using g2
    have x1:xs[j]?=some (xs[j]'(by omega)):=by simp [show j<xs.length by omega]
    have y1:ys[j]?=some (ys[j]'(by omega)):=by simp [show j<ys.length by omega]
    obtain⟨u1,hu1,ru1⟩:=r1.get x1
    obtain⟨u2,hu2,ru2⟩:=r2.get y1
    have e1:its.toArray[j]=u1:=by
     have:=List.getElem?_eq_getElem g1'
     rw[hu1] at this
     simpa using(Option.some.inj this).symm
    have e2:its'.toArray[j]=u2:=by
     have:=List.getElem?_eq_getElem g2'
     rw[hu2] at this
     simpa using(Option.some.inj this).symm
    rw[e1,e2]
    have d1:xs.getD j .non=xs[j]'(by omega):=by rw[List.getD_eq_getElem?_getD,x1];rfl
    have d2:ys.getD j .non=ys[j]'(by omega):=by rw[List.getD_eq_getElem?_getD,y1];rfl
    rw[d1,d2]
    exact R9 ru1 ru2 (List.all_eq_true.mp fx _ (List.getElem_mem _)) (List.all_eq_true.mp fy _ (List.getElem_mem _))
   have e3:its.toArray.size=xs.length:=by simp [l1]
   have e4:its'.toArray.size=ys.length:=by simp [l2]
   rw[e3,e4,K6] at q
   exact .of_refs hac q
 | @nt a xs ha=>
  cases rx
  cases ry
  obtain⟨its,r1,p1,z1⟩:=I.tuple ha
  exact SeqAt.EqAt.none_tuple (show s.heap.IsTuple a its.toArray from p1) (by omega)
 | @tn a xs ha=>
  cases rx
  cases ry
  obtain⟨its,r1,p1,z1⟩:=I.tuple ha
  exact SeqAt.EqAt.tuple_none (show s.heap.IsTuple a its.toArray from p1) (by omega)
end
inductive EqH (K:PySem.W.Frag) (H:Hp) (kb:List (Key×V)):List (Key×V)→Bool→Prop
 |nil:EqH K H kb [] true
 |miss {k:Key} {v:V} {r:List (Key×V)}:p6 kb k=none→EqH K H kb ((k,v)::r) false
 |hit {k:Key} {v y:V} {r:List (Key×V)} {e b:Bool}:p6 kb k=some y→Eq1 K H v y e→EqH K H kb r b→EqH K H kb ((k,v)::r) (e&&b)
def EqD (K:PySem.W.Frag)(H:Hp)(a b:Addr)(r:Bool):Prop:=(a=b∧r=true)∨(a≠b∧∃ka kb r0,Rd H a (.dK ka)∧Rd H b (.dK kb)∧EqH K H kb ka r0∧r=(ka.length==kb.length&&r0))
section
variable {X:Cx} {pins:List (Addr×Obj)} {σ:St} {H:Hp} {s:Shared} {A:Around}
theorem EqH.hits {kb:List (Key×V)}{vb:List (Key×Value)}(I:Inv X pins σ H s)(hu:A.units+8<cLine)(rb:KV kb vb){ka:List (Key×V)}{r:Bool}(h:EqH X.K H kb ka r):∀{va:List (Key×Value)},KV ka va→PySem.W.KeqHits A s vb va r:=by
 induction h with
 |nil=>
  intro va t
  cases t
  exact .nil
 | @miss k v r hn=>
  intro va t
  cases t with
  | @cons _ q _ l e t=>
   obtain⟨k',u⟩:=q
   have ek':k=k':=e.1
   subst ek'
   refine .miss ?_
   have z:=KV.val rb k
   rw[hn] at z
   cases e:valueAt vb k with
   |none=>rfl
   |some y=>rw[e] at z;exact False.elim z
 | @hit k v y r e b hy h1 hr ih=>
  intro va t
  cases t with
  | @cons _ q _ l e t=>
   obtain⟨k',u⟩:=q
   have ek':k=k':=e.1
   subst ek'
   have z:=KV.val rb k
   rw[hy] at z
   cases e5:valueAt vb k with
   |none=>rw[e5] at z;exact False.elim z
   |some y'=>
    rw[e5] at z
    exact .hit e5 (h1.at_ I e.2 z hu) (ih t)
theorem EqD.at_ {a b:Addr}{r:Bool}(I:Inv X pins σ H s)(h:EqD X.K H a b r)(hu:A.units+16<cLine):EqP X.prog X.w A s (.ref a) (.ref b) r:=by
 rcases h with⟨rfl,rfl⟩|⟨hne,ka,kb,r0,h1,h2,h3,rfl⟩
 ·exact .of (SeqAt.EqAt.same _)
 ·obtain⟨z1,d1,va,ra,da⟩:=L6 I.hok h1
  obtain⟨z2,d2,vb,rb,db⟩:=L6 I.hok h2
  refine .refs hne fun E Q q=>?_
  have l1:=KV.length ra
  have l2:=KV.length rb
  exact PySem.W.keq_eq (knd:=j0 X.prog X.w) d1 d2 da db (by omega) (fun _=>h3.hits (A:=A.in1) I (by show A.units+1+8<_;omega) rb ra) (by rw[←l1,←l2];exact q)
def b5i (K:PySem.W.Frag):R2:=fun x y H Q=>∃a b p q p' q' r r',x= .ref a∧y= .ref b∧SqT K H a [.ref p,.ref q]∧SqT K H b [.ref p',.ref q']∧EqD K H p p' r∧EqD K H q q' r'∧Q (.bl (r&&r')) H
theorem b3T (hu:X.A.units+64<cLine):OpR X (compareOp .Eq) (b5i X.K):=by
 intro pins s σ H x y v u Q I rx ry h
 obtain⟨a,b,p,q,p',q',r,r',rfl,rfl,ha,hb,h1,h2,k⟩:=h
 cases rx
 cases ry
 obtain⟨its,v1,t1,_⟩:=I.tuple ha
 obtain⟨its',v2,t2,_⟩:=I.tuple hb
 obtain⟨_,_,rfl,e1,e2⟩:=W2 v1
 obtain⟨_,_,rfl,e3,e4⟩:=W2 v2
 cases e1
 cases e2
 cases e3
 cases e4
 refine RcP.tup (P:=X.prog) (w:=X.w) (f:=fun j=>if j=0 then r else r') (show s.heap.IsTuple a _ from t1) (show s.heap.IsTuple b _ from t2) (by omega) (fun j g1 g2=>?_) _ _ ⟨.bl (r&&r'),H,I,by show Value.bool _=Value.bool _;simp [List.range_succ],k⟩
 have g:j<2:=by simpa using g1
 match j,g with
 |0,_=>exact h1.at_ I (by show X.A.units+1+16<_;omega)
 |1,_=>exact h2.at_ I (by show X.A.units+1+16<_;omega)
def b5e (K:PySem.W.Frag):R2:=fun x y H Q=>∃a b xs ys,x= .ref a∧y= .ref b∧SqL K H a xs∧SqL K H b ys∧xs.all z6=true∧ys.all z6=true∧Q (.bl (L7 xs ys)) H
theorem a0P:∀{xs ys:List V},xs.length≠ys.length→L7 xs ys=false
 |[],[],h=>absurd rfl h
 |[],_::_,_=>rfl
 |_::_,[],_=>rfl
 |x::xs,y::ys,h=>by
  show(eqV x y&&L7 xs ys)=false
  rw[a0P (by simpa using h),Bool.and_false]
theorem b4f (hu:X.A.units+64<cLine):OpR X (compareOp .Eq) (b5e X.K):=by
 intro pins s σ H x y v u Q I rx ry h
 obtain⟨a,b,xs,ys,rfl,rfl,ha,hb,fx,fy,k⟩:=h
 cases rx
 cases ry
 obtain⟨its,r1,p1,z1⟩:=I.list ha
 obtain⟨its',r2,p2,z2⟩:=I.list hb
 have l1:=r1.length
 have l2:=r2.length
 have e3:its.toArray.size=xs.length:=by simp [l1]
 have e4:its'.toArray.size=ys.length:=by simp [l2]
 by_cases hl:xs.length=ys.length
 ·have q:=SeqAt.RcAt.lists (A:=X.A) (e:=fun j=>eqV (xs.getD j .non) (ys.getD j .non)) p1.isList p2.isList (by rw[e3,e4];exact hl) (by omega) fun j g1 g2=>by
   have g1':j<its.length:=by simpa using g1
   have g2':j<its'.length:=by simpa using g2
   have x1:xs[j]?=some (xs[j]'(by omega)):=by simp [show j<xs.length by omega]
   have y1:ys[j]?=some (ys[j]'(by omega)):=by simp [show j<ys.length by omega]
   obtain⟨u1,hu1,ru1⟩:=r1.get x1
   obtain⟨u2,hu2,ru2⟩:=r2.get y1
   have e1:its.toArray[j]=u1:=by
    have:=List.getElem?_eq_getElem g1'
    rw[hu1] at this
    simpa using(Option.some.inj this).symm
   have e2:its'.toArray[j]=u2:=by
    have:=List.getElem?_eq_getElem g2'
    rw[hu2] at this
    simpa using(Option.some.inj this).symm
   rw[e1,e2]
   have d1:xs.getD j .non=xs[j]'(by omega):=by rw[List.getD_eq_getElem?_getD,x1];rfl
   have d2:ys.getD j .non=ys[j]'(by omega):=by rw[List.getD_eq_getElem?_getD,y1];rfl
   rw[d1,d2]
   exact R9 ru1 ru2 (List.all_eq_true.mp fx _ (List.getElem_mem _)) (List.all_eq_true.mp fy _ (List.getElem_mem _))
  have e5:=K6 xs ys
  rw[hl,Nat.min_self,beq_self_eq_true,Bool.and_true] at e5
  rw[e3,hl,e5] at q
  exact q X.prog X.w _ _ ⟨.bl _,H,I,rfl,k⟩
 ·refine SeqAt.RcAt.lists_lengths (A:=X.A) p1.isList p2.isList (by rw[e3,e4];simpa using hl) (by omega) X.prog X.w _ _ ⟨.bl _,H,I,?_,k⟩
  rw[a0P hl];rfl
def b5F (K:PySem.W.Frag):R2:=fun x y H Q=>(∃a b xs ys,x= .ref a∧y= .ref b∧SqT K H a xs∧SqT K H b ys∧xs.all z6=true∧ys.all z6=true∧Q (.bl (L7 xs ys)) H)∨(∃a xs,x= .non∧y= .ref a∧SqT K H a xs∧Q (.bl false) H)
theorem b4c (hu:X.A.units+64<cLine):OpR X (compareOp .Eq) (b5F X.K):=by
 intro pins s σ H x y v u Q I rx ry h
 rcases h with⟨a,b,xs,ys,rfl,rfl,ha,hb,fx,fy,k⟩|⟨a,xs,rfl,rfl,ha,k⟩
 ·cases rx
  cases ry
  obtain⟨its,r1,p1,z1⟩:=I.tuple ha
  obtain⟨its',r2,p2,z2⟩:=I.tuple hb
  have l1:=r1.length
  have l2:=r2.length
  have q:=SeqAt.RcAt.tuples (A:=X.A) (e:=fun j=>eqV (xs.getD j .non) (ys.getD j .non)) (show s.heap.IsTuple a its.toArray from p1) (show s.heap.IsTuple b its'.toArray from p2) (by omega) fun j g1 g2=>by
   have g1':j<its.length:=by simpa using g1
   have g2':j<its'.length:=by simpa using g2
   have x1:xs[j]?=some (xs[j]'(by omega)):=by simp [show j<xs.length by omega]
   have y1:ys[j]?=some (ys[j]'(by omega)):=by simp [show j<ys.length by omega]
   obtain⟨u1,hu1,ru1⟩:=r1.get x1
   obtain⟨u2,hu2,ru2⟩:=r2.get y1
   have e1:its.toArray[j]=u1:=by
    have:=List.getElem?_eq_getElem g1'
    rw[hu1] at this
    simpa using(Option.some.inj this).symm
   have e2:its'.toArray[j]=u2:=by
    have:=List.getElem?_eq_getElem g2'
    rw[hu2] at this
    simpa using(Option.some.inj this).symm
   rw[e1,e2]
   have d1:xs.getD j .non=xs[j]'(by omega):=by rw[List.getD_eq_getElem?_getD,x1];rfl
   have d2:ys.getD j .non=ys[j]'(by omega):=by rw[List.getD_eq_getElem?_getD,y1];rfl
   rw[d1,d2]
   exact R9 ru1 ru2 (List.all_eq_true.mp fx _ (List.getElem_mem _)) (List.all_eq_true.mp fy _ (List.getElem_mem _))
  have e3:its.toArray.size=xs.length:=by simp [l1]
  have e4:its'.toArray.size=ys.length:=by simp [l2]
  rw[e3,e4,K6] at q
  exact q X.prog X.w _ _ ⟨.bl _,H,I,rfl,k⟩
 ·cases rx
  cases ry
  obtain⟨its,r1,p1,z1⟩:=I.tuple ha
  exact SeqAt.RcAt.none_tuple (A:=X.A) (show s.heap.IsTuple a its.toArray from p1) (by omega) X.prog X.w _ _ ⟨.bl false,H,I,rfl,k⟩
def a3I (K:PySem.W.Frag):R2:=fun x y H Q=>rEq x y H Q∨b5e K x y H Q∨b5F K x y H Q∨b5i K x y H Q
theorem kEq (K:PySem.W.Frag){k:Nat}(hr:Room k X.A)(h:X.K=K:=by rfl):OpR X (compareOp .Eq) (a3I K):=h▸op_eq.or ((b4f hr.units).or ((b4c hr.units).or (b3T hr.units)))
end
section
variable {K:PySem.W.Frag} {H:Hp} {Q:VK}
theorem a9R {i j:Int}(q:Q (.bl (decide (i=j))) H):a3I K (.int i) (.int j) H Q:= .inl (a4S q)
theorem b1o {i j:Bool}(q:Q (.bl (decide (i=j))) H):a3I K (.bl i) (.bl j) H Q:= .inl (a6L q)
theorem a9l {i j:Str}(q:Q (.bl (decide (i=j))) H):a3I K (.str i) (.str j) H Q:= .inl (a4G q)
theorem a4A {a b:Addr}{xs ys:List V}(ha:SqL K H a xs)(hb:SqL K H b ys)(fx:xs.all z6=true)(fy:ys.all z6=true)(q:Q (.bl (L7 xs ys)) H):a3I K (.ref a) (.ref b) H Q:= .inr (.inl ⟨a,b,xs,ys,rfl,rfl,ha,hb,fx,fy,q⟩)
theorem a9b {a b:Addr}{xs ys:List V}(ha:SqT K H a xs)(hb:SqT K H b ys)(fx:xs.all z6=true)(fy:ys.all z6=true)(q:Q (.bl (L7 xs ys)) H):a3I K (.ref a) (.ref b) H Q:= .inr (.inr (.inl (.inl ⟨a,b,xs,ys,rfl,rfl,ha,hb,fx,fy,q⟩)))
end
end L2
set_option Elab.async false
set_option linter.all false
set_option maxRecDepth 100000
set_option maxHeartbeats 4000000
namespace L2
open PySem PySem.Spec PyProof.Rows
section
variable {K:PySem.W.Frag} {σ:St} {H H' H1:Hp} {Q:VK} {d:Addr} {kvs:List (Key×V)} {o:Obj}
theorem a4B {i j:Int}(q:Q (.bl (!decide (i=j))) H):rNe (.int i) (.int j) H Q:=⟨rfl,by rw[a2b];rw[show(i==j)=decide (i=j) from Bool.beq_eq_decide_eq i j];exact q⟩
theorem b7H {r:V→Hp→VK→Prop}{ta:TE}(q:ta σ H fun x H1=>r x H1 Q):tUn r ta σ H Q:=q
theorem b5j {i:Int}(q:Q (.int (-i)) H):rU (fun i=> .int (-i)) (.int i) H Q:=⟨i,rfl,q⟩
def nf:HO→Bool
 | .frz _ _=>false
 |_=>true
def Le (H H':Hp):Prop:=∀a u,nf u=true→Rd H a u→Rd H' a u
theorem Le.refl (H:Hp):Le H H:=fun _ _ _ h=>h
theorem Le.trans (a:Le H H1)(b:Le H1 H'):Le H H':=fun x u n h=>b x u n (a x u n h)
theorem Same.le (s:Same H H'):Le H H':=fun a u _ h=>s.rd h
theorem a0E (h:H d=some (.dK kvs)):Le H (C8 d o kvs H):=fun a u n r=>by
 by_cases e:a=d
 ·subst e
  rcases r with r|⟨o',r⟩
  ·rw[h] at r;cases r
   exact .inr ⟨o,d7⟩
  ·rw[h] at r;cases r
 ·unfold C8 Rd
  rw[b5 e];exact r
theorem Le.tup {a:Addr}{xs:List V}(l:Le H H')(h:SqT K H a xs):SqT K H' a xs:=by
 rcases h with h|h
 ·exact .inl (l _ _ rfl h)
 ·exact .inr h
theorem Le.lst {a:Addr}{xs:List V}(l:Le H H')(h:SqL K H a xs):SqL K H' a xs:=by
 rcases h with h|h
 ·exact .inl (l _ _ rfl h)
 ·exact .inr h
theorem Le.dic {a:Addr}(l:Le H H')(h:Rd H a (.dK kvs)):Rd H' a (.dK kvs):=l _ _ rfl h
abbrev Tie:=Str×Str×Str
structure Web where
 pts:List (Str×Str)
 ts:List (Str×Tie)
def pKV (pts:List (Str×Str)):List (Key×V):=pts.map fun x=>(Sum.inr x.1,.str x.2)
def Q9 (t:Tie):List V:=[.str t.1,.str t.2.1,.str t.2.2]
def TieAt (K:PySem.W.Frag)(H:Hp)(kv:Key×V)(x:Str×Tie):Prop:=kv.1=Sum.inr x.1∧∃a,kv.2= .ref a∧SqT K H a (Q9 x.2)
def TiesIs (K:PySem.W.Frag)(H:Hp)(kvs:List (Key×V))(ts:List (Str×Tie)):Prop:=Paired (TieAt K H) kvs ts
structure WebAt (K:PySem.W.Frag) (H:Hp) (a p q:Addr) (kvs:List (Key×V)) (W:Web):Prop where
 tup:SqT K H a [.ref p,.ref q]
 pts:Rd H p (.dK (pKV W.pts))
 ties:Rd H q (.dK kvs)
 ts:TiesIs K H kvs W.ts
theorem TieAt.mono {kv:Key×V}{x:Str×Tie}(l:Le H H')(h:TieAt K H kv x):TieAt K H' kv x:=let ⟨e,a,ea,s⟩:=h;⟨e,a,ea,l.tup s⟩
theorem TiesIs.mono {ts:List (Str×Tie)}(l:Le H H')(h:TiesIs K H kvs ts):TiesIs K H' kvs ts:=Paired.imp' (fun _ _ z=>z.mono l) h
theorem WebAt.mono {a p q:Addr}{W:Web}(l:Le H H')(h:WebAt K H a p q kvs W):WebAt K H' a p q kvs W:=⟨l.tup h.tup,l.dic h.pts,l.dic h.ties,h.ts.mono l⟩
theorem TiesIs.length {ts:List (Str×Tie)}(h:TiesIs K H kvs ts):kvs.length=ts.length:=Paired.length h
theorem TiesIs.keys {ts:List (Str×Tie)}(h:TiesIs K H kvs ts):kvs.map (·.1)=ts.map fun x=>Sum.inr x.1:=by
 unfold TiesIs at h
 induction h with
 |nil=>rfl
 |cons r _ ih=>rw[List.map_cons,List.map_cons,ih,r.1]
theorem TiesIs.get {ts:List (Str×Tie)}{i:Nat}{kv:Key×V}(h:TiesIs K H kvs ts)(e:kvs[i]?=some kv):∃x,ts[i]?=some x∧TieAt K H kv x:=w4 h e
theorem TiesIs.val {ts:List (Str×Tie)}{n:Str}:∀{kvs:List (Key×V)} {ts:List (Str×Tie)},TiesIs K H kvs ts→n∈ts.map (·.1)→∃a x,p6 kvs (Sum.inr n:Key)=some (.ref a)∧(n,x)∈ts∧SqT K H a (Q9 x)
 |_,_,.nil,h=>by simp at h
 |kv::r,x::ts,.cons t u,h=>by
  obtain⟨e,a,ea,s⟩:=t
  by_cases hn:x.1=n
  ·subst hn
   refine⟨a,x.2,?_,List.mem_cons_self,s⟩
   rw[A2 e,ea]
  ·have h':n∈ts.map (·.1):=by
    rcases List.mem_cons.mp h with z|z
    ·exact absurd z.symm hn
    ·exact z
   obtain⟨b,y,h1,h2,h3⟩:=TiesIs.val (ts:=ts) u h'
   refine⟨b,y,?_,List.mem_cons_of_mem _ h2,h3⟩
   rw[A1 (by rw[e];intro z;exact hn (Sum.inr.inj z))]
   exact h1
theorem B7 (pts:List (Str×Str)):(pKV pts).map (·.1)=pts.map fun x=>Sum.inr x.1:=by
 unfold pKV
 rw[List.map_map];rfl
def lt (a b:Str):Bool:=decide (a.cps.toList<b.cps.toList)
def b0F (ss:List Str):Bool:=(ss.dropLast.zip ss.tail).all fun p=>lt p.1 p.2
theorem a6O:∀a b:List Nat,ltCps a b=true∨a=b∨ltCps b a=true
 |[],[]=> .inr (.inl rfl)
 |[],_::_=> .inl rfl
 |_::_,[]=> .inr (.inr rfl)
 |x::r,y::t=>by
  rcases Nat.lt_trichotomy x y with h|h|h
  ·exact .inl (by simp [ltCps,h])
  ·subst h
   rcases a6O r t with z|z|z
   ·exact .inl (by simp [ltCps,z])
   ·exact .inr (.inl (by rw[z]))
   ·exact .inr (.inr (by simp [ltCps,z]))
  ·exact .inr (.inr (by simp [ltCps,h]))
theorem b5n {a b:Str}(h:ltCps b.cps.toList a.cps.toList=false)(hne:a≠b):lt a b=true:=by
 unfold lt
 rw[←ltCps_eq]
 rcases a6O a.cps.toList b.cps.toList with z|z|z
 ·exact z
 ·exfalso
  apply hne
  obtain⟨⟨l⟩⟩:=a
  obtain⟨⟨m⟩⟩:=b
  have z':l=m:=z
  rw[z']
 ·rw[z] at h;cases h
theorem a3f (x y:Str)(r:List Str):b0F (x::y::r)=(lt x y&&b0F (y::r)):=by
 unfold b0F
 simp [List.dropLast]
theorem a0l:∀{ss:List Str},sortedS ss=true→ss.Nodup→b0F ss=true
 |[],_,_=>rfl
 |[_],_,_=>rfl
 |x::y::r,h,n=>by
  have h':(!ltCps y.cps.toList x.cps.toList&&risingS y r)=true:=h
  rw[Bool.and_eq_true] at h'
  have n':=List.nodup_cons.mp n
  rw[a3f,b5n (by simpa using h'.1) (fun z=>n'.1 (by rw[z];exact List.mem_cons_self)),a0l (ss:=y::r) h'.2 n'.2];rfl
end
end L2
set_option Elab.async false
set_option linter.all false
set_option maxRecDepth 100000
set_option maxHeartbeats 4000000
namespace L2
open PySem PySem.Spec PyProof.Rows
theorem Inv.off {X:Cx}{pins:List (Addr×Obj)}{σ:St}{H:Hp}{s:Shared}{C:Addr}{h':Heap}(I:Inv X pins σ H s)(hH:H C=none)(h0:X.s₀.heap.objs.size≤C)(h1:C≠X.env.locals)(h2:∀x c,X.env.cells.lookup x=some c→c≠C)(h3:∀p∈X.pn++pins,p.1≠C)(sb:Heap.SameBut C s.heap h'):Inv X pins σ H {s with heap:=h'}:=by
 refine I.call' (s':={s with heap:=h'}) (ch:=[C]) rfl ?_ ?_ I.bare fun b hb=>?_
 ·have same:∀b,b∉[C]→h'.get? b=s.heap.get? b:=fun b hb=>sb.2 b fun z=>hb (by rw[z];exact List.mem_cons_self)
  refine⟨fun b o q n hb hx=>?_,fun b o q n hb hx=>?_,fun b o q n hx=>n,fun b o q hx=>?_,fun b xs q=>q,fun b o u q=>q,fun b ps q=>⟨#[],by rw[Array.append_empty];exact q⟩⟩
  ·show h'.get? b=_
   rw[same b hx];exact q
  ·exact⟨o.slots,(same b hx).trans q⟩
  ·exact⟨o,(same b hx).trans q⟩
 ·refine fun b ob e=>(I.hok b ob e).stay (fun c w' hc q=>(sb.2 c ?_).trans q) (fun _ q=>q) fun _ _ q=>q
  rintro rfl
  rcases hc with rfl|hc
  ·rw[hH] at e;cases e
  ·rw[hH] at hc;cases hc
 ·rw[List.mem_singleton.mp hb]
  exact⟨.inr h0,h1,h2,h3⟩
theorem a6i {X:Cx}{own:List Str}{js:List Nat}{scope:Scope}{tg iter elt:Expr}{ifs:List Expr}{pos spos py:Pos}{g:TG}{ti:TT}{te:TE}{wi:TI2}{i:Nat}{y:Str}(hN:X.N.Nodup)(hy:X.N[i]?=some y)(hl:Loc X.env.scope y)(S:scB X own js scope=true)(hc:X.calm=true)(hit:PI2 X tg iter wi)
  (hg:∀C s H fp,PG (cxB X own js scope C s H fp) tg g) (hi:∀C s H fp,a6w (cxB X own js scope C s H fp) ifs ti) (he:∀C s H fp,PE (cxB X own js scope C s H fp) elt te)
  (hsw:swapsWith (.ListComp elt [⟨tg,iter,ifs,0⟩] scope pos) (some (.Name y py)) spos.line X.env=pure true)
  (hf:X.fn y=true∨X.env.scope.names.lookup y=some .local)
  (hs:∀x,foldedSetIterable iter X.env x=pure x):
  PS X (.Assign [.Name y py] (.ListComp elt [⟨tg,iter,ifs,0⟩] scope pos) spos) (a5P (a2K own js wi g ti te) (P6 i)):=by
 have SB:=b0L S
 intro pins s σ H D I h
 rw[exec_Assign_Name_used _ _ _ _ hsw]
 refine wpAny_bind (wpAny_standAt (wpAny_bind ?_))
 show wpAny _ X.A (do let _←comprehension (.ListComp elt [⟨tg,iter,ifs,0⟩] scope pos) scope X.env _ (newList []) false (eval iter X.env) (some (assign (.Name y py) X.env))) _ _ s
 refine wpAny_bind (wpAny_mono (wpAny_comprehension_free (use:=some (assign (.Name y py) X.env)) (Q:=fun _ s'=>SP X pins D .next s') rfl hs (a2y (SB.cells I)) SB.kind SB.names (thn (hit pins s σ H _ I h) fun v s1 h1=>thn h1 fun itv s2 h2=>?_)) (fun _ s' hq=>wpAny_pure (wpAny_pure hq)) fun _ _ e=>e)
 obtain⟨it,fp,tn,J,H2,e,I2,T,st2,f2,th,hth,W,⟨m0,w0⟩,turn⟩:=h2
 subst e
 refine wpAny_newObj_type (wpAny_newFunctionEnv SB.nocell (by intro y hy;simp at hy) (fun h₁ hns₁ hsb₁=>?_) SB.kind)
 dsimp only at hns₁ hsb₁⊢
 generalize hH2:s2.heap.push {cls:= .type "list",dict:=none,data:= .seq ([]:List Value).toArray}=G2 at hns₁ hsb₁⊢
 have hCs:G2.objs.size=s2.heap.objs.size+1:=by rw[←hH2,Heap.size_push]
 have hDC:s2.heap.objs.size≠G2.objs.size:=by rw[hCs];exact Nat.ne_of_lt (Nat.lt_succ_self _)
 have hC:s2.heap.objs.size≤G2.objs.size:=by rw[hCs];exact Nat.le_succ _
 have old:∀b o,s2.heap.get? b=some o→h₁.get? b=some o:=fun b o e=>
  hsb₁.extBut b o (Nat.ne_of_lt (Nat.lt_of_lt_of_le (Heap.lt_size e) hC)) (Heap.get?_push_of_some _ (hH2▸Heap.get?_push_of_some _ e))
 have off:∀b o,s2.heap.get? b=some o→b≠G2.objs.size:=fun b o e=>Nat.ne_of_lt (Nat.lt_of_lt_of_le (Heap.lt_size e) hC)
 have hob:∀b∈fp,∃o,s2.heap.get? b=some o:=fun b hb=>let ⟨o,e,_⟩:=T.obj _ _ st2 b hb;⟨o,e⟩
 have hacc:h₁.get? s2.heap.objs.size=some {cls:= .type "list",data:= .seq ([]:List Value).toArray}:=
  hsb₁.extBut _ _ hDC (Heap.get?_push_of_some _ (hH2▸Heap.get?_push_size _ rfl))
 have loop:∀s3:Shared,s3={s2 with heap:=h₁,toks:=s2.toks+([]:List (Str×Value)).length}→
   codeAny (model X.prog X.w) X.A (.compLoop (.ListComp elt [⟨tg,iter,ifs,0⟩] scope pos) 0 (.ref it) (.ref s2.heap.objs.size) (compEnvC scope (a1T scope X.env) G2.objs.size X.env))
    (compPost (model X.prog X.w) X.A X.xe (some (assign (.Name y py) X.env)) (fun _ s'=>SP X pins D .next s') (.ref s2.heap.objs.size) G2.objs.size) s3:=by
  rintro s3 rfl
  refine a3v (K:=fun out H'=>P6 i (.ref s2.heap.objs.size) σ (th (upd H' s2.heap.objs.size (.lst out))) D.nx) SB hc T I2 f2 (Nat.le_refl _) hC hDC hob (hg _ _ _ _) (hi _ _ _ _) (he _ _ _ _) W (fun i m out H' w=>?_) (fun out H' s' B hl' k=>?_) w0
   ⟨Inv.block SB I2 f2 hob hC hns₁ old,I2.hok.fresh (Nat.le_refl _),[],_,.nil,hacc⟩ (T.keep _ _ _ st2 fun b _ o e=>old b o e) (fun b hb=>(f2 b hb).1)
  ·rcases turn i m out H' w with⟨a,b⟩|c
   ·exact .inl ⟨a,fun n=>b _ n⟩
   ·exact .inr c
  ·obtain⟨mm,hn,_⟩:=B.inv.loc
   have hHC:H' G2.objs.size=none:=B.inv.free
   have IJ:=B.out I2 f2 (Nat.le_refl _) hC hDC hl' (h':=s'.heap) (Heap.SameBut.refl _ _)
   show wpAny _ X.A (assign (.Name y py) X.env (.ref s2.heap.objs.size)) _ _ s'
   refine wpAny_assign_Name (a3y IJ hN hy hl (v:= .ref s2.heap.objs.size) rfl (fun s'' I'' hx=>?_) hf)
   obtain⟨a,sa,ha⟩:=hx
   have haC:G2.objs.size≠a:=by
    rcases ha with rfl|ha
    ·exact Ne.symm (Nat.ne_of_lt (Nat.lt_of_lt_of_le I2.lt hC))
    ·obtain⟨_,o,ho,_⟩:=I2.cell _ _ ha
     exact Ne.symm (off _ _ ho)
   refine⟨mm,hn.sameBut sa haC,fun h' sb=>⟨_,_,hth _ _ _ _ (I''.off (by rw[b5 (Ne.symm hDC)];exact hHC) (Nat.le_trans I2.sz hC) (Ne.symm (Nat.ne_of_lt (Nat.lt_of_lt_of_le I2.lt hC))) (fun x c e=>?_) (fun p hp=>off _ _ (I2.pin p hp).1) sb),k⟩⟩
   obtain⟨_,o,ho,_⟩:=I2.cell _ _ e
   exact off _ _ ho
 exact codeAny_compStart_list (loop _ rfl) (T.self _ 0 _ _ _ (T.keep _ _ _ st2 fun b _ o e=>old b o e) (loop _ rfl))
theorem V3 {X:Cx}{own:List Str}{js:List Nat}{scope:Scope}{tg iter elt:Expr}{ifs:List Expr}{pos spos py:Pos}{g:TG}{ti:TT}{te:TE}{wi:TI2}{i:Nat}{y:Str}(hN:X.N.Nodup)(hy:X.N[i]?=some y)(hl:Loc X.env.scope y)(S:scB X own js scope=true)(hc:X.calm=true)(hit:QI X tg iter wi)
  (hg:∀C s H fp,QG (cxB X own js scope C s H fp) tg g) (hi:∀C s H fp,QIf (cxB X own js scope C s H fp) ifs ti) (he:∀C s H fp,QE (cxB X own js scope C s H fp) elt te)
  (hsw:swapsWith (.ListComp elt [⟨tg,iter,ifs,0⟩] scope pos) (some (.Name y py)) spos.line X.env=pure true:=by rfl)
  (hf:X.fn y=true∨X.env.scope.names.lookup y=some .local:=by first|exact .inl rfl|exact .inr rfl)
  (hs:∀x,foldedSetIterable iter X.env x=pure x:=by intro _;rfl):QS X (.Assign [.Name y py] (.ListComp elt [⟨tg,iter,ifs,0⟩] scope pos) spos) (a5P (a2K own js wi g ti te) (P6 i)):=
 ⟨a6i hN hy hl S hc hit.r (fun C s H fp=>(hg C s H fp).r) (fun C s H fp=>(hi C s H fp).r) (fun C s H fp=>(he C s H fp).r) hsw hf hs⟩
end L2
set_option Elab.async false
set_option linter.all false
set_option maxRecDepth 100000
set_option maxHeartbeats 4000000
namespace L2
open PySem PySem.Spec PyProof.Rows
open PySem.AutoSeq1 (wpAny_loadPart')
def NcP (P:Program)(w:World)(A:Around)(s:Shared)(y x:Value)(b:Bool):Prop:=∀(E:Value→Shared→Prop) (Q:Value→Shared→Prop),Q (.bool b) s→wpAny (model P w) A (richCompare .NotEq y x) Q E s
theorem b3P {P:Program}{w:World}(l m:Addr)(xs ys:Array Value)(n1 n2:Nat)(d1 d2:Option Addr)(s1 s2:Array (Option Value))(f:Nat→Bool):
  MeetsIn P w (Builtin.«tuple.__ne__» ⟨[.ref l,.ref m],[]⟩) (fun A R s=>
   s.heap.get? l=some {cls:= .type "tuple",dict:=d1,data:= .seq xs n1,slots:=s1}∧s.heap.get? m=some {cls:= .type "tuple",dict:=d2,data:= .seq ys n2,slots:=s2}∧
   (∀j (g1:j<xs.size) (g2:j<ys.size),EqP P w A.in1 s xs[j] ys[j] (f j))∧
   R (.ok (.ret (.bool (!((List.range (min xs.size ys.size)).all f&&xs.size==ys.size))))) s):=
 .of_wp fun A R s hyp=>by
  obtain⟨hp,gg,dr,tk,os⟩:=s
  obtain⟨e1,e2,he,fin⟩:=hyp
  have sub:=AutoSeq1.sub_tuple_tuple
  have len:(xs.toList.zip ys.toList).length=min xs.size ys.size:=by simp
  wp_walk using wpAny_loadPart' e1,wpAny_loadPart' e2,wpAny_forIn_list _ (fun more acc st=>acc.1=none∧st=⟨hp,gg,dr,tk,os⟩∧∃i,more=(xs.toList.zip ys.toList).drop i∧
   R (.ok (.ret (.bool (!(((List.range (min xs.size ys.size)).drop i).all f&&xs.size==ys.size))))) ⟨hp,gg,dr,tk,os⟩) _
  case turn=>
   rintro⟨y,x⟩ more acc st ⟨ha,rfl,i,hi,hR⟩
   have lt:i<(xs.toList.zip ys.toList).length:=by
    rcases Nat.lt_or_ge i (xs.toList.zip ys.toList).length with z|z
    ·exact z
    ·rw[List.drop_of_length_le z] at hi
     cases hi
   have lm:i<min xs.size ys.size:=len▸lt
   have lx:i<xs.size:=Nat.lt_of_lt_of_le lm (Nat.min_le_left _ _)
   have ly:i<ys.size:=Nat.lt_of_lt_of_le lm (Nat.min_le_right _ _)
   rw[List.drop_eq_getElem_cons lt] at hi
   injection hi with h1 h2
   have q1:y=xs[i]:=by simpa using congrArg Prod.fst h1
   have q2:x=ys[i]:=by simpa using congrArg Prod.snd h1
   subst q1 q2
   have dr1:(List.range (min xs.size ys.size)).drop i=i::(List.range (min xs.size ys.size)).drop (i+1):=by simp [List.drop_eq_getElem_cons,lm]
   rw[dr1,List.all_cons] at hR
   refine wpAny_bind (he i lx ly _ _ ?_)
   cases hf:f i with
   |true=>
    rw[hf] at hR
    wp_walk
    exact⟨rfl,rfl,i+1,h2,by simpa using hR⟩
   |false=>
    rw[hf] at hR
    wp_walk
    exact⟨_,rfl,by simpa using hR⟩
  case fin=>
   rintro⟨c1,c2⟩ st ⟨ha,rfl,i,hi,hR⟩
   simp only at ha
   subst ha
   have ge:min xs.size ys.size≤i:=by
    rcases Nat.lt_or_ge i (xs.toList.zip ys.toList).length with z|z
    ·rw[List.drop_eq_getElem_cons z] at hi
     cases hi
    ·exact len▸z
   rw[List.drop_of_length_le (by simpa using ge)] at hR
   wp_walk
   exact⟨_,rfl,by simpa [Builtin.Tuple.tupleCompareSizes,bne] using hR⟩
  case h=>
   exact⟨rfl,rfl,0,rfl,by simpa using fin⟩
theorem NcP.tup {P:Program}{w:World}{A:Around}{s:Shared}{l m:Addr}{xs ys:Array Value}{f:Nat→Bool}(hl:s.heap.IsTuple l xs)(hm:s.heap.IsTuple m ys)(hu:A.units<cLine)
  (he:∀j (g1:j<xs.size) (g2:j<ys.size),EqP P w A.in1 s xs[j] ys[j] (f j)):NcP P w A s (.ref l) (.ref m) (!((List.range (min xs.size ys.size)).all f&&xs.size==ys.size)):=fun E Q q=>by
 obtain⟨⟨c1,d1,a1,s1⟩,o1,k1,n1,t1⟩:=id hl
 obtain⟨⟨c2,d2,a2,s2⟩,o2,k2,n2,t2⟩:=id hm
 simp only at k1 t1 k2 t2
 subst k1 t1 k2 t2
 refine wpAny_richCompare_same_room (op:= .NotEq) ⟨_,o1,rfl⟩ ⟨_,o2,rfl⟩ PySem.F.slot_tuple_ne (call_meetsIn PySem.F.slot_tuple_ne ⟨_,o1,rfl⟩ PySem.F.entry_tuple_ne (PySem.F.args_tuple_ne_2 _ _) (b3P l m xs ys n1 n2 d1 d2 s1 s2 f) ⟨o1,o2,he,?_⟩) hu
 exact⟨(fun z=>nomatch z),q⟩
section
variable {X:Cx} {pins:List (Addr×Obj)} {σ:St} {H:Hp} {s:Shared} {A:Around}
def b5h (K:PySem.W.Frag):R2:=fun x y H Q=>∃a b p q p' q' r r',x= .ref a∧y= .ref b∧SqT K H a [.ref p,.ref q]∧SqT K H b [.ref p',.ref q']∧EqD K H p p' r∧EqD K H q q' r'∧Q (.bl (!(r&&r'))) H
theorem b3j (hu:X.A.units+64<cLine):OpR X (compareOp .NotEq) (b5h X.K):=by
 intro pins s σ H x y v u Q I rx ry h
 obtain⟨a,b,p,q,p',q',r,r',rfl,rfl,ha,hb,h1,h2,k⟩:=h
 cases rx
 cases ry
 obtain⟨its,v1,t1,_⟩:=I.tuple ha
 obtain⟨its',v2,t2,_⟩:=I.tuple hb
 obtain⟨_,_,rfl,e1,e2⟩:=W2 v1
 obtain⟨_,_,rfl,e3,e4⟩:=W2 v2
 cases e1
 cases e2
 cases e3
 cases e4
 refine NcP.tup (P:=X.prog) (w:=X.w) (f:=fun j=>if j=0 then r else r') (show s.heap.IsTuple a _ from t1) (show s.heap.IsTuple b _ from t2) (by omega) (fun j g1 g2=>?_) _ _ ⟨.bl (!(r&&r')),H,I,by show Value.bool _=Value.bool _;simp [List.range_succ],k⟩
 have g:j<2:=by simpa using g1
 match j,g with
 |0,_=>exact h1.at_ I (by show X.A.units+1+16<_;omega)
 |1,_=>exact h2.at_ I (by show X.A.units+1+16<_;omega)
def b5Y (K:PySem.W.Frag):R2:=fun x y H Q=>∃a b xs ys,x= .ref a∧y= .ref b∧SqL K H a xs∧SqL K H b ys∧xs.all z6=true∧ys.all z6=true∧Q (.bl (!L7 xs ys)) H
theorem b4u (hu:X.A.units+64<cLine):OpR X (compareOp .NotEq) (b5Y X.K):=by
 intro pins s σ H x y v u Q I rx ry h
 obtain⟨a,b,xs,ys,rfl,rfl,ha,hb,fx,fy,k⟩:=h
 cases rx
 cases ry
 obtain⟨its,r1,p1,z1⟩:=I.list ha
 obtain⟨its',r2,p2,z2⟩:=I.list hb
 have l1:=r1.length
 have l2:=r2.length
 have e3:its.toArray.size=xs.length:=by simp [l1]
 have e4:its'.toArray.size=ys.length:=by simp [l2]
 by_cases hl:xs.length=ys.length
 ·have q:=SeqAt.RcNeAt.lists (A:=X.A) (e:=fun j=>eqV (xs.getD j .non) (ys.getD j .non)) p1.isList p2.isList (by rw[e3,e4];exact hl) (by omega) fun j g1 g2=>by
   have g1':j<its.length:=by simpa using g1
   have g2':j<its'.length:=by simpa using g2
   have x1:xs[j]?=some (xs[j]'(by omega)):=by simp [show j<xs.length by omega]
   have y1:ys[j]?=some (ys[j]'(by omega)):=by simp [show j<ys.length by omega]
   obtain⟨u1,hu1,ru1⟩:=r1.get x1
   obtain⟨u2,hu2,ru2⟩:=r2.get y1
   have e1:its.toArray[j]=u1:=by
    have:=List.getElem?_eq_getElem g1'
    rw[hu1] at this
    simpa using(Option.some.inj this).symm
   have e2:its'.toArray[j]=u2:=by
    have:=List.getElem?_eq_getElem g2'
    rw[hu2] at this
    simpa using(Option.some.inj this).symm
   rw[e1,e2]
   have d1:xs.getD j .non=xs[j]'(by omega):=by rw[List.getD_eq_getElem?_getD,x1];rfl
   have d2:ys.getD j .non=ys[j]'(by omega):=by rw[List.getD_eq_getElem?_getD,y1];rfl
   rw[d1,d2]
   exact R9 ru1 ru2 (List.all_eq_true.mp fx _ (List.getElem_mem _)) (List.all_eq_true.mp fy _ (List.getElem_mem _))
  have e5:=K6 xs ys
  rw[hl,Nat.min_self,beq_self_eq_true,Bool.and_true] at e5
  rw[e3,hl,e5] at q
  exact q X.prog X.w _ _ ⟨.bl _,H,I,rfl,k⟩
 ·refine SeqAt.RcNeAt.lists_lengths (A:=X.A) p1.isList p2.isList (by rw[e3,e4];simpa using hl) (by omega) X.prog X.w _ _ ⟨.bl _,H,I,?_,k⟩
  rw[a0P hl];rfl
def b5N (K:PySem.W.Frag):R2:=fun x y H Q=>(∃a b xs ys,x= .ref a∧y= .ref b∧SqT K H a xs∧SqT K H b ys∧xs.all z6=true∧ys.all z6=true∧Q (.bl (!L7 xs ys)) H)∨(∃a xs,x= .non∧y= .ref a∧SqT K H a xs∧Q (.bl true) H)
theorem b3z (hu:X.A.units+64<cLine):OpR X (compareOp .NotEq) (b5N X.K):=by
 intro pins s σ H x y v u Q I rx ry h
 rcases h with⟨a,b,xs,ys,rfl,rfl,ha,hb,fx,fy,k⟩|⟨a,xs,rfl,rfl,ha,k⟩
 ·cases rx
  cases ry
  obtain⟨its,r1,p1,z1⟩:=I.tuple ha
  obtain⟨its',r2,p2,z2⟩:=I.tuple hb
  have l1:=r1.length
  have l2:=r2.length
  have q:=SeqAt.RcNeAt.tuples (A:=X.A) (e:=fun j=>eqV (xs.getD j .non) (ys.getD j .non)) (show s.heap.IsTuple a its.toArray from p1) (show s.heap.IsTuple b its'.toArray from p2) (by omega) fun j g1 g2=>by
   have g1':j<its.length:=by simpa using g1
   have g2':j<its'.length:=by simpa using g2
   have x1:xs[j]?=some (xs[j]'(by omega)):=by simp [show j<xs.length by omega]
   have y1:ys[j]?=some (ys[j]'(by omega)):=by simp [show j<ys.length by omega]
   obtain⟨u1,hu1,ru1⟩:=r1.get x1
   obtain⟨u2,hu2,ru2⟩:=r2.get y1
   have e1:its.toArray[j]=u1:=by
    have:=List.getElem?_eq_getElem g1'
    rw[hu1] at this
    simpa using(Option.some.inj this).symm
   have e2:its'.toArray[j]=u2:=by
    have:=List.getElem?_eq_getElem g2'
    rw[hu2] at this
    simpa using(Option.some.inj this).symm
   rw[e1,e2]
   have d1:xs.getD j .non=xs[j]'(by omega):=by rw[List.getD_eq_getElem?_getD,x1];rfl
   have d2:ys.getD j .non=ys[j]'(by omega):=by rw[List.getD_eq_getElem?_getD,y1];rfl
   rw[d1,d2]
   exact R9 ru1 ru2 (List.all_eq_true.mp fx _ (List.getElem_mem _)) (List.all_eq_true.mp fy _ (List.getElem_mem _))
  have e3:its.toArray.size=xs.length:=by simp [l1]
  have e4:its'.toArray.size=ys.length:=by simp [l2]
  rw[e3,e4,K6] at q
  exact q X.prog X.w _ _ ⟨.bl _,H,I,rfl,k⟩
 ·cases rx
  cases ry
  obtain⟨its,r1,p1,z1⟩:=I.tuple ha
  exact SeqAt.RcNeAt.none_tuple (A:=X.A) (show s.heap.IsTuple a its.toArray from p1) (by omega) X.prog X.w _ _ ⟨.bl true,H,I,rfl,k⟩
def b2E (K:PySem.W.Frag):R2:=fun x y H Q=>∃a b ka kb r0,x= .ref a∧y= .ref b∧Rd H a (.dK ka)∧Rd H b (.dK kb)∧EqH K H kb ka r0∧Q (.bl (ka.length==kb.length&&r0)) H
def b2C (K:PySem.W.Frag):R2:=fun x y H Q=>∃a b ka kb r0,x= .ref a∧y= .ref b∧Rd H a (.dK ka)∧Rd H b (.dK kb)∧EqH K H kb ka r0∧Q (.bl (!(ka.length==kb.length&&r0))) H
theorem b1s (hu:X.A.units+64<cLine):OpR X (compareOp .Eq) (b2E X.K):=by
 intro pins s σ H x y v u Q I rx ry h
 obtain⟨a,b,ka,kb,r0,rfl,rfl,h1,h2,h3,k⟩:=h
 cases rx
 cases ry
 obtain⟨z1,d1,va,ra,da⟩:=L6 I.hok h1
 obtain⟨z2,d2,vb,rb,db⟩:=L6 I.hok h2
 have l1:=KV.length ra
 have l2:=KV.length rb
 exact PySem.W.keq_eq (knd:=j0 X.prog X.w) d1 d2 da db (by omega) (fun _=>h3.hits (A:=X.A.in1) I (by show X.A.units+1+8<_;omega) rb ra) ⟨.bl _,H,I,rfl,by rw[←l1,←l2];exact k⟩
theorem b1k (hu:X.A.units+64<cLine):OpR X (compareOp .NotEq) (b2C X.K):=by
 intro pins s σ H x y v u Q I rx ry h
 obtain⟨a,b,ka,kb,r0,rfl,rfl,h1,h2,h3,k⟩:=h
 cases rx
 cases ry
 obtain⟨z1,d1,va,ra,da⟩:=L6 I.hok h1
 obtain⟨z2,d2,vb,rb,db⟩:=L6 I.hok h2
 have l1:=KV.length ra
 have l2:=KV.length rb
 exact PySem.W.keq_ne (knd:=j0 X.prog X.w) d1 d2 da db (by omega) (fun _=>h3.hits (A:=X.A.in1) I (by show X.A.units+1+8<_;omega) rb ra) ⟨.bl _,H,I,rfl,by rw[←l1,←l2];exact k⟩
def b1A (K:PySem.W.Frag):R2:=fun x y H Q=>a3I K x y H Q∨b2E K x y H Q
theorem b7D (K:PySem.W.Frag){k:Nat}(hr:Room k X.A)(h:X.K=K:=by rfl):OpR X (compareOp .Eq) (b1A K):=(kEq K hr h).or (h▸b1s hr.units)
def a3M (K:PySem.W.Frag):R2:=fun x y H Q=>rNe x y H Q∨b5Y K x y H Q∨b5N K x y H Q∨b5h K x y H Q∨b2C K x y H Q
theorem kNe (K:PySem.W.Frag){k:Nat}(hr:Room k X.A)(h:X.K=K:=by rfl):OpR X (compareOp .NotEq) (a3M K):=h▸op_ne.or ((b4u hr.units).or ((b3z hr.units).or ((b3j hr.units).or (b1k hr.units))))
end
section
variable {K:PySem.W.Frag} {H:Hp} {Q:VK}
theorem b7v {x y:V}(q:a3I K x y H Q):b1A K x y H Q:= .inl q
theorem a8K {a b:Addr}{ka kb:List (Key×V)}{r:Bool}(ha:Rd H a (.dK ka))(hb:Rd H b (.dK kb))(h:EqH K H kb ka r)(q:Q (.bl (ka.length==kb.length&&r)) H):b1A K (.ref a) (.ref b) H Q:= .inr ⟨a,b,ka,kb,r,rfl,rfl,ha,hb,h,q⟩
theorem a5j {i j:Int}(q:Q (.bl (!decide (i=j))) H):a3M K (.int i) (.int j) H Q:= .inl (a4B q)
theorem a7t {i j:Bool}(q:Q (.bl (!decide (i=j))) H):a3M K (.bl i) (.bl j) H Q:= .inl ⟨rfl,by rw[a3J];rw[show(i==j)=decide (i=j) from Bool.beq_eq_decide_eq i j];exact q⟩
theorem a4v {i j:Str}(q:Q (.bl (!decide (i=j))) H):a3M K (.str i) (.str j) H Q:= .inl ⟨rfl,by rw[show decide (V.str i=V.str j)=decide (i=j) by simp];exact q⟩
theorem a2s {a b:Addr}{xs ys:List V}(ha:SqL K H a xs)(hb:SqL K H b ys)(fx:xs.all z6=true)(fy:ys.all z6=true)(q:Q (.bl (!L7 xs ys)) H):a3M K (.ref a) (.ref b) H Q:= .inr (.inl ⟨a,b,xs,ys,rfl,rfl,ha,hb,fx,fy,q⟩)
theorem a9a {a b p q p' q':Addr}{r r':Bool}(ha:SqT K H a [.ref p,.ref q])(hb:SqT K H b [.ref p',.ref q'])(h1:EqD K H p p' r)(h2:EqD K H q q' r')(k:Q (.bl (!(r&&r'))) H):a3M K (.ref a) (.ref b) H Q:= .inr (.inr (.inr (.inl ⟨a,b,p,q,p',q',r,r',rfl,rfl,ha,hb,h1,h2,k⟩)))
end
section
variable {X:Cx} {o e f:Expr} {apos cpos:Pos} {td ty tx:TE} {name:Str}
theorem b5v (hb:attributeBase o name X.env (eval o X.env)=eval o X.env)(hl:(apos.endLine==cpos.line)=true)(h:u6 e=true)(h':u6 f=true):M2 X o name apos e f cpos:=by
 have z:starEach [e,f] X.env=[(false,eval e X.env),(false,eval f X.env)]:=by rw[Q7 (es:=[f]) h,Q7 (es:=[]) h'];rfl
 have z2:backTo cpos (starEach [e,f] X.env)=[(false,eval e X.env),(false,eval f X.env)]:=by rw[z];rfl
 exact⟨hb,by rw[z2];rfl,hl,z2⟩
theorem b5E (hu:X.A.units+1<cLine)(ho:QE X o td)(he:QE X e ty)(hf:QE X f tx)(hb:attributeBase o "get" X.env (eval o X.env)=eval o X.env:=by rfl)(hl:(apos.endLine==cpos.line)=true:=by rfl)(h:u6 e=true:=by rfl)(h':u6 f=true:=by rfl):
  QE X (.Call (.Attribute o "get" apos) [e,f] [] cpos) (a6o td ty tx):=⟨b0H hu ho.r he.r hf.r (b5v hb hl h h')⟩
end
section
variable {σ:St} {H:Hp} {Q:VK} {td ty tx:TE}
theorem b5a (q:td σ H fun x H1=>∃a,x= .ref a∧IsD H1 a∧ty σ H1 fun y H2=>∃o,DGet H2 a y o∧Q (o.getD .non) H2):b3A td ty σ H Q:=q
end
end L2
set_option Elab.async false
set_option linter.all false
set_option maxRecDepth 100000
set_option maxHeartbeats 4000000
namespace L2
open PySem PySem.Spec PyProof.Rows
open Sem (wp)
section
variable {prog:Program} {w:World} {KT:Type} [DecidableEq KT] {knd:KeyKind prog w KT} {A:Around} {E:Value→Shared→Prop} {s:Shared}
theorem a1O {it d:Addr}{i ep:Nat}{kvs:List (KT×Value)}{k:KT}{v:Value}{Q:Value→Shared→Prop}(hit:s.heap.IsKeyIter it d i kvs.length ep)
  (hm:s.heap.DictAt knd d kvs ep) (hx:kvs[i]?=some (k,v))
  (hQ:∀key h',knd.is k key=true→h'.IsKeyIter it d (i+1) kvs.length ep→Heap.SameBut it s.heap h'→Q key {s with heap:=h'}):
  wpAny (model prog w) A (Builtin.SmallTypes.nextOf (.ref it)) Q E s:=by
 obtain⟨o,ho,hc,hd⟩:=id hit
 obtain⟨od,es,hod,hcd,hdd,hk,hp,hn⟩:=id hm
 have hsz:es.size=kvs.length:=by rw[←hp.length];simp
 have hlt:i<kvs.length:=(List.getElem?_eq_some_iff.mp hx).1
 have hlt':i<es.size:=by rw[hsz];exact hlt
 have hkey:knd.is k es[i].key=true:=(hp.get? (e:=es[i]) (by simp [hlt']) hx).1
 have hown:Builtin.Dict_items.ownsTuple "dict_keyiterator"=false:=by decide
 unfold Builtin.SmallTypes.nextOf
 refine wpAny_bind (wpAny_callSpecial?_slot (name:=Str.ofString "__next__") hit.typeIs F.slot_dict_keyiterator_next
  (wpAny_call_entry F.slot_dict_keyiterator_next hit.typeIs F.entry_dict_keyiterator_next ?_ (F.args_dict_keyiterator_next_1 _)))
 refine wpAny_bind (wpAny_pure (wpAny_bind (wpAny_bind ?_)))
 first|refine wpAny_bind (wpAny_typeNameOfWhole_keyiter hit.typeIs (wpAny_pure ?_))|refine wpAny_bind (wpAny_typeNameOf_keyiter hit.typeIs (wpAny_pure ?_))
 refine wpAny_bind (wpAny_fieldsOf ho hd ?_)
 simp only[hown,Bool.false_eq_true,if_false]
 show wpAny _ _ (if(Value.ref d==Value.none)=true then _ else _) _ _ s
 rw[if_neg (show ¬((Value.ref d==Value.none)=true) from Bool.false_ne_true)]
 refine wpAny_bind (wpAny_pure (wpAny_bind (wpAny_dictEntries hod hdd ?_)))
 rw[if_neg (by rw[hsz];simp)]
 refine wpAny_bind (wpAny_pure (wpAny_bind (wpAny_dictEpoch hod hdd ?_)))
 rw[if_neg (by simp)]
 refine wpAny_pure ?_
 simp only[show ¬((i:Int)<0) from by omega,if_false,Int.toNat_natCast,Array.getElem?_eq_getElem hlt']
 refine wpAny_bind ?_
 first|refine wpAny_bind (wpAny_typeNameOfWhole_keyiter hit.typeIs (wpAny_pure ?_))|refine wpAny_bind (wpAny_typeNameOf_keyiter hit.typeIs (wpAny_pure ?_))
 refine wpAny_bind (wpAny_isOneOf_keyiter hit.typeIs ?_)
 show wpAny _ _ (setField (.ref it) 1 (rawInt ((i:Int)+1))>>=_) _ _ s
 refine wpAny_bind (wpAny_setField ho hd (by simp) ?_)
 have hit':(s.heap.update it (Obj.mapFields (·.setIfInBounds 1 (rawInt ((i:Int)+1))))).IsKeyIter it d (i+1) kvs.length ep:=
  ⟨_,Heap.get?_update_self _ ho (Obj.isFreed_of_fields (Obj.data_mapFields hd _)),(Obj.cls_mapFields ..).trans hc,by rw[Obj.data_mapFields hd];simp [rawInt]⟩
 refine wpAny_bind (wpAny_holding ?_)
 refine wpAny_bind (wpAny_isOneOf_keyiter (s:={s with heap:=s.heap.update it (Obj.mapFields (·.setIfInBounds 1 (rawInt ((i:Int)+1))))}) hit'.typeIs ?_)
 show wpAny _ _ (pure es[i].key) _ _ _
 exact wpAny_pure (wpAny_pure ⟨_,rfl,wpAny_pure (hQ _ _ hkey hit' (Heap.SameBut.update ..))⟩)
theorem a2P {it d:Addr}{i ep:Nat}{kvs:List (KT×Value)}{Q:Value→Shared→Prop}(hh:A.handled=none)(hit:s.heap.IsKeyIter it d i kvs.length ep)
  (hm:s.heap.DictAt knd d kvs ep) (hx:kvs[i]?=none)
  (hE:∀h' e,Heap.ExtBut it s.heap h'→(∃o,h'.get? e=some o∧o.cls= .type "StopIteration")→E (.ref e) {s with heap:=h'}):
  wpAny (model prog w) A (Builtin.SmallTypes.nextOf (.ref it)) Q E s:=by
 obtain⟨o,ho,hc,hd⟩:=id hit
 obtain⟨od,es,hod,hcd,hdd,hk,hp,hn⟩:=id hm
 have hsz:es.size=kvs.length:=by rw[←hp.length];simp
 have hge:es.size≤i:=by rw[hsz];simpa using hx
 have hown:Builtin.Dict_items.ownsTuple "dict_keyiterator"=false:=by decide
 unfold Builtin.SmallTypes.nextOf
 refine wpAny_bind (wpAny_callSpecial?_slot (name:=Str.ofString "__next__") hit.typeIs F.slot_dict_keyiterator_next
  (wpAny_call_entry F.slot_dict_keyiterator_next hit.typeIs F.entry_dict_keyiterator_next ?_ (F.args_dict_keyiterator_next_1 _)))
 refine wpAny_bind (wpAny_pure (wpAny_bind (wpAny_bind ?_)))
 first|refine wpAny_bind (wpAny_typeNameOfWhole_keyiter hit.typeIs (wpAny_pure ?_))|refine wpAny_bind (wpAny_typeNameOf_keyiter hit.typeIs (wpAny_pure ?_))
 refine wpAny_bind (wpAny_fieldsOf ho hd ?_)
 simp only[hown,Bool.false_eq_true,if_false]
 show wpAny _ _ (if(Value.ref d==Value.none)=true then _ else _) _ _ s
 rw[if_neg (show ¬((Value.ref d==Value.none)=true) from Bool.false_ne_true)]
 refine wpAny_bind (wpAny_pure (wpAny_bind (wpAny_dictEntries hod hdd ?_)))
 rw[if_neg (by rw[hsz];simp)]
 refine wpAny_bind (wpAny_pure (wpAny_bind (wpAny_dictEpoch hod hdd ?_)))
 rw[if_neg (by simp)]
 refine wpAny_pure ?_
 simp only[show ¬((i:Int)<0) from by omega,if_false,Int.toNat_natCast,Array.getElem?_eq_none hge]
 refine wpAny_bind ?_
 first|refine wpAny_bind (wpAny_typeNameOfWhole_keyiter hit.typeIs (wpAny_pure ?_))|refine wpAny_bind (wpAny_typeNameOf_keyiter hit.typeIs (wpAny_pure ?_))
 show wpAny _ _ (setField (.ref it) 0 .none>>=_) _ _ s
 refine wpAny_bind (wpAny_setField ho hd (by simp) ?_)
 show wpAny _ _ (newExc (.type "StopIteration") []>>=_) _ _ _
 refine wpAny_bind ?_
 simp only[newExc,newTuple]
 refine wpAny_bind (wpAny_newObj_type ?_ (by size_fits))
 refine wpAny_bind (m:=firstArgMember _ _) (wpAny_of_eq (a:=Value.none) (by first|rfl|(simp only[firstArgMember];rfl)) ?_)
 refine wpAny_newObj_type ?_ (by size_fits)
 simp only[raiseNew]
 refine wpAny_bind (wpAny_handled ?_)
 first|rw[show A.in1.handled=none from hh]|rw[hh]
 refine wpAny_bind (wpAny_pure (wpAny_throw ?_))
 exact hE _ _ (((Heap.SameBut.update ..).extBut.push _).push _) ⟨_,Heap.get?_push_size _ rfl,rfl⟩
end
section
variable {prog:Program} {w:World} {KT:Type} [DecidableEq KT] {knd:KeyKind prog w KT} {A:Around} {E:Value→Shared→Prop} {s:Shared}
open PySem.AutoSeq1 (wpAny_loadPart')
abbrev R3 (d:Addr)(n ep:Nat):Obj:={cls:= .type "dict_keyiterator",data:= .fields #[.ref d,.int 0 0,.int n 0,.int ep 0]}
abbrev a4f (it:Addr):Obj:={cls:= .type "enumerate",data:= .fields #[.none,.bool false,.ref it,rawInt 0,.none,.none]}
theorem b0D (d:Addr)(kvs:List (KT×Value))(ep:Nat)(hd:(d==sysModules)=false):
  MeetsIn prog w (Builtin.«enumerate.__new__» ⟨[.type "enumerate",.ref d],[]⟩) (fun _ R s=>s.heap.DictAt knd d kvs ep∧
   R (.ok (.ret (.ref (s.heap.push (R3 d kvs.length ep)).objs.size))) {s with heap:=(s.heap.push (R3 d kvs.length ep)).push (a4f s.heap.objs.size)}):=
 .of_wp fun A R s h=>by
  obtain⟨hp,g,dr,tk,os⟩:=s;obtain⟨hm,h⟩:=h
  have hsub:=sub_enumerate
  obtain⟨⟨c,dct,dt,sl⟩,es,hod,hcd,hdd,hk,hp',hn⟩:=id hm
  have hc:c= .type "dict":=hcd.1
  subst hc
  wp_walk using wpAny_loadPart' hod
  refine wpAny_stack_any fun st=>wpAny_pure ?_
  split
  ·rename_i c _ _ _ _ _
   cases (c==Value.type "enumerate")
   ·wp_walk using wpAny_loadPart' hod,wpAny_pyIter_dict hd hm
    exact⟨_,rfl,h⟩
   ·wp_walk using wpAny_loadPart' hod,wpAny_pyIter_dict hd hm
    exact⟨_,rfl,h⟩
  ·wp_walk using wpAny_loadPart' hod,wpAny_pyIter_dict hd hm
   exact⟨_,rfl,h⟩
theorem a6f {d:Addr}{kvs:List (KT×Value)}{ep:Nat}{Q:Value→Shared→Prop}(hd:(d==sysModules)=false)(hm:s.heap.DictAt knd d kvs ep)
  (h:∀h',IsEnum h' (s.heap.objs.size+1) s.heap.objs.size 0 .none→h'.IsKeyIter s.heap.objs.size d 0 kvs.length ep→h'.objs.size=s.heap.objs.size+2→
   (∀b o,s.heap.get? b=some o→h'.get? b=some o)→Q (.ref (s.heap.objs.size+1)) {s with heap:=h'}):
  wpAny (model prog w) A (call (.type "enumerate") [.ref d]) Q E s:=by
 refine callType_newIn F.called_enumerate (by decide) (F.typeCall_enumerate_1 _) (F.newCall_enumerate_1 _) (fun obj=>F.args_object_init_2 obj _) F.entry_enumerate_new
  (b0D (knd:=knd) d kvs ep hd) ⟨hm,?_⟩
 have hz:(s.heap.push (R3 d kvs.length ep)).objs.size=s.heap.objs.size+1:=Heap.size_push ..
 show _∧_
 rw[hz]
 have he:IsEnum ((s.heap.push (R3 d kvs.length ep)).push (a4f s.heap.objs.size)) (s.heap.objs.size+1) s.heap.objs.size 0 .none:=by
  have:=Heap.get?_push_size (s.heap.push (R3 d kvs.length ep)) (o:=a4f s.heap.objs.size) rfl
  rw[hz] at this;exact this
 refine⟨⟨_,he,rfl⟩,h _ he ⟨_,Heap.get?_push_of_some _ (Heap.get?_push_size _ rfl),rfl,rfl⟩ (by rw[Heap.size_push,hz]) fun b o x=>Heap.get?_push_of_some _ (Heap.get?_push_of_some _ x)⟩
theorem a3m (hh:A.handled=none){it d:Addr}(hne:d≠it)(kvs:List (KT×Value))(ep:Nat):
  Draws prog w A it [it,d] kvs.length (fun i v=>∃k x,kvs[i]?=some (k,x)∧knd.is k v=true) (fun i h=>h.IsKeyIter it d i kvs.length ep∧h.DictAt knd d kvs ep) where
 live:=fun _ _ st=>let ⟨o,ho,_⟩:=st.1;⟨o,ho⟩
 frame:=fun _ _ _ st hk=>⟨st.1.at fun o e=>hk it (by simp) o e,let ⟨o,es,e,r⟩:=st.2;⟨o,es,hk d (by simp) o e,r⟩⟩
 item:=fun i s Q E hi st hQ=>by
  obtain⟨⟨k,x⟩,hx⟩:∃p,kvs[i]?=some p:=⟨kvs[i],by simp [hi]⟩
  refine a1O st.1 st.2 hx fun key h' hkey hit' hs'=>?_
  exact hQ key h' s.toks ⟨k,x,hx,hkey⟩ ⟨hit',let ⟨o,es,e,r⟩:=st.2;⟨o,es,hs'.extBut _ _ hne e,r⟩⟩ hs'
 done:=fun s Q E st hE=>a2P hh st.1 st.2 (by simp) hE
end
def b4d (d:Addr)(o:Obj)(kvs:List (Key×V)):It:=
 ⟨fun i H=>H d=some (.frz o (.dK kvs))∧i<kvs.length,fun i H x H'=>∃t kv,kvs[i]?=some kv∧H t=none∧x= .ref t∧H'=upd H t (.tup [.int i,kV kv.1]),fun i H=>H d=some (.frz o (.dK kvs))∧kvs.length=i⟩
theorem a6p {P:Program}{w:World}{K:PySem.W.Frag}{elts:List Expr}{x1}{tpos:Pos}{d:Addr}{o:Obj}{kvs:List (Key×V)}{vs:List (Key×Value)}{ep:Nat}(D:a9s P w d o kvs vs ep){en it:Addr}(hne:en≠it):
  a1o P w K (.Tuple elts x1 tpos) (b4d d o kvs) [en,it] en (fun i h=>∃old,IsEnum h en it i old∧h.IsKeyIter it d i vs.length ep) where
 mem:=by simp
 obj:=fun i h st b hb=>by
  obtain⟨old,h1,o,e,c,dd⟩:=st
  have hb':b=en∨b=it:=by simpa using hb
  rcases hb' with rfl|rfl
  ·exact⟨_,h1,fun v z=>by
    have z':Data.fields _=Data.cell v:=z
    cases z'⟩
  ·exact⟨o,e,fun v z=>by rw[dd] at z;cases z⟩
 keep:=fun i h h' st k=>by
  obtain⟨old,h1,h2⟩:=st
  exact⟨old,k en (by simp) _ h1,h2.at fun o e=>k it (by simp) o e⟩
 item:=by
  intro X hP hw hK hc i pins s σ H E I hf st hg
  subst hP hw hK
  obtain⟨old,st1,st2⟩:=st
  obtain⟨hfz,hi⟩:=hg
  have dat:=D.at_ s.heap (I.hok d _ hfz).1
  have hl:=KV.length D.kv
  have hdi:d≠it:=b9 hfz (hf it (by simp)).1
  have hde:d≠en:=b9 hfz (hf en (by simp)).1
  have hen:en<s.heap.objs.size:=Heap.lt_size st1
  have hit:it<s.heap.objs.size:=by obtain⟨o,e,_⟩:=st2;exact Heap.lt_size e
  obtain⟨kv,hkv⟩:∃kv,kvs[i]?=some kv:=⟨kvs[i],by simp [hi]⟩
  refine wpAny_pyNext_enum_itemD (a3m (knd:=j0 X.prog X.w) (A:=X.A.in1) (show X.A.in1.handled=none from I.ok.hd hc) hdi vs ep) st1 ⟨st2,dat⟩ (by omega) hne (by simp;exact⟨hne,Ne.symm hde⟩) fun u h' tk hP heo hst1 ht1 hz1 hk1=>?_
  obtain⟨k,x,hx,hkey⟩:=hP
  have hkk:kv.1=k:=by
   have e1:(kvs.map (·.1))[i]?=some kv.1:=by rw[List.getElem?_map,hkv];rfl
   rw[KV.keys D.kv,List.getElem?_map,hx] at e1
   exact(Option.some.inj e1).symm
  refine⟨.ref s.heap.objs.size,rfl,wpAny_letOwnedTupleGo_enum (s:={s with heap:=h',toks:=tk+1}) heo fun h'' he'' hs''=>?_⟩
  have hs2:Heap.SameBut en h' h'':=hs''
  have tupAt:h''.get? s.heap.objs.size=some {cls:= .type "tuple",data:= .seq #[.int i tk,u]}:=hs2.extBut _ _ (Nat.ne_of_gt hen) ht1
  obtain⟨fr,I1,fr2⟩:=I.pairNew (fp:=[en,it]) (h':=h'') (tk:=tk+1) (x:= .int i) (y:=kV kv.1) hf (fun b o hb e=>by
   have hb':b≠en∧b≠it:=by simpa using hb
   exact hs2.extBut b o hb'.1 (hk1 b o hb'.1 hb'.2 e)) (fun b hb=>by
   have hb':b=en∨b=it:=by simpa using hb
   rcases hb' with rfl|rfl
   ·exact hen
   ·exact hit) tupAt ⟨_,rfl⟩ (by rw[hkk];exact a1g hkey)
  refine⟨.ref s.heap.objs.size,_,I1,rfl,⟨_,kv,hkv,fr,rfl,rfl⟩,⟨_,he'',?_⟩,fr2⟩
  exact hst1.1.at fun o e=>hs2.extBut it o (Ne.symm hne) e
 done:=by
  intro X hP hw hK hc i pins s σ H E I hf st hg
  subst hP hw hK
  obtain⟨old,st1,st2⟩:=st
  obtain⟨hfz,hi⟩:=hg
  have dat:=D.at_ s.heap (I.hok d _ hfz).1
  have hl:=KV.length D.kv
  have hdi:d≠it:=b9 hfz (hf it (by simp)).1
  have e:i=vs.length:=by omega
  subst e
  exact wpAny_pyNext_enum_endD (a3m (knd:=j0 X.prog X.w) (A:=X.A.in1) (show X.A.in1.handled=none from I.ok.hd hc) hdi vs ep) st1 ⟨st2,dat⟩ fun h' eb=>⟨rfl,I.turnedAll (fp:=[en,it]) (tk:=s.toks) hf fun b o hb e=>eb b o (by
   have hb':b≠en∧b≠it:=by simpa using hb
   exact hb'.2) e⟩
 self:=fun _ _ _ _ _ st h=>by
  obtain⟨old,st1,st2⟩:=st
  exact wpAny_pyIter_enum st1 h
section
variable {X:Cx} {a:Expr} {t:TA} {p pos:Pos}
def a5X (K:PySem.W.Frag)(ta:TA):TI2:=fun σ H R=>ta σ H fun vs H1=>∃v,vs=[v]∧((∃l xs,v= .ref l∧SqL K H1 l xs∧R (Ite K l) id H1)∨rIterD b4d v H1 R)
theorem a8Y {elts:List Expr}{x1}{tpos:Pos}(hg:Gl X "enumerate")(hm:X.mg "enumerate"=none)(ha:PA X [a] t)(hs:starEach [a] X.env=[(false,eval a X.env)]):PI2 X (.Tuple elts x1 tpos) (.Call (.Name "enumerate" p) [a] [] pos) (a5X X.K t):=by
 intro pins s σ H R I h
 refine Call_ (Z1 I hg hm Boot.«enumerate» (PyProof.Rows.callWith_type1 (thn (ha pos pins s σ H _ I h) fun us s1 ⟨vs,H1,I1,r1,q1⟩=>?_) hs rfl))
 obtain⟨v,e,q⟩:=q1
 subst e
 obtain⟨u,rfl,ru⟩:=P0 r1
 rcases q with⟨l,xs,rfl,hq,q⟩|q
 ·cases ru
  obtain⟨its,rv,pl,hz⟩:=I1.list hq
  refine call_enumerate_list pl.isList fun h' he hit hsz hk=>?_
  have I2:Inv X pins σ H1 {s1 with heap:=h'}:=I1.kept (t':=s1.toks) hk
  refine wpAny_pyIter_enum (s:={s1 with heap:=h'}) he ?_
  refine⟨s1.heap.objs.size+1,[s1.heap.objs.size+1,s1.heap.objs.size],_,_,H1,rfl,I2,a7F (l:=l) (Nat.succ_ne_self _),⟨_,he,hit⟩,fun b hb=>?_,id,a0Y,q⟩
  have hb':b=s1.heap.objs.size+1∨b=s1.heap.objs.size:=by simpa using hb
  rcases hb' with rfl|rfl
  ·exact I1.fpOk (Nat.le_succ _) (I1.hok.fresh (Nat.le_succ _))
  ·exact I1.fpOk (Nat.le_refl _) (I1.hok.fresh (Nat.le_refl _))
 ·obtain⟨d,kvs,o,vs,ep,th,H',rfl,hd,ho,D,I2,hth,q⟩:=rIterD.go I1 ru q
  refine a6f (knd:=j0 X.prog X.w) hd (D.at_ _ ho) fun h' he hit hsz hk=>?_
  have I3:Inv X pins σ H' {s1 with heap:=h'}:=I2.kept (t':=s1.toks) hk
  refine wpAny_pyIter_enum (s:={s1 with heap:=h'}) he ?_
  refine⟨s1.heap.objs.size+1,[s1.heap.objs.size+1,s1.heap.objs.size],_,_,H',rfl,I3,a6p D (Nat.succ_ne_self _),⟨_,he,hit⟩,fun b hb=>?_,th,hth,q⟩
  have hb':b=s1.heap.objs.size+1∨b=s1.heap.objs.size:=by simpa using hb
  rcases hb' with rfl|rfl
  ·exact I2.fpOk (Nat.le_succ _) (I2.hok.fresh (Nat.le_succ _))
  ·exact I2.fpOk (Nat.le_refl _) (I2.hok.fresh (Nat.le_refl _))
theorem Q6 (K:PySem.W.Frag){elts:List Expr}{x1}{tpos:Pos}(hm:X.mg "enumerate"=none)(ha:QA X [a] t)(hg:Gl X "enumerate":=by rfl)(h:u6 a=true:=by rfl)(hK:X.K=K:=by rfl):QI X (.Tuple elts x1 tpos) (.Call (.Name "enumerate" p) [a] [] pos) (a5X K t):=
 ⟨hK▸a8Y hg hm ha.r (Q7 h)⟩
end
section
variable {K:PySem.W.Frag} {σ:St} {H:Hp} {ta:TA} {R:It→(Hp→Hp)→Hp→Prop}
theorem b1J (q:ta σ H fun vs H1=>∃v,vs=[v]∧((∃l xs,v= .ref l∧SqL K H1 l xs∧R (Ite K l) id H1)∨rIterD b4d v H1 R)):a5X K ta σ H R:=q
end
end L2
set_option Elab.async false
set_option linter.all false
set_option maxRecDepth 100000
set_option maxHeartbeats 4000000
namespace L2
open PySem PySem.Spec PyProof.Rows
open Sem (wp)
theorem a3L:typeLookup (.type "list") "keys"=pure none:=by rw[typeLookup_type,builtinLookup_eq_fast];kernel_rfl
section
variable {prog:Program} {w:World} {A:Around} {E:Value→Shared→Prop} {s:Shared}
theorem a7R {a:Addr}{o:Obj}{xs:Array Value}{k:Nat}{Q:Option Value→Shared→Prop}
  (hx:s.heap.get? a=some o) (hc:o.cls= .type "list") (hdat:o.data= .seq xs k) (hd:o.dict=none) (hA:A.handled=none)
  (h:∀h' tk,(∀b ob,s.heap.get? b=some ob→h'.get? b=some ob)→Q none {s with heap:=h',toks:=tk}):
  wpAny (model prog w) A (getAttr? (.ref a) "keys") Q E s:=by
 obtain⟨c,dct,dat,sl⟩:=o
 simp only at hc hdat hd
 subst hc hdat hd
 obtain⟨hp,g,d,tk,os⟩:=s
 have hT:∀tk',(⟨hp,g,d,tk',os⟩:Shared).TypeIs (.ref a) "list":=fun _=>⟨_,hx,rfl⟩
 have f1:=sub_AttributeError
 have f3:=F.slot_list_getattribute.lookup
 have f4:=F.slot_list_getattribute.bind (.ref a)
 have f5:=am_list_getattr_none
 unfold getAttr? getAttrBy? getAttrBy
 repeat(any_goals (first|assumption|exact hT _|((with_reducible show wpAny _ _ (call (Value.builtin "list.__getattribute__") _ _) _ _ _);refine call_meets F.slot_list_getattribute (hT _) am_entry_list_getattribute (F.args_list_getattribute_2 _ _) (meets_getattribute_miss_list a xs k sl "keys" _ a3L (by decide+kernel) (by decide+kernel)) ⟨hx,hA,fun h' tk' e hx'=>?_⟩)|wp_step))
 obtain⟨t',u',he⟩:=hx'.there
 show wpAny _ _ (getattributeRaised _ _ _ _ _ _ _) _ _ _
 unfold getattributeRaised
 repeat(any_goals (first|assumption|wp_step))
 exact h _ _ hx'.keeps
end
theorem N2:entryFor table "dict.update.loop"=some Builtin.«dict.update.loop»:=entryFor_of_tree (by kernel_rfl)
theorem z9:plainId "dict.update.loop"=true:=by decide+kernel
section
variable {prog:Program} {w:World} {KT:Type} [DecidableEq KT] {knd:KeyKind prog w KT} {A:Around} {E:Value→Shared→Prop}
def PairAt (knd:KeyKind prog w KT)(h:Heap)(d it:Addr)(u:Value)(kv:KT×Value):Prop:=∃t key,u= .ref t∧h.IsTuple t #[key,kv.2]∧knd.is kv.1 key=true∧t≠d∧t≠it
theorem PairAt.keep {h h':Heap}{d it:Addr}{u:Value}{kv:KT×Value}(p:PairAt knd h d it u kv)(k:∀b o,b≠d→b≠it→h.get? b=some o→h'.get? b=some o):PairAt knd h' d it u kv:=by
 obtain⟨t,key,e,⟨o,ho,r⟩,hk,h1,h2⟩:=p
 exact⟨t,key,e,⟨o,k t o h1 h2 ho,r⟩,hk,h1,h2⟩
theorem a3g {d it l:Addr}{items:List Value}{res:Value}(hh:A.handled=none)(hdi:d≠it)(hli:l≠it)(hld:l≠d):
  ∀(more:List (KT×Value)) (i:Nat) (s:Shared) (kvs:List (KT×Value)) (R:Result→Shared→Prop),
   s.heap.IsListIter it l i→s.heap.IsList l items.toArray→Paired (PairAt knd s.heap d it) (items.drop i) more→s.heap.DictOf knd d kvs→kvs.length+more.length≤sizeLine→
   (∀h' tk,(∀b o,b≠d→b≠it→s.heap.get? b=some o→h'.get? b=some o)→h'.DictOf knd d (more.foldl (fun a x=>stored a x.1 x.2) kvs)→R (.ok (.ret res)) {s with heap:=h',toks:=tk})→
   codeAny (model prog w) A (.builtin "dict.update.loop" ⟨[.ref d,.ref it,rawInt (i:Int),res],[]⟩) R s
 |[],i,s,kvs,R,hit,hl,hp,hd,hz,hR=>by
  have hx:items.toArray[i]?=none:=by
   have hn:items.drop i=[]:=by cases hp':items.drop i with
    |nil=>rfl
    |cons x r=>rw[hp'] at hp;cases hp
   have:=List.drop_eq_nil_iff.mp hn
   simp;omega
  refine codeAny_builtin N2 ?_
  rw[Around.under_plainId z9 _]
  show wpAny _ A.in1 (pyNext (.ref it)>>=_) _ _ s
  refine wpAny_bind (wpAny_pyNext_list_end (A:=A.in1) hh hit hl hx fun h' eb=>?_)
  show wpAny _ A.in1 (Builtin.Dict.addKeywords d []>>=_) _ _ _
  refine wpAny_bind (wpAny_pure (wpAny_pure ?_))
  exact hR h' s.toks (fun b o h1 h2 e=>eb b o h2 e) (hd.extBut eb hdi)
 |kv::more,i,s,kvs,R,hit,hl,hp,hd,hz,hR=>by
  obtain⟨x,hx,hp0,hp1⟩:∃x,items.toArray[i]?=some x∧PairAt knd s.heap d it x kv∧Paired (PairAt knd s.heap d it) (items.drop (i+1)) more:=by
   cases hp':items.drop i with
   |nil=>rw[hp'] at hp;cases hp
   |cons x r=>
    rw[hp'] at hp
    cases hp with
    |cons h1 h2=>
     refine⟨x,?_,h1,?_⟩
     ·have z:=congrArg List.head? hp'
      simpa using z
     ·have z:=congrArg List.tail hp'
      rw[List.tail_drop] at z
      rw[z];exact h2
  obtain⟨t,key,rfl,⟨ot,hot,hct,nt,hdt⟩,hkey,h1,h2⟩:=hp0
  refine codeAny_builtin N2 ?_
  rw[Around.under_plainId z9 _]
  show wpAny _ A.in1 (pyNext (.ref it)>>=_) _ _ s
  refine wpAny_bind (wpAny_pyNext_list_item hit hl hx fun h' hit' hs'=>?_)
  have hot':h'.get? t=some ot:=hs'.extBut _ _ h2 hot
  refine wpAny_bind (wpAny_holding (wpAny_bind (wpAny_tryCatch ?_)))
  unfold Builtin.Dict.pairItems
  refine wpAny_bind (wpAny_typeOf (s:={s with heap:=h'}) ⟨_,hot',hct⟩ ?_)
  rw[if_pos (by decide)]
  refine wpAny_bind (wpAny_seqItems (s:={s with heap:=h'}) hot' hdt ?_)
  refine wpAny_pure ?_
  show wpAny _ A.in1 (holding [key,kv.2] (dictSet d key kv.2)) _ _ _
  refine wpAny_holding (wpAny_dictSet_pairs (s:={s with heap:=h'}) (kvs:=kvs) hkey (hd.extBut hs'.extBut hdi) (fun h'' dd hs''=>?_) (by simp only[List.length_cons] at hz;omega))
  have kp:∀b o,b≠d→b≠it→s.heap.get? b=some o→h''.get? b=some o:=fun b o hb1 hb2 e=>hs''.extBut b o hb1 (hs'.extBut b o hb2 e)
  refine wpAny_pure ⟨plainId_quiet z9 _,?_⟩
  refine a3g hh hdi hli hld more (i+1) _ (stored kvs kv.1 kv.2) R ?_ ?_ (Paired.imp' (fun _ _ z=>z.keep kp) hp1) dd ?_ (fun h3 tk k3 d3=>hR h3 tk (fun b o e1 e2 e=>k3 b o e1 e2 (kp b o e1 e2 e)) d3)
  ·exact hit'.at fun o e=>hs''.extBut it o (Ne.symm hdi) e
  ·obtain⟨ol,hol,r⟩:=hl
   exact⟨ol,kp l ol hld hli hol,r⟩
  ·have z:=stored_length_le kvs kv.1 kv.2
   simp only[List.length_cons] at hz
   omega
theorem a1S {l:Addr}{items:List Value}{o:Obj}{n:Nat}{more:List (KT×Value)}{s:Shared}{Q:Value→Shared→Prop}(hh:A.handled=none)(ho:s.heap.get? l=some o)(hc:o.cls= .type "list")(hdat:o.data= .seq items.toArray n)(hdn:o.dict=none)(hz:more.length≤sizeLine)
  (hp:Paired (fun u kv=>∃t key,u= .ref t∧s.heap.IsTuple t #[key,kv.2]∧knd.is kv.1 key=true) items more)
  (h:∀h' tk,h'.DictOf knd s.heap.objs.size (more.foldl (fun a x=>stored a x.1 x.2) [])→(∀b o,s.heap.get? b=some o→h'.get? b=some o)→Q (.ref s.heap.objs.size) {s with heap:=h',toks:=tk}):
  wpAny (model prog w) A (call (.type "dict") [.ref l]) Q E s:=by
 refine callType_codes (Q₁:=fun obj s₁=>obj= .ref s.heap.objs.size∧s₁={s with heap:=s.heap.push {cls:= .type "dict",data:= .dict #[]}}) F.kt_called_dict (F.kt_typeCall_dict_1 _) F.entry_dict_init (kt_code_dict_new _ ⟨rfl,rfl⟩) ?_
 rintro obj s₁ ⟨rfl,rfl⟩
 have hnew:(s.heap.push {cls:= .type "dict",data:= .dict #[]}).DictOf knd s.heap.objs.size []:=Heap.DictOf.new s.heap
 have hl0:l≠s.heap.objs.size:=Nat.ne_of_lt (Heap.lt_size ho)
 refine⟨hnew.typeIs,F.args_dict_init_2 _ _,?_⟩
 unfold Builtin.«dict.__init__»
 refine wpAny_bind ?_
 unfold Builtin.Dict.selfAndRest
 refine wpAny_bind (wpAny_notOrdered_dict hnew.typeIs ?_)
 show wpAny _ _ (pure (s.heap.objs.size,[Value.ref l])) _ _ _
 refine wpAny_pure ?_
 show wpAny _ _ (Builtin.Dict.updateFrom "dict.__init__" s.heap.objs.size (.ref l) [] .none) _ _ _
 unfold Builtin.Dict.updateFrom
 have ho1:(s.heap.push {cls:= .type "dict",data:= .dict #[]}).get? l=some o:=Heap.get?_push_of_some _ ho
 refine wpAny_bind (wpAny_typeOf (s:={s with heap:=s.heap.push {cls:= .type "dict",data:= .dict #[]}}) ⟨_,ho1,hc⟩ ?_)
 rw[if_pos (by decide)]
 refine wpAny_bind (a7R (s:={s with heap:=s.heap.push {cls:= .type "dict",data:= .dict #[]}}) ho1 hc hdat hdn hh fun h2 tk2 k2=>?_)
 rw[if_pos (show((none:Option Value).isNone)=true from rfl)]
 have ho2:h2.get? l=some o:=k2 l o ho1
 have hd2:h2.DictOf knd s.heap.objs.size []:=let ⟨od,es,ep,e,r⟩:=hnew;⟨od,es,ep,k2 _ _ e,r⟩
 have hlt:s.heap.objs.size<h2.objs.size:=by obtain⟨od,es,ep,e,r⟩:=hd2;exact Heap.lt_size e
 have up:∀b ob,s.heap.get? b=some ob→(h2.push {cls:= .type "list_iterator",data:= .fields #[.ref l,.int 0 0]}).get? b=some ob:=fun b ob e=>Heap.get?_push_of_some _ (k2 b ob (Heap.get?_push_of_some _ e))
 refine wpAny_bind (wpAny_rule (wpAny_bind (wpAny_pyIter_list (l:=l) (items:=items.toArray) ⟨o,ho2,hc,n,hdat⟩ ?_)))
 refine wpAny_pure ⟨plainId_quiet z9 _,?_⟩
 refine a3g (knd:=knd) (l:=l) (items:=items) (A:=A.in1) hh (Nat.ne_of_lt hlt) (Nat.ne_of_lt (Heap.lt_size ho2)) hl0 more 0 _ [] _ ⟨_,Heap.get?_push_size _ rfl,rfl,rfl⟩ ⟨o,Heap.get?_push_of_some _ ho2,hc,n,hdat⟩ ?_ (hd2.push _) (by simpa using hz) fun h3 tk k3 d3=>⟨rfl,h h3 tk d3 fun b ob e=>k3 b ob (Nat.ne_of_lt (Heap.lt_size e)) (Nat.ne_of_lt (Nat.lt_trans (Heap.lt_size e) hlt)) (up b ob e)⟩
 rw[List.drop_zero]
 refine Paired.imp' (fun u kv z=>?_) hp
 obtain⟨t,key,rfl,⟨ot,hot,r⟩,hk⟩:=z
 exact⟨t,key,rfl,⟨ot,up t ot hot,r⟩,hk,Nat.ne_of_lt (Heap.lt_size hot),Nat.ne_of_lt (Nat.lt_trans (Heap.lt_size hot) hlt)⟩
end
section
variable {X:Cx}
def PrV (K:PySem.W.Frag)(H:Hp)(x:V)(kv:Key×V):Prop:=∃t,x= .ref t∧SqT K H t [kV kv.1,kv.2]
def a0w (kvs:List (Key×V)):List (Key×V):=kvs.foldl (fun a x=>B8 a x.1 x.2) []
theorem KV.puts:∀{ps:List (Key×V)} {qs:List (Key×Value)} {a:List (Key×V)} {b:List (Key×Value)},KV ps qs→KV a b→KV (ps.foldl (fun a x=>B8 a x.1 x.2) a) (qs.foldl (fun a x=>stored a x.1 x.2) b)
 |_,_,_,_,.nil,h=>h
 |_::_,_::_,a,b,.cons r t,h=>by
  obtain⟨e,rv⟩:=r
  rw[List.foldl_cons,List.foldl_cons]
  refine KV.puts t ?_
  rw[←e]
  exact KV.put h _ rv
theorem Z3:∀(ps:List (Key×V)) (a:List (Key×V)),(ps.foldl (fun a x=>B8 a x.1 x.2) a).length≤a.length+ps.length
 |[],a=>Nat.le_refl _
 |p::r,a=>by
  rw[List.foldl_cons,List.length_cons]
  have z:=Z3 r (B8 a p.1 p.2)
  have z2:=O8 a p.1 p.2
  omega
theorem a9w {pins:List (Addr×Obj)}{σ:L2.St}{H:Hp}{s:Shared}(I:Inv X pins σ H s):∀{xs:List V} {kvs:List (Key×V)} {us:List Value},Paired (PrV X.K H) xs kvs→Vals xs us→∃more:List (Key×Value),KV kvs more∧Paired (fun u kv=>∃t key,u=Value.ref t∧s.heap.IsTuple t #[key,kv.2]∧(j0 X.prog X.w).is kv.1 key=true) us more
 |_,_,_,.nil,.nil=>⟨[],.nil,.nil⟩
 |_::_,kv::_,_::_,.cons r t,.cons r' t'=>by
  obtain⟨tt,rfl,sq⟩:=r
  cases r'
  obtain⟨its,v1,t1,_⟩:=I.tuple sq
  obtain⟨key,v,rfl,rk,rv⟩:=W2 v1
  obtain⟨more,h1,h2⟩:=a9w I t t'
  exact⟨(kv.1,v)::more,.cons ⟨rfl,rv⟩ h1,.cons ⟨tt,key,rfl,t1,a1J rk⟩ h2⟩
def b0c (K:PySem.W.Frag):List V→Hp→VK→Prop:=fun xs H Q=>∃(p:Addr) (ys:List V) (kvs:List (Key×V)),xs=[.ref p]∧SqL K H p ys∧Paired (PrV K H) ys kvs∧kvs.length≤sizeLine∧∀l,H l=none→Q (.ref l) (upd H l (.dK (a0w kvs)))
theorem a6l (hc:X.calm=true):CallR X (.type "dict") (b0c X.K):=by
 intro pins s σ H xs us Q I r h
 obtain⟨p,ys,kvs,rfl,hq,hp,hz,q⟩:=h
 obtain⟨u,rfl,ru⟩:=P0 r
 cases ru
 obtain⟨its,rv,pl,_⟩:=I.list hq
 obtain⟨more,kv,pr⟩:=a9w I hp rv
 obtain⟨o,n,e,c,hd,dt⟩:=pl
 have hl:more.length=kvs.length:=(KV.length kv).symm
 refine a1S (knd:=j0 X.prog X.w) (I.ok.hd hc) e c dt hd (by omega) pr fun h' tk dd k=>?_
 refine⟨.ref s.heap.objs.size,_,?_,rfl,q _ (I.hok.fresh (Nat.le_refl _))⟩
 refine I.laid (a:=s.heap.objs.size) (o:= .dK (a0w kvs)) (t':=tk) k (Nat.le_refl _) (a2S ?_ (beq_eq_false_iff_ne.mpr (Ne.symm (Nat.ne_of_lt I.big))) (KV.puts kv .nil) dd)
 have z:=Z3 kvs []
 unfold a0w
 simp only[List.length_nil] at z
 omega
def b0Q (K:PySem.W.Frag):List V→Hp→VK→Prop:=fun xs H Q=>b2A xs H Q∨b0c K xs H Q
theorem a2A (K:PySem.W.Frag)(hc:X.calm=true)(h:X.K=K:=by rfl):CallR X (.type "dict") (b0Q K):=by
 subst h
 intro pins s σ H xs us Q I r h
 rcases h with h|h
 ·exact a5G pins s σ H xs us Q I r h
 ·exact a6l hc pins s σ H xs us Q I r h
end
section
variable {K:PySem.W.Frag} {H:Hp} {Q:VK}
theorem K4 {p:Addr}{kvs:List (Key×V)}(h:Rd H p (.dK kvs))(q:∀l,H l=none→Q (.ref l) (upd H l (.dK kvs))):b0Q K [.ref p] H Q:= .inl ⟨p,kvs,rfl,h,q⟩
end
end L2
set_option Elab.async false
set_option linter.all false
set_option maxRecDepth 100000
set_option maxHeartbeats 4000000
namespace L2
open PySem PySem.Spec PyProof.Rows
section
variable {X:Cx}
end
end L2
set_option Elab.async false
set_option linter.all false
set_option maxRecDepth 100000
set_option maxHeartbeats 4000000
namespace L2
open PySem PySem.Spec PyProof.Rows
theorem ObjOk.there {P:Program}{w:World}{H:Hp}{h:Heap}{a:Addr}{o:HO}(x:ObjOk P w H h a o):∃u,h.get? a=some u:=by
 induction o with
 |lst xs=>obtain⟨_,_,_,_,e⟩:=x;exact⟨_,e⟩
 |tup xs=>obtain⟨_,_,_,o,e,_⟩:=x;exact⟨_,e⟩
 |dK kvs=>obtain⟨_,_,_,_,o,_,_,e,_⟩:=x;exact⟨_,e⟩
 |dT kvs=>obtain⟨_,_,_,_,o,_,_,e,_⟩:=x;exact⟨_,e⟩
 |set S n=>obtain⟨o,_,_,_,e,_⟩:=x;exact⟨_,e⟩
 |ins C dx fs=>obtain⟨_,_,_,e,_⟩:=x;exact⟨_,e⟩
 |own y=>exact x
 |xd fs=>obtain⟨_,⟨_,_,_,e,_⟩,_⟩:=x;exact⟨_,e⟩
 |rng lo hi=>obtain⟨_,_,_,e⟩:=x;exact⟨_,e⟩
 |frz ob u=>obtain⟨e,_⟩:=x;exact⟨_,e⟩
 |tbl ps=>exact⟨_,show h.get? a=some _ from x⟩
 |met f y=>exact⟨_,show h.get? a=some _ from x⟩
 |ext φ=>obtain⟨_,e,_⟩:=x;exact e
structure Fly (P:Program) (w:World) (outer:List Env) (H:Hp) (s:Shared) (a C:Addr) (a0:Value) (B:Heap) (H':Hp) (s':Shared):Prop where
 fl:Heap.FlyingW B outer a (.ref C) a0 s'.heap
 os:s'.os=s.os
 bare:AllBare s'.gens
 un:Un (frs outer) [] H H' s.heap s'.heap
 hok:HOk P w H' s'.heap
 kp:∀b o,s.heap.get? b=some o→H b=none→b∉frs outer→B.get? b=some o
 th:∀b o,s.heap.get? b=some o→b∉frs outer→∃o',B.get? b=some o'
 tr:∀b o,H' b=some o→∃u,B.get? b=some u
 nw:H' a=none
section
variable {X:Cx} {pins:List (Addr×Obj)} {σ:St} {H:Hp} {s s':Shared}
end
section
variable {P:Program} {w:World} {K:PySem.W.Frag} {mg:Str→Option Value} {base:Heap} {N:List Str} {qual:Str} {scope:Scope} {f:Addr} {cd:Value} {A:Around} {outer:List Env} {s0:Shared} {H0:Hp} {E:XK}
end
def bmV:List Value:=[.type "ValueError",.type "Exception",.type "BaseException",.type "object"]
structure ExC (K:PySem.W.Frag) (mg:Str→Option Value) (x:Str) (C:Addr):Prop where
 bound:mg x=some (.ref C)
 exc:PySem.W.excIn K C bmV "ValueError.__new__"=true
theorem ExC.own {K:PySem.W.Frag}{mg:Str→Option Value}{x:Str}{C:Addr}{h:Heap}(O:ExC K mg x C)(X:K.In h):OwnCls x C bmV "ValueError.__new__" mg h:=by
 have q:=O.exc
 refine⟨O.bound,?_⟩
 unfold PySem.W.excIn at q
 split at q
 ·rename_i g1 g2 g3 lk
  split at q
  ·rename_i c2 l2 i0 i1 i2 i3 nn i5 em es
   simp only[Bool.and_eq_true,beq_iff_eq,Bool.not_eq_true'] at q
   obtain⟨⟨⟨⟨⟨ea,eb⟩,q1⟩,q2⟩,q3⟩,q4⟩:=q
   subst ea
   subst eb
   obtain⟨y1,y2,y3,y4,y5,y6,y7,y8,y9,y10,y11⟩:=g2
   dsimp only at em q1 q3 q4
   subst em q1
   have e3:g3= #[i0,i1,i2,i3,some (.builtin "ValueError.__new__"),i5]:=by
    cases g3 with
    |mk l=>
     have es':l=[i0,i1,i2,i3,some (.builtin "ValueError.__new__"),i5]:=es
     rw[es']
   subst e3
   exact⟨l2,y4,y1,y5,y2,y6,y7,y8,y9,y10,g1,i0,i1,i2,i3,i5,h.nsMap y4,X _ _ lk,Heap.Ns.of_isNs (PySem.W.isNs_of_in X q3),PySem.W.nsMap_none_of_in X q3 q4,PySem.W.tail_of_in X q2⟩
  ·cases q
 ·cases q
def b2Y (C:Addr)(E:XK)(ta:TA):TS:=fun _ σ H=>ta σ H fun vs H1=>vs.length≤sizeLine∧∀e,H1 e=none→E (.ref C) (some e) H1
section
variable {X:Cx} {E:XK} {x:Str} {C:Addr} {np cpos pos:Pos} {e:Expr} {es:List Expr} {ta:TA}
def tFs (te:TE)(c:Str):TE:=fun σ H Q=>te σ H fun v H1=>∃y:Str,v= .str y∧y.length+c.length≤1000∧∀z:Str,Q (.str z) H1
end
end L2
set_option Elab.async false
set_option linter.all false
set_option maxRecDepth 100000
set_option maxHeartbeats 4000000
namespace L2
open PySem PySem.Spec PyProof.Rows
abbrev Cx.pinned (X:Cx)(pins:List (Addr×Obj)):Cx:={X with pn:=X.pn++pins}
abbrev Cx.suite (X:Cx)(e:Addr):Cx:={X with A:=X.A.mark (some (.ref e)),calm:=false,xe:=fun _ _=>False}
section
variable {X:Cx} {pins pins':List (Addr×Obj)} {Es:St→XK} {σ:St} {H:Hp} {s:Shared} {e:Addr}
def a3D (a C:Addr)(h:Heap):Prop:=∃o vs,h.get? a=some o∧o.cls= .ref C∧o.data= .fields vs
theorem a9C {P:Program}{w:World}{H:Hp}{h:Heap}{a C:Addr}(x:a3D a C h):ObjOk P w H h a (.ext (a3D a C)):=by
 obtain⟨o,vs,e,c,d⟩:=x
 refine⟨⟨o,vs,e,c,d⟩,⟨o,e⟩,fun h1 h2 ⟨o',vs',e',c',d'⟩ k=>⟨o',vs',k _ e',c',d'⟩⟩
theorem Inv.track {a C:Addr}(I:Inv X pins σ H s)(hn:H a=none)(x:a3D a C s.heap)(h0:X.s₀.heap.get? a=none)(hp:∀p∈X.pn++pins,p.1≠a):Inv X pins σ (upd H a (.ext (a3D a C))) s:=by
 obtain⟨o,vs,e,c,d⟩:=id x
 have ne0:∀b ob,X.s₀.heap.get? b=some ob→b≠a:=fun b ob z q=>by rw[q,h0] at z;cases z
 refine⟨I.ok,I.os,I.bare,⟨I.base.keep,I.base.slot,fun b ob z n hx=>?_,I.base.there,fun b xs z=>?_,fun b ob u z=>?_,fun b ps z=>?_⟩,I.loc,I.cell,?_,fun y c' z=>?_,fun p hq=>?_,fun b u z=>?_,I.len⟩
 ·rw[b5 (ne0 b ob z)];exact I.base.free b ob z n hx
 ·have z':=I.base.tups b xs z
  rw[b5 fun q=>by rw[q,hn] at z';cases z'];exact z'
 ·have z':=I.base.frzs b ob u z
  rw[b5 fun q=>by rw[q,hn] at z';cases z'];exact z'
 ·obtain⟨more,z'⟩:=I.base.tbls b ps z
  exact⟨more,by rw[b5 fun q=>by rw[q,hn] at z';cases z'];exact z'⟩
 ·obtain⟨m,⟨oL,es,ep,hL,dL,_⟩,_⟩:=I.loc
  rw[b5 fun q=>?_]
  ·exact I.free
  ·rw[q,e] at hL;cases hL;rw[d] at dL;cases dL
 ·obtain⟨v,oc,hoc,hod⟩:=I.cell y c' z
  rw[b5 fun q=>?_]
  ·exact I.freeC y c' z
  ·rw[q,e] at hoc;cases hoc;rw[d] at hod;cases hod
 ·obtain⟨p1,p2,p3,p4,p5⟩:=I.pin p hq
  exact⟨p1,by rw[b5 (hp p hq)];exact p2,p3,p4,p5⟩
 ·by_cases q:b=a
  ·subst q
   rw[d7] at z;cases z
   exact a9C x
  ·rw[b5 q] at z
   refine(I.hok b u z).stay (fun _ _ _ q=>q) (fun b' q'=>?_) fun b' xs q'=>?_
   ·rw[b5 fun k=>by rw[k,hn] at q';cases q'];exact q'
   ·rw[b5 fun k=>by rw[k,hn] at q';cases q'];exact q'
end
def b2X (sp:Sp)(dvs:List V)(Es:St→XK)(t:TA):TE:=fun σ H Q=>t σ H fun vs H1=>sp (vs++dvs) H1 Q (Es σ)
section
variable {X:Cx} {pins:List (Addr×Obj)} {Es:St→XK} {k:Nat} {ps:List Str} {dvs:List V} {sp:Sp} {x:Str} {p pos:Pos} {e:Expr} {es:List Expr} {t:TA}
end
structure ExT (K:PySem.W.Frag) (mg:Str→Option Value) (x:Str) (T:Addr):Prop where
 bound:mg x=some (.ref T)
 ty:PySem.W.typeIn K (.ref T)=some (.type "type")
 exc:PySem.W.subIn K (.ref T) (.type "BaseException")=some true
 cls:(PySem.W.clsIn K T).isSome=true
def b7B (K:PySem.W.Frag)(T:Addr)(i:Nat)(tb:(St→XK)→TS)(ts:TS):TS:=fun D σ H=>
 tb (fun σ' c oa H'=>∃C a,c= .ref C∧oa=some a∧PySem.W.subIn K (.ref C) (.ref T)=some true∧
  ts {nx:=fun σ2 H2=>D.nx (σ2.set i none) H2,rt:=D.rt,bk:=fun σ2 H2=>D.bk (σ2.set i none) H2,ct:=fun σ2 H2=>D.ct (σ2.set i none) H2} (σ'.set i (some (.ref a))) (upd H' a (.ext (a3D a C)))) D σ H
section
variable {X:Cx} {x n:Str} {T:Addr} {np hpos pos:Pos} {i:Nat} {b₀:Stmt} {body suite:List Stmt} {tb:(St→XK)→TS} {ts:TS}
end
end L2
set_option Elab.async false
set_option linter.all false
set_option maxRecDepth 100000
set_option maxHeartbeats 4000000
namespace L2
open PySem PySem.Spec PyProof.Rows PySem.W
section
variable {X:Cx}
end
section
variable {K:Frag} {σ:St} {H:Hp} {Q:VK} {D:a5R}
theorem b2u {C:Addr}{E:XK}{ta:TA}(q:ta σ H fun vs H1=>vs.length≤sizeLine∧∀e,H1 e=none→E (.ref C) (some e) H1):b2Y C E ta D σ H:=q
theorem b7o {te:TE}{c:Str}(q:te σ H fun v H1=>∃y:Str,v= .str y∧y.length+c.length≤1000∧∀z:Str,Q (.str z) H1):tFs te c σ H Q:=q
theorem b6O {T:Addr}{i:Nat}{tb:(St→XK)→TS}{ts:TS}(q:tb (fun σ' c oa H'=>∃C a,c= .ref C∧oa=some a∧PySem.W.subIn K (.ref C) (.ref T)=some true∧
  ts {nx:=fun σ2 H2=>D.nx (σ2.set i none) H2,rt:=D.rt,bk:=fun σ2 H2=>D.bk (σ2.set i none) H2,ct:=fun σ2 H2=>D.ct (σ2.set i none) H2} (σ'.set i (some (.ref a))) (upd H' a (.ext (a3D a C)))) D σ H):b7B K T i tb ts D σ H:=q
theorem b1b {sp:Sp}{dvs:List V}{Es:St→XK}{t:TA}(q:t σ H fun vs H1=>sp (vs++dvs) H1 Q (Es σ)):b2X sp dvs Es t σ H Q:=q
end
section
variable {X:Cx}
def b5K (K:Frag):R2:=fun x y H Q=>(∃a xs i,x= .ref a∧y= .int i∧SqT K H a xs∧Q (.bl true) H)∨(∃a xs i,x= .int i∧y= .ref a∧SqT K H a xs∧Q (.bl true) H)
theorem b3v (hu:X.A.units+64<cLine):OpR X (compareOp .NotEq) (b5K X.K):=by
 intro pins s σ H x y v u Q I rx ry h
 rcases h with⟨a,xs,i,rfl,rfl,ha,k⟩|⟨a,xs,i,rfl,rfl,ha,k⟩
 ·cases rx
  obtain⟨t,rfl⟩:=(show ∃t,u=Value.int i t from ry)
  obtain⟨its,r1,p1,z1⟩:=I.tuple ha
  exact SeqAt.RcNeAt.tuple_int (A:=X.A) i t (show s.heap.IsTuple a its.toArray from p1) (by omega) X.prog X.w _ _ ⟨.bl true,H,I,rfl,k⟩
 ·cases ry
  obtain⟨t,rfl⟩:=(show ∃t,v=Value.int i t from rx)
  obtain⟨its,r1,p1,z1⟩:=I.tuple ha
  exact SeqAt.RcNeAt.int_tuple (A:=X.A) i t (show s.heap.IsTuple a its.toArray from p1) (by omega) X.prog X.w _ _ ⟨.bl true,H,I,rfl,k⟩
def a8l (K:Frag):R2:=fun x y H Q=>a3M K x y H Q∨b5K K x y H Q
theorem b6T (K:Frag){k:Nat}(hr:Room k X.A)(h:X.K=K:=by rfl):OpR X (compareOp .NotEq) (a8l K):=(kNe K hr h).or (h▸b3v hr.units)
def b1E:V→List V→Hp→VK→Prop:=fun x vs H Q=>∃a kvs,x= .ref a∧vs=[]∧H a=some (.dK kvs)∧Q .non (upd H a (.dK []))
theorem a2F:MtR X "dict.clear" b1E:=by
 intro pins s σ H x vs v us Q I rx rv h
 obtain⟨a,kvs,rfl,rfl,hH,q⟩:=h
 cases rx
 have hus:=rv.zero
 subst hus
 exact b1K I hH fun s' I'=>⟨.non,_,I',rfl,q⟩
end
section
variable {K:Frag} {H:Hp} {Q:VK}
theorem b7h {x y:V}(q:a3M K x y H Q):a8l K x y H Q:= .inl q
theorem b0C {i j:Int}(q:Q (.bl (!decide (i=j))) H):a8l K (.int i) (.int j) H Q:= .inl (a5j q)
theorem b2s {i j:Bool}(q:Q (.bl (!decide (i=j))) H):a8l K (.bl i) (.bl j) H Q:= .inl (a7t q)
theorem b0g {i j:Str}(q:Q (.bl (!decide (i=j))) H):a8l K (.str i) (.str j) H Q:= .inl (a4v q)
end
end L2
set_option Elab.async false
set_option linter.all false
set_option maxRecDepth 100000
set_option maxHeartbeats 4000000
namespace L2
open PySem PySem.Spec PyProof.Rows
section
variable {X:Cx}
end
section
open PySem.Builtin PySem.Builtin.Str
theorem a5C (x:Str)(l u:Option Int):(Txt.slice x l u).length≤(strSliceIndices l u 1 x.length).length:=by
 unfold Txt.slice
 split
 ·next h=>
  have h':(strSliceIndices l u 1 x.length).length=x.length:=by simpa using h
  omega
 ·show(List.filterMap _ (strSliceIndices l u 1 x.length)).toArray.size≤_
  rw[List.size_toArray]
  exact List.length_filterMap_le _ _
theorem a5y (x:Str)(i:Int)(h0:0≤i)(h1:i≤x.length):(Txt.slice x none (some i)).length≤i.toNat:=by
 refine Nat.le_trans (a5C x none (some i)) ?_
 unfold strSliceIndices sliceRange
 simp only[show(1:Int)>0 by decide,if_true,List.length_map,List.length_range]
 repeat(first|split|omega)
theorem a2L (x:Str)(i:Int)(h0:0≤i)(h1:i≤x.length):(Txt.slice x (some i) none).length≤x.length -i.toNat:=by
 refine Nat.le_trans (a5C x (some i) none) ?_
 unfold strSliceIndices sliceRange
 simp only[show(1:Int)>0 by decide,if_true,List.length_map,List.length_range]
 repeat(first|split|omega)
end
end L2
set_option Elab.async false
set_option linter.all false
set_option maxRecDepth 100000
set_option maxHeartbeats 4000000
namespace L2
open PySem PySem.Spec PyProof.Rows
def a2k (σ:List Str)(x:Str):List Str:=if x∈σ then σ else σ++[x]
def b2b (ss:List Str):List Str:=ss.foldl a2k []
theorem b2v (σ:List Str)(x:Str):(a2k σ x).length≤σ.length+1:=by
 unfold a2k;split
 ·omega
 ·rw[List.length_append];simp
theorem a8N {σ:List Str}{x y:Str}:y∈a2k σ x↔y∈σ∨y=x:=by
 unfold a2k;split
 ·next h=>exact⟨.inl,fun z=>z.elim id fun e=>e▸h⟩
 ·simp
section
variable {prog:Program} {w:World} {A:Around} {E:Value→Shared→Prop}
def StrsAre:List Value→List Str→Prop:=Paired fun u x=>∃t,u= .str x t
theorem a5k {d it l:Addr}{items:List Value}(hh:A.handled=none)(hdi:d≠it)(hli:l≠it)(hld:l≠d):
  ∀(more:List Str) (i:Nat) (s:Shared) (σ:List Str) (R:Result→Shared→Prop),
   s.heap.IsListIter it l i→s.heap.IsList l items.toArray→StrsAre (items.drop i) more→s.heap.SetOf (strKind prog w) d (fun k=>decide (k∈σ)) σ.length→σ.length+more.length<2000→
   (∀h' tk,(∀b o,b≠d→b≠it→s.heap.get? b=some o→h'.get? b=some o)→h'.SetOf (strKind prog w) d (fun k=>decide (k∈more.foldl a2k σ)) (more.foldl a2k σ).length→R (.ok (.ret .none)) {s with heap:=h',toks:=tk})→
   codeAny (model prog w) A (.builtin "set.update.loop" ⟨[.ref d,.ref it],[]⟩) R s
 |[],i,s,σ,R,hit,hl,hp,hd,hz,hR=>by
  have hx:items.toArray[i]?=none:=by
   have hn:items.drop i=[]:=by cases hp':items.drop i with
    |nil=>rfl
    |cons x r=>rw[hp'] at hp;cases hp
   have:=List.drop_eq_nil_iff.mp hn
   simp;omega
  refine codeAny_builtin F.entry_set_update_loop ?_
  rw[Around.under_plainId F.plain_set_update_loop _]
  show wpAny _ A.in1 (pyNext (.ref it)>>=_) _ _ s
  refine wpAny_bind (wpAny_pyNext_list_end (A:=A.in1) hh hit hl hx fun h' eb=>?_)
  show wpAny _ A.in1 (ret Value.none) _ _ _
  refine wpAny_pure (hR h' s.toks (fun b o h1 h2 e=>eb b o h2 e) ?_)
  obtain⟨o,es,ep,t,ho,r⟩:=hd
  exact⟨o,es,ep,t,eb d o hdi ho,r⟩
 |x::more,i,s,σ,R,hit,hl,hp,hd,hz,hR=>by
  obtain⟨u,hx,⟨t,rfl⟩,hp1⟩:∃u,items.toArray[i]?=some u∧(∃t,u=Value.str x t)∧StrsAre (items.drop (i+1)) more:=by
   cases hp':items.drop i with
   |nil=>rw[hp'] at hp;cases hp
   |cons u r=>
    rw[hp'] at hp
    cases hp with
    |cons h1 h2=>
     refine⟨u,?_,h1,?_⟩
     ·have z:=congrArg List.head? hp'
      simpa using z
     ·have z:=congrArg List.tail hp'
      rw[List.tail_drop] at z
      rw[z];exact h2
  simp only[List.length_cons] at hz
  refine codeAny_builtin F.entry_set_update_loop ?_
  rw[Around.under_plainId F.plain_set_update_loop _]
  show wpAny _ A.in1 (pyNext (.ref it)>>=_) _ _ s
  refine wpAny_bind (wpAny_pyNext_list_item hit hl hx fun h' hit' hs'=>?_)
  have hd':h'.SetOf (strKind prog w) d (fun k=>decide (k∈σ)) σ.length:=by
   obtain⟨o,es,ep,tb,ho,r⟩:=hd
   exact⟨o,es,ep,tb,hs'.extBut d o hdi ho,r⟩
  refine wpAny_bind (wpAny_holding ?_)
  unfold setAdd
  refine wpAny_holding (wpAny_bind ((strKind prog w).pyHash (k:=x) (strKind_is _ _ _ _) ?_))
  refine wpAny_setAddHashed_of (knd:=strKind prog w) (s:={s with heap:=h',toks:=s.toks+1}) (strKind_is _ _ _ _) rfl hd' (by unfold scanBound;omega) fun h'' hs'' hS2=>?_
  have hS3:h''.SetOf (strKind prog w) d (fun k=>decide (k∈a2k σ x)) (a2k σ x).length:=by
   refine SetOf_congr hS2 (fun k=>?_) ?_
   ·rw[Bool.eq_iff_iff]
    simp [a8N]
   ·unfold a2k
    by_cases h:x∈σ
    ·rw[if_pos (by simpa using h),if_pos h]
    ·rw[if_neg (by simpa using h),if_neg h,List.length_append];rfl
  have kp:∀b o,b≠d→b≠it→s.heap.get? b=some o→h''.get? b=some o:=fun b o hb1 hb2 e=>(hs''.2 b hb1).trans (hs'.extBut b o hb2 e)
  have hle:=b2v σ x
  refine wpAny_pure ⟨plainId_quiet F.plain_set_update_loop _,?_⟩
  refine a5k hh hdi hli hld more (i+1) _ (a2k σ x) R ?_ ?_ hp1 hS3 (by omega) (fun h3 tk k3 d3=>hR h3 tk (fun b o e1 e2 e=>k3 b o e1 e2 (kp b o e1 e2 e)) d3)
  ·exact hit'.at fun o e=>(hs''.2 it (Ne.symm hdi)).trans e
  ·obtain⟨ol,hol,r⟩:=hl
   exact⟨ol,kp l ol hld hli hol,r⟩
end
section
variable {prog:Program} {w:World} {A:Around} {E:Value→Shared→Prop}
set_option maxHeartbeats 3200000 in
theorem b0V {l:Addr}{items:List Value}{o:Obj}{n:Nat}{ss:List Str}{s:Shared}{Q:Value→Shared→Prop}(hh:A.handled=none)(ho:s.heap.get? l=some o)(hc:o.cls= .type "list")(hdat:o.data= .seq items.toArray n)(hz:ss.length<1000)(hp:StrsAre items ss)
  (h:∀h' tk,h'.SetOf (strKind prog w) s.heap.objs.size (fun k=>decide (k∈b2b ss)) (b2b ss).length→(∀b o,s.heap.get? b=some o→h'.get? b=some o)→Q (.ref s.heap.objs.size) {s with heap:=h',toks:=tk}):
  wpAny (model prog w) A (call (.type "set") [.ref l]) Q E s:=by
 obtain⟨c1,c2,c3⟩:=F.called_set.mro
 have c4:=F.called_set.made;have c5:=F.called_set.sub;have c6:=F.called_set.notType;have c7:=F.called_set.canCreate;have c8:=F.typeCall_set_1 (.ref l)
 refine wpAny_call (codeAny_of_tree (show wpAny _ _ (callAny (.type "set") _) _ _ _ from wpAny_pure ⟨Code.quiet_builtin _ (by decide+kernel),codeAny_builtin F.entry_type_call ?_⟩))
 rw[Around.under_plain (weight_type_call_type "set" [Value.ref l] []) rfl]
 repeat(any_goals first|assumption|wp_step)
 refine codeAny_mono (code_set_new_1 (E:=E) (.ref l) (Q₁:=fun ob st=>∃led:Bool,ob= .ref s.heap.objs.size∧st={s with heap:=s.heap.push {cls:= .type "set",dict:=none,data:= .set #[] 0 (.fresh 0 0 led)}}) fun led=>⟨led,rfl,rfl⟩) fun r1 st1 hr1=>?_
 match r1,hr1 with
 | .error _,hr1=>exact hr1
 | .ok .next,hr1=>exact hr1.elim
 | .ok .brk,hr1=>exact hr1.elim
 | .ok .cont,hr1=>exact hr1.elim
 | .ok (.ret ob),hr1=>
  obtain⟨led,rfl,rfl⟩:=hr1
  have hS0:(s.heap.push {cls:= .type "set",dict:=none,data:= .set #[] 0 (.fresh 0 0 led)}).get? s.heap.objs.size=some {cls:= .type "set",dict:=none,data:= .set #[] 0 (.fresh 0 0 led)}:=Heap.get?_push_size _ rfl
  have ho1:(s.heap.push {cls:= .type "set",dict:=none,data:= .set #[] 0 (.fresh 0 0 led)}).get? l=some o:=Heap.get?_push_of_some _ ho
  have hl0:l≠s.heap.objs.size:=Nat.ne_of_lt (Heap.lt_size ho)
  generalize hP:s.heap.push {cls:= .type "set",dict:=none,data:= .set #[] 0 (.fresh 0 0 led)}=hp1 at hS0 ho1
  have c9:Shared.TypeIs {s with heap:=hp1} (.ref s.heap.objs.size) "set":=⟨_,hS0,rfl⟩
  have c10:=F.called_set.init.lookup;have c11:=F.called_set.init.bind (.ref s.heap.objs.size)
  repeat(any_goals first|assumption|wp_step)
  refine codeAny_mono (codeAny_call_builtin (R:=wants (fun r st=>r= .none∧∃h2 tk2,st={s with heap:=h2,toks:=tk2}∧h2.SetOf (strKind prog w) s.heap.objs.size (fun k=>decide (k∈b2b ss)) (b2b ss).length∧(∀b o,s.heap.get? b=some o→h2.get? b=some o)) E) F.called_set.init.plain F.entry_set_init (check_set_init_1 c9 ?_)) fun r2 st2 hr2=>?_
  ·obtain⟨k1,k2,k3,k4⟩:=o
   dsimp only at hc hdat
   subst hc hdat
   have d1:=F.sub_list_set;have d2:=F.sub_list_frozenset;have d3:(Value.type "list"==Value.type "dict")=false:=by decide
   have hl1:hp1.IsList l items.toArray:=⟨_,ho1,rfl,n,rfl⟩
   unfold Builtin.«set.__init__» noKeywords Builtin.Frozenset.updateFrom
   generalize hPI:pyIter=PI
   wp_walk
   subst hPI
   refine wpAny_pyIter_list hl1 (wpAny_bind (wpAny_runValue ?_))
   have hsz:s.heap.objs.size<hp1.objs.size:=Heap.lt_size hS0
   refine a5k (l:=l) (items:=items) (A:=A.in1.in1) (by simpa using hh) (Nat.ne_of_lt hsz) (Nat.ne_of_lt (Heap.lt_size ho1)) hl0 ss 0 _ [] _ ⟨_,Heap.get?_push_size _ rfl,rfl,rfl⟩ (hl1.push _) (by rw[List.drop_zero];exact hp) ?_ (by simpa using(show ss.length<2000 by omega)) fun h3 tk3 k3' d3'=>?_
   ·have hg:(hp1.push {cls:= .type "list_iterator",data:= .fields #[.ref l,.int 0 0]}).get? s.heap.objs.size=some {cls:= .type "set",dict:=none,data:= .set #[] 0 (.fresh 0 0 led)}:=Heap.get?_push_of_some _ hS0
    exact SetOf_congr ((setObjOf_fresh (knd:=strKind prog w) led).setOf hg (by unfold scanBound;omega)) (fun _=>by simp) rfl
   ·show wpAny _ _ _ _ _ _
    refine wpAny_pure (show wpAny _ _ (ret Value.none) _ _ _ from wpAny_pure ⟨rfl,h3,tk3,rfl,d3',fun b ob e=>?_⟩)
    have e1:hp1.get? b=some ob:=by rw[←hP];exact Heap.get?_push_of_some _ e
    exact k3' b ob (Nat.ne_of_lt (Heap.lt_size e)) (Nat.ne_of_lt (Heap.lt_size e1)) (Heap.get?_push_of_some _ e1)
  ·match r2,hr2 with
   | .error _,hr2=>exact hr2
   | .ok .next,hr2=>exact hr2.elim
   | .ok .brk,hr2=>exact hr2.elim
   | .ok .cont,hr2=>exact hr2.elim
   | .ok (.ret r),hr2=>
    obtain⟨rfl,h2,tk2,rfl,hS2,hk2⟩:=hr2
    repeat(any_goals first|assumption|wp_step)
    exact h _ _ hS2 hk2
end
def b4C (a:Addr)(n:Nat)(h:Heap):Prop:=∃o es ep t,h.get? a=some o∧o.ExactSet∧o.data= .set es ep t∧t.fits es.size=true∧es.size=n
section
variable {X:Cx}
def b2D (K:PySem.W.Frag):List V→Hp→VK→Prop:=fun xs H Q=>a8y K xs H Q∨∃p n,xs=[V.ref p]∧H p=some (.ext (b4C p n))∧n≤1000∧Q (.int n) H
theorem call_lenS:CallR X (.builtin "len") (b2D X.K):=by
 refine call_lenX.or ?_
 intro pins s σ H xs us Q I r h
 obtain⟨p,n,rfl,hp,hn,q⟩:=h
 obtain⟨u,rfl,ru⟩:=P0 r
 cases ru
 obtain⟨o,es,ep,t,h1,h2,h3,h4,h5⟩:=(I.hok p _ hp).1
 exact call_len_set h1 h2 h3 h4 (by omega) ⟨.int n,H,I.tok _,⟨_,by rw[h5]⟩,q⟩
end
end L2
set_option Elab.async false
set_option linter.all false
set_option maxRecDepth 100000
set_option maxHeartbeats 4000000
namespace L2
open PySem PySem.Spec PyProof.Rows
open PySem.AutoSeq1 (wpAny_loadPart')
open PySem.MeetsSeq PySem.MeetsSeq2 PySem.MeetsSeq3
theorem a0q:plainId "list.__eq__.loop"=true:=plain_eq_loop
section
variable {P:Program} {w:World}
theorem a2N (l m:Addr)(xs ys:Array Value)(n1 n2:Nat)(d1 d2:Option Addr)(s1 s2:Array (Option Value))(hz:xs.size=ys.size)(f:Nat→Bool)(md:Int)(hmd:md=2∨md=3):∀(k i:Nat),xs.size -i=k→
  MeetsIn P w (Builtin.«list.__eq__.loop» ⟨[.ref l,.ref m,rawInt i,rawInt md],[]⟩) (fun A R s=>
   s.heap.get? l=some {cls:= .type "list",dict:=d1,data:= .seq xs n1,slots:=s1}∧s.heap.get? m=some {cls:= .type "list",dict:=d2,data:= .seq ys n2,slots:=s2}∧
   (∀j (g1:j<xs.size) (g2:j<ys.size),EqP P w A.in1 s xs[j] ys[j] (f j))∧
   R (.ok (.ret (.bool (if md=2 then((List.range xs.size).drop i).all f else !((List.range xs.size).drop i).all f)))) s)
 |0,i,hk=>by
  intro A R s hyp
  obtain⟨hp,gg,dr,tk,os⟩:=s
  obtain⟨e1,e2,he,fin⟩:=hyp
  have x1:xs[((i:Nat):Int).toNat]?=none:=by simp;omega
  have x2:ys[((i:Nat):Int).toNat]?=none:=by simp;omega
  have x3:(List.range xs.size).drop i=[]:=by simp;omega
  rw[x3] at fin
  rcases hmd with rfl|rfl
  ·wp_walk using wpAny_loadPart' e1,wpAny_loadPart' e2
   rw[x1,x2]
   wp_walk using wpAny_loadPart' e1,wpAny_loadPart' e2
   show R (.ok (.ret (.bool (xs.size==ys.size)))) _
   rw[hz];simpa using fin
  ·wp_walk using wpAny_loadPart' e1,wpAny_loadPart' e2
   rw[x1,x2]
   wp_walk using wpAny_loadPart' e1,wpAny_loadPart' e2
   show R (.ok (.ret (.bool (xs.size !=ys.size)))) _
   rw[hz];simpa using fin
 |k+1,i,hk=>by
  intro A R s hyp
  have ih:=a2N l m xs ys n1 n2 d1 d2 s1 s2 hz f md hmd k (i+1) (by omega)
  obtain⟨hp,gg,dr,tk,os⟩:=s
  obtain⟨e1,e2,he,fin⟩:=hyp
  have l1:i<xs.size:=by omega
  have l2:i<ys.size:=by omega
  have x1:xs[((i:Nat):Int).toNat]?=some xs[i]:=by simp [l1]
  have x2:ys[((i:Nat):Int).toNat]?=some ys[i]:=by simp [l2]
  have x3:(List.range xs.size).drop i=i::(List.range xs.size).drop (i+1):=by simp [List.drop_eq_getElem_cons,l1]
  have x4:((i:Int)+1)=((i+1:Nat):Int):=by push_cast;rfl
  rw[x3,List.all_cons] at fin
  rcases hmd with rfl|rfl
  ·wp_walk using wpAny_loadPart' e1,wpAny_loadPart' e2
   rw[x1,x2]
   refine wpAny_bind (he i l1 l2 _ _ ?_)
   cases hf:f i with
   |true=>
    rw[hf] at fin
    wp_walk
    rw[x4]
    refine⟨plainId_quiet a0q _,codeAny_builtin entry_eq_loop ?_⟩
    rw[Around.under_plainId a0q _]
    exact ih A R _ ⟨e1,e2,he,by simpa using fin⟩
   |false=>
    rw[hf] at fin
    wp_walk using wpAny_loadPart' e1,wpAny_loadPart' e2
    rw[x1,x2]
    wp_walk
    simpa using fin
  ·wp_walk using wpAny_loadPart' e1,wpAny_loadPart' e2
   rw[x1,x2]
   refine wpAny_bind (he i l1 l2 _ _ ?_)
   cases hf:f i with
   |true=>
    rw[hf] at fin
    wp_walk
    rw[x4]
    refine⟨plainId_quiet a0q _,codeAny_builtin entry_eq_loop ?_⟩
    rw[Around.under_plainId a0q _]
    exact ih A R _ ⟨e1,e2,he,by simpa using fin⟩
   |false=>
    rw[hf] at fin
    wp_walk using wpAny_loadPart' e1,wpAny_loadPart' e2
    rw[x1,x2]
    wp_walk
    simpa using fin
theorem b4P (l m:Addr)(xs ys:Array Value)(n1 n2:Nat)(d1 d2:Option Addr)(s1 s2:Array (Option Value))(hz:xs.size=ys.size)(f:Nat→Bool):
  MeetsIn P w (Builtin.«list.__eq__» ⟨[.ref l,.ref m],[]⟩) (fun A R s=>
   s.heap.get? l=some {cls:= .type "list",dict:=d1,data:= .seq xs n1,slots:=s1}∧s.heap.get? m=some {cls:= .type "list",dict:=d2,data:= .seq ys n2,slots:=s2}∧
   (∀j (g1:j<xs.size) (g2:j<ys.size),EqP P w A.in1 s xs[j] ys[j] (f j))∧R (.ok (.ret (.bool ((List.range xs.size).all f)))) s):=by
 intro A R s hyp
 obtain⟨hp,gg,dr,tk,os⟩:=s
 obtain⟨e1,e2,he,fin⟩:=hyp
 have q1:=AutoSeq1.sub_list_list;have q2:¬(xs.size !=ys.size)=true:=by simp [hz]
 wp_walk using wpAny_loadPart' e1,wpAny_loadPart' e2
 refine⟨plainId_quiet a0q _,codeAny_builtin entry_eq_loop ?_⟩
 rw[Around.under_plainId a0q _]
 exact a2N l m xs ys n1 n2 d1 d2 s1 s2 hz f 2 (.inl rfl) _ 0 rfl A R _ ⟨e1,e2,he,by simpa using fin⟩
theorem b3t (l m:Addr)(xs ys:Array Value)(n1 n2:Nat)(d1 d2:Option Addr)(s1 s2:Array (Option Value))(hz:xs.size=ys.size)(f:Nat→Bool):
  MeetsIn P w (Builtin.«list.__ne__» ⟨[.ref l,.ref m],[]⟩) (fun A R s=>
   s.heap.get? l=some {cls:= .type "list",dict:=d1,data:= .seq xs n1,slots:=s1}∧s.heap.get? m=some {cls:= .type "list",dict:=d2,data:= .seq ys n2,slots:=s2}∧
   (∀j (g1:j<xs.size) (g2:j<ys.size),EqP P w A.in1 s xs[j] ys[j] (f j))∧R (.ok (.ret (.bool (!(List.range xs.size).all f)))) s):=by
 intro A R s hyp
 obtain⟨hp,gg,dr,tk,os⟩:=s
 obtain⟨e1,e2,he,fin⟩:=hyp
 have q1:=AutoSeq1.sub_list_list;have q2:¬(xs.size !=ys.size)=true:=by simp [hz]
 wp_walk using wpAny_loadPart' e1,wpAny_loadPart' e2
 refine⟨plainId_quiet a0q _,codeAny_builtin entry_eq_loop ?_⟩
 rw[Around.under_plainId a0q _]
 exact a2N l m xs ys n1 n2 d1 d2 s1 s2 hz f 3 (.inr rfl) _ 0 rfl A R _ ⟨e1,e2,he,by simpa using fin⟩
theorem RcP.lst {A:Around}{s:Shared}{l m:Addr}{xs ys:Array Value}{f:Nat→Bool}(hl:s.heap.IsList l xs)(hm:s.heap.IsList m ys)(hz:xs.size=ys.size)(hu:A.units<cLine)
  (he:∀j (g1:j<xs.size) (g2:j<ys.size),EqP P w A.in1 s xs[j] ys[j] (f j)):RcP P w A s (.ref l) (.ref m) ((List.range xs.size).all f):=fun E Q q=>by
 obtain⟨⟨c1,d1,a1,s1⟩,o1,k1,n1,t1⟩:=id hl
 obtain⟨⟨c2,d2,a2,s2⟩,o2,k2,n2,t2⟩:=id hm
 simp only at k1 t1 k2 t2
 subst k1 t1 k2 t2
 refine wpAny_richCompare_same_room (op:= .Eq) ⟨_,o1,rfl⟩ ⟨_,o2,rfl⟩ PySem.F.slot_list_eq (call_meetsIn PySem.F.slot_list_eq ⟨_,o1,rfl⟩ PySem.F.entry_list_eq (PySem.F.args_list_eq_2 _ _) (b4P l m xs ys n1 n2 d1 d2 s1 s2 hz f) ⟨o1,o2,he,?_⟩) hu
 exact⟨(fun z=>nomatch z),q⟩
theorem NcP.lst {A:Around}{s:Shared}{l m:Addr}{xs ys:Array Value}{f:Nat→Bool}(hl:s.heap.IsList l xs)(hm:s.heap.IsList m ys)(hz:xs.size=ys.size)(hu:A.units<cLine)
  (he:∀j (g1:j<xs.size) (g2:j<ys.size),EqP P w A.in1 s xs[j] ys[j] (f j)):NcP P w A s (.ref l) (.ref m) (!(List.range xs.size).all f):=fun E Q q=>by
 obtain⟨⟨c1,d1,a1,s1⟩,o1,k1,n1,t1⟩:=id hl
 obtain⟨⟨c2,d2,a2,s2⟩,o2,k2,n2,t2⟩:=id hm
 simp only at k1 t1 k2 t2
 subst k1 t1 k2 t2
 refine wpAny_richCompare_same_room (op:= .NotEq) ⟨_,o1,rfl⟩ ⟨_,o2,rfl⟩ PySem.F.slot_list_ne (call_meetsIn PySem.F.slot_list_ne ⟨_,o1,rfl⟩ PySem.F.entry_list_ne (PySem.F.args_list_ne_2 _ _) (b3t l m xs ys n1 n2 d1 d2 s1 s2 hz f) ⟨o1,o2,he,?_⟩) hu
 exact⟨(fun z=>nomatch z),q⟩
end
def EqN (K:PySem.W.Frag)(H:Hp):Nat→V→V→Bool→Prop
 |0,x,y,b=>Eq1 K H x y b∨∃a c,x= .ref a∧y= .ref c∧EqD K H a c b
 |n+1,x,y,b=>EqN K H n x y b∨∃(a c:Addr) (xs ys:List V) (bs:List Bool),x= .ref a∧y= .ref c∧a≠c∧((SqT K H a xs∧SqT K H c ys)∨(SqL K H a xs∧SqL K H c ys))∧xs.length=ys.length∧bs.length=xs.length∧
   (∀(j:Nat) (x' y':V) (b':Bool),xs[j]?=some x'→ys[j]?=some y'→bs[j]?=some b'→EqN K H n x' y' b')∧b=bs.all id
theorem D4:∀(bs:List Bool),(List.range bs.length).all (fun j=>bs.getD j true)=bs.all id
 |[]=>rfl
 |b::r=>by
  rw[List.length_cons,List.range_succ_eq_map,List.all_cons,List.all_map]
  show(b&&(List.range r.length).all fun j=>r.getD j true)=(b&&r.all id)
  rw[D4 r]
section
variable {X:Cx} {pins:List (Addr×Obj)} {σ:St} {H:Hp} {s:Shared}
theorem a1A {n:Nat}{xs ys:List V}{bs:List Bool}{us vs:List Value}{A:Around}(r1:Vals xs us)(r2:Vals ys vs)(hl:xs.length=ys.length)(hb:bs.length=xs.length)
  (he:∀(j:Nat) (x' y':V) (b':Bool),xs[j]?=some x'→ys[j]?=some y'→bs[j]?=some b'→EqN X.K H n x' y' b')
  (at_:∀{x y:V} {u v:Value} {b:Bool},EqN X.K H n x y b→RelV x u→RelV y v→EqP X.prog X.w A.in1 s u v b):
  ∀j (g1:j<us.toArray.size) (g2:j<vs.toArray.size),EqP X.prog X.w A.in1 s us.toArray[j] vs.toArray[j] (bs.getD j true):=fun j g1 g2=>by
 have l1:=r1.length
 have l2:=r2.length
 have g1':j<us.length:=by simpa using g1
 have g2':j<vs.length:=by simpa using g2
 have x1:xs[j]?=some (xs[j]'(by omega)):=List.getElem?_eq_getElem _
 have y1:ys[j]?=some (ys[j]'(by omega)):=List.getElem?_eq_getElem _
 have b1:bs[j]?=some (bs[j]'(by omega)):=List.getElem?_eq_getElem _
 obtain⟨u1,hu1,ru1⟩:=r1.get x1
 obtain⟨u2,hu2,ru2⟩:=r2.get y1
 have e1:us.toArray[j]=u1:=by
  have:=List.getElem?_eq_getElem g1'
  rw[hu1] at this
  simpa using(Option.some.inj this).symm
 have e2:vs.toArray[j]=u2:=by
  have:=List.getElem?_eq_getElem g2'
  rw[hu2] at this
  simpa using(Option.some.inj this).symm
 rw[e1,e2,List.getD_eq_getElem?_getD,b1]
 exact at_ (he j _ _ _ x1 y1 b1) ru1 ru2
theorem EqN.at_ (I:Inv X pins σ H s):∀{n:Nat} {A:Around} {x y:V} {u v:Value} {b:Bool},EqN X.K H n x y b→RelV x u→RelV y v→A.units+32+n<cLine→EqP X.prog X.w A s u v b
 |0,A,x,y,u,v,b,h,rx,ry,hu=>by
  rcases h with h|⟨a,c,rfl,rfl,h⟩
  ·exact .of (h.at_ I rx ry (by omega))
  ·cases rx
   cases ry
   exact h.at_ I (by omega)
 |n+1,A,x,y,u,v,b,h,rx,ry,hu=>by
  rcases h with h|⟨a,c,xs,ys,bs,rfl,rfl,hne,hh,hl,hb,he,rfl⟩
  ·exact EqN.at_ I h rx ry (by omega)
  ·cases rx
   cases ry
   have hin:A.in1.units=A.units+1:=rfl
   rcases hh with⟨h1,h2⟩|⟨h1,h2⟩
   ·obtain⟨us,r1,p1,z1⟩:=I.tuple h1
    obtain⟨vs,r2,p2,z2⟩:=I.tuple h2
    have l1:=r1.length
    have l2:=r2.length
    have q:=RcP.tup (P:=X.prog) (w:=X.w) (A:=A) (f:=fun j=>bs.getD j true) (show s.heap.IsTuple a us.toArray from p1) (show s.heap.IsTuple c vs.toArray from p2) (by omega) (a1A r1 r2 hl hb he fun z q1 q2=>EqN.at_ I z q1 q2 (by omega))
    have e3:min us.toArray.size vs.toArray.size=bs.length:=by simp;omega
    have e4:(us.toArray.size==vs.toArray.size)=true:=by simp;omega
    rw[e3,e4,D4,Bool.and_true] at q
    exact .refs hne q
   ·obtain⟨us,r1,p1,z1⟩:=I.list h1
    obtain⟨vs,r2,p2,z2⟩:=I.list h2
    have l1:=r1.length
    have l2:=r2.length
    have q:=RcP.lst (P:=X.prog) (w:=X.w) (A:=A) (f:=fun j=>bs.getD j true) p1.isList p2.isList (by simp;omega) (by omega) (a1A r1 r2 hl hb he fun z q1 q2=>EqN.at_ I z q1 q2 (by omega))
    have e3:us.toArray.size=bs.length:=by simp;omega
    rw[e3,D4] at q
    exact .refs hne q
end
def SqN (K:PySem.W.Frag)(H:Hp)(x y:V)(bs:List Bool):Prop:=∃(a c:Addr) (xs ys:List V),x= .ref a∧y= .ref c∧((SqT K H a xs∧SqT K H c ys)∨(SqL K H a xs∧SqL K H c ys))∧xs.length=ys.length∧bs.length=xs.length∧
 ∀(j:Nat) (x' y':V) (b':Bool),xs[j]?=some x'→ys[j]?=some y'→bs[j]?=some b'→EqN K H 8 x' y' b'
section
variable {X:Cx}
def b6B (K:PySem.W.Frag):R2:=fun x y H Q=>∃bs,SqN K H x y bs∧Q (.bl (bs.all id)) H
def b6w (K:PySem.W.Frag):R2:=fun x y H Q=>∃bs,SqN K H x y bs∧Q (.bl (!bs.all id)) H
theorem b3d (hu:X.A.units+64<cLine):OpR X (compareOp .Eq) (b6B X.K):=by
 intro pins s σ H x y v u Q I rx ry h
 obtain⟨bs,⟨a,c,xs,ys,rfl,rfl,hh,hl,hb,he⟩,k⟩:=h
 cases rx
 cases ry
 have hin:X.A.in1.units=X.A.units+1:=rfl
 rcases hh with⟨h1,h2⟩|⟨h1,h2⟩
 ·obtain⟨us,r1,p1,z1⟩:=I.tuple h1
  obtain⟨vs,r2,p2,z2⟩:=I.tuple h2
  have l1:=r1.length
  have l2:=r2.length
  have q:=RcP.tup (P:=X.prog) (w:=X.w) (A:=X.A) (f:=fun j=>bs.getD j true) (show s.heap.IsTuple a us.toArray from p1) (show s.heap.IsTuple c vs.toArray from p2) (by omega) (a1A r1 r2 hl hb he fun z q1 q2=>EqN.at_ I z q1 q2 (by omega))
  have e3:min us.toArray.size vs.toArray.size=bs.length:=by simp;omega
  have e4:(us.toArray.size==vs.toArray.size)=true:=by simp;omega
  rw[e3,e4,D4,Bool.and_true] at q
  exact q _ _ ⟨.bl _,H,I,rfl,k⟩
 ·obtain⟨us,r1,p1,z1⟩:=I.list h1
  obtain⟨vs,r2,p2,z2⟩:=I.list h2
  have l1:=r1.length
  have l2:=r2.length
  have q:=RcP.lst (P:=X.prog) (w:=X.w) (A:=X.A) (f:=fun j=>bs.getD j true) p1.isList p2.isList (by simp;omega) (by omega) (a1A r1 r2 hl hb he fun z q1 q2=>EqN.at_ I z q1 q2 (by omega))
  have e3:us.toArray.size=bs.length:=by simp;omega
  rw[e3,D4] at q
  exact q _ _ ⟨.bl _,H,I,rfl,k⟩
theorem b4z (hu:X.A.units+64<cLine):OpR X (compareOp .NotEq) (b6w X.K):=by
 intro pins s σ H x y v u Q I rx ry h
 obtain⟨bs,⟨a,c,xs,ys,rfl,rfl,hh,hl,hb,he⟩,k⟩:=h
 cases rx
 cases ry
 have hin:X.A.in1.units=X.A.units+1:=rfl
 rcases hh with⟨h1,h2⟩|⟨h1,h2⟩
 ·obtain⟨us,r1,p1,z1⟩:=I.tuple h1
  obtain⟨vs,r2,p2,z2⟩:=I.tuple h2
  have l1:=r1.length
  have l2:=r2.length
  have q:=NcP.tup (P:=X.prog) (w:=X.w) (A:=X.A) (f:=fun j=>bs.getD j true) (show s.heap.IsTuple a us.toArray from p1) (show s.heap.IsTuple c vs.toArray from p2) (by omega) (a1A r1 r2 hl hb he fun z q1 q2=>EqN.at_ I z q1 q2 (by omega))
  have e3:min us.toArray.size vs.toArray.size=bs.length:=by simp;omega
  have e4:(us.toArray.size==vs.toArray.size)=true:=by simp;omega
  rw[e3,e4,D4,Bool.and_true] at q
  exact q _ _ ⟨.bl _,H,I,rfl,k⟩
 ·obtain⟨us,r1,p1,z1⟩:=I.list h1
  obtain⟨vs,r2,p2,z2⟩:=I.list h2
  have l1:=r1.length
  have l2:=r2.length
  have q:=NcP.lst (P:=X.prog) (w:=X.w) (A:=X.A) (f:=fun j=>bs.getD j true) p1.isList p2.isList (by simp;omega) (by omega) (a1A r1 r2 hl hb he fun z q1 q2=>EqN.at_ I z q1 q2 (by omega))
  have e3:us.toArray.size=bs.length:=by simp;omega
  rw[e3,D4] at q
  exact q _ _ ⟨.bl _,H,I,rfl,k⟩
def a2e (K:PySem.W.Frag):R2:=fun x y H Q=>a8l K x y H Q∨b6w K x y H Q
theorem a3C (K:PySem.W.Frag){k:Nat}(hr:Room k X.A)(h:X.K=K:=by rfl):OpR X (compareOp .NotEq) (a2e K):=(b6T K hr h).or (h▸b4z hr.units)
def a1G (K:PySem.W.Frag):R2:=fun x y H Q=>b1A K x y H Q∨b6B K x y H Q
theorem Q8 (K:PySem.W.Frag){k:Nat}(hr:Room k X.A)(h:X.K=K:=by rfl):OpR X (compareOp .Eq) (a1G K):=(b7D K hr h).or (h▸b3d hr.units)
end
end L2
set_option Elab.async false
set_option linter.all false
set_option maxRecDepth 100000
set_option maxHeartbeats 4000000
namespace L2
open PySem PySem.Spec PyProof.Rows
def a4o (v d:Addr)(h:Heap):Prop:=h.IsValuesView v d
theorem b2e {P:Program}{w:World}{H:Hp}{h:Heap}{v d:Addr}(x:a4o v d h):ObjOk P w H h v (.ext (a4o v d)):=by
 obtain⟨o,e,r⟩:=x
 exact⟨⟨o,e,r⟩,⟨o,e⟩,fun h1 h2 ⟨o',e',r'⟩ k=>⟨o',k _ e',r'⟩⟩
section
variable {X:Cx}
def b1c:V→List V→Hp→VK→Prop:=fun x vs H Q=>∃d kvs,x= .ref d∧vs=[]∧Rd H d (.dK kvs)∧∀v,H v=none→Q (.ref v) (upd H v (.ext (a4o v d)))
theorem P5:MtR X "dict.values" b1c:=by
 intro pins s σ H x vs v us Q I rx rv h
 obtain⟨d,kvs,rfl,rfl,hd,q⟩:=h
 cases rx
 have hus:=rv.zero
 subst hus
 obtain⟨z,hs,ws,rel,dd⟩:=L6 I.hok hd
 refine call_meetsIn PySem.F.slot_dict_values dd.typeIs PySem.F.entry_dict_values (PySem.F.args_dict_values_1 _) (meets_dict_values (j0 X.prog X.w) d hs) ⟨⟨ws,dd⟩,?_⟩
 refine⟨.ref s.heap.objs.size,_,?_,rfl,q _ (I.hok.fresh (Nat.le_refl _))⟩
 exact I.laid (a:=s.heap.objs.size) (t':=s.toks) (fun b u e=>Heap.get?_push_of_some _ e) (Nat.le_refl _) (b2e ⟨_,Heap.get?_push_size _ rfl,rfl,rfl⟩)
def a6e (K:PySem.W.Frag):List V→Hp→VK→Prop:=fun xs H Q=>b2I K xs H Q∨∃(v d:Addr) (kvs:List (Key×V)),xs=[.ref v]∧H v=some (.ext (a4o v d))∧Rd H d (.dK kvs)∧∀l,H l=none→Q (.ref l) (upd H l (.lst (kvs.map (·.2))))
theorem a6h (hc:X.calm=true):CallR X (.type "list") (a6e X.K):=by
 refine(a6u hc).or ?_
 intro pins s σ H xs us Q I r h
 obtain⟨v,d,kvs,rfl,hv,hx,q⟩:=h
 obtain⟨u,rfl,ru⟩:=P0 r
 cases ru
 have hvv:a4o v d s.heap:=(I.hok v _ hv).1
 obtain⟨hd,o,vs,ep,ho,D⟩:=a0N I.hok hx
 have hlv:=KV.length D.kv
 have hz:kvs.length≤sizeLine:=(L6 I.hok hx).1
 refine PySem.W.kdl_call (PySem.W.kdl_values (knd:=j0 X.prog X.w) (kvs:=vs) (ep:=ep)) (I.ok.hd hc) ⟨hvv,D.at_ _ ho⟩ (by omega) fun h' tk acc c hkp hS hacc=>?_
 refine⟨.ref s.heap.objs.size,_,I.newL (tk:=tk) hkp (Nat.le_refl _) hS (T6 (by have:=hacc.1;simp;omega) fun i x u e1 e2=>?_) (by rw[List.length_map];exact hz),rfl,q _ (I.hok.fresh (Nat.le_refl _))⟩
 obtain⟨k,hy⟩:=hacc.2 i u (by rw[←Array.getElem?_toList];exact e2)
 rw[List.getElem?_map] at e1
 obtain⟨kv,e4,rfl⟩:=Option.map_eq_some_iff.mp e1
 obtain⟨q1,hq1,q2,q3⟩:=w4 (show Paired _ kvs vs from D.kv) e4
 rw[hy] at hq1
 cases hq1
 exact q3
theorem a5Q (K:PySem.W.Frag)(hc:X.calm=true)(h:X.K=K:=by rfl):CallR X (.type "list") (a6e K):=h▸a6h hc
end
section
variable {K:PySem.W.Frag} {H:Hp} {Q:VK}
theorem a0f {v d:Addr}{kvs:List (Key×V)}(hv:H v=some (.ext (a4o v d)))(hd:Rd H d (.dK kvs))(q:∀l,H l=none→Q (.ref l) (upd H l (.lst (kvs.map (·.2))))):a6e K [.ref v] H Q:= .inr ⟨v,d,kvs,rfl,hv,hd,q⟩
end
section
variable {prog:Program} {w:World} {A:Around} {E:Value→Shared→Prop}
end
section
variable {X:Cx}
end
end L2
set_option Elab.async false
set_option linter.all false
set_option maxRecDepth 100000
set_option maxHeartbeats 4000000
namespace L2
open PySem PySem.Spec PyProof.Rows
section
variable {prog:Program} {w:World} {A:Around} {E:Value→Shared→Prop} {s:Shared}
theorem a8k {Q:Int→Shared→Prop}(h:Q 0xFCA86420 {s with toks:=s.toks+1}):wpAny (model prog w) A (pyHash .none) Q E s:=by
 have hT:s.TypeIs Value.none "NoneType":=rfl
 unfold pyHash pyHashByItsType
 refine wpAny_bind ?_
 rw[cRoomFor,if_neg (show ¬([Value.none].any Value.onHeap)=true by decide)]
 refine wpAny_pure (wpAny_bind (wpAny_specialOf hT PySem.F.slot_NoneType_hash.lookup ?_))
 refine(show wpAny _ _ (if(some (Value.builtin "NoneType.__hash__")==some Value.none)=true then _ else _) Q E s from ?_)
 rw[if_neg (by decide)]
 refine wpAny_bind (wpAny_specialOf hT PySem.F.slot_NoneType_hash.lookup ?_)
 refine(show wpAny _ _ (callSpecialIfBoundUnlessNone? Value.none "__hash__" _>>=_) Q E s from ?_)
 refine wpAny_bind (wpAny_callSpecialIfBoundUnlessNone?_slot hT PySem.F.slot_NoneType_hash (wpAny_call_entry PySem.F.slot_NoneType_hash hT PySem.F.entry_NoneType_hash (show wpAny _ _ (do ret (←mkInt 0xFCA86420)) _ _ s from wpAny_ret_mkInt ?_) (PySem.F.args_NoneType_hash_1 _)))
 refine(show wpAny _ _ (if(decide (-(2:Int) ^ 63≤0xFCA86420)&&decide ((0xFCA86420:Int)<2 ^ 63))=true then _ else _) Q E _ from ?_)
 rw[if_pos (by decide)]
 exact wpAny_pure h
end
abbrev a2Y:=Option Key
def wIs:a2Y→Value→Bool
 |none,.none=>true
 |none,_=>false
 |some k,v=>a0u k v
theorem O4:∀{k:a2Y} {v:Value},wIs k v=true→(k=none∧v=Value.none)∨(∃i t,k=some (Sum.inl i)∧v=Value.int i t)∨(∃x t,k=some (Sum.inr x)∧v=Value.str x t)
 |none,v,h=>by cases v<;>first|exact .inl ⟨rfl,rfl⟩|cases h
 |some k,v,h=>by
  rcases w9 (show a0u k v=true from h) with⟨i,t,rfl,rfl⟩|⟨x,t,rfl,rfl⟩
  ·exact .inr (.inl ⟨i,t,rfl,rfl⟩)
  ·exact .inr (.inr ⟨x,t,rfl,rfl⟩)
def b5U (w:World):a2Y→Int
 |none=>0xFCA86420
 |some k=>b6j w k
def a1e (prog:Program)(w:World):PySem.KeyKind prog w a2Y where
 is:=wIs
 hash:=b5U w
 inj:=fun v a b ha hb=>by
  rcases O4 ha with⟨rfl,rfl⟩|⟨i,t,rfl,rfl⟩|⟨x,t,rfl,rfl⟩<;>rcases O4 hb with⟨rfl,e⟩|⟨j,u,rfl,e⟩|⟨y,u,rfl,e⟩<;>first|rfl|(cases e<;>rfl)
 byValue:=fun k v h=>by
  rcases O4 h with⟨rfl,rfl⟩|⟨i,t,rfl,rfl⟩|⟨x,t,rfl,rfl⟩<;>rfl
 pyHash:=fun hv h=>by
  rcases O4 hv with⟨rfl,rfl⟩|⟨i,t,rfl,rfl⟩|⟨x,t,rfl,rfl⟩
  ·exact a8k h
  ·exact wpAny_pyHash_int h
  ·exact wpAny_pyHash_str h
 eqBool:=fun{A E s a b u v Q} hu hv h=>by
  have dk:∀{k k':Key},decide ((some k:a2Y)=some k')=decide (k=k'):=fun{k k'}=>by
   by_cases e:k=k'
   ·subst e;simp
   ·rw[decide_eq_false e,decide_eq_false fun z=>e (Option.some.inj z)]
  rcases O4 hu with⟨rfl,rfl⟩|⟨i,t,rfl,rfl⟩|⟨x,t,rfl,rfl⟩<;>rcases O4 hv with⟨rfl,rfl⟩|⟨j,t',rfl,rfl⟩|⟨y,t',rfl,rfl⟩
  ·exact SeqAt.EqAt.same _ _ _ _ _ (by simpa using h)
  ·exact SeqAt.EqAt.none_int j t' _ _ _ _ (by simpa using h)
  ·exact SeqAt.EqAt.none_str y t' _ _ _ _ (by simpa using h)
  ·exact SeqAt.EqAt.int_none i t _ _ _ _ (by simpa using h)
  ·rw[dk,b0n] at h;exact wpAny_eqBool_int h
  ·rw[dk,a9F] at h;exact SeqAt.EqAt.int_str i t y t' _ _ _ _ h
  ·exact SeqAt.EqAt.str_none x t _ _ _ _ (by simpa using h)
  ·rw[dk,a9Q] at h;exact SeqAt.EqAt.str_int x t j t' _ _ _ _ h
  ·rw[dk,a9A] at h;exact wpAny_eqBool_str h
 «strs»:=fun k x t v h=>by
  rcases O4 h with⟨rfl,e⟩|⟨i,u,rfl,e⟩|⟨y,u,rfl,e⟩
  ·exact nomatch e
  ·exact nomatch e
  ·injection e with e1 _
   subst e1
   cases v<;>rfl
def a0Z (P:Program)(w:World)(a:Addr)(n:Nat)(h:Heap):Prop:=(a==sysModules)=false∧∃vs,h.DictOf (a1e P w) a vs∧vs.length=n
theorem a6d {P P':Program}{w w':World}{H:Hp}{h:Heap}{a:Addr}{n:Nat}(x:a0Z P w a n h):ObjOk P' w' H h a (.ext (a0Z P w a n)):=by
 obtain⟨hs,vs,⟨o,es,ep,e,r⟩,hl⟩:=x
 exact⟨⟨hs,vs,⟨o,es,ep,e,r⟩,hl⟩,⟨o,e⟩,fun h1 h2 ⟨hs',vs',⟨o',es',ep',e',r'⟩,hl'⟩ k=>⟨hs',vs',⟨o',es',ep',k _ e',r'⟩,hl'⟩⟩
theorem a2B {P:Program}{w:World}:∀{es:List DictEntry} {vs:List (Key×Value)},Pairs (j0 P w) es vs→Pairs (a1e P w) es (vs.map fun x=>(some x.1,x.2))
 |_,_,.nil=> .nil
 |_,_,.cons h e t=> .cons h e (a2B t)
theorem b2t {P:Program}{w:World}{h:Heap}{a:Addr}{vs:List (Key×Value)}(dd:h.DictOf (j0 P w) a vs):h.DictOf (a1e P w) a (vs.map fun x=>(some x.1,x.2)):=by
 obtain⟨o,es,ep,h1,h2,h3,h4,h5,h6⟩:=dd
 refine⟨o,es,ep,h1,h2,h3,fun e he=>?_,a2B h5,?_⟩
 ·obtain⟨k,q1,q2⟩:=h4 e he
  exact⟨some k,q1,q2⟩
 ·rw[List.map_map]
  have e:((fun x:a2Y×Value=>x.1)∘fun x:Key×Value=>((some x.1:a2Y),x.2))=(fun k:Key=>(some k:a2Y))∘fun x:Key×Value=>x.1:=rfl
  rw[e,←List.map_map]
  exact List.Pairwise.map _ (fun a b h z=>h (Option.some.inj z)) h6
theorem a6s {vs:List (Key×Value)}{v:Value}:stored (vs.map fun x=>((some x.1:a2Y),x.2)) none v=(vs.map fun x=>((some x.1:a2Y),x.2))++[(none,v)]:=by
 unfold stored
 rw[if_neg]
 intro z
 obtain⟨x,hx,e⟩:=List.any_eq_true.mp z
 obtain⟨y,_,rfl⟩:=List.mem_map.mp hx
 cases of_decide_eq_true e
section
variable {X:Cx}
def b0K (P:Program)(w:World):a6b:=fun o i v H Q=>a7p o i v H Q∨∃a kvs,o= .ref a∧i= .non∧H a=some (.dK kvs)∧kvs.length<1000∧Q (upd H a (.ext (a0Z P w a (kvs.length+1))))
theorem a8V (hu:X.A.units+1<cLine):a7J X (b0K X.prog X.w):=by
 intro pins s σ H o i v ov iv u Q I ro ri rv h
 rcases h with h|⟨a,kvs,rfl,rfl,hA,hl,q⟩
 ·exact b1O hu pins s σ H o i v ov iv u Q I ro ri rv h
 ·cases ro
  cases ri
  obtain⟨z,hd,vs,rel,dd⟩:=b0M I.hok hA
  have hlv:=rel.length
  refine wpAny_setItem_pairs (knd:=a1e X.prog X.w) (k:=none) (hsz:=by rw[List.length_map];omega) rfl (b2t dd) fun h' dd' hs=>?_
  rw[a6s] at dd'
  have he:∃q,h'.get? a=some q:=let ⟨q,_,_,hq,_⟩:=dd';⟨q,hq⟩
  exact⟨_,a1h I (by rw[hA];exact True.intro) hs he (a6d ⟨hd,_,dd',by rw[List.length_append,List.length_map,hlv];rfl⟩),q⟩
def a7m (K:PySem.W.Frag)(P:Program)(w:World):List V→Hp→VK→Prop:=fun xs H Q=>b2D K xs H Q∨∃p n,xs=[V.ref p]∧H p=some (.ext (a0Z P w p n))∧n≤1000∧Q (.int n) H
theorem a8i:CallR X (.builtin "len") (a7m X.K X.prog X.w):=by
 refine call_lenS.or ?_
 intro pins s σ H xs us Q I r h
 obtain⟨p,n,rfl,hp,hn,q⟩:=h
 obtain⟨u,rfl,ru⟩:=P0 r
 cases ru
 obtain⟨hs,vs,dd,hl⟩:=(I.hok p _ hp).1
 refine call_len_dict hs dd (by omega) ?_
 rw[hl]
 exact⟨.int n,H,I.tok _,⟨_,rfl⟩,q⟩
theorem b6z (K:PySem.W.Frag)(h:X.K=K:=by rfl):CallR X (.builtin "len") (a7m K X.prog X.w):=h▸a8i
def a7k (K:PySem.W.Frag)(P:Program)(w:World):List V→Hp→VK→Prop:=fun xs H Q=>b1d K xs H Q∨∃p n T,xs=[V.ref p,.ty T]∧H p=some (.ext (a0Z P w p n))∧(T="str"∨T="int"∨T="bool"∨T="list"∨T="tuple"∨T="dict")∧Q (.bl (a5a "dict" T)) H
theorem a7D:CallR X (.builtin "isinstance") (a7k X.K X.prog X.w):=by
 refine call_isi.or ?_
 intro pins s σ H xs us Q I r h
 obtain⟨p,n,T,rfl,hp,hT,q⟩:=h
 obtain⟨u,c,rfl,rx,rc⟩:=W2 r
 cases rx
 cases rc
 obtain⟨hs,vs,⟨o,es,ep,h1,h2,r⟩,hl⟩:=(I.hok p _ hp).1
 exact PySem.W.kia_one PySem.W.kitx_dict I.kIn ⟨o,h1,h2.1⟩ (T4 (by simp) hT) (fun z=>nomatch z) fun tk=>⟨.bl _,H,I.tok tk,rfl,q⟩
theorem b6e (K:PySem.W.Frag)(h:X.K=K:=by rfl):CallR X (.builtin "isinstance") (a7k K X.prog X.w):=h▸a7D
end
section
variable {K:PySem.W.Frag} {P:Program} {w:World} {H:Hp} {Q:VK}
theorem D0 {xs:List V}(h:a8y K xs H Q):a7m K P w xs H Q:= .inl (.inl h)
theorem b0p {xs:List V}(h:b1d K xs H Q):a7k K P w xs H Q:= .inl h
theorem N6 {o i v:V}{Qh:Hp→Prop}(h:a7p o i v H Qh):b0K P w o i v H Qh:= .inl h
theorem a8o {x y:V}(h:a3I K x y H Q):a1G K x y H Q:= .inl (b7v h)
theorem a9N {i j:Int}(q:Q (.bl (decide (i=j))) H):a1G K (.int i) (.int j) H Q:=a8o (a9R q)
theorem b2d {i j:Bool}(q:Q (.bl (decide (i=j))) H):a1G K (.bl i) (.bl j) H Q:=a8o (b1o q)
theorem a4F {i j:Str}(q:Q (.bl (decide (i=j))) H):a1G K (.str i) (.str j) H Q:=a8o (a9l q)
theorem b1Y {x y:V}(h:a3M K x y H Q):a2e K x y H Q:= .inl (b7h h)
theorem a5i {i j:Int}(q:Q (.bl (!decide (i=j))) H):a2e K (.int i) (.int j) H Q:= .inl (b0C q)
theorem b1S {i j:Bool}(q:Q (.bl (!decide (i=j))) H):a2e K (.bl i) (.bl j) H Q:= .inl (b2s q)
theorem a8X {i j:Str}(q:Q (.bl (!decide (i=j))) H):a2e K (.str i) (.str j) H Q:= .inl (b0g q)
end
theorem b0o {X:Cx}(K:PySem.W.Frag)(P:Program)(w:World)(h:X.K=K:=by rfl)(hp:X.prog=P:=by rfl)(hw:X.w=w:=by rfl):CallR X (.builtin "isinstance") (a7k K P w):=by subst hp hw;exact b6e K h
theorem E2 {X:Cx}(K:PySem.W.Frag)(P:Program)(w:World)(h:X.K=K:=by rfl)(hp:X.prog=P:=by rfl)(hw:X.w=w:=by rfl):CallR X (.builtin "len") (a7m K P w):=by subst hp hw;exact b6z K h
theorem u4 {X:Cx}(P:Program)(w:World)(hu:X.A.units+1<cLine)(hp:X.prog=P:=by rfl)(hw:X.w=w:=by rfl):a7J X (b0K P w):=by subst hp hw;exact a8V hu
end L2
set_option Elab.async false
set_option linter.all false
set_option maxRecDepth 100000
namespace L2
open PySem PySem.Spec PyProof.Rows
section
variable {X:Cx} {a b:Expr} {ta:TA} {x y:Str} {pos:Pos}
end
section
variable {σ:St} {H:Hp} {nx:St→Hp→Prop} {rt:VK} {bk ct:St→Hp→Prop} {ta:TA}
theorem b6a {i j:Nat}(q:ta σ H fun vs H1=>∃v w,vs=[v,w]∧nx ((σ.set i (some v)).set j (some w)) H1):b7i i j ta ⟨nx,rt,bk,ct⟩ σ H:=q
end
end L2
set_option Elab.async false
set_option linter.all false
set_option maxRecDepth 100000
set_option maxHeartbeats 4000000
namespace L2
open PySem PySem.Spec PyProof.Rows
section
variable {P:Program} {w:World}
end
section
variable {X:Cx} {tg:Expr}
abbrev ItV (d:Addr)(o:Obj)(kvs:List (Key×V)):It:=Itd d o kvs fun kv=>kv.2
def b1t (tl:TE):TI2:=fun σ H R=>tl σ H fun v H1=>rIterD ItV v H1 R
theorem a7Z {tl:TE}{σ:St}{H:Hp}{R:It→(Hp→Hp)→Hp→Prop}(q:tl σ H fun v H1=>rIterD ItV v H1 R):b1t tl σ H R:=q
end
end L2
set_option Elab.async false
set_option linter.all false
namespace L2
open PySem PySem.Spec PyProof.Rows
section
variable {J:It} {th:Hp→Hp} {n:Nat} {g:TG} {tb:TS} {nx:L2.St→Hp→Prop} {rt:VK} {σ:L2.St} {H:Hp}
theorem K2 (Pv:Nat→L2.St→Hp→Prop)(h0:Pv 0 σ H)(hgo:∀i σ H,i<n→Pv i σ H→J.go i H)
  (hs:∀(bk:L2.St→Hp→Prop) i x σ H H',i<n→Pv i σ H→J.yld i H x H'→g x σ H' fun σ2 H2=>tb ⟨Pv (i+1),fun v H=>rt v (th H),bk,Pv (i+1)⟩ σ2 H2)
  (hd:∀σ H,Pv n σ H→J.stop n H∧nx σ (th H)):b1X J th g tb nx rt σ H:=L9 Pv h0 hgo (hs fun σ H=>nx σ (th H)) hd
end
end L2
set_option Elab.async false
set_option linter.all false
set_option maxRecDepth 100000
set_option maxHeartbeats 4000000
namespace L2
open PySem PySem.Spec PyProof.Rows PySem.Builtin PySem.Builtin.Str
section
variable {X:Cx}
def tFj:List TE→Str→TE
 |[],acc=>fun _ H Q=>Q (.str acc) H
 |te::r,acc=>fun σ H Q=>te σ H fun v H1=>∃y:Str,v= .str y∧(acc++y).length≤1000∧tFj r (acc++y) σ H1 Q
structure QF (X:Cx) (es:List Expr) (ts:List TE):Prop where
 r:∀(pins:List (Addr×Obj)) (s:Shared) (σ:St) (H:Hp) (acc:Str) (Q:VK),Inv X pins σ H s→acc.length≤1000→tFj ts acc σ H Q→wpAny (model X.prog X.w) X.A (joinParts acc (evalEach es X.env)) (EP X pins σ Q) X.xe s
end
end L2
set_option Elab.async false
set_option linter.all false
set_option maxRecDepth 100000
set_option maxHeartbeats 4000000
namespace L2
open PySem PySem.Spec PyProof.Rows
section
variable {prog:Program} {w:World} {A:Around} {E:Value→Shared→Prop} {s:Shared}
end
end L2
set_option Elab.async false
set_option linter.all false
set_option maxRecDepth 100000
set_option maxHeartbeats 4000000
namespace L2
open PySem PySem.Spec PyProof.Rows
theorem a1I {α β:Type}{F:α→β→Prop}:∀{l:List α} {m:List β} {b:β},Paired F l m→b∈m→∃a∈l,F a b
 |_,_,_,.cons r t,h=>by
  rcases List.mem_cons.mp h with e|e
  ·exact⟨_,List.mem_cons_self,e▸r⟩
  ·obtain⟨a,h1,h2⟩:=a1I t e
   exact⟨a,List.mem_cons_of_mem _ h1,h2⟩
section
variable {X:Cx}
end
section
variable {K:PySem.W.Frag} {P:Program} {w:World} {H:Hp} {Q:VK} {σ:L2.St}
end
end L2
set_option Elab.async false
set_option linter.all false
set_option maxRecDepth 100000
set_option maxHeartbeats 4000000
namespace L2
open PySem PySem.Spec PyProof.Rows
def toV:Value→V
 | .none=> .non
 | .bool b=> .bl b
 | .int i _=> .int i
 | .str x _=> .str x
 | .bytes b _=> .byt b
 | .float b _=> .flt b
 | .ref a=> .ref a
 | .type n=> .ty n
 |_=> .non
theorem a9I {v:V}{u:Value}(r:RelV v u):toV u=v:=by
 cases v with
 |non=>rw[show u=Value.none from r];rfl
 |bl b=>rw[show u=Value.bool b from r];rfl
 |int i=>obtain⟨t,rfl⟩:=r;rfl
 |str x=>obtain⟨t,rfl⟩:=r;rfl
 |byt x=>obtain⟨t,rfl⟩:=r;rfl
 |flt x=>obtain⟨t,rfl⟩:=r;rfl
 |ref a=>rw[show u=Value.ref a from r];rfl
 |ty n=>rw[show u=Value.type n from r];rfl
theorem b6E {f:V→Bool}:∀{xs:List V} {us:List Value},Vals xs us→us.countP (f∘toV)=xs.countP f
 |_,_,.nil=>rfl
 |_,_,.cons r t=>by rw[List.countP_cons,List.countP_cons,b6E t,Function.comp,a9I r]
section
variable {X:Cx}
end
def a9j (K:PySem.W.Frag)(a:Addr)(xs:List V):It:=
 ⟨fun i H=>SqL K H a xs∧i<xs.length,fun i H x H'=>H'=H∧xs[xs.length -1 -i]?=some x,fun i _=>i=xs.length⟩
theorem a8Q {P:Program}{w:World}{K:PySem.W.Frag}{tg:Expr}(a it:Addr)(xs:List V):a1o P w K tg (a9j K a xs) [it] it (fun i h=>h.IsRevIter it a ((xs.length:Int) -1 -(i:Int))) where
 mem:=by simp
 obj:=fun i h st b hb=>by
  have e:b=it:=by simpa using hb
  subst e
  obtain⟨o,e,c,d⟩:=st
  exact⟨o,e,fun v z=>by rw[d] at z;cases z⟩
 keep:=fun i h h' st k=>st.at fun o e=>k it (by simp) o e
 item:=by
  intro X hP hw hK hc i pins s σ H E I hf st hg
  subst hP hw hK
  obtain⟨hq,hi⟩:=hg
  obtain⟨its,rv,p,hz⟩:=I.list hq
  have hj:xs.length -1 -i<xs.length:=by omega
  obtain⟨u,hu,ru⟩:=rv.get (List.getElem?_eq_getElem hj)
  obtain⟨f0,f1,f2,f3,f4,f5⟩:=hf it (by simp)
  have st1:s.heap.IsRevIter it a ((xs.length -1 -i:Nat):Int):=by
   have e:((xs.length -1 -i:Nat):Int)=(xs.length:Int) -1 -(i:Int):=by omega
   rw[e];exact st
  refine wpAny_pyNext_rev_item st1 p.isList (x:=u) (by simpa using hu) fun h' st' sb=>?_
  have I1:Inv X pins σ H {s with heap:=h'}:=I.turned (t':=s.toks) (fun b o hb e=>(sb.2 b hb).trans e) f0 f1 f3 f4 f5
  obtain⟨o,e,c,d⟩:=id st'
  have st2:h'.IsRevIter it a ((xs.length:Int) -1 -((i+1:Nat):Int)):=by
   have e:(xs.length:Int) -1 -((i+1:Nat):Int)=((xs.length -1 -i:Nat):Int) -1:=by omega
   rw[e];exact st'
  exact⟨u,rfl,a6Z (s:={s with heap:=h'}) e c d (by decide) ⟨_,H,I1,ru,⟨rfl,List.getElem?_eq_getElem hj⟩,st2,fun b hb=>(hf b hb).1⟩⟩
 done:=by
  intro X hP hw hK hc i pins s σ H E I hf st hg
  subst hP hw hK
  have hg':i=xs.length:=hg
  obtain⟨f0,f1,f2,f3,f4,f5⟩:=hf it (by simp)
  have st1:s.heap.IsRevIter it a (-1):=by
   have e:(-1:Int)=(xs.length:Int) -1 -(i:Int):=by omega
   rw[e];exact st
  exact wpAny_pyNext_rev_end (I.ok.hd hc) st1 fun h' eb=>⟨rfl,I.turned (t':=s.toks) (fun b o hb e=>eb b o hb e) f0 f1 f3 f4 f5⟩
 self:=fun _ _ _ _ _ st h=>wpAny_pyIter_revIter st h
section
variable {X:Cx} {a:Expr} {t:TA} {p pos:Pos} {tg:Expr}
def b3b (K:PySem.W.Frag)(ta:TA):TI2:=fun σ H R=>ta σ H fun vs H1=>∃l xs,vs=[.ref l]∧SqL K H1 l xs∧R (a9j K l xs) id H1
theorem b4y (hg:Gl X "reversed")(hm:X.mg "reversed"=none)(ha:PA X [a] t)(hs:starEach [a] X.env=[(false,eval a X.env)]):PI2 X tg (.Call (.Name "reversed" p) [a] [] pos) (b3b X.K t):=by
 intro pins s σ H R I h
 refine Call_ (Z1 I hg hm Boot.«reversed» (PyProof.Rows.callWith_type1 (thn (ha pos pins s σ H _ I h) fun us s1 ⟨vs,H1,I1,r1,q1⟩=>?_) hs rfl))
 obtain⟨l,xs,e,hq,q⟩:=q1
 subst e
 obtain⟨u,rfl,ru⟩:=P0 r1
 cases ru
 obtain⟨its,rv,pl,hz⟩:=I1.list hq
 have hl:=rv.length
 refine call_reversed_list pl.isList ?_
 have I2:Inv X pins σ H1 {s1 with heap:=s1.heap.push (revObj l ((its.toArray.size:Int) -1))}:=I1.kept (t':=s1.toks) fun b o e=>Heap.get?_push_of_some _ e
 have st:(s1.heap.push (revObj l ((its.toArray.size:Int) -1))).IsRevIter s1.heap.objs.size l ((xs.length:Int) -1 -((0:Nat):Int)):=by
  refine⟨_,Heap.get?_push_size _ rfl,rfl,?_⟩
  show Data.fields #[.ref l,rawInt ((its.toArray.size:Int) -1)]=_
  rw[show(its.toArray.size:Int) -1=(xs.length:Int) -1 -((0:Nat):Int) by rw[List.size_toArray];omega]
 refine wpAny_pyIter_revIter (s:={s1 with heap:=s1.heap.push (revObj l ((its.toArray.size:Int) -1))}) st ?_
 refine⟨s1.heap.objs.size,[s1.heap.objs.size],_,_,H1,rfl,I2,a8Q l _ xs,st,fun b hb=>?_,id,a0Y,q⟩
 have e:b=s1.heap.objs.size:=by simpa using hb
 subst e
 exact I1.fpOk (Nat.le_refl _) (I1.hok.fresh (Nat.le_refl _))
theorem a4z (K:PySem.W.Frag)(hm:X.mg "reversed"=none)(ha:QA X [a] t)(hg:Gl X "reversed":=by rfl)(h:u6 a=true:=by rfl)(hK:X.K=K:=by rfl):QI X tg (.Call (.Name "reversed" p) [a] [] pos) (b3b K t):=
 ⟨hK▸b4y hg hm ha.r (Q7 h)⟩
end
section
variable {K:PySem.W.Frag} {σ:L2.St} {H:Hp} {ta:TA} {R:It→(Hp→Hp)→Hp→Prop}
theorem b5s (q:ta σ H fun vs H1=>∃l xs,vs=[V.ref l]∧SqL K H1 l xs∧R (a9j K l xs) id H1):b3b K ta σ H R:=q
end
end L2
set_option Elab.async false
set_option linter.all false
set_option maxRecDepth 100000
set_option maxHeartbeats 4000000
namespace L2
open PySem PySem.Spec PyProof.Rows
abbrev a3p (h:Heap)(z TI TO:Addr)(f0:Value)(b:Bool):Prop:=h.get? z=some {cls:= .type "zip",dict:=none,data:= .fields #[f0,.bool b,.bool false,.ref TI,.ref TO],slots:= #[]}
section
variable {prog:Program} {w:World} {A:Around} {E:Value→Shared→Prop} {s:Shared}
theorem a4P {z TI TO T:Addr}{b:Bool}{ot:Obj}{Q:Bool→Shared→Prop}(hz:a3p s.heap z TI TO (rawInt T) b)(hT:s.heap.get? T=some ot)
  (hQ:∀h',a3p h' z TI TO (rawInt T) true→Heap.SameBut z s.heap h'→Q false {s with heap:=h'}):wpAny (model prog w) A (Builtin.SmallTypes.ownedTupleIsFree (.ref z)) Q E s:=by
 unfold Builtin.SmallTypes.ownedTupleIsFree
 refine wpAny_bind (wpAny_field hz rfl (x:=rawInt T) rfl ?_)
 refine wpAny_bind (PySem.W.kdx_alive (show s.heap.get? ((T:Int).toNat)=some ot by rw[Int.toNat_natCast];exact hT) ?_)
 rw[if_neg (by simp)]
 refine wpAny_bind (wpAny_field hz rfl (x:= .bool b) rfl ?_)
 cases b with
 |true=>
  rw[if_neg (by decide)]
  exact wpAny_pure (hQ s.heap hz (Heap.SameBut.refl _ _))
 |false=>
  rw[if_pos (by decide)]
  exact wpAny_bind (wpAny_setField_rec hz (by simp) fun h' g' s'=>wpAny_pure (hQ h' g' s'))
theorem a8e {z TI TO T i1 i2 l1 l2:Addr}{k1 k2:Nat}{b:Bool}{ot:Obj}{xs ys:Array Value}{x y:Value}{Q:Option Value→Shared→Prop}(D:ZipApart z TI TO i1 i2 l1 l2)
  (hz:a3p s.heap z TI TO (rawInt T) b) (hTa:s.heap.get? T=some ot) (hTI:IsPair s.heap TI (.ref i1) (.ref i2))
  (h1:s.heap.IsListIter i1 l1 k1) (h2:s.heap.IsListIter i2 l2 k2) (hl1:s.heap.IsList l1 xs) (hl2:s.heap.IsList l2 ys) (hx:xs[k1]?=some x) (hy:ys[k2]?=some y)
  (hQ:∀h',a3p h' z TI TO (rawInt T) true→h'.IsListIter i1 l1 (k1+1)→h'.IsListIter i2 l2 (k2+1)→IsPair h' s.heap.objs.size x y→
   (∀c o,c≠z→c≠i1→c≠i2→s.heap.get? c=some o→h'.get? c=some o)→Q (some (.ref s.heap.objs.size)) {s with heap:=h'}):wpAny (model prog w) A (pyNext (.ref z)) Q E s:=by
 have hT:s.TypeIs (.ref z) "zip":=⟨_,hz,rfl⟩
 unfold pyNext
 refine wpAny_bind (wpAny_attempt (wpAny_callSpecial?_slot (name:=Str.ofString "__next__") hT F.slot_zip_next (wpAny_call_entry F.slot_zip_next hT F.entry_zip_next ?_ (F.args_zip_next_1 _))))
 show wpAny (model prog w) _ (field (.ref z) 2>>=_) _ _ _
 refine wpAny_bind (wpAny_field hz rfl (x:= .bool false) rfl ?_)
 show wpAny (model prog w) _ (field (.ref z) 3>>=_) _ _ _
 refine wpAny_bind (wpAny_field hz rfl (x:= .ref TI) rfl (wpAny_bind (wpAny_seqItems hTI rfl ?_)))
 show wpAny (model prog w) _ (Builtin.SmallTypes.ownedTupleIsFree (.ref z)>>=_) _ _ _
 refine wpAny_bind (a4P hz hTa fun k1' g1 s1=>?_)
 rw[if_neg (by decide)]
 dsimp only
 refine wpAny_bind ?_
 rw[←Array.forIn_toList]
 simp only[List.forIn_cons,List.forIn_nil]
 refine wpAny_bind (wpAny_bind (wpAny_holding ?_))
 show wpAny (model prog w) _ (Builtin.SmallTypes.nextOf (.ref i1)>>=_) _ _ _
 refine wpAny_bind (wpAny_nextOf_list_item (h1.extBut s1.extBut D.i1z) (hl1.extBut s1.extBut D.l1z) hx fun k2' g2 s2=>wpAny_pure (wpAny_pure ?_))
 refine wpAny_bind (wpAny_bind (wpAny_holding ?_))
 show wpAny (model prog w) _ (Builtin.SmallTypes.nextOf (.ref i2)>>=_) _ _ _
 refine wpAny_bind (wpAny_nextOf_list_item ((h2.extBut s1.extBut D.i2z).extBut s2.extBut D.i12.symm) ((hl2.extBut s1.extBut D.l2z).extBut s2.extBut D.l2i1) hy fun k3' g3 s3=>wpAny_pure (wpAny_pure (wpAny_pure ?_)))
 have sz:k3'.objs.size=s.heap.objs.size:=by rw[s3.1,s2.1,s1.1]
 have up:∀c o,c≠z→c≠i1→c≠i2→s.heap.get? c=some o→k3'.get? c=some o:=fun c o c1 c2 c3 e=>s3.extBut _ _ c3 (s2.extBut _ _ c2 (s1.extBut _ _ c1 e))
 refine wpAny_bind (wpAny_newTuple (wpAny_pure ⟨_,rfl,?_⟩) (by show 2≤sizeLine;decide))
 refine wpAny_pure ?_
 show Q (some (.ref k3'.objs.size)) _
 rw[sz]
 refine hQ _ (Heap.get?_push_of_some _ (s3.extBut _ _ D.i2z.symm (s2.extBut _ _ D.i1z.symm g1))) ((g2.extBut s3.extBut D.i12).at fun o e=>Heap.get?_push_of_some _ e) (g3.at fun o e=>Heap.get?_push_of_some _ e) ?_ fun c o c1 c2 c3 e=>Heap.get?_push_of_some _ (up c o c1 c2 c3 e)
 rw[←sz]
 exact Heap.get?_push_size _ rfl
theorem b0S {z TI TO T i1 i2 l1 l2:Addr}{k1 k2:Nat}{b:Bool}{ot:Obj}{xs ys:Array Value}{Q:Option Value→Shared→Prop}(hh:A.handled=none)(D:ZipApart z TI TO i1 i2 l1 l2)
  (hz:a3p s.heap z TI TO (rawInt T) b) (hTa:s.heap.get? T=some ot) (hTI:IsPair s.heap TI (.ref i1) (.ref i2))
  (h1:s.heap.IsListIter i1 l1 k1) (h2:s.heap.IsListIter i2 l2 k2) (hl1:s.heap.IsList l1 xs) (hl2:s.heap.IsList l2 ys) (hend:xs[k1]?=none∨ys[k2]?=none)
  (hQ:∀h',(∀c o,c≠z→c≠i1→c≠i2→s.heap.get? c=some o→h'.get? c=some o)→Q none {s with heap:=h'}):wpAny (model prog w) A (pyNext (.ref z)) Q E s:=by
 have hT:s.TypeIs (.ref z) "zip":=⟨_,hz,rfl⟩
 unfold pyNext
 refine wpAny_bind (wpAny_attempt (wpAny_callSpecial?_slot (name:=Str.ofString "__next__") hT F.slot_zip_next (wpAny_call_entry F.slot_zip_next hT F.entry_zip_next ?_ (F.args_zip_next_1 _))))
 show wpAny (model prog w) _ (field (.ref z) 2>>=_) _ _ _
 refine wpAny_bind (wpAny_field hz rfl (x:= .bool false) rfl ?_)
 show wpAny (model prog w) _ (field (.ref z) 3>>=_) _ _ _
 refine wpAny_bind (wpAny_field hz rfl (x:= .ref TI) rfl (wpAny_bind (wpAny_seqItems hTI rfl ?_)))
 show wpAny (model prog w) _ (Builtin.SmallTypes.ownedTupleIsFree (.ref z)>>=_) _ _ _
 refine wpAny_bind (a4P hz hTa fun k1' g1 s1=>?_)
 rw[if_neg (by decide)]
 dsimp only
 refine wpAny_bind ?_
 rw[←Array.forIn_toList]
 simp only[List.forIn_cons,List.forIn_nil]
 refine wpAny_bind (wpAny_bind (wpAny_holding ?_))
 show wpAny (model prog w) _ (Builtin.SmallTypes.nextOf (.ref i1)>>=_) _ _ _
 cases hx:xs[k1]? with
 |none=>
  refine wpAny_bind (wpAny_nextOf_list_end hh (h1.extBut s1.extBut D.i1z) (hl1.extBut s1.extBut D.l1z) hx fun k2' e s2 he=>?_)
  obtain⟨oe,hoe,hce⟩:=he
  exact wpAny_bind (wpAny_isInstance (T:="StopIteration") (b:=true) ⟨oe,hoe,hce⟩ isSubtype_stop (wpAny_pure (hQ _ fun c o c1 c2 c3 x=>s2 _ _ c2 (s1.extBut _ _ c1 x))))
 |some x=>
  have hy:ys[k2]?=none:=by
   rcases hend with h|h
   ·rw[hx] at h;cases h
   ·exact h
  refine wpAny_bind (wpAny_nextOf_list_item (h1.extBut s1.extBut D.i1z) (hl1.extBut s1.extBut D.l1z) hx fun k2' g2 s2=>wpAny_pure (wpAny_pure ?_))
  refine wpAny_bind (wpAny_bind (wpAny_holding ?_))
  show wpAny (model prog w) _ (Builtin.SmallTypes.nextOf (.ref i2)>>=_) _ _ _
  refine wpAny_bind (wpAny_nextOf_list_end hh ((h2.extBut s1.extBut D.i2z).extBut s2.extBut D.i12.symm) ((hl2.extBut s1.extBut D.l2z).extBut s2.extBut D.l2i1) hy fun k3' e s3 he=>?_)
  obtain⟨oe,hoe,hce⟩:=he
  exact wpAny_bind (wpAny_isInstance (T:="StopIteration") (b:=true) ⟨oe,hoe,hce⟩ isSubtype_stop (wpAny_pure (hQ _ fun c o c1 c2 c3 x=>s3 _ _ c3 (s2.extBut _ _ c2 (s1.extBut _ _ c1 x)))))
end
theorem a4C:typeLookup (.type "zip") "keys"=pure none:=by rw[typeLookup_type,builtinLookup_eq_fast];kernel_rfl
theorem a8v:typeLookup (.type "zip") "__getattr__"=pure none:=by rw[typeLookup_type,builtinLookup_eq_fast];kernel_rfl
section
variable {prog:Program} {w:World} {A:Around} {E:Value→Shared→Prop} {s:Shared}
theorem b0J (a:Addr)(fs:Array Value)(u:Tok):Meets (Builtin.«object.__getattribute__» ⟨[.ref a,.str "keys" u],[]⟩) (fun A R s=>s.heap.get? a=some {cls:= .type "zip",dict:=none,data:= .fields fs,slots:= #[]}∧raisesAttr (.ref a) "keys" A R s):=
 Meets.of_wp fun prog w A R s hs=>by
  obtain⟨hp,g,d,tk,os⟩:=s
  obtain⟨hx,hs⟩:=hs
  have hT:(⟨hp,g,d,tk,os⟩:Shared).TypeIs (.ref a) "zip":=⟨_,hx,rfl⟩
  have hmiss:=a4C
  unfold Builtin.«object.__getattribute__»
  repeat(any_goals (first|assumption|wp_step))
  exact wpAny_raiseAttrError hs.1 hs.2 (attrMsg_fits (by decide+kernel) (by decide+kernel))
theorem a6m:entryFor table "zip.__getattribute__"=some Builtin.«object.__getattribute__»:=entryFor_alias (id':="object.__getattribute__") (by kernel_rfl) (by decide+kernel) (by decide+kernel) (by kernel_rfl)
theorem a4N {a:Addr}{fs:Array Value}{Q:Option Value→Shared→Prop}(hx:s.heap.get? a=some {cls:= .type "zip",dict:=none,data:= .fields fs,slots:= #[]})(hA:A.handled=none)
  (h:∀h' tk,(∀b ob,s.heap.get? b=some ob→h'.get? b=some ob)→Q none {s with heap:=h',toks:=tk}):wpAny (model prog w) A (getAttr? (.ref a) "keys") Q E s:=by
 obtain⟨hp,g,d,tk,os⟩:=s
 have hT:∀tk',(⟨hp,g,d,tk',os⟩:Shared).TypeIs (.ref a) "zip":=fun _=>⟨_,hx,rfl⟩
 have f1:=sub_AttributeError
 have f3:=F.slot_zip_getattribute.lookup
 have f4:=F.slot_zip_getattribute.bind (.ref a)
 have f5:=a8v
 unfold getAttr? getAttrBy? getAttrBy
 repeat(any_goals (first|assumption|exact hT _|((with_reducible show wpAny _ _ (call (Value.builtin "zip.__getattribute__") _ _) _ _ _);refine call_meets F.slot_zip_getattribute (hT _) a6m (F.args_zip_getattribute_2 _ _) (b0J a fs _) ⟨hx,hA,fun h' tk' e hx'=>?_⟩)|wp_step))
 obtain⟨t',u',he⟩:=hx'.there
 show wpAny _ _ (getattributeRaised _ _ _ _ _ _ _) _ _ _
 unfold getattributeRaised
 repeat(any_goals (first|assumption|wp_step))
 exact h _ _ hx'.keeps
end
end L2
set_option Elab.async false
set_option linter.all false
set_option maxRecDepth 100000
set_option maxHeartbeats 4000000
namespace L2
open PySem PySem.Spec PyProof.Rows
section
variable {prog:Program} {w:World} {A:Around} {E:Value→Shared→Prop} {s:Shared}
structure ZipSt (h:Heap) (d z TI TO i1 i2 l1 l2:Addr) (k:Nat) (xs ys:Array Value):Prop where
 ti:IsPair h TI (.ref i1) (.ref i2)
 a1:h.IsListIter i1 l1 k
 a2:h.IsListIter i2 l2 k
 b1:h.IsList l1 xs
 b2:h.IsList l2 ys
 st:(∃a b,IsZip h z TI TO .none∧IsPair h TO a b)∨∃(T:Addr) (b:Bool) (ot:Obj),a3p h z TI TO (rawInt T) b∧h.get? T=some ot∧T≠z∧T≠i1∧T≠i2∧T≠d
structure a4h (d z TI TO i1 i2 l1 l2:Addr):Prop where
 z:z≠d
 TI:TI≠d
 TO:TO≠d
 i1:i1≠d
 i2:i2≠d
 l1:l1≠d
 l2:l2≠d
theorem ZipSt.keep {h h':Heap}{d z TI TO i1 i2 l1 l2:Addr}{k:Nat}{xs ys:Array Value}(Z:ZipSt h d z TI TO i1 i2 l1 l2 k xs ys)(O:a4h d z TI TO i1 i2 l1 l2)(kp:∀c o,c≠d→h.get? c=some o→h'.get? c=some o):ZipSt h' d z TI TO i1 i2 l1 l2 k xs ys:=by
 refine⟨kp _ _ O.TI Z.ti,Z.a1.at fun o e=>kp _ o O.i1 e,Z.a2.at fun o e=>kp _ o O.i2 e,?_,?_,?_⟩
 ·obtain⟨o,ho,r⟩:=Z.b1;exact⟨o,kp _ _ O.l1 ho,r⟩
 ·obtain⟨o,ho,r⟩:=Z.b2;exact⟨o,kp _ _ O.l2 ho,r⟩
 ·rcases Z.st with⟨a,b,h1,h2⟩|⟨T,b,ot,h1,h2,h3⟩
  ·exact .inl ⟨a,b,kp _ _ O.z h1,kp _ _ O.TO h2⟩
  ·exact .inr ⟨T,b,ot,kp _ _ O.z h1,kp _ _ h3.2.2.2 h2,h3⟩
theorem a8C {d z TI TO i1 i2 l1 l2:Addr}{k:Nat}{xs ys:Array Value}{x y:Value}{od:Obj}{Q:Option Value→Shared→Prop}(D:ZipApart z TI TO i1 i2 l1 l2)(O:a4h d z TI TO i1 i2 l1 l2)(hd:s.heap.get? d=some od)
  (Z:ZipSt s.heap d z TI TO i1 i2 l1 l2 k xs ys) (hx:xs[k]?=some x) (hy:ys[k]?=some y)
  (hQ:∀h',ZipSt h' d z TI TO i1 i2 l1 l2 (k+1) xs ys→IsPair h' s.heap.objs.size x y→(∀c o,c≠z→c≠TO→c≠i1→c≠i2→s.heap.get? c=some o→h'.get? c=some o)→Q (some (.ref s.heap.objs.size)) {s with heap:=h'}):
  wpAny (model prog w) A (pyNext (.ref z)) Q E s:=by
 have lt:∀{c:Addr} {o:Obj},s.heap.get? c=some o→s.heap.objs.size≠c:=fun{c o} e=>Nat.ne_of_gt (Heap.lt_size e)
 rcases Z.st with⟨a,b,h1,h2⟩|⟨T,b,ot,h1,h2,h3,h4,h5,h6⟩
 ·refine wpAny_pyNext_zip_item D h1 Z.ti h2 Z.a1 Z.a2 Z.b1 Z.b2 hx hy fun h' q1 q2 q3 q4 q5 q6 q7=>hQ h' ⟨q7 _ _ D.TIz D.TITO D.TIi1 D.TIi2 Z.ti,q3,q4,?_,?_,?_⟩ q5 q7
  ·obtain⟨o,ho,r⟩:=Z.b1;exact⟨o,q7 _ _ D.l1z D.l1TO D.l1i1 D.l1i2 ho,r⟩
  ·obtain⟨o,ho,r⟩:=Z.b2;exact⟨o,q7 _ _ D.l2z D.l2TO D.l2i1 D.l2i2 ho,r⟩
  ·obtain⟨o1,e1,_⟩:=Z.a1
   obtain⟨o2,e2,_⟩:=Z.a2
   exact .inr ⟨_,false,_,q1,q5,lt h1,lt e1,lt e2,lt hd⟩
 ·refine a8e D h1 h2 Z.ti Z.a1 Z.a2 Z.b1 Z.b2 hx hy fun h' q1 q3 q4 q5 q7=>hQ h' ⟨q7 _ _ D.TIz D.TIi1 D.TIi2 Z.ti,q3,q4,?_,?_,.inr ⟨T,true,ot,q1,q7 _ _ h3 h4 h5 h2,h3,h4,h5,h6⟩⟩ q5 fun c o c1 _ c3 c4 e=>q7 c o c1 c3 c4 e
  ·obtain⟨o,ho,r⟩:=Z.b1;exact⟨o,q7 _ _ D.l1z D.l1i1 D.l1i2 ho,r⟩
  ·obtain⟨o,ho,r⟩:=Z.b2;exact⟨o,q7 _ _ D.l2z D.l2i1 D.l2i2 ho,r⟩
theorem b0v {d z TI TO i1 i2 l1 l2:Addr}{k:Nat}{xs ys:Array Value}{Q:Option Value→Shared→Prop}(hh:A.handled=none)(D:ZipApart z TI TO i1 i2 l1 l2)
  (Z:ZipSt s.heap d z TI TO i1 i2 l1 l2 k xs ys) (hend:xs[k]?=none∨ys[k]?=none)
  (hQ:∀h',(∀c o,c≠z→c≠TO→c≠i1→c≠i2→s.heap.get? c=some o→h'.get? c=some o)→Q none {s with heap:=h'}):wpAny (model prog w) A (pyNext (.ref z)) Q E s:=by
 rcases Z.st with⟨a,b,h1,h2⟩|⟨T,b,ot,h1,h2,h3,h4,h5,h6⟩
 ·exact wpAny_pyNext_zip_end hh D h1 Z.ti h2 Z.a1 Z.a2 Z.b1 Z.b2 hend hQ
 ·exact b0S hh D h1 h2 Z.ti Z.a1 Z.a2 Z.b1 Z.b2 hend fun h' q=>hQ h' fun c o c1 _ c3 c4 e=>q c o c1 c3 c4 e
end
section
variable {prog:Program} {w:World} {KT:Type} [DecidableEq KT] {knd:KeyKind prog w KT} {A:Around} {E:Value→Shared→Prop}
def a2l (knd:KeyKind prog w KT)(u:Value×Value)(kv:KT×Value):Prop:=knd.is kv.1 u.1=true∧u.2=kv.2
theorem a2z {d z TI TO i1 i2 l1 l2:Addr}{xs ys:List Value}{res:Value}(hh:A.handled=none)(D:ZipApart z TI TO i1 i2 l1 l2)(O:a4h d z TI TO i1 i2 l1 l2):
  ∀(more:List (KT×Value)) (i:Nat) (s:Shared) (kvs:List (KT×Value)) (R:Result→Shared→Prop),
   ZipSt s.heap d z TI TO i1 i2 l1 l2 i xs.toArray ys.toArray→Paired (a2l knd) ((xs.zip ys).drop i) more→s.heap.DictOf knd d kvs→kvs.length+more.length≤sizeLine→
   (∀h' tk,(∀b o,b≠d→b≠z→b≠TO→b≠i1→b≠i2→s.heap.get? b=some o→h'.get? b=some o)→h'.DictOf knd d (more.foldl (fun a x=>stored a x.1 x.2) kvs)→R (.ok (.ret res)) {s with heap:=h',toks:=tk})→
   codeAny (model prog w) A (.builtin "dict.update.loop" ⟨[.ref d,.ref z,rawInt (i:Int),res],[]⟩) R s
 |[],i,s,kvs,R,Z,hp,hd,hz,hR=>by
  have hend:xs.toArray[i]?=none∨ys.toArray[i]?=none:=by
   have hn:(xs.zip ys).drop i=[]:=by cases hp':(xs.zip ys).drop i with
    |nil=>rfl
    |cons x r=>rw[hp'] at hp;cases hp
   have hl:=List.drop_eq_nil_iff.mp hn
   rw[List.length_zip] at hl
   by_cases h:xs.length≤i
   ·exact .inl (by simp;omega)
   ·exact .inr (by simp;omega)
  refine codeAny_builtin N2 ?_
  rw[Around.under_plainId z9 _]
  show wpAny _ A.in1 (pyNext (.ref z)>>=_) _ _ s
  refine wpAny_bind (b0v (A:=A.in1) hh D Z hend fun h' kp=>?_)
  show wpAny _ A.in1 (Builtin.Dict.addKeywords d []>>=_) _ _ _
  refine wpAny_bind (wpAny_pure (wpAny_pure ?_))
  refine hR h' s.toks (fun b o _ h1 h2 h3 h4 e=>kp b o h1 h2 h3 h4 e) ?_
  obtain⟨od,es,ep,e,r⟩:=hd
  exact⟨od,es,ep,kp d od (Ne.symm O.z) (Ne.symm O.TO) (Ne.symm O.i1) (Ne.symm O.i2) e,r⟩
 |kv::more,i,s,kvs,R,Z,hp,hd,hz,hR=>by
  obtain⟨x,y,hx,hy,hk,hp1⟩:∃x y,xs.toArray[i]?=some x∧ys.toArray[i]?=some y∧a2l knd (x,y) kv∧Paired (a2l knd) ((xs.zip ys).drop (i+1)) more:=by
   cases hp':(xs.zip ys).drop i with
   |nil=>rw[hp'] at hp;cases hp
   |cons u r=>
    rw[hp'] at hp
    cases hp with
    |cons h1 h2=>
     have z1:(xs.zip ys)[i]?=some u:=by
      have z:=congrArg List.head? hp'
      simpa using z
     obtain⟨q1,q2⟩:=List.getElem?_zip_eq_some.mp z1
     refine⟨u.1,u.2,by simpa using q1,by simpa using q2,h1,?_⟩
     have z:=congrArg List.tail hp'
     rw[List.tail_drop] at z
     rw[z];exact h2
  obtain⟨hkey,hv⟩:=hk
  obtain⟨od,es,ep,eod,rod⟩:=id hd
  refine codeAny_builtin N2 ?_
  rw[Around.under_plainId z9 _]
  show wpAny _ A.in1 (pyNext (.ref z)>>=_) _ _ s
  refine wpAny_bind (a8C D O eod Z hx hy fun h' Z' hT kp=>?_)
  refine wpAny_bind (wpAny_holding (wpAny_bind (wpAny_tryCatch ?_)))
  unfold Builtin.Dict.pairItems
  refine wpAny_bind (wpAny_typeOf (s:={s with heap:=h'}) ⟨_,hT,rfl⟩ ?_)
  rw[if_pos (by decide)]
  refine wpAny_bind (wpAny_seqItems (s:={s with heap:=h'}) hT rfl ?_)
  refine wpAny_pure ?_
  show wpAny _ A.in1 (holding [x,y] (dictSet d x y)) _ _ _
  have hd':h'.DictOf knd d kvs:=⟨od,es,ep,kp d od (Ne.symm O.z) (Ne.symm O.TO) (Ne.symm O.i1) (Ne.symm O.i2) eod,rod⟩
  refine wpAny_holding (wpAny_dictSet_pairs (s:={s with heap:=h'}) (kvs:=kvs) hkey hd' (fun h'' dd hs''=>?_) (by simp only[List.length_cons] at hz;omega))
  have kp2:∀b o,b≠d→b≠z→b≠TO→b≠i1→b≠i2→s.heap.get? b=some o→h''.get? b=some o:=fun b o h0 h1 h2 h3 h4 e=>hs''.extBut b o h0 (kp b o h1 h2 h3 h4 e)
  refine wpAny_pure ⟨plainId_quiet z9 _,?_⟩
  have ey:y=kv.2:=hv
  rw[ey] at dd
  refine a2z hh D O more (i+1) _ (stored kvs kv.1 kv.2) R (Z'.keep O fun c o hc e=>hs''.extBut c o hc e) hp1 dd ?_ (fun h3 tk k3 d3=>hR h3 tk (fun b o h0 h1 h2 h3 h4 e=>k3 b o h0 h1 h2 h3 h4 (kp2 b o h0 h1 h2 h3 h4 e)) d3)
  have z:=stored_length_le kvs kv.1 kv.2
  simp only[List.length_cons] at hz
  omega
end
end L2
set_option Elab.async false
set_option linter.all false
set_option maxRecDepth 100000
set_option maxHeartbeats 4000000
namespace L2
open PySem PySem.Spec PyProof.Rows
section
variable {prog:Program} {w:World} {KT:Type} [DecidableEq KT] {knd:KeyKind prog w KT} {A:Around} {E:Value→Shared→Prop}
theorem a2V {z TI TO i1 i2 l1 l2:Addr}{xs ys:List Value}{more:List (KT×Value)}{a b:Value}{s:Shared}{Q:Value→Shared→Prop}(hh:A.handled=none)(D:ZipApart z TI TO i1 i2 l1 l2)
  (hz:IsZip s.heap z TI TO .none) (hTI:IsPair s.heap TI (.ref i1) (.ref i2)) (hTO:IsPair s.heap TO a b) (h1:s.heap.IsListIter i1 l1 0) (h2:s.heap.IsListIter i2 l2 0) (hl1:s.heap.IsList l1 xs.toArray) (hl2:s.heap.IsList l2 ys.toArray)
  (hlen:more.length≤sizeLine) (hp:Paired (a2l knd) (xs.zip ys) more)
  (h:∀h' tk,h'.DictOf knd s.heap.objs.size (more.foldl (fun a x=>stored a x.1 x.2) [])→(∀b o,b≠z→b≠TO→b≠i1→b≠i2→s.heap.get? b=some o→h'.get? b=some o)→Q (.ref s.heap.objs.size) {s with heap:=h',toks:=tk}):
  wpAny (model prog w) A (call (.type "dict") [.ref z]) Q E s:=by
 refine callType_codes (Q₁:=fun obj s₁=>obj= .ref s.heap.objs.size∧s₁={s with heap:=s.heap.push {cls:= .type "dict",data:= .dict #[]}}) F.kt_called_dict (F.kt_typeCall_dict_1 _) F.entry_dict_init (kt_code_dict_new _ ⟨rfl,rfl⟩) ?_
 rintro obj s₁ ⟨rfl,rfl⟩
 have hnew:(s.heap.push {cls:= .type "dict",data:= .dict #[]}).DictOf knd s.heap.objs.size []:=Heap.DictOf.new s.heap
 have ne:∀{c:Addr} {o:Obj},s.heap.get? c=some o→c≠s.heap.objs.size:=fun{c o} e=>Nat.ne_of_lt (Heap.lt_size e)
 obtain⟨o1,e1,r1⟩:=id h1
 obtain⟨o2,e2,r2⟩:=id h2
 obtain⟨o3,e3,r3⟩:=id hl1
 obtain⟨o4,e4,r4⟩:=id hl2
 have O:a4h s.heap.objs.size z TI TO i1 i2 l1 l2:=⟨ne hz,ne hTI,ne hTO,ne e1,ne e2,ne e3,ne e4⟩
 refine⟨hnew.typeIs,F.args_dict_init_2 _ _,?_⟩
 unfold Builtin.«dict.__init__»
 refine wpAny_bind ?_
 unfold Builtin.Dict.selfAndRest
 refine wpAny_bind (wpAny_notOrdered_dict hnew.typeIs ?_)
 show wpAny _ _ (pure (s.heap.objs.size,[Value.ref z])) _ _ _
 refine wpAny_pure ?_
 show wpAny _ _ (Builtin.Dict.updateFrom "dict.__init__" s.heap.objs.size (.ref z) [] .none) _ _ _
 unfold Builtin.Dict.updateFrom
 have hz1:(s.heap.push {cls:= .type "dict",data:= .dict #[]}).get? z=some _:=Heap.get?_push_of_some _ hz
 refine wpAny_bind (wpAny_typeOf (s:={s with heap:=s.heap.push {cls:= .type "dict",data:= .dict #[]}}) ⟨_,hz1,rfl⟩ ?_)
 rw[if_pos (by decide)]
 refine wpAny_bind (a4N (s:={s with heap:=s.heap.push {cls:= .type "dict",data:= .dict #[]}}) hz1 hh fun h2 tk2 k2=>?_)
 rw[if_pos (show((none:Option Value).isNone)=true from rfl)]
 have up:∀b ob,s.heap.get? b=some ob→h2.get? b=some ob:=fun b ob e=>k2 b ob (Heap.get?_push_of_some _ e)
 have hd2:h2.DictOf knd s.heap.objs.size []:=let ⟨od,es,ep,e,r⟩:=hnew;⟨od,es,ep,k2 _ _ e,r⟩
 refine wpAny_bind (wpAny_rule (wpAny_bind (wpAny_pyIter_zip (f0:= .none) (up _ _ hz) ?_)))
 refine wpAny_pure ⟨plainId_quiet z9 _,?_⟩
 refine a2z (knd:=knd) (xs:=xs) (ys:=ys) (A:=A.in1) hh D O more 0 _ [] _ ⟨up _ _ hTI,⟨o1,up _ _ e1,r1⟩,⟨o2,up _ _ e2,r2⟩,⟨o3,up _ _ e3,r3⟩,⟨o4,up _ _ e4,r4⟩,.inl ⟨a,b,up _ _ hz,up _ _ hTO⟩⟩ (by rw[List.drop_zero];exact hp) hd2 (by simpa using hlen) fun h3 tk k3 d3=>⟨rfl,h h3 tk d3 fun b ob c1 c2 c3 c4 e=>k3 b ob (ne e) c1 c2 c3 c4 (up b ob e)⟩
end
section
variable {X:Cx} {a b:Expr} {t:TA} {p pos p2 pos2:Pos}
def tDZ (K:PySem.W.Frag)(t:TA):TE:=fun σ H Q=>t σ H fun vs H1=>∃(l m:Addr) (ks:List Key) (ys:List V),vs=[.ref l,.ref m]∧SqL K H1 l (ks.map kV)∧SqL K H1 m ys∧∀d,H1 d=none→Q (.ref d) (upd H1 d (.dK (a0w (ks.zip ys))))
theorem a3w {P:Program}{w:World}:∀{ks:List Key} {ys:List V} {us vs:List Value},Vals (ks.map kV) us→Vals ys vs→∃more,Paired (a2l (j0 P w)) (us.zip vs) more∧KV (ks.zip ys) more
 |[],_,_,_,.nil,_=>⟨[],.nil,.nil⟩
 |_::_,[],_,_,.cons _ _,.nil=>⟨[],.nil,.nil⟩
 |k::ks,y::ys,u::us,v::vs,.cons r t,.cons r' t'=>by
  obtain⟨more,h1,h2⟩:=a3w (P:=P) (w:=w) t t'
  exact⟨(k,v)::more,.cons ⟨a1J r,rfl⟩ h1,.cons ⟨rfl,r'⟩ h2⟩
theorem b6y (hgd:Gl X "dict")(hmd:X.mg "dict"=none)(hgz:Gl X "zip")(hmz:X.mg "zip"=none)(hc:X.calm=true)(ha:PA X [a,b] t)(hs:starEach [a,b] X.env=[(false,eval a X.env),(false,eval b X.env)])(hs2:starEach [b] X.env=[(false,eval b X.env)])
  (hs3:starEach [Expr.Call (.Name "zip" p2) [a,b] [] pos2] X.env=[(false,eval (Expr.Call (.Name "zip" p2) [a,b] [] pos2) X.env)]):PE X (.Call (.Name "dict" p) [.Call (.Name "zip" p2) [a,b] [] pos2] [] pos) (tDZ X.K t):=by
 intro pins s σ H Q I h
 refine wpAny_Call_Name_kw (Z1 I hgd hmd Boot.«dict» (PyProof.Rows.callWith_type1 ?_ hs3 rfl) (by decide) (by decide))
 rw[hs3]
 show wpAny _ _ (spliced [(false,eval (Expr.Call (.Name "zip" p2) [a,b] [] pos2) X.env)]) _ _ s
 refine Calls.spliced_cons ?_
 refine wpAny_Call_Name_kw (Z1 I hgz hmz Boot.«zip» (PyProof.Rows.callWith_type1 (thn (ha pos2 pins s σ H _ I h) fun us s1 ⟨vs,H1,I1,r1,q1⟩=>?_) (by rw[hs,hs2]) (by rw[hs2];rfl)) (by decide) (by decide))
 obtain⟨l,m,ks,ys,e,hq,hq',q⟩:=q1
 subst e
 obtain⟨u,v,rfl,ru,rv⟩:=W2 r1
 cases ru
 cases rv
 obtain⟨its,rv,pl,hz⟩:=I1.list hq
 obtain⟨its',rv',pl',hz'⟩:=I1.list hq'
 obtain⟨more,g1,g2⟩:=a3w (P:=X.prog) (w:=X.w) rv rv'
 refine call_zip_2 pl.isList pl'.isList fun h' z1 z2 z3 z4 z5 hsz hk=>?_
 refine Calls.spliced_nil ?_
 have ll:(l:Nat)<(s1.heap.objs.size:Nat):=by obtain⟨o,e,_⟩:=pl.isList;exact Heap.lt_size e
 have lm:(m:Nat)<(s1.heap.objs.size:Nat):=by obtain⟨o,e,_⟩:=pl'.isList;exact Heap.lt_size e
 have D:ZipApart (s1.heap.objs.size+4) (s1.heap.objs.size+2) (s1.heap.objs.size+3) s1.heap.objs.size (s1.heap.objs.size+1) l m:=by
  constructor<;>first|exact Nat.ne_of_lt (Nat.lt_of_lt_of_le ll (by omega))|exact Nat.ne_of_lt (Nat.lt_of_lt_of_le lm (by omega))|(intro z;have z':(_:Nat)=(_:Nat):=z;omega)
 have hml:more.length≤sizeLine:=by
  have e1:=KV.length g2
  rw[List.length_zip] at e1
  omega
 refine a2V (knd:=j0 X.prog X.w) (s:={s1 with heap:=h'}) (I.ok.hd hc) D z1 z2 z3 z4 z5 ?_ ?_ hml g1 fun h3 tk d3 k3=>?_
 ·obtain⟨o,e,r⟩:=pl.isList;exact⟨o,hk _ _ e,r⟩
 ·obtain⟨o,e,r⟩:=pl'.isList;exact⟨o,hk _ _ e,r⟩
 have hdn:s1.heap.objs.size≤h'.objs.size:=by rw[hsz];omega
 refine⟨.ref h'.objs.size,_,I1.laid (a:=h'.objs.size) (t':=tk) (fun b o e=>?_) hdn (a2S (kvs:=a0w (ks.zip ys)) ?_ ?_ (KV.puts g2 .nil) d3),rfl,q _ (I1.hok.fresh hdn)⟩
 ·have hb:(b:Nat)<(s1.heap.objs.size:Nat):=Heap.lt_size e
  exact k3 b o (Nat.ne_of_lt (Nat.lt_of_lt_of_le hb (by omega))) (Nat.ne_of_lt (Nat.lt_of_lt_of_le hb (by omega))) (Nat.ne_of_lt (Nat.lt_of_lt_of_le hb (by omega))) (Nat.ne_of_lt (Nat.lt_of_lt_of_le hb (by omega))) (hk _ _ e)
 ·have z:=Z3 (ks.zip ys) []
  unfold a0w
  have e1:=KV.length g2
  simp only[List.length_nil] at z
  omega
 ·exact beq_eq_false_iff_ne.mpr (Ne.symm (Nat.ne_of_lt (Nat.lt_of_lt_of_le I1.big hdn)))
theorem qDZ (K:PySem.W.Frag)(hmd:X.mg "dict"=none)(hmz:X.mg "zip"=none)(hc:X.calm=true)(ha:QA X [a,b] t)(hgd:Gl X "dict":=by rfl)(hgz:Gl X "zip":=by rfl)(h:u6 a=true:=by rfl)(h':u6 b=true:=by rfl)(hK:X.K=K:=by rfl):
  QE X (.Call (.Name "dict" p) [.Call (.Name "zip" p2) [a,b] [] pos2] [] pos) (tDZ K t):=⟨hK▸b6y hgd hmd hgz hmz hc ha.r (by rw[Q7 h,Q7 h'];rfl) (Q7 h') (Q7 rfl)⟩
theorem b7y {K:PySem.W.Frag}{σ:L2.St}{H:Hp}{Q:VK}{t:TA}(q:t σ H fun vs H1=>∃(l m:Addr) (ks:List Key) (ys:List V),vs=[.ref l,.ref m]∧SqL K H1 l (ks.map kV)∧SqL K H1 m ys∧∀d,H1 d=none→Q (.ref d) (upd H1 d (.dK (a0w (ks.zip ys))))):tDZ K t σ H Q:=q
end
end L2
set_option Elab.async false
set_option linter.all false
set_option maxRecDepth 100000
set_option maxHeartbeats 4000000
namespace L2
open PySem PySem.Spec PyProof.Rows
open PySem.AutoSeq1 (wpAny_loadPart')
open PySem.MeetsSeq PySem.MeetsSeq2 PySem.MeetsSeq3
def EqL (K:PySem.W.Frag)(H:Hp)(x y:V)(b:Bool):Prop:=∃(a c:Addr) (xs ys:List V),x= .ref a∧y= .ref c∧SqL K H a xs∧SqL K H c ys∧xs.all z6=true∧ys.all z6=true∧b=L7 xs ys
section
variable {X:Cx} {pins:List (Addr×Obj)} {σ:St} {H:Hp} {s:Shared} {A:Around}
theorem EqL.at_ {x y:V}{u v:Value}{b:Bool}(I:Inv X pins σ H s)(h:EqL X.K H x y b)(rx:RelV x u)(ry:RelV y v)(hu:A.units+8<cLine):SeqAt.EqAt A s u v b:=by
 obtain⟨a,c,xs,ys,rfl,rfl,ha,hc,fx,fy,rfl⟩:=h
 cases rx
 cases ry
 obtain⟨its,r1,p1,z1⟩:=I.list ha
 obtain⟨its',r2,p2,z2⟩:=I.list hc
 by_cases hac:a=c
 ·subst hac
  have e:=I.list_inj ha hc
  subst e
  rw[a0j fx]
  exact SeqAt.EqAt.same _
 ·have l1:=r1.length
  have l2:=r2.length
  by_cases hl:xs.length=ys.length
  ·have q:=SeqAt.RcAt.lists (A:=A) (e:=fun j=>eqV (xs.getD j .non) (ys.getD j .non)) p1.isList p2.isList (by simp;omega) (by omega) fun j g1 g2=>by
    have g1':j<its.length:=by simpa using g1
    have g2':j<its'.length:=by simpa using g2
    have x1:xs[j]?=some (xs[j]'(by omega)):=by simp [show j<xs.length by omega]
    have y1:ys[j]?=some (ys[j]'(by omega)):=by simp [show j<ys.length by omega]
    obtain⟨u1,hu1,ru1⟩:=r1.get x1
    obtain⟨u2,hu2,ru2⟩:=r2.get y1
    have e1:its.toArray[j]=u1:=by
     have:=List.getElem?_eq_getElem g1'
     rw[hu1] at this
     simpa using(Option.some.inj this).symm
    have e2:its'.toArray[j]=u2:=by
     have:=List.getElem?_eq_getElem g2'
     rw[hu2] at this
     simpa using(Option.some.inj this).symm
    rw[e1,e2]
    have d1:xs.getD j .non=xs[j]'(by omega):=by rw[List.getD_eq_getElem?_getD,x1];rfl
    have d2:ys.getD j .non=ys[j]'(by omega):=by rw[List.getD_eq_getElem?_getD,y1];rfl
    rw[d1,d2]
    exact R9 ru1 ru2 (List.all_eq_true.mp fx _ (List.getElem_mem _)) (List.all_eq_true.mp fy _ (List.getElem_mem _))
   have e3:its.toArray.size=min xs.length ys.length:=by simp;omega
   have z:=K6 xs ys
   rw[show(xs.length==ys.length)=true by simpa using hl,Bool.and_true] at z
   rw[e3,z] at q
   exact .of_refs hac q
  ·rw[a0P hl]
   exact .of_refs hac (SeqAt.RcAt.lists_lengths p1.isList p2.isList (by simp;omega) (by omega))
end
section
variable {X:Cx}
def a6R (K:PySem.W.Frag):V→List V→Hp→VK→Prop:=fun x vs H Q=>∃(l:Addr) (xs:List V) (y:V) (f:V→Bool),x= .ref l∧vs=[y]∧H l=some (.lst xs)∧(∀z∈xs,EqL K H z y (f z))∧Q (.int (xs.countP f:Nat)) H
theorem a1L {k:Nat}(hr:Room k X.A):MtR X "list.count" (a6R X.K):=by
 intro pins s σ H x vs v us Q I rx rv h
 obtain⟨l,xs,y,f,rfl,rfl,hl,he,q⟩:=h
 cases rx
 obtain⟨u,rfl,ru⟩:=P0 rv
 obtain⟨hz,its,n,r,hle,e⟩:=I.lstM hl
 refine call_meets F.slot_list_count ⟨_,e,rfl⟩ F.entry_list_count (F.args_list_count_2 _ _) (SeqAt.list_countAt l its.toArray n _ _ u (f∘toV)) ⟨e,fun w hw=>?_,?_⟩
 ·obtain⟨z,hz',rz⟩:=a1I r (show w∈its by simpa using hw)
  have g:=EqL.at_ (A:=X.A.in1) I (he z hz') rz ru (by have:=hr.un;show X.A.units+1+8<cLine;omega)
  rw[show(f∘toV) w=f z by show f (toV w)=f z;rw[a9I rz]]
  exact g
 ·refine⟨.int (xs.countP f:Nat),H,I.tok _,⟨s.toks,?_⟩,q⟩
  show Value.int (its.countP (f∘toV):Nat) _=_
  rw[b6E r]
theorem a1Q {X:Cx}{k:Nat}(K:PySem.W.Frag)(hr:Room k X.A)(h:X.K=K:=by rfl):MtR X "list.count" (a6R K):=h▸a1L hr
theorem a4e {X:Cx}:MtR X "list.pop" b5t:=b3B
theorem b7u {pos:Pos}:QE X (.Dict [] [] pos) b0z:=⟨a8O⟩
end
section
variable {P:Program} {w:World}
end
section
variable {X:Cx}
end
section
variable {K:PySem.W.Frag} {H:Hp} {Q:VK} {x y:V}
end
end L2
set_option Elab.async false
set_option linter.all false
set_option maxRecDepth 100000
set_option maxHeartbeats 4000000
namespace PySem
section
variable {prog:Program} {w:World} {K:Type} [DecidableEq K] {A:Around} {E:Value→Shared→Prop} {s:Shared}
theorem T0 {knd:HeapKind prog w K}{d a:Addr}{xs:List (K×Addr×Value)}{k:K}{v:Value}{Q:Value→Shared→Prop}(hu:knd.room A)(hkey:knd.is s.heap k a)(hm:s.heap.DictOfH knd d xs)
  (hthere:∀p,atKey xs k=some p→Q p.2 {s with toks:=s.toks+knd.draws k})
  (hQ:atKey xs k=none→∀h',h'.DictOfH knd d (storedH xs k a v)→Heap.SameBut d s.heap h'→Q v {s with heap:=h',toks:=s.toks+knd.draws k})
  (hsz:xs.length≤sizeLine):
  wpAny (model prog w) A (dictSetDefault d (.ref a) v) Q E s:=by
 obtain⟨o,es,ep,ho,hc,hd,he,his,hn⟩:=hm
 unfold dictSetDefault
 try with_reducible refine wpAny_holding ?_
 refine wpAny_bind (knd.pyHash hu hkey ?_)
 refine wpAny_bind (wpAny_dictFind_heap (s:={s with toks:=s.toks+knd.draws k}) hu hkey ho hd he his hn ?_ ?_)
 ·intro hno
  have hnot:k∉xs.map (·.1):=not_mem_keys_of_get hno
  refine wpAny_bind (wpAny_rule (wpAny_bind (wpAny_updateDictKeys (hz:=by have e:=size_of_entries he;omega) (s:={s with toks:=s.toks+knd.draws k}) ho hd (wpAny_pure (hQ (atKey_none_of_get hno) _ ⟨_,_,ep+1,Heap.get?_update_self _ ho (Obj.isFreed_of_dict (Obj.data_mapDictKeys hd _)),
   hc.mapDictKeys _,Obj.data_mapDictKeys hd _,?_,?_,?_⟩ (Heap.SameBut.update ..))))))
  ·rw[storedH_new (atKey_none_of_get hno)]
   simp [he,entryOfKey]
  ·rw[storedH_new (atKey_none_of_get hno)]
   intro x hx
   rcases List.mem_append.mp hx with hx|hx
   ·exact knd.keeps (his x hx) ho hd (Heap.SameBut.update ..)
   ·simp only[List.mem_singleton] at hx
    subst hx
    exact knd.keeps hkey ho hd (Heap.SameBut.update ..)
  ·rw[storedH_new (atKey_none_of_get hno)]
   rw[List.map_append,List.nodup_append]
   refine⟨hn,by simp,?_⟩
   intro x hx y hy
   simp only[List.map_cons,List.map_nil,List.mem_singleton] at hy
   subst hy
   exact fun e=>hnot (e▸hx)
 ·intro j p hj
  refine wpAny_bind (wpAny_dictEntries (s:={s with toks:=s.toks+knd.draws k}) ho hd ?_)
  rw[entry_at he j,hj]
  exact wpAny_bind (wpAny_rule (wpAny_pure (hthere _ (atKey_of_get hn hj))))
theorem X4 (knd:HeapKind prog w K)(d a:Addr)(hd:(d==sysModules)=false)(dflt:Value):
  MeetsIn prog w (Builtin.«dict.setdefault» ⟨[.ref d,.ref a,dflt],[]⟩) (fun A R s=>knd.room A.in1∧∃k xs,knd.is s.heap k a∧s.heap.DictOfH knd d xs∧xs.length≤sizeLine∧
   (∀p,atKey xs k=some p→R (.ok (.ret p.2)) {s with toks:=s.toks+knd.draws k})∧
   (atKey xs k=none→∀h',h'.DictOfH knd d (storedH xs k a dflt)→Heap.SameBut d s.heap h'→R (.ok (.ret dflt)) {s with heap:=h',toks:=s.toks+knd.draws k})):=
 .of_wp fun A R s ⟨hu,k,xs,hk,hm,hz,h1,h2⟩=>by
  unfold Builtin.«dict.setdefault»
  refine wpAny_bind ?_
  unfold Builtin.Dict.keyAndDefault
  refine wpAny_bind (wpAny_notOrdered_dict hm.typeIs ?_)
  show wpAny _ _ (pure (d,Value.ref a,some dflt)) _ _ s
  refine wpAny_pure ?_
  show wpAny _ _ (if(d==sysModules)=true then _ else(dictSetDefault d (.ref a) dflt>>=_)) _ _ s
  rw[if_neg (by rw[hd];exact Bool.false_ne_true)]
  exact wpAny_bind (T0 hu hk hm (fun p hp=>wpAny_pure ⟨_,rfl,h1 p hp⟩) (fun hn h' hm' hs'=>wpAny_pure ⟨dflt,rfl,h2 hn h' hm' hs'⟩) hz)
end
end PySem
namespace L2
open PySem PySem.Spec PyProof.Rows
section
variable {X:Cx}
def b1G:V→List V→Hp→VK→Prop:=fun x vs H Q=>∃(d t:Addr) (kvs:List (List Key×V)) (k:List Key) (v:V),x= .ref d∧vs=[.ref t,v]∧H d=some (.dT kvs)∧H t=some (.tup (k.map kV))∧kvs.length<sizeLine∧
 (match p6 kvs k with|some u=>Q u H|none=>Q v (upd H d (.dT (B8 kvs k v))))
theorem a0p {k:Nat}(hr:Room k X.A):MtR X "dict.setdefault" b1G:=by
 intro pins s σ H x vs v us Q I rx rv h
 obtain⟨d,t,kvs,k',y,rfl,rfl,e,et,hl,q⟩:=h
 cases rx
 obtain⟨u1,u2,rfl,r1,r2⟩:=W2 rv
 cases r1
 obtain⟨z,hd,xs,rel,dd⟩:=b2M I.hok e
 have hz:xs.length≤sizeLine:=by rw[←Paired.length rel];exact z
 have hl':(B8 kvs k' y).length≤sizeLine:=by have:=O8 kvs k' y;omega
 refine call_meetsIn F.slot_dict_setdefault dd.typeIs F.entry_dict_setdefault (F.args_dict_setdefault_3 _ _ _) (X4 (tupleKind (j0 X.prog X.w)) d t hd u2) ⟨tupleKind_room_in1 (by have:=hr.un;omega),k',xs,a0D I.hok et,dd,hz,fun p hp=>?_,fun hn h' dd' hs=>?_⟩
 ·have hw:(atKey xs k').map (·.2)=some p.2:=by rw[hp];rfl
  have ro:=rel.val k'
  rw[hw] at ro
  cases hv:p6 kvs k' with
  |none=>rw[hv] at ro;cases ro
  |some w'=>
   rw[hv] at ro q
   exact⟨w',H,I.tok _,ro,q⟩
 ·have ro:=rel.val k'
  rw[hn] at ro
  cases hv:p6 kvs k' with
  |some w'=>rw[hv] at ro;cases ro
  |none=>
   rw[hv] at q
   refine⟨y,_,?_,r2,q⟩
   obtain⟨o',es,ep,hq,h2,h3,h4,_,h5⟩:=dd'
   refine a1h I (by rw[e];exact True.intro) hs ⟨o',hq⟩ ⟨hl',hd,_,(rel.put k' et r2).keeps fun c ys ec=>?_,o',es,ep,hq,h2,h3,h4,h5⟩
   rw[b5 (b2J ec e (fun z=>nomatch z))]
   exact ec
end
section
variable {X:Cx}
def a9L (K:PySem.W.Frag):List V→Hp→VK→Prop:=fun xs H Q=>∃(t:Addr) (a b:Str),xs=[.ref t]∧SqT K H t [.str a,.str b]∧Q (.str (if a.cps.toList<b.cps.toList then b else a)) H
theorem a8x (hc:X.calm=true):CallR X (.builtin "max") (a9L X.K):=by
 intro pins s σ H xs us Q I r h
 obtain⟨t,a,b,rfl,ht,q⟩:=h
 obtain⟨u,rfl,ru⟩:=P0 r
 cases ru
 obtain⟨its,rv,p,hz⟩:=I.tuple ht
 obtain⟨_,_,rfl,⟨t1,rfl⟩,⟨t2,rfl⟩⟩:=W2 rv
 refine call_max_walk (wpAny_pyIter_tuple (show s.heap.IsTuple t #[Value.str a t1,Value.str b t2] from p) ?_)
 have hlt:t<s.heap.objs.size:=by
  obtain⟨o,e,_⟩:=(show s.heap.IsTuple t #[Value.str a t1,Value.str b t2] from p)
  exact Heap.lt_size e
 have kp:∀c o,s.heap.get? c=some o→(s.heap.push {cls:= .type "tuple_iterator",data:= .fields #[.ref t,.int 0 0]}).get? c=some o:=fun c o e=>Heap.get?_push_of_some _ e
 refine⟨s.heap.objs.size,[s.heap.objs.size,t],[s.heap.objs.size],2,_,_,fun i j=>decide ((if j=0 then a else b).cps.toList<(if i=0 then a else b).cps.toList),rfl,Walks.tuple (A:=X.A.in1) (show X.A.in1.handled=none from I.ok.hd hc) s.heap.objs.size t (Nat.ne_of_lt hlt) #[Value.str a t1,Value.str b t2],⟨⟨_,Heap.get?_push_size _ rfl,rfl,rfl⟩,let ⟨o,e,r⟩:=p;⟨o,kp _ _ e,r⟩⟩,fun c hc'=>?_,by decide,?_,?_⟩
 ·show c<(s.heap.push _).objs.size
  rcases List.mem_cons.mp hc' with rfl|hc'
  ·simp [Heap.push]
  ·rw[List.mem_singleton.mp hc']
   have z:s.heap.objs.size<(s.heap.push {cls:= .type "tuple_iterator",data:= .fields #[.ref t,.int 0 0]}).objs.size:=by simp [Heap.push]
   exact Nat.lt_trans hlt z
 ·intro i j vi vj s' Q' E' hi hj hQ
  have key:∀(i:Nat) (v:Value),(#[Value.str a t1,Value.str b t2]:Array Value)[i]?=some v→∃tk,v= .str (if i=0 then a else b) tk:=fun i v h=>by
   match i,h with
   |0,h=>exact⟨t1,by simpa using h.symm⟩
   |1,h=>exact⟨t2,by simpa using h.symm⟩
   |n+2,h=>simp at h
  obtain⟨k1,rfl⟩:=key i vi hi
  obtain⟨k2,rfl⟩:=key j vj hj
  exact richCompare_gives (op:= .Gt) (typeIs_str _ _ _) (typeIs_str _ _ _) F.slot_str_gt F.entry_str_gt (F.args_str_gt_2 _ _) (gives_str_gt _ _ _ _) (fun e=>nomatch e) hQ
 ·intro v h' tk hv hk
  have I2:Inv X pins σ H {s with heap:=h',toks:=tk}:=I.kept fun c o e=>hk c o (fun z=>by rw[List.mem_singleton.mp z] at e;exact absurd (Heap.lt_size e) (Nat.lt_irrefl _)) (kp c o e)
  refine⟨_,H,I2,?_,q⟩
  by_cases hl:a.cps.toList<b.cps.toList
  ·have e:argBest (fun i j=>decide ((if j=0 then a else b).cps.toList<(if i=0 then a else b).cps.toList)) (2 -1)=1:=by show(if decide (a.cps.toList<b.cps.toList)=true then 1 else 0)=1;rw[if_pos (decide_eq_true hl)]
   rw[e] at hv
   rw[if_pos hl]
   exact⟨t2,by simpa using hv.symm⟩
  ·have e:argBest (fun i j=>decide ((if j=0 then a else b).cps.toList<(if i=0 then a else b).cps.toList)) (2 -1)=0:=by show(if decide (a.cps.toList<b.cps.toList)=true then 1 else 0)=0;rw[if_neg (by rw[decide_eq_false hl];decide)]
   rw[e] at hv
   rw[if_neg hl]
   exact⟨t1,by simpa using hv.symm⟩
theorem b5c (K:PySem.W.Frag)(hc:X.calm=true)(h:X.K=K:=by rfl):CallR X (.builtin "max") (a9L K):=h▸a8x hc
end
theorem b3M {K:PySem.W.Frag}{H:Hp}{Q:VK}{t:Addr}{a b:Str}(h:SqT K H t [.str a,.str b])(q:Q (.str (if a.cps.toList<b.cps.toList then b else a)) H):a9L K [.ref t] H Q:=⟨t,a,b,rfl,h,q⟩
structure FunD (K:PySem.W.Frag) (x qual:Str) (st:Stmt) (T:Addr) (f:Addr) (fd:FuncData):Prop where
 ex:∃(oc:Value) (od:Option Addr) (kV doc pm:Value) (an:Option Addr) (cdv ct:Value) (osl:Array (Option Value)),
  fd=PySem.W.fnOf x qual (j5 st) (j4 st) (d6 st) (.ref T) kV doc pm an cdv ct∧K.lookup f=some ⟨oc,od,.func fd,osl⟩∧PySem.W.codeIn K cdv qual=true
 kp:PySem.W.keepIn K (.ref f)=true
section
variable {P:Program} {w:World} {K:PySem.W.Frag} {mg:Str→Option Value} {base:Heap}
theorem FunD.ok {x qual:Str}{st:Stmt}{T f:Addr}{fd:FuncData}{N ps:List Str}{k:Nat}{sp:Sp}(F:FunD K x qual st T f fd)(S:j6 N ps (d6 st))(len:∀vs H Q E,sp vs H Q E→vs.length=ps.length)
  (hbody:∀(cdv:Value) (A:Around) (outer:List Env) (s:Shared) (H:Hp) (vs:List V) (Q:VK) (E:XK),Room k (A.deeper (envOfC qual (d6 st) s.heap.objs.size f cdv))→sp vs H Q E→
   ∃t,PSs (a5Y CX0 P w K mg base N qual (d6 st) f cdv A outer s H E).nox (j4 st) t∧t {nx:=fun _ H'=>Q .non H',rt:=Q} (a0T N vs) H):FnOk P w K mg base CX0 (k+1) f fd ps sp:=by
 obtain⟨oc,od,kV,doc,pm,an,cdv,ct,osl,rfl,lk,hcd⟩:=F.ex
 refine b2B lk hcd S len fun A outer s H vs Q E hr hsp=>?_
 obtain⟨t,h,q⟩:=hbody cdv A outer s H vs Q E hr hsp
 exact⟨t,h.nox,q⟩
end
end L2
set_option Elab.async false
set_option linter.all false
set_option maxRecDepth 100000
set_option maxHeartbeats 4000000
namespace L2
open PySem PySem.Spec PyProof.Rows
open PySem.AutoSeq1 (wpAny_loadPart')
open PySem.MeetsSeq PySem.MeetsSeq2 PySem.MeetsSeq3
section
variable {P:Program} {w:World}
theorem a6X (l m:Addr)(xs ys:Array Value)(n1 n2:Nat)(d1 d2:Option Addr)(s1 s2:Array (Option Value))(i0:Nat)(h1:i0<xs.size)(h2:i0<ys.size)(a b:Str)(t u:Tok)(ha:xs[i0]= .str a t)(hb:ys[i0]= .str b u):∀(k i:Nat),i0 -i=k→i≤i0→
  MeetsIn P w (Builtin.«list.__eq__.loop» ⟨[.ref l,.ref m,rawInt i,rawInt 0],[]⟩) (fun A R s=>
   s.heap.get? l=some {cls:= .type "list",dict:=d1,data:= .seq xs n1,slots:=s1}∧s.heap.get? m=some {cls:= .type "list",dict:=d2,data:= .seq ys n2,slots:=s2}∧
   (∀j (g1:j<xs.size) (g2:j<ys.size),j≤i0→EqP P w A.in1 s xs[j] ys[j] (!decide (j=i0)))∧
   R (.ok (.ret (.bool (decide (a.cps.toList<b.cps.toList))))) s)
 |0,i,hk,hle=>by
  intro A R s hyp
  have hii:i=i0:=by omega
  subst hii
  obtain⟨hp,gg,dr,tk,os⟩:=s
  obtain⟨e1,e2,he,fin⟩:=hyp
  have x1:xs[((i:Nat):Int).toNat]?=some (.str a t):=by rw[←ha];simp [h1]
  have x2:ys[((i:Nat):Int).toNat]?=some (.str b u):=by rw[←hb];simp [h2]
  have he0:=he i h1 h2 (Nat.le_refl _)
  rw[ha,hb] at he0
  wp_walk using wpAny_loadPart' e1,wpAny_loadPart' e2
  rw[x1,x2]
  refine wpAny_bind (he0 _ _ ?_)
  rw[show(!decide (i=i))=false by simp]
  wp_walk using wpAny_loadPart' e1,wpAny_loadPart' e2
  rw[x1,x2]
  refine wpAny_bind (richCompare_gives (op:= .Lt) (typeIs_str _ _ _) (typeIs_str _ _ _) F.slot_str_lt F.entry_str_lt (F.args_str_lt_2 _ _) (gives_str_lt _ _ _ _) (fun e=>nomatch e) ?_)
  show wpAny _ _ _ _ _ _
  wp_walk
  exact fin
 |k+1,i,hk,hle=>by
  intro A R s hyp
  have ih:=a6X l m xs ys n1 n2 d1 d2 s1 s2 i0 h1 h2 a b t u ha hb k (i+1) (by omega) (by omega)
  obtain⟨hp,gg,dr,tk,os⟩:=s
  obtain⟨e1,e2,he,fin⟩:=hyp
  have l1:i<xs.size:=by omega
  have l2:i<ys.size:=by omega
  have x1:xs[((i:Nat):Int).toNat]?=some xs[i]:=by simp [l1]
  have x2:ys[((i:Nat):Int).toNat]?=some ys[i]:=by simp [l2]
  have x4:((i:Int)+1)=((i+1:Nat):Int):=by push_cast;rfl
  wp_walk using wpAny_loadPart' e1,wpAny_loadPart' e2
  rw[x1,x2]
  refine wpAny_bind (he i l1 l2 hle _ _ ?_)
  rw[show(!decide (i=i0))=true by simp;omega]
  wp_walk
  rw[x4]
  refine⟨plainId_quiet a0q _,codeAny_builtin entry_eq_loop ?_⟩
  rw[Around.under_plainId a0q _]
  exact ih A R _ ⟨e1,e2,he,fin⟩
theorem b4m (l m:Addr)(xs ys:Array Value)(n1 n2:Nat)(d1 d2:Option Addr)(s1 s2:Array (Option Value))(i0:Nat)(h1:i0<xs.size)(h2:i0<ys.size)(a b:Str)(t u:Tok)(ha:xs[i0]= .str a t)(hb:ys[i0]= .str b u):
  MeetsIn P w (Builtin.«list.__lt__» ⟨[.ref l,.ref m],[]⟩) (fun A R s=>
   s.heap.get? l=some {cls:= .type "list",dict:=d1,data:= .seq xs n1,slots:=s1}∧s.heap.get? m=some {cls:= .type "list",dict:=d2,data:= .seq ys n2,slots:=s2}∧
   (∀j (g1:j<xs.size) (g2:j<ys.size),j≤i0→EqP P w A.in1 s xs[j] ys[j] (!decide (j=i0)))∧
   R (.ok (.ret (.bool (decide (a.cps.toList<b.cps.toList))))) s):=by
 intro A R s hyp
 obtain⟨hp,gg,dr,tk,os⟩:=s
 obtain⟨e1,e2,he,fin⟩:=hyp
 have q1:=AutoSeq1.sub_list_list
 wp_walk using wpAny_loadPart' e1,wpAny_loadPart' e2
 refine⟨plainId_quiet a0q _,codeAny_builtin entry_eq_loop ?_⟩
 rw[Around.under_plainId a0q _]
 exact a6X l m xs ys n1 n2 d1 d2 s1 s2 i0 h1 h2 a b t u ha hb _ 0 rfl (Nat.zero_le _) A R _ ⟨e1,e2,he,fin⟩
end
section
variable {X:Cx}
def b2Z (K:PySem.W.Frag):R2:=fun x y H Q=>∃(p q:Addr) (ss ts:List Str) (i:Nat) (a b:Str),x= .ref p∧y= .ref q∧SqL K H p (ss.map V.str)∧SqL K H q (ts.map V.str)∧ss[i]?=some a∧ts[i]?=some b∧(∀j,j<i→ss[j]?=ts[j]?)∧a≠b∧Q (.bl (decide (a.cps.toList<b.cps.toList))) H
theorem b4s (hu:X.A.units+64<cLine):OpR X (compareOp .Lt) (b2Z X.K):=by
 intro pins s σ H x y v u Q I rx ry h
 obtain⟨p,q,ss,ts,i,a,b,rfl,rfl,hp,hq,ha,hb,hj,hab,k⟩:=h
 cases rx
 cases ry
 obtain⟨us,r1,p1,z1⟩:=I.list hp
 obtain⟨vs,r2,p2,z2⟩:=I.list hq
 obtain⟨u1,hu1,⟨t1,rfl⟩⟩:=r1.get (i:=i) (x:= .str a) (by rw[List.getElem?_map,ha];rfl)
 obtain⟨v1,hv1,⟨t2,rfl⟩⟩:=r2.get (i:=i) (x:= .str b) (by rw[List.getElem?_map,hb];rfl)
 have l1:i<us.length:=by
  rcases Nat.lt_or_ge i us.length with z|z
  ·exact z
  ·rw[List.getElem?_eq_none z] at hu1;cases hu1
 have l2:i<vs.length:=by
  rcases Nat.lt_or_ge i vs.length with z|z
  ·exact z
  ·rw[List.getElem?_eq_none z] at hv1;cases hv1
 have e1:us.toArray[i]'(by simpa using l1)= .str a t1:=by
  have:=List.getElem?_eq_getElem l1
  rw[hu1] at this
  simpa using(Option.some.inj this).symm
 have e2:vs.toArray[i]'(by simpa using l2)= .str b t2:=by
  have:=List.getElem?_eq_getElem l2
  rw[hv1] at this
  simpa using(Option.some.inj this).symm
 obtain⟨⟨c1,d1,a1,s1⟩,o1,k1,n1,w1⟩:=id p1.isList
 obtain⟨⟨c2,d2,a2,s2⟩,o2,k2,n2,w2⟩:=id p2.isList
 simp only at k1 w1 k2 w2
 subst k1 w1 k2 w2
 have le1:=r1.length
 have le2:=r2.length
 rw[List.length_map] at le1 le2
 show wpAny _ X.A (richCompare .Lt (.ref p) (.ref q)) _ _ s
 refine wpAny_richCompare_same_room (op:= .Lt) ⟨_,o1,rfl⟩ ⟨_,o2,rfl⟩ PySem.F.slot_list_lt (call_meetsIn PySem.F.slot_list_lt ⟨_,o1,rfl⟩ PySem.F.entry_list_lt (PySem.F.args_list_lt_2 _ _) (b4m p q us.toArray vs.toArray n1 n2 d1 d2 s1 s2 i (by simpa using l1) (by simpa using l2) a b t1 t2 e1 e2) ⟨o1,o2,fun j g1 g2 hji=>?_,?_⟩) (by omega)
 ·have g1':j<us.length:=by simpa using g1
  have g2':j<vs.length:=by simpa using g2
  obtain⟨x,hx⟩:∃x,ss[j]?=some x:=⟨ss[j]'(by omega),List.getElem?_eq_getElem _⟩
  obtain⟨y,hy⟩:∃y,ts[j]?=some y:=⟨ts[j]'(by omega),List.getElem?_eq_getElem _⟩
  obtain⟨ux,hux,rux⟩:=r1.get (i:=j) (x:= .str x) (by rw[List.getElem?_map,hx];rfl)
  obtain⟨uy,huy,ruy⟩:=r2.get (i:=j) (x:= .str y) (by rw[List.getElem?_map,hy];rfl)
  have f1:us.toArray[j]=ux:=by
   have:=List.getElem?_eq_getElem g1'
   rw[hux] at this
   simpa using(Option.some.inj this).symm
  have f2:vs.toArray[j]=uy:=by
   have:=List.getElem?_eq_getElem g2'
   rw[huy] at this
   simpa using(Option.some.inj this).symm
  rw[f1,f2]
  have ee:eqV (.str x) (.str y)=!decide (j=i):=by
   by_cases hji':j=i
   ·subst hji'
    rw[ha] at hx;rw[hb] at hy
    cases hx;cases hy
    rw[show eqV (.str a) (.str b)=decide (a=b) from rfl,decide_eq_false hab,decide_eq_true rfl];rfl
   ·have:=hj j (by omega)
    rw[hx,hy] at this
    cases this
    rw[R7 rfl,decide_eq_false hji'];rfl
  rw[←ee]
  exact EqP.of (R9 rux ruy rfl rfl)
 ·exact⟨(fun z=>nomatch z),⟨.bl _,H,I,rfl,k⟩⟩
theorem b7q (K:PySem.W.Frag){k:Nat}(hr:Room k X.A)(h:X.K=K:=by rfl):OpR X (compareOp .Lt) (b2Z K):=h▸b4s hr.units
end
end L2
set_option Elab.async false
set_option linter.all false
set_option maxRecDepth 100000
set_option maxHeartbeats 4000000
namespace L2
open PySem PySem.Spec PyProof.Rows
section
variable {α β:Type}
end
def imK (rk:Value→Int)(p:Keyed):Keyed:=(.int (rk p.1) 0,p.2)
def kA (rk:Value→Int)(st:SortSt)(i:Nat):Int:=K ((arrOf st).map (imK rk)) i
structure TB (kd:SortKind) (base:Array Keyed) (st:SortSt):Prop where
 pm:(arrOf st).Perm base
 kd:kindOf st=kd
 fl:failedOf st=none
 pe:pendingOf st= #[]
section
variable {prog:Program} {w:World} {A:Around} {E:Value→Shared→Prop} {s:Shared} {rk:Value→Int} {kd:SortKind} {base:Array Keyed} {st:SortSt}
theorem TB.sz (h:TB kd base st):(arrOf st).size=base.size:=h.pm.size_eq
theorem TB.put (h:TB kd base st){xs:Array Keyed}(p:xs.Perm (arrOf st)):TB kd base (setArr st xs):=⟨p.trans h.pm,h.kd,h.fl,h.pe⟩
def Asc (rk:Value→Int)(st:SortSt)(n:Nat):Prop:=∀i j,i≤j→j<n→kA rk st i≤kA rk st j
def Dsc (rk:Value→Int)(st:SortSt)(n:Nat):Prop:=∀i j,i≤j→j<n→kA rk st j≤kA rk st i
theorem Asc.one:Asc rk st 1:=fun i j h1 h2=>by
 rw[show i=j by omega];exact Int.le_refl _
theorem Asc.next {n:Nat}(h:Asc rk st n)(h1:1≤n)(hx:¬kA rk st n<kA rk st (n -1)):Asc rk st (n+1):=fun i j hij hj=>by
 rcases Nat.lt_or_ge j n with z|z
 ·exact h i j hij z
 ·have e:j=n:=by omega
  subst e
  rcases Nat.lt_or_ge i j with y|y
  ·have:=h i (j -1) (by omega) (by omega)
   omega
  ·rw[show i=j by omega];exact Int.le_refl _
theorem Dsc.next {st2:SortSt}{n:Nat}(h:Dsc rk st n)(h1:1≤n)(hx:kA rk st n≤kA rk st (n -1))(e:∀k,kA rk st2 k=kA rk st k):Dsc rk st2 (n+1):=fun i j hij hj=>by
 rw[e,e]
 rcases Nat.lt_or_ge j n with z|z
 ·exact h i j hij z
 ·have e:j=n:=by omega
  subst e
  rcases Nat.lt_or_ge i j with y|y
  ·have:=h i (j -1) (by omega) (by omega)
   omega
  ·rw[show i=j by omega];exact Int.le_refl _
end
end L2
set_option Elab.async false
set_option linter.all false
set_option maxRecDepth 100000
set_option maxHeartbeats 4000000
namespace L2
open PySem PySem.Spec PyProof.Rows
section
variable {prog:Program} {w:World} {A:Around} {E:Value→Shared→Prop} {s:Shared} {rk:Value→Int} {kd:SortKind} {base:Array Keyed} {st:SortSt}
structure TD (rk:Value→Int) (base:Array Keyed) (st:SortSt):Prop where
 pm:(arrOf st).Perm base
 fl:failedOf st=none
 pe:pendingOf st= #[(0,base.size,0)]
 up:Asc rk st base.size
theorem TB.end_ (h:TB kd base st)(up:Asc rk st base.size):TD rk base (setPending st ((pendingOf st).push (0,base.size,0))):=⟨h.pm,h.fl,by show(pendingOf st).push _=_;rw[h.pe];rfl,up⟩
end
def b4j:V→List Nat
 | .str a=>a.cps.toList
 | .bl b=>[b.toNat]
 |_=>[]
abbrev b7C (xs:List V):List (List Nat):=xs.map b4j
def SameT (x y:V):Prop:=(∃a b,x= .str a∧y= .str b)∨(∃a b,x= .bl a∧y= .bl b)
theorem b2h {a b:Str}(h:a.cps.toList=b.cps.toList):a=b:=by
 cases a;cases b
 congr
 exact Array.toList_inj.mp h
theorem SameT.eq {x y:V}(h:SameT x y):eqV x y=decide (b4j x=b4j y):=by
 rcases h with⟨a,b,rfl,rfl⟩|⟨a,b,rfl,rfl⟩
 ·show(a==b)=decide (a.cps.toList=b.cps.toList)
  rw[Bool.eq_iff_iff,beq_iff_eq,decide_eq_true_eq]
  exact⟨fun e=>by rw[e],b2h⟩
 ·cases a<;>cases b<;>rfl
theorem SameT.flat {x y:V}(h:SameT x y):z6 x=true∧z6 y=true:=by
 rcases h with⟨a,b,rfl,rfl⟩|⟨a,b,rfl,rfl⟩<;>exact⟨rfl,rfl⟩
section
variable {P:Program} {w:World} {A:Around} {E:Value→Shared→Prop} {s:Shared}
end
end L2
set_option Elab.async false
set_option linter.all false
set_option maxRecDepth 100000
set_option maxHeartbeats 4000000
namespace L2
open PySem PySem.Spec PyProof.Rows
abbrev KyT:=List (List Nat)
section
variable {P:Program} {w:World} {A:Around} {E:Value→Shared→Prop} {s:Shared}
structure b7J (h:Heap) (kf:Value→KyT) (v:Value):Prop where
 at_:∃(a:Addr) (us:List Value) (xs:List V) (x:Str) (r:List V),v= .ref a∧h.IsTuple a us.toArray∧Vals xs us∧xs= .str x::r∧kf v=b7C xs
end
end L2
set_option Elab.async false
set_option linter.all false
set_option maxRecDepth 100000
set_option maxHeartbeats 4000000
namespace L2
open PySem PySem.Spec PyProof.Rows
section
variable {P:Program} {w:World} {A:Around} {E:Value→Shared→Prop} {s:Shared}
end
section
variable {X:Cx}
end
end L2
set_option Elab.async false
set_option linter.all false
set_option maxRecDepth 100000
set_option maxHeartbeats 4000000
namespace L2
open PySem PySem.Spec PyProof.Rows
abbrev Lk:=Str×Bool×Bool
def tkV (c:Lk):List V:=[.str c.1,.bl c.2.1,.bl c.2.2]
theorem b5H (c d:Lk):L7 (tkV c) (tkV d)=decide (c=d):=by
 obtain⟨c1,c2,c3⟩:=c
 obtain⟨d1,d2,d3⟩:=d
 show(c1==d1&&(c2==d2&&(c3==d3&&true)))=_
 rw[Bool.eq_iff_iff]
 simp
theorem b3y {c d:Lk}(h:tkV c=tkV d):c=d:=by
 obtain⟨c1,c2,c3⟩:=c
 obtain⟨d1,d2,d3⟩:=d
 have h1:=V.str.inj (List.cons.inj h).1
 have h2:=V.bl.inj (List.cons.inj (List.cons.inj h).2).1
 have h3:=V.bl.inj (List.cons.inj (List.cons.inj (List.cons.inj h).2).2).1
 rw[show c1=d1 from h1,show c2=d2 from h2,show c3=d3 from h3]
def a5p (K:PySem.W.Frag)(H:Hp)(xs:List V)(cs:List Lk):Prop:=Paired (fun v c=>∃t,v=V.ref t∧SqT K H t (tkV c)) xs cs
structure LkV (K:PySem.W.Frag) (H:Hp) (u:V) (kd:Str) (cs:List Lk):Prop where
 ex:∃(a l:Addr) (xs:List V),u= .ref a∧SqT K H a [.str kd,.ref l]∧SqL K H l xs∧a5p K H xs cs
section
variable {X:Cx} {pins:List (Addr×Obj)} {σ:St} {H:Hp} {s:Shared}
theorem a4X (I:Inv X pins σ H s):∀{xs:List V} {cs ds:List Lk},a5p X.K H xs cs→a5p X.K H xs ds→cs=ds
 |_,_,_,.nil,.nil=>rfl
 |_,_,_,.cons ⟨t,e,h⟩ r,.cons ⟨t',e',h'⟩ r'=>by
  rw[e] at e'
  cases e'
  rw[b3y (I.tuple_inj h h'),a4X I r r']
theorem b5d (I:Inv X pins σ H s){A:Around}{l m:Addr}{xs ys:List V}{cs ds:List Lk}(h1:SqL X.K H l xs)(h2:SqL X.K H m ys)(p1:a5p X.K H xs cs)(p2:a5p X.K H ys ds)(hu:A.units+48<cLine):EqP X.prog X.w A s (.ref l) (.ref m) (decide (cs=ds)):=by
 by_cases e:l=m
 ·subst e
  have ex:=I.list_inj h1 h2
  subst ex
  rw[decide_eq_true (a4X I p1 p2)]
  exact .of (SeqAt.EqAt.same _)
 ·obtain⟨us,r1,q1,z1⟩:=I.list h1
  obtain⟨vs,r2,q2,z2⟩:=I.list h2
  have a1:=r1.length
  have a2:=r2.length
  have b1:=Paired.length p1
  have b2:=Paired.length p2
  by_cases hl:xs.length=ys.length
  ·have q:=RcP.lst (P:=X.prog) (w:=X.w) (A:=A) (f:=fun j=>decide (cs[j]?=ds[j]?)) q1.isList q2.isList (by simp;omega) (by omega) fun j g1 g2=>by
    have g1':j<us.length:=by simpa using g1
    have g2':j<vs.length:=by simpa using g2
    have x1:xs[j]?=some (xs[j]'(by omega)):=List.getElem?_eq_getElem _
    have y1:ys[j]?=some (ys[j]'(by omega)):=List.getElem?_eq_getElem _
    obtain⟨u1,hu1,ru1⟩:=r1.get x1
    obtain⟨u2,hu2,ru2⟩:=r2.get y1
    have e1:us.toArray[j]=u1:=by
     have:=List.getElem?_eq_getElem g1'
     rw[hu1] at this
     simpa using(Option.some.inj this).symm
    have e2:vs.toArray[j]=u2:=by
     have:=List.getElem?_eq_getElem g2'
     rw[hu2] at this
     simpa using(Option.some.inj this).symm
    obtain⟨c,hc,t1,et1,s1⟩:=w4 p1 x1
    obtain⟨d,hd,t2,et2,s2⟩:=w4 p2 y1
    rw[e1,e2,hc,hd]
    rw[et1] at ru1
    rw[et2] at ru2
    have z:=EqN.at_ (n:=0) (A:=A.in1) I (.inl (Eq1.tup s1 s2 rfl rfl)) ru1 ru2 (by show A.units+1+32+0<cLine;omega)
    rw[b5H] at z
    rw[show decide (some c=some d)=decide (c=d) by simp]
    exact z
   have e3:(List.range us.toArray.size).all (fun j=>decide (cs[j]?=ds[j]?))=decide (cs=ds):=by
    rw[Bool.eq_iff_iff,List.all_eq_true,decide_eq_true_eq]
    constructor
    ·intro h
     refine List.ext_getElem? fun j=>?_
     rcases Nat.lt_or_ge j us.length with z|z
     ·exact of_decide_eq_true (h j (by simpa using z))
     ·rw[List.getElem?_eq_none (by omega),List.getElem?_eq_none (by omega)]
    ·rintro rfl j _
     exact decide_eq_true rfl
   rw[e3] at q
   exact .refs e q
  ·have hne:cs≠ds:=fun z=>hl (by rw[b1,b2,z])
   rw[decide_eq_false hne]
   exact .of (.of_refs e (SeqAt.RcAt.lists_lengths q1.isList q2.isList (by simp;omega) (by omega)))
end
section
variable {X:Cx}
def b2P (K:PySem.W.Frag):R2:=fun x y H Q=>∃(kd kd':Str) (cs ds:List Lk),LkV K H x kd cs∧LkV K H y kd' ds∧Q (.bl (decide (kd=kd')&&decide (cs=ds))) H
theorem b1y (hu:X.A.units+64<cLine):OpR X (compareOp .Eq) (b2P X.K):=by
 intro pins s σ H x y v u Q I rx ry h
 obtain⟨kd,kd',cs,ds,⟨a,l,xs,rfl,t1,s1,p1⟩,⟨c,m,ys,rfl,t2,s2,p2⟩,k⟩:=h
 cases rx
 cases ry
 obtain⟨us,r1,q1,z1⟩:=I.tuple t1
 obtain⟨vs,r2,q2,z2⟩:=I.tuple t2
 obtain⟨u1,u2,rfl,⟨tk1,rfl⟩,e2⟩:=W2 r1
 obtain⟨v1,v2,rfl,⟨tk2,rfl⟩,f2⟩:=W2 r2
 cases e2
 cases f2
 have q:=RcP.tup (P:=X.prog) (w:=X.w) (A:=X.A) (f:=fun j=>if j=0 then decide (kd=kd') else decide (cs=ds)) (show s.heap.IsTuple a #[Value.str kd tk1,Value.ref l] from q1) (show s.heap.IsTuple c #[Value.str kd' tk2,Value.ref m] from q2) (by omega) fun j g1 g2=>by
  match j,g1,g2 with
  |0,_,_=>
   have z:=EqP.of (P:=X.prog) (w:=X.w) (R9 (A:=X.A.in1) (s:=s) (y:= .str kd) (x:= .str kd') ⟨tk1,rfl⟩ ⟨tk2,rfl⟩ rfl rfl)
   rw[show eqV (.str kd) (.str kd')=decide (kd=kd') from rfl] at z
   exact z
  |1,_,_=>exact b5d (A:=X.A.in1) I s1 s2 p1 p2 (by show X.A.units+1+48<cLine;omega)
  |n+2,g1,_=>exact absurd g1 (by simp)
 have e:((List.range (min (#[Value.str kd tk1,Value.ref l]:Array Value).size (#[Value.str kd' tk2,Value.ref m]:Array Value).size)).all (fun j=>if j=0 then decide (kd=kd') else decide (cs=ds))&&(#[Value.str kd tk1,Value.ref l]:Array Value).size==(#[Value.str kd' tk2,Value.ref m]:Array Value).size)=(decide (kd=kd')&&decide (cs=ds)):=by
  show(([0,1]:List Nat).all _&&true)=_
  simp
 rw[e] at q
 exact q _ _ ⟨.bl _,H,I,rfl,k⟩
def b2z (K:PySem.W.Frag):R2:=fun x y H Q=>a1G K x y H Q∨b2P K x y H Q
theorem b6t (K:PySem.W.Frag){k:Nat}(hr:Room k X.A)(h:X.K=K:=by rfl):OpR X (compareOp .Eq) (b2z K):=(Q8 K hr h).or (h▸b1y hr.units)
def EqA (K:PySem.W.Frag)(H:Hp)(x y:V)(b:Bool):Prop:=(∃a c,x= .str a∧y= .str c∧b=decide (a=c))∨∃(kd kd':Str) (cs ds:List Lk),LkV K H x kd cs∧LkV K H y kd' ds∧b=(decide (kd=kd')&&decide (cs=ds))
theorem b5A {K:PySem.W.Frag}{H:Hp}{Q:VK}{x y:V}{b:Bool}(h:EqA K H x y b)(q:Q (.bl b) H):b2z K x y H Q:=by
 rcases h with⟨a,c,rfl,rfl,rfl⟩|⟨kd,kd',cs,ds,h1,h2,rfl⟩
 ·exact .inl (a4F q)
 ·exact .inr ⟨kd,kd',cs,ds,h1,h2,q⟩
theorem LkV.mono {K:PySem.W.Frag}{H H':Hp}{u:V}{kd:Str}{cs:List Lk}(l:Le H H')(h:LkV K H u kd cs):LkV K H' u kd cs:=by
 obtain⟨a,m,xs,e,t,s,p⟩:=h
 exact⟨a,m,xs,e,l.tup t,l.lst s,Paired.imp' (fun _ _ ⟨t,e,z⟩=>⟨t,e,l.tup z⟩) p⟩
theorem EqA.mono {K:PySem.W.Frag}{H H':Hp}{x y:V}{b:Bool}(l:Le H H')(h:EqA K H x y b):EqA K H' x y b:=by
 rcases h with h|⟨kd,kd',cs,ds,h1,h2,e⟩
 ·exact .inl h
 ·exact .inr ⟨kd,kd',cs,ds,h1.mono l,h2.mono l,e⟩
end
theorem b5R {fd:FuncData}{ps:List Str}{us:List Value}(h:us.length=1)(g:∀a:Value,bindArgs fd ⟨[a],[]⟩=pure (ps.zip [a])):bindArgs fd ⟨us,[]⟩=pure (ps.zip us):=match us,h with|[a],_=>g a
theorem a4Z {fd:FuncData}{ps:List Str}{us:List Value}(h:us.length=2)(g:∀a b:Value,bindArgs fd ⟨[a,b],[]⟩=pure (ps.zip [a,b])):bindArgs fd ⟨us,[]⟩=pure (ps.zip us):=match us,h with|[a,b],_=>g a b
theorem a2U {fd:FuncData}{ps:List Str}{us:List Value}(h:us.length=3)(g:∀a b c:Value,bindArgs fd ⟨[a,b,c],[]⟩=pure (ps.zip [a,b,c])):bindArgs fd ⟨us,[]⟩=pure (ps.zip us):=match us,h with|[a,b,c],_=>g a b c
theorem b0f {fd:FuncData}{ps:List Str}{us:List Value}(h:us.length=4)(g:∀a b c d:Value,bindArgs fd ⟨[a,b,c,d],[]⟩=pure (ps.zip [a,b,c,d])):bindArgs fd ⟨us,[]⟩=pure (ps.zip us):=match us,h with|[a,b,c,d],_=>g a b c d
theorem b3r {fd:FuncData}{ps:List Str}{us:List Value}(h:us.length=5)(g:∀a b c d e:Value,bindArgs fd ⟨[a,b,c,d,e],[]⟩=pure (ps.zip [a,b,c,d,e])):bindArgs fd ⟨us,[]⟩=pure (ps.zip us):=match us,h with|[a,b,c,d,e],_=>g a b c d e
theorem b7r {fd:FuncData}{ps:List Str}{us:List Value}(h:us.length=6)(g:∀a b c d e f:Value,bindArgs fd ⟨[a,b,c,d,e,f],[]⟩=pure (ps.zip [a,b,c,d,e,f])):bindArgs fd ⟨us,[]⟩=pure (ps.zip us):=match us,h with|[a,b,c,d,e,f],_=>g a b c d e f
end L2
set_option Elab.async false
set_option linter.all false
set_option maxRecDepth 100000
set_option maxHeartbeats 4000000
namespace L2
open PySem PySem.Spec PyProof.Rows
open PySem.AutoSeq1 (wpAny_loadPart')
open PySem.MeetsSeq PySem.MeetsSeq2 PySem.MeetsSeq3
section
variable {P:Program} {w:World}
theorem a7e (l m:Addr)(xs ys:Array Value)(n1 n2:Nat)(d1 d2:Option Addr)(s1 s2:Array (Option Value))(hz:xs.size=ys.size):∀(k i:Nat),xs.size -i=k→
  MeetsIn P w (Builtin.«list.__eq__.loop» ⟨[.ref l,.ref m,rawInt i,rawInt 0],[]⟩) (fun A R s=>
   s.heap.get? l=some {cls:= .type "list",dict:=d1,data:= .seq xs n1,slots:=s1}∧s.heap.get? m=some {cls:= .type "list",dict:=d2,data:= .seq ys n2,slots:=s2}∧
   (∀j (g1:j<xs.size) (g2:j<ys.size),EqP P w A.in1 s xs[j] ys[j] true)∧
   R (.ok (.ret (.bool false))) s)
 |0,i,hk=>by
  intro A R s hyp
  obtain⟨hp,gg,dr,tk,os⟩:=s
  obtain⟨e1,e2,he,fin⟩:=hyp
  have x1:xs[((i:Nat):Int).toNat]?=none:=by simp;omega
  have x2:ys[((i:Nat):Int).toNat]?=none:=by simp;omega
  wp_walk using wpAny_loadPart' e1,wpAny_loadPart' e2
  rw[x1,x2]
  wp_walk using wpAny_loadPart' e1,wpAny_loadPart' e2
  show R (.ok (.ret (.bool (decide (xs.size<ys.size))))) _
  rw[hz,decide_eq_false (Nat.lt_irrefl _)];exact fin
 |k+1,i,hk=>by
  intro A R s hyp
  have ih:=a7e l m xs ys n1 n2 d1 d2 s1 s2 hz k (i+1) (by omega)
  obtain⟨hp,gg,dr,tk,os⟩:=s
  obtain⟨e1,e2,he,fin⟩:=hyp
  have l1:i<xs.size:=by omega
  have l2:i<ys.size:=by omega
  have x1:xs[((i:Nat):Int).toNat]?=some xs[i]:=by simp [l1]
  have x2:ys[((i:Nat):Int).toNat]?=some ys[i]:=by simp [l2]
  have x4:((i:Int)+1)=((i+1:Nat):Int):=by push_cast;rfl
  wp_walk using wpAny_loadPart' e1,wpAny_loadPart' e2
  rw[x1,x2]
  refine wpAny_bind (he i l1 l2 _ _ ?_)
  wp_walk
  rw[x4]
  refine⟨plainId_quiet a0q _,codeAny_builtin entry_eq_loop ?_⟩
  rw[Around.under_plainId a0q _]
  exact ih A R _ ⟨e1,e2,he,fin⟩
theorem b4I (l m:Addr)(xs ys:Array Value)(n1 n2:Nat)(d1 d2:Option Addr)(s1 s2:Array (Option Value))(hz:xs.size=ys.size):
  MeetsIn P w (Builtin.«list.__lt__» ⟨[.ref l,.ref m],[]⟩) (fun A R s=>
   s.heap.get? l=some {cls:= .type "list",dict:=d1,data:= .seq xs n1,slots:=s1}∧s.heap.get? m=some {cls:= .type "list",dict:=d2,data:= .seq ys n2,slots:=s2}∧
   (∀j (g1:j<xs.size) (g2:j<ys.size),EqP P w A.in1 s xs[j] ys[j] true)∧
   R (.ok (.ret (.bool false))) s):=by
 intro A R s hyp
 obtain⟨hp,gg,dr,tk,os⟩:=s
 obtain⟨e1,e2,he,fin⟩:=hyp
 have q1:=AutoSeq1.sub_list_list
 wp_walk using wpAny_loadPart' e1,wpAny_loadPart' e2
 refine⟨plainId_quiet a0q _,codeAny_builtin entry_eq_loop ?_⟩
 rw[Around.under_plainId a0q _]
 exact a7e l m xs ys n1 n2 d1 d2 s1 s2 hz _ 0 rfl A R _ ⟨e1,e2,he,fin⟩
theorem b3X (l m:Addr)(xs ys:Array Value)(n1 n2:Nat)(d1 d2:Option Addr)(s1 s2:Array (Option Value))(hz:xs.size≠ys.size):
  MeetsIn P w (Builtin.«list.__ne__» ⟨[.ref l,.ref m],[]⟩) (fun A R s=>
   s.heap.get? l=some {cls:= .type "list",dict:=d1,data:= .seq xs n1,slots:=s1}∧s.heap.get? m=some {cls:= .type "list",dict:=d2,data:= .seq ys n2,slots:=s2}∧
   R (.ok (.ret (.bool true))) s):=by
 intro A R s hyp
 obtain⟨hp,gg,dr,tk,os⟩:=s
 obtain⟨e1,e2,fin⟩:=hyp
 have q1:=AutoSeq1.sub_list_list;have q2:(xs.size !=ys.size)=true:=by simp [hz]
 wp_walk using wpAny_loadPart' e1,wpAny_loadPart' e2
 exact fin
end
section
variable {X:Cx}
def b6d (K:PySem.W.Frag):R2:=fun x y H Q=>∃(p q:Addr) (xs:List V),x= .ref p∧y= .ref q∧SqL K H p xs∧SqL K H q []∧Q (.bl (!xs.isEmpty)) H
theorem b4x (hu:X.A.units+64<cLine):OpR X (compareOp .NotEq) (b6d X.K):=by
 intro pins s σ H x y v u Q I rx ry h
 obtain⟨p,q,xs,rfl,rfl,hp,hq,k⟩:=h
 cases rx
 cases ry
 obtain⟨us,r1,p1,z1⟩:=I.list hp
 obtain⟨vs,r2,p2,z2⟩:=I.list hq
 have le1:=r1.length
 have le2:=r2.length
 obtain rfl:vs=[]:=List.eq_nil_of_length_eq_zero (by simpa using le2.symm)
 cases xs with
 |nil=>
  obtain rfl:us=[]:=List.eq_nil_of_length_eq_zero (by simpa using le1.symm)
  have q:=NcP.lst (P:=X.prog) (w:=X.w) (A:=X.A) (f:=fun _=>true) p1.isList p2.isList rfl (by omega) (fun j g1 _=>absurd g1 (by simp))
  exact q _ _ ⟨.bl _,H,I,rfl,k⟩
 |cons x r=>
  obtain⟨⟨c1,d1,a1,s1⟩,o1,k1,n1,w1⟩:=id p1.isList
  obtain⟨⟨c2,d2,a2,s2⟩,o2,k2,n2,w2⟩:=id p2.isList
  simp only at k1 w1 k2 w2
  subst k1 w1 k2 w2
  show wpAny _ X.A (richCompare .NotEq (.ref p) (.ref q)) _ _ s
  refine wpAny_richCompare_same_room (op:= .NotEq) ⟨_,o1,rfl⟩ ⟨_,o2,rfl⟩ PySem.F.slot_list_ne (call_meetsIn PySem.F.slot_list_ne ⟨_,o1,rfl⟩ PySem.F.entry_list_ne (PySem.F.args_list_ne_2 _ _) (b3X p q us.toArray #[] n1 n2 d1 d2 s1 s2 (by simp;intro z;rw[z] at le1;simp at le1)) ⟨o1,o2,?_⟩) (by omega)
  exact⟨(fun z=>nomatch z),⟨.bl _,H,I,rfl,k⟩⟩
theorem b6V (K:PySem.W.Frag){k:Nat}(hr:Room k X.A)(h:X.K=K:=by rfl):OpR X (compareOp .NotEq) (b6d K):=h▸b4x hr.units
def b6J (K:PySem.W.Frag):R2:=fun x y H Q=>∃(p q:Addr) (ss:List Str),x= .ref p∧y= .ref q∧SqL K H p (ss.map V.str)∧SqL K H q (ss.map V.str)∧Q (.bl false) H
theorem b2W (hu:X.A.units+64<cLine):OpR X (compareOp .Lt) (b6J X.K):=by
 intro pins s σ H x y v u Q I rx ry h
 obtain⟨p,q,ss,rfl,rfl,hp,hq,k⟩:=h
 cases rx
 cases ry
 obtain⟨us,r1,p1,z1⟩:=I.list hp
 obtain⟨vs,r2,p2,z2⟩:=I.list hq
 obtain⟨⟨c1,d1,a1,s1⟩,o1,k1,n1,w1⟩:=id p1.isList
 obtain⟨⟨c2,d2,a2,s2⟩,o2,k2,n2,w2⟩:=id p2.isList
 simp only at k1 w1 k2 w2
 subst k1 w1 k2 w2
 have le1:=r1.length
 have le2:=r2.length
 rw[List.length_map] at le1 le2
 show wpAny _ X.A (richCompare .Lt (.ref p) (.ref q)) _ _ s
 refine wpAny_richCompare_same_room (op:= .Lt) ⟨_,o1,rfl⟩ ⟨_,o2,rfl⟩ PySem.F.slot_list_lt (call_meetsIn PySem.F.slot_list_lt ⟨_,o1,rfl⟩ PySem.F.entry_list_lt (PySem.F.args_list_lt_2 _ _) (b4I p q us.toArray vs.toArray n1 n2 d1 d2 s1 s2 (by simp;omega)) ⟨o1,o2,fun j g1 g2=>?_,?_⟩) (by omega)
 ·have g1':j<us.length:=by simpa using g1
  have g2':j<vs.length:=by simpa using g2
  obtain⟨x,hx⟩:∃x,ss[j]?=some x:=⟨ss[j]'(by omega),List.getElem?_eq_getElem _⟩
  obtain⟨ux,hux,rux⟩:=r1.get (i:=j) (x:= .str x) (by rw[List.getElem?_map,hx];rfl)
  obtain⟨uy,huy,ruy⟩:=r2.get (i:=j) (x:= .str x) (by rw[List.getElem?_map,hx];rfl)
  have f1:us.toArray[j]=ux:=by
   have:=List.getElem?_eq_getElem g1'
   rw[hux] at this
   simpa using(Option.some.inj this).symm
  have f2:vs.toArray[j]=uy:=by
   have:=List.getElem?_eq_getElem g2'
   rw[huy] at this
   simpa using(Option.some.inj this).symm
  rw[f1,f2,←show eqV (.str x) (.str x)=true from R7 rfl]
  exact EqP.of (R9 rux ruy rfl rfl)
 ·exact⟨(fun z=>nomatch z),⟨.bl _,H,I,rfl,k⟩⟩
theorem a1P {X:Cx}:MtM X "list.extend" a7i:=a7z
def b6k (K:PySem.W.Frag):R2:=fun x y H Q=>b2Z K x y H Q∨b6J K x y H Q
theorem b6c (K:PySem.W.Frag){k:Nat}(hr:Room k X.A)(h:X.K=K:=by rfl):OpR X (compareOp .Lt) (b6k K):=(b7q K hr h).or (h▸b2W hr.units)
end
end L2
set_option Elab.async false
set_option linter.all false
set_option maxRecDepth 100000
set_option maxHeartbeats 1000000
namespace K25
open PySem PySem.Spec PyProof.Rows L2
def top (i:Nat):Stmt:=PySem.Challenge.pw_gluework_k25_least_bar.main.body.getD i (.Pass ⟨0,0,0,0⟩)
abbrev W9:Stmt:=top 1
theorem sc_things:j6 ["web"] ["web"] (d6 W9):=⟨rfl,rfl,rfl,by decide+kernel,rfl,by decide+kernel,by decide+kernel⟩
abbrev E9:Stmt:=top 2
theorem sc_tie_renamed:j6 ["tie","names"] ["tie","names"] (d6 E9):=⟨rfl,rfl,rfl,by decide+kernel,rfl,by decide+kernel,by decide+kernel⟩
abbrev E6:Stmt:=top 4
theorem sc_first_match:j6 ["piece","web","fixed"] ["piece","web","fixed"] (d6 E6):=⟨rfl,rfl,rfl,by decide+kernel,rfl,by decide+kernel,by decide+kernel⟩
abbrev E4:Stmt:=top 5
theorem sc_first_found:j6 ["piece","web","piece_looks","web_looks","fixed","told"] ["piece","web","piece_looks","web_looks","fixed"] (d6 E4):=⟨rfl,rfl,rfl,by decide+kernel,rfl,by decide+kernel,by decide+kernel⟩
abbrev a0m:Stmt:=top 6
theorem sc_found:j6 ["piece","web","piece_looks","web_looks","fixed","most","told","choices","places","names"] ["piece","web","piece_looks","web_looks","fixed","most"] (d6 a0m):=⟨rfl,rfl,rfl,by decide+kernel,rfl,by decide+kernel,by decide+kernel⟩
abbrev V6:Stmt:=top 7
theorem sc_may_be:j6 ["name","image","fixed"] ["name","image","fixed"] (d6 V6):=⟨rfl,rfl,rfl,by decide+kernel,rfl,by decide+kernel,by decide+kernel⟩
abbrev C0:Stmt:=top 8
theorem sc_point_choices:j6 ["piece_looks","web_looks","fixed","choices","name","look","alike"] ["piece_looks","web_looks","fixed"] (d6 C0):=⟨rfl,rfl,rfl,by decide+kernel,rfl,by decide+kernel,by decide+kernel⟩
abbrev J3:Stmt:=top 9
theorem sc_tie_places:j6 ["piece","web","fixed","places","name","tie","there","image","other"] ["piece","web","fixed"] (d6 J3):=⟨rfl,rfl,rfl,by decide+kernel,rfl,by decide+kernel,by decide+kernel⟩
abbrev W8:Stmt:=top 10
theorem sc_enough:j6 ["lists"] ["lists"] (d6 W8):=⟨rfl,rfl,rfl,by decide+kernel,rfl,by decide+kernel,by decide+kernel⟩
abbrev a0h:Stmt:=top 11
theorem sc_lines:j6 ["piece","choices","places","most","names","told","waiting","begun","image"] ["piece","choices","places","most"] (d6 a0h):=⟨rfl,rfl,rfl,by decide+kernel,rfl,by decide+kernel,by decide+kernel⟩
abbrev X1:Stmt:=top 12
theorem sc_images:j6 ["piece","choices","places","begun","names","name","put","unlike"] ["piece","choices","places","begun"] (d6 X1):=⟨rfl,rfl,rfl,by decide+kernel,rfl,by decide+kernel,by decide+kernel⟩
abbrev E3:Stmt:=top 13
theorem sc_tie_choices:j6 ["piece","places","put","name","ends"] ["piece","places","put","name"] (d6 E3):=⟨rfl,rfl,rfl,by decide+kernel,rfl,by decide+kernel,by decide+kernel⟩
abbrev O0:Stmt:=top 14
theorem sc_has_room:j6 ["piece","places","put","name","image","longer","due"] ["piece","places","put","name","image"] (d6 O0):=⟨rfl,rfl,rfl,by decide+kernel,rfl,by decide+kernel,by decide+kernel⟩
abbrev W0:Stmt:=top 16
theorem sc_barred:j6 ["web","rule","match","number","bar","told"] ["web","rule","match"] (d6 W0):=⟨rfl,rfl,rfl,by decide+kernel,rfl,by decide+kernel,by decide+kernel⟩
abbrev C9:Stmt:=top 18
theorem sc__law_cell_at:j6 ["_law_script","_law_k"] ["_law_script","_law_k"] (d6 C9):=⟨rfl,rfl,rfl,by decide+kernel,rfl,by decide+kernel,by decide+kernel⟩
abbrev J2:Stmt:=top 19
theorem sc__law_mixed:j6 ["_law_cell","_law_k","_law_number"] ["_law_cell","_law_k"] (d6 J2):=⟨rfl,rfl,rfl,by decide+kernel,rfl,by decide+kernel,by decide+kernel⟩
abbrev E7:Stmt:=top 20
theorem sc__law_stream:j6 ["_law_cell","_law_many","_law_number","_law_found","_law_k"] ["_law_cell","_law_many"] (d6 E7):=⟨rfl,rfl,rfl,by decide+kernel,rfl,by decide+kernel,by decide+kernel⟩
abbrev K7:Stmt:=top 21
theorem sc__law_name:j6 ["_law_number","_law_k","_law_letters","_law_base","_law_j","_law_at","_law_tag"] ["_law_number","_law_k"] (d6 K7):=⟨rfl,rfl,rfl,by decide+kernel,rfl,by decide+kernel,by decide+kernel⟩
abbrev J1:Stmt:=top 22
theorem sc__law_words:j6 ["_law_number","_law_many","_law_letters","_law_base","_law_j","_law_at"] ["_law_number","_law_many"] (d6 J1):=⟨rfl,rfl,rfl,by decide+kernel,rfl,by decide+kernel,by decide+kernel⟩
abbrev O2:Stmt:=top 23
theorem sc__law_web:j6 ["_law_script","_law_number","_law_kinds","_law_points","_law_ties","_law_k","_law_x","_law_names","_law_ends"] ["_law_script","_law_number","_law_kinds"] (d6 O2):=⟨rfl,rfl,rfl,by decide+kernel,rfl,by decide+kernel,by decide+kernel⟩
abbrev E5:Stmt:=top 24
theorem sc__law_picked:j6 ["_law_web_here","_law_xs","_law_names","_law_points","_law_j","_law_ties","_law_k","_law_name_here","_law_tie"] ["_law_web_here","_law_xs"] (d6 E5):=⟨rfl,rfl,rfl,by decide+kernel,rfl,by decide+kernel,by decide+kernel⟩
abbrev O1:Stmt:=top 25
theorem sc__law_out:j6 ["_law_web_here","_law_points","_law_ties","_law_xs","_law_out_here","_law_k","_law_name_here","_law_loose"] ["_law_web_here","_law_points","_law_ties","_law_xs"] (d6 O1):=⟨rfl,rfl,rfl,by decide+kernel,rfl,by decide+kernel,by decide+kernel⟩
abbrev K8:Stmt:=top 26
theorem sc__law_rule:j6 ["_law_web_here","_law_xs","_law_words_here","_law_kinds","_law_points","_law_ties","_law_out_here","_law_word_of","_law_left","_law_right_here","_law_k","_law_name_here","_law_kind","_law_begin","_law_end","_law_ends","_law_match","_law_word"] ["_law_web_here","_law_xs","_law_words_here","_law_kinds"] (d6 K8):=⟨rfl,rfl,rfl,by decide+kernel,rfl,by decide+kernel,by decide+kernel⟩
abbrev N9:Stmt:=top 27
theorem sc__law_bar:j6 ["_law_left","_law_xs","_law_words_here","_law_kinds","_law_k","_law_x","_law_bar_here","_law_j","_law_ends","_law_y"] ["_law_left","_law_xs","_law_words_here","_law_kinds","_law_k"] (d6 N9):=⟨rfl,rfl,rfl,by decide+kernel,rfl,by decide+kernel,by decide+kernel⟩
abbrev K9:Stmt:=top 28
theorem sc__law_more:j6 ["_law_found","_law_word","_law_names","_law_more_here","_law_match","_law_name_here","_law_longer"] ["_law_found","_law_word","_law_names"] (d6 K9):=⟨rfl,rfl,rfl,by decide+kernel,rfl,by decide+kernel,by decide+kernel⟩
abbrev N8:Stmt:=top 29
theorem sc__law_all:j6 ["_law_bar_here","_law_web_here","_law_match","_law_found","_law_word","_law_kind","_law_begin","_law_end","_law_more_here","_law_one","_law_names"] ["_law_bar_here","_law_web_here","_law_match"] (d6 N8):=⟨rfl,rfl,rfl,by decide+kernel,rfl,by decide+kernel,by decide+kernel⟩
abbrev L3:Stmt:=top 30
theorem sc__law_line:j6 ["_law_bar_here","_law_match"] ["_law_bar_here","_law_match"] (d6 L3):=⟨rfl,rfl,rfl,by decide+kernel,rfl,by decide+kernel,by decide+kernel⟩
abbrev O3:Stmt:=top 31
theorem sc__law_due:j6 ["_law_web_here","_law_bars","_law_match","_law_number","_law_bar_here","_law_found","_law_least","_law_one"] ["_law_web_here","_law_bars","_law_match"] (d6 O3):=⟨rfl,rfl,rfl,by decide+kernel,rfl,by decide+kernel,by decide+kernel⟩
abbrev J0:Stmt:=top 32
theorem sc__law_right:j6 ["_law_web_here","_law_rule_here","_law_match","_law_due_here","_law_handed","_law_found"] ["_law_web_here","_law_rule_here","_law_match"] (d6 J0):=⟨rfl,rfl,rfl,by decide+kernel,rfl,by decide+kernel,by decide+kernel⟩
abbrev a0S:Stmt:=top 33
theorem sc_law:j6 ["_law_script","_law_first","_law_second","_law_kinds","_law_web_here","_law_was","_law_cell","_law_xs","_law_words_here","_law_rule_here","_law_match","_law_bars"] ["_law_script"] (d6 a0S):=⟨rfl,rfl,rfl,by decide+kernel,rfl,by decide+kernel,by decide+kernel⟩
structure Txt (K:PySem.W.Frag) (mg:Str→Option Value):Prop where
 b_all:mg "all"=none
 b_bool:mg "bool"=none
 b_dict:mg "dict"=none
 b_enumerate:mg "enumerate"=none
 b_int:mg "int"=none
 b_isinstance:mg "isinstance"=none
 b_len:mg "len"=none
 b_list:mg "list"=none
 b_max:mg "max"=none
 b_min:mg "min"=none
 b_range:mg "range"=none
 b_reversed:mg "reversed"=none
 b_sorted:mg "sorted"=none
 b_tuple:mg "tuple"=none
 b_zip:mg "zip"=none
abbrev kSL:Str:="abcdefghijklmnopqrstuvwxyz"
abbrev kNS:Str:="abcdefghijklmnopqrstuvwxyz0123456789."
def a6Y (x signs:Str):Bool:=x.cps.toList.all fun c=>decide (c∈signs.cps.toList)
def a0v (x signs:Str)(most:Int):Bool:=decide (1≤(x.length:Int))&&decide ((x.length:Int)≤most)&&a6Y x signs
def hdB (x signs:Str):Bool:=decide (x.cps.toList.headD 0∈signs.cps.toList)
def a2n (x:Str):Bool:=a0v x kNS 24&&hdB x kSL
def C4 (x:Str):Bool:=a0v x kSL 8
def NoTxt (K:PySem.W.Frag)(H:Hp)(v:V):Prop:=∃t,TyB K H v t∧t≠"str"
theorem NoTxt.mono {K:PySem.W.Frag}{H H':Hp}{v:V}(h:NoTxt K H v)(s:Same H H'):NoTxt K H' v:=by
 obtain⟨t,ty,ht⟩:=h
 exact⟨t,ty.mono s,ht⟩
def O6 (K:PySem.W.Frag):Sp:=fun vs H Q _=>∃c k:Int,vs=[.int c,.int k]∧0≤k∧k≤1000∧∀m:Int,0≤m→Q (.int m) H
def b6H (H:Hp)(Q:VK)(P:List Str→Prop):Prop:=∀(p:Addr) (H':Hp) (ss:List Str),H p=none→Same H H'→H' p=some (.lst (ss.map V.str))→P ss→Q (.ref p) H'
def i8 (W:Web):List Str:=W.pts.map (·.1)++W.ts.map (·.1)
structure WebIs (n:Nat) (K:PySem.W.Frag) (H:Hp) (a p q:Addr) (kvs:List (Key×V)) (W:Web):Prop where
 at_:WebAt K H a p q kvs W
 hp:H p=some (.dK (pKV W.pts))
 hq:H q=some (.dK kvs)
 ne:p≠q
 nd:(i8 W).Nodup
 len:(i8 W).length≤n
 ends:∀x∈W.ts,x.2.2.1∈W.pts.map (·.1)∧x.2.2.2∈W.pts.map (·.1)
 nl:∀x∈i8 W,x.length≤100
theorem WebIs.same {n:Nat}{K:PySem.W.Frag}{H H':Hp}{a p q:Addr}{kvs:List (Key×V)}{W:Web}(h:WebIs n K H a p q kvs W)(s:Same H H'):WebIs n K H' a p q kvs W:=⟨h.at_.mono s.le,s _ _ h.hp,s _ _ h.hq,h.ne,h.nd,h.len,h.ends,h.nl⟩
local macro_rules| `(tactic|walk_at "E")=> `(tactic|first
 |(with_reducible (first|refine b6a ?_|refine b2u ?_|refine b7o ?_|refine b1b ?_|refine b5Z ?_|refine b3s ?_|refine r_C ?_|refine b6W ?_|refine b5w ?_|refine b5m ?_|refine b3c ?_|refine b4b ?_|refine b5G ?_|refine b4K ?_|refine b7I ?_|refine b1l ?_|refine a7Z ?_|refine b5s ?_|refine b7y ?_|refine b4L ?_|refine b5C ?_|refine b6b ?_|refine b4M ?_|refine b7s ?_|refine b6S ?_|refine b6L ?_|refine b6f ?_|refine b7k ?_|refine b4i ?_|refine b6p ?_|refine b4v ?_|refine b7d ?_|refine b6g ?_|refine b3K ?_|refine b3O ?_|refine b7c ?_|refine b7G ?_|refine b0O ?_|refine b4V ?_|refine b5S ?_|refine b2i ?_|refine a8z ?_|refine b7j ?_|refine a8I ?_|refine a9G ?_|refine a4S ?_|refine a6L ?_|refine a4G ?_|refine b0y ?_|refine a4D ?_|refine b7m ?_|refine a9N ?_|refine b2d ?_|refine a4F ?_|refine a4B ?_|refine a5i ?_|refine b1S ?_|refine a8X ?_|refine a5j ?_|refine a7t ?_|refine a4v ?_|refine b5a ?_|refine b1J ?_|refine b4l ?_|refine b3w ?_|refine b6P ?_|refine b2j ?_|refine b4o ?_|refine b6X ?_|refine b5V ?_|refine b7H ?_|refine b5j ?_|refine b6v ?_|refine a9W ?_|refine b5W ?_|refine b6I ?_|refine b7n ?_|refine b7x ?_|refine b6r ?_|refine b5b ?_))
 |((with_reducible refine' b6Q ?h ?_);(case h=>rfl))
 |with_reducible refine b3m _ ?_
 |((with_reducible refine' a8A ?c ?_);(case c=>(unfold CMul;omega)))
 |((with_reducible refine' r_i ?c ?_);(case c=>(first|omega|(dsimp only<;>omega)|(unfold CMul;omega)|(unfold b5p;omega)|(unfold b7w;decide)|exact Int.pow_pos (by decide)))))
local macro_rules| `(tactic|walk_at "R")=> `(tactic|first|with_reducible refine C5 ?_|with_reducible refine b6O ?_|walk_at "E")
local macro_rules| `(tactic|walk_at "r")=> `(tactic|repeat walk_at "R")
local macro_rules| `(tactic|walk_at "e")=> `(tactic|repeat walk_at "E")
local macro_rules| `(tactic|walk_at "l")=> `(tactic|first|exact Or.inl rfl|exact Or.inr rfl)
section
variable {P:Program} {w:World} {K:PySem.W.Frag} {mg:Str→Option Value} {base:Heap}
def Y6 (i:Int):Nat:=("abcdefghijklmnopqrstuvwxyz":Str).cps.toList.getD i.toNat 0
theorem a6g (i:Int)(h0:0≤i)(h1:i<26):atI ("abcdefghijklmnopqrstuvwxyz":Str).cps.toList i=some (Y6 i):=by
 have hl:("abcdefghijklmnopqrstuvwxyz":Str).cps.toList.length=26:=by decide+kernel
 obtain⟨v,hv,hv2⟩:=a1t (xs:=("abcdefghijklmnopqrstuvwxyz":Str).cps.toList) h0 (by rw[hl];exact h1)
 rw[hv]
 unfold Y6
 rw[List.getD_eq_getElem?_getD,hv2];rfl
theorem a5u:∀i j:Nat,i<26→j<26→Y6 i=Y6 j→i=j:=by
 have h:∀i,i<26→∀j,j<26→Y6 (i:Nat)=Y6 (j:Nat)→i=j:=by decide+kernel
 exact fun i j hi hj=>h i hi j hj
theorem b1C {x y:Str}{c d:Nat}(h:x++(⟨#[c]⟩:Str)++y=x++(⟨#[d]⟩:Str)++y):c=d:=by
 have h':(x.cps++ #[c]++y.cps)=(x.cps++ #[d]++y.cps):=congrArg Str.cps h
 have h2:=congrArg Array.toList h'
 simpa using h2
theorem a4T {f:Nat→Str}:∀{n:Nat},(∀i j,i<n→j<n→f i=f j→i=j)→((List.range n).map f).Nodup
 |0,_=>List.nodup_nil
 |n+1,h=>by
  rw[List.range_succ,List.map_append]
  refine z0 (a4T fun i j hi hj=>h i j (by omega) (by omega)) fun m=>?_
  obtain⟨i,hi,e⟩:=List.mem_map.mp m
  have hi':=List.mem_range.mp hi
  have z:=h i n (by omega) (by omega) e
  omega
theorem a1r:("abcdefghijklmnopqrstuvwxyz":Str).length≤sizeLine:=by decide+kernel
theorem M8 (ss:List Str):(ss.map V.str).all z6=true:=by
 rw[List.all_map,List.all_eq_true];intro _ _;rfl
theorem a5f {F:Key×V→Prop}{kvs:List (Key×V)}{k:Key}{v:V}(h:∀kv∈kvs,F kv)(h':F (k,v)):∀kv∈B8 kvs k v,F kv:=by
 intro kv hkv
 unfold B8 at hkv
 split at hkv
 ·obtain⟨x,hx,e⟩:=List.mem_map.mp hkv
  split at e
  ·next e'=>rw[←e,e'];exact h'
  ·rw[←e];exact h x hx
 ·rcases List.mem_append.mp hkv with z|z
  ·exact h kv z
  ·rw[List.mem_singleton.mp z];exact h'
theorem a0W {K:PySem.W.Frag}{H:Hp}{d:Addr}{k1 k2 kv:_}{x:Str×Tie}(h:H d=some (.dK k1))(t:TieAt K H kv x):TieAt K (upd H d (.dK k2)) kv x:=by
 obtain⟨e,a,ea,s⟩:=t
 refine⟨e,a,ea,?_⟩
 rcases s with s|s
 ·refine .inl ?_
  by_cases z:a=d
  ·subst z
   rcases s with s|⟨_,s⟩<;>(rw[h] at s;cases s)
  ·unfold Rd
   rw[b5 z];exact s
 ·exact .inr s
theorem C3 {H H1:Hp}{d:Addr}{o:HO}(s:Same H H1)(h:H d=none):Same H (upd H1 d o):=fun b u e=>by
 rw[b5 (b9 e h)];exact s _ _ e
theorem C2 {ss:List Str}{i:Int}(h0:0≤i)(h1:i<ss.length):∃x,atI (ss.map V.str) i=some (.str x)∧x∈ss:=by
 obtain⟨v,hv,hv2⟩:=a1t (xs:=ss.map V.str) h0 (by rw[List.length_map];exact h1)
 rw[List.getElem?_map] at hv2
 obtain⟨x,hx,e⟩:=Option.map_eq_some_iff.mp hv2
 exact⟨x,by rw[hv,e],List.mem_of_getElem? hx⟩
theorem u9 {α:Type}(l:List (Str×α)):(l.map (·.1)).map (Sum.inr:Str→Key)=l.map fun x=>Sum.inr x.1:=by rw[List.map_map];rfl
theorem Q0 {l:List Str}{n:Str}(h:(Sum.inr n:Key)∈l.map (Sum.inr:Str→Key)):n∈l:=by
 obtain⟨x,hx,e⟩:=List.mem_map.mp h
 rw[←Sum.inr.inj e];exact hx
theorem D7 {kvs:List (Key×V)}{k:Key}(h:k∉kvs.map (·.1)):p6 kvs k=none:=by
 cases e:p6 kvs k with
 |none=>rfl
 |some v=>exact absurd (a6S e) h
theorem b3a {a:List (Str×Str)}{b:List (Str×Tie)}{n:Str}{t:Tie}(h:(a.map (·.1)++b.map (·.1)).Nodup)(f:n∉a.map (·.1)++b.map (·.1)):(a.map (·.1)++(b++[(n,t)]).map (·.1)).Nodup:=by
 rw[List.map_append,←List.append_assoc];exact z0 h f
theorem a9h {a:List (Str×Str)}{b:List (Str×Tie)}{n s:Str}(h:(a.map (·.1)++b.map (·.1)).Nodup)(f:n∉a.map (·.1)++b.map (·.1)):((a++[(n,s)]).map (·.1)++b.map (·.1)).Nodup:=by
 have z:=z0 h f
 refine(List.Perm.nodup_iff ?_).mpr z
 rw[List.map_append,List.append_assoc,List.append_assoc]
 exact List.Perm.append_left _ List.perm_append_comm
theorem b1p {a:List (Str×Str)}{b:List (Str×Tie)}{n:Str}{t:Tie}{l:List Str}(h:∀x∈a.map (·.1)++b.map (·.1),x∈l)(f:n∈l):∀x∈a.map (·.1)++(b++[(n,t)]).map (·.1),x∈l:=by
 intro x hx
 rw[List.map_append,←List.append_assoc] at hx
 rcases List.mem_append.mp hx with h'|h'
 ·exact h x h'
 ·have:x=n:=by simpa using h'
  rw[this];exact f
theorem a6B {a:List (Str×Str)}{b:List (Str×Tie)}{n s:Str}{l:List Str}(h:∀x∈a.map (·.1)++b.map (·.1),x∈l)(f:n∈l):∀x∈(a++[(n,s)]).map (·.1)++b.map (·.1),x∈l:=by
 intro x hx
 rw[List.map_append,List.append_assoc] at hx
 rcases List.mem_append.mp hx with h'|h'
 ·exact h x (List.mem_append_left _ h')
 ·rcases List.mem_append.mp h' with h2|h2
  ·have:x=n:=by simpa using h2
   rw[this];exact f
  ·exact h x (List.mem_append_right _ h2)
theorem A9 {α β:Type}{F:α→β→Prop}:∀{l:List α} {m:List β} {a:α} {b:β},Paired F l m→F a b→Paired F (l++[a]) (m++[b])
 |_,_,_,_,.nil,h=> .cons h .nil
 |_,_,_,_,.cons r t,h=> .cons r (A9 t h)
theorem a1Z:∀{kvs:List (Key×V)} {kv:Key×V},(kvs.map (·.1)).Nodup→kv∈kvs→p6 kvs kv.1=some kv.2
 |p::r,kv,nd,h=>by
  have nd':=List.nodup_cons.mp (show(p.1::r.map (·.1)).Nodup from nd)
  rcases List.mem_cons.mp h with z|z
  ·rw[z];exact A2 rfl
  ·rw[A1 fun e=>nd'.1 (by rw[e];exact List.mem_map.mpr ⟨kv,z,rfl⟩)]
   exact a1Z nd'.2 z
theorem a5E:∀{r a:List (Key×V)},((a++r).map (·.1)).Nodup→r.foldl (fun a x=>B8 a x.1 x.2) a=a++r
 |[],a,_=>by simp
 |p::r,a,nd=>by
  rw[List.foldl_cons]
  have nd':((a++[p]++r).map (·.1)).Nodup:=by rw[List.append_assoc];exact nd
  have hf:p.1∉a.map (·.1):=fun m=>by
   rw[List.map_append] at nd
   exact(List.nodup_append.mp nd).2.2 p.1 m p.1 (by simp) rfl
  rw[N1 p.2 (D7 hf),a5E (r:=r) (a:=a++[(p.1,p.2)]) nd',List.append_assoc];rfl
theorem b0N {kvs:List (Key×V)}(nd:(kvs.map (·.1)).Nodup):a0w kvs=kvs:=by
 unfold a0w
 rw[a5E (by simpa using nd)];rfl
theorem PrV.mono {K:PySem.W.Frag}{H H':Hp}{x:V}{kv:Key×V}(l:Le H H')(h:PrV K H x kv):PrV K H' x kv:=let ⟨t,e,s⟩:=h;⟨t,e,l.tup s⟩
theorem A3 (pts:List (Str×Str)):(pKV pts).length=pts.length:=by unfold pKV;rw[List.length_map]
theorem a7s {pts:List (Str×Str)}{i:Nat}{kv:Key×V}(h:(pKV pts)[i]?=some kv):∃x,pts[i]?=some x∧kv=(Sum.inr x.1,.str x.2):=by
 unfold pKV at h
 rw[List.getElem?_map] at h
 obtain⟨x,hx,e⟩:=Option.map_eq_some_iff.mp h
 exact⟨x,hx,e.symm⟩
theorem a0Q {D d:Addr}{kvs:List (Key×V)}{o:Obj}{u:HO}{H H1:Hp}(h:H d=some (.dK kvs))(s:Same (C8 d o kvs H) H1)(hD:H1 D=none):Same H (thaw d (upd H1 D u)):=
 Same.thaw h fun b v z=>by rw[b5 (b9 (s _ _ z) hD)];exact s _ _ z
theorem a4j {D d:Addr}{kvs:List (Key×V)}{o:Obj}{u:HO}{H H1:Hp}(s:Same (C8 d o kvs H) H1)(hD:H1 D=none):(thaw d (upd H1 D u)) D=some u:=by
 have hDq:D≠d:=fun z=>by rw[z,s _ _ d7] at hD;cases hD
 rw[T5 hDq,d7]
theorem b1x {pts:List (Str×Str)}(h:(pts.map (·.1)).Nodup):((pKV pts).map (·.1)).Nodup:=by
 rw[B7,←u9]
 refine List.Pairwise.map _ ?_ h
 exact fun a b h z=>h (Sum.inr.inj z)
theorem C1 {α:Type}:∀{l:List (Str×α)} {n:Str} {x y:α},(l.map (·.1)).Nodup→(n,x)∈l→(n,y)∈l→x=y
 |p::r,n,x,y,nd,hx,hy=>by
  have nd':=List.nodup_cons.mp (show(p.1::r.map (·.1)).Nodup from nd)
  rcases List.mem_cons.mp hx with zx|zx
  ·rcases List.mem_cons.mp hy with zy|zy
   ·have:=zx.trans zy.symm
    exact(Prod.mk.inj this).2
   ·exact absurd (List.mem_map.mpr ⟨(n,y),zy,by rw[←zx]⟩) nd'.1
  ·rcases List.mem_cons.mp hy with zy|zy
   ·exact absurd (List.mem_map.mpr ⟨(n,x),zx,by rw[←zy]⟩) nd'.1
   ·exact C1 nd'.2 zx zy
theorem a0L {K:PySem.W.Frag}{H:Hp}{kvs:List (Key×V)}{ts:List (Str×Tie)}{n:Str}{t:Tie}(w:TiesIs K H kvs ts)(nd:(ts.map (·.1)).Nodup)(h:(n,t)∈ts):∃a,p6 kvs (Sum.inr n:Key)=some (.ref a)∧SqT K H a (Q9 t):=by
 obtain⟨a,x,h1,h2,h3⟩:=TiesIs.val (ts:=ts) w (List.mem_map.mpr ⟨(n,t),h,rfl⟩)
 rw[C1 nd h h2];exact⟨a,h1,h3⟩
theorem I9 {pts:List (Str×Str)}{n k:Str}(nd:(pts.map (·.1)).Nodup)(h:(n,k)∈pts):p6 (pKV pts) (Sum.inr n:Key)=some (.str k):=
 a1Z (kv:=(Sum.inr n,.str k)) (b1x nd) (List.mem_map.mpr ⟨(n,k),h,rfl⟩)
theorem a2R {n:Str}:∀{gs:List Str},inV (.str n) (gs.map V.str)=decide (n∈gs)
 |[]=>rfl
 |g::r=>by
  show(eqV (.str g) (.str n)||inV (.str n) (r.map V.str))=_
  rw[a2R (gs:=r),show eqV (.str g) (.str n)=decide (g=n) by unfold eqV;rw[Bool.eq_iff_iff];simp]
  rw[Bool.eq_iff_iff]
  simp
  constructor
  ·rintro(h|h)
   ·exact .inl h.symm
   ·exact .inr h
  ·rintro(h|h)
   ·exact .inl h.symm
   ·exact .inr h
theorem I0 {K:PySem.W.Frag}{H:Hp}{Q:VK}{l:Addr}{gs:List Str}{n:Str}(h:SqL K H l (gs.map V.str))(q:Q (.bl (!decide (n∈gs))) H):a1b K (.str n) (.ref l) H Q:=
 .inr (.inl ⟨l,_,rfl,.inl h,rfl,M8 _,by rw[if_pos rfl,a2R];exact q⟩)
theorem a2a {K:PySem.W.Frag}{H:Hp}{Q:VK}{l:Addr}{gs:List Str}{n:Str}(h:SqL K H l (gs.map V.str))(q:Q (.bl (decide (n∈gs))) H):a7L K (.str n) (.ref l) H Q:=
 a5x (.inl h) rfl (M8 _) (by rw[a2R];exact q)
theorem E1 {K:PySem.W.Frag}{H:Hp}{d:Addr}{k1 k2:List (Key×V)}{kvs:List (Key×V)}{ts:List (Str×Tie)}(h:H d=some (.dK k1))(w:TiesIs K H kvs ts):TiesIs K (upd H d (.dK k2)) kvs ts:=Paired.imp' (fun _ _ z=>a0W h z) w
theorem Y7 {pts:List (Str×Str)}{n:Str}:(p6 (pKV pts) (Sum.inr n:Key)).isSome=decide (n∈pts.map (·.1)):=by
 rw[←Q4,Bool.eq_iff_iff,List.any_eq_true,decide_eq_true_eq]
 constructor
 ·rintro⟨kv,hkv,e⟩
  obtain⟨x,hx,rfl⟩:=List.mem_map.mp hkv
  exact List.mem_map.mpr ⟨x,hx,Sum.inr.inj (of_decide_eq_true e)⟩
 ·intro m
  obtain⟨x,hx,rfl⟩:=List.mem_map.mp m
  exact⟨_,List.mem_map.mpr ⟨x,hx,rfl⟩,decide_eq_true rfl⟩
theorem a8r {K:PySem.W.Frag}{H:Hp}{kvs:List (Key×V)}{ts:List (Str×Tie)}{n:Str}(w:TiesIs K H kvs ts):(p6 kvs (Sum.inr n:Key)).isSome=decide (n∈ts.map (·.1)):=by
 by_cases hn:n∈ts.map (·.1)
 ·obtain⟨a,x,h1,_⟩:=TiesIs.val (ts:=ts) w hn
  rw[h1,decide_eq_true hn];rfl
 ·cases e:p6 kvs (Sum.inr n:Key) with
  |none=>simp [hn]
  |some v=>
   have z:=a6S e
   rw[w.keys,←u9] at z
   exact absurd (Q0 z) hn
def TsOk (K:PySem.W.Frag)(H:Hp)(kvq:List (Key×V)):Prop:=∀kv∈kvq,∃x,TieAt K H kv x∧x.1.length≤100
theorem TsOk.mono {K:PySem.W.Frag}{H H':Hp}{kvq:List (Key×V)}(l:Le H H')(h:TsOk K H kvq):TsOk K H' kvq:=fun kv hk=>let ⟨x,e,z⟩:=h kv hk;⟨x,e.mono l,z⟩
theorem atI_last {α:Type}{xs:List α}(h:0<xs.length):∃v,atI xs (-1)=some v∧v∈xs:=by
 have e:ixN xs.length (-1)=some (xs.length -1):=by
  unfold ixN
  rw[if_neg (by omega),if_pos (by omega)]
  congr 1
  omega
 refine⟨xs[xs.length -1],?_,List.getElem_mem _⟩
 unfold atI
 rw[e]
 show xs[xs.length -1]?=_
 exact List.getElem?_eq_getElem (by omega)
theorem a4r {K:PySem.W.Frag}{H:Hp}{kb:List (Key×V)}:∀{ka:List (Key×V)},(∀kv∈ka,∃y,p6 kb kv.1=some y∧Eq1 K H kv.2 y true)→EqH K H kb ka true
 |[],_=> .nil
 |kv::r,h=>by
  obtain⟨y,h1,h2⟩:=h kv List.mem_cons_self
  exact EqH.hit (e:=true) (b:=true) h1 h2 (a4r fun x hx=>h x (List.mem_cons_of_mem _ hx))
theorem a6W {K:PySem.W.Frag}{H:Hp}(s:Str):Eq1 K H (.str s) (.str s) true:=by
 have z:=Eq1.flat (K:=K) (H:=H) (x:= .str s) (y:= .str s) rfl rfl
 rw[R7 rfl] at z;exact z
theorem a9g {K:PySem.W.Frag}{H:Hp}{a b:Addr}{t:Tie}(h:SqT K H a (Q9 t))(h':SqT K H b (Q9 t)):Eq1 K H (.ref a) (.ref b) true:=by
 have z:=Eq1.tup h h' rfl rfl
 rw[a0j rfl] at z;exact z
theorem a7j {K:PySem.W.Frag}{H:Hp}{p p':Addr}{pts pts':List (Str×Str)}(hne:p≠p')(h1:Rd H p (.dK (pKV pts)))(h2:Rd H p' (.dK (pKV pts')))(pm:pts.Perm pts')(nd:(pts'.map (·.1)).Nodup):EqD K H p p' true:=
 .inr ⟨hne,_,_,true,h1,h2,a4r fun kv hkv=>by
  obtain⟨x,hx,rfl⟩:=List.mem_map.mp hkv
  exact⟨_,I9 nd (pm.mem_iff.mp hx),a6W _⟩,by rw[A3,A3,pm.length_eq];simp⟩
theorem a9q {K:PySem.W.Frag}{H:Hp}{q q':Addr}{kvs kvs':List (Key×V)}{ts ts':List (Str×Tie)}(hne:q≠q')(h1:Rd H q (.dK kvs))(h2:Rd H q' (.dK kvs'))(w:TiesIs K H kvs ts)(w':TiesIs K H kvs' ts')(pm:ts.Perm ts')(nd:(ts'.map (·.1)).Nodup):EqD K H q q' true:=
 .inr ⟨hne,_,_,true,h1,h2,a4r fun kv hkv=>by
  obtain⟨i,hi⟩:=List.getElem?_of_mem hkv
  obtain⟨x,hx,ex,b,eb,sb⟩:=w.get hi
  obtain⟨c,e1,e2⟩:=a0L w' nd (pm.mem_iff.mp (List.mem_of_getElem? hx))
  refine⟨.ref c,by rw[ex];exact e1,?_⟩
  rw[eb];exact a9g sb e2,by rw[w.length,w'.length,pm.length_eq];simp⟩
theorem J6 {K:PySem.W.Frag}{H:Hp}{a d:Addr}{k1:List (Key×V)}{u:HO}{xs:List V}(h:H d=some (.dK k1))(s:SqT K H a xs):SqT K (upd H d u) a xs:=by
 rcases s with s|s
 ·refine .inl ?_
  by_cases z:a=d
  ·subst z
   rcases s with s|⟨_,s⟩<;>(rw[h] at s;cases s)
  ·unfold Rd
   rw[b5 z];exact s
 ·exact .inr s
theorem a6N:∀{kvs:List (Key×V)} {k:Key} {v:V},p6 kvs k=some v→(k,v)∈kvs
 |p::r,k,v,h=>by
  by_cases e:p.1=k
  ·rw[A2 e] at h
   rw[←e,←Option.some.inj h];exact List.mem_cons_self
  ·rw[A1 e] at h
   exact List.mem_cons_of_mem _ (a6N h)
theorem b0i (a b:Tie):L7 (Q9 a) (Q9 b)=decide (a=b):=by
 obtain⟨a1,a2,a3⟩:=a
 obtain⟨b1,b2,b3⟩:=b
 show(a1==b1&&(a2==b2&&(a3==b3&&true)))=_
 rw[Bool.eq_iff_iff]
 simp
theorem a4u (a:Tie):(Q9 a).all z6=true:=rfl
theorem a1W {pts:List (Str×Str)}{n:Str}{v:V}(h:p6 (pKV pts) (Sum.inr n:Key)=some v):∃k,v= .str k∧(n,k)∈pts:=by
 obtain⟨x,hx,e⟩:=List.mem_map.mp (a6N h)
 obtain⟨x1,x2⟩:=x
 have e1:=(Prod.mk.inj e).1
 have e2:=(Prod.mk.inj e).2
 exact⟨x2,e2.symm,by rw[←Sum.inr.inj e1];exact hx⟩
theorem A6 {W:Web}(h:(i8 W).Nodup):(W.pts.map (·.1)).Nodup:=(List.nodup_append.mp h).1
theorem N3 {W:Web}(h:(i8 W).Nodup):(W.ts.map (·.1)).Nodup:=(List.nodup_append.mp h).2.1
def ltP (a b:Str):Prop:=a.cps.toList<b.cps.toList
theorem V5:∀{ss:List Str},b0F ss=true→ss.Pairwise ltP
 |[],_=> .nil
 |[_],_=>List.pairwise_singleton _ _
 |x::y::r,h=>by
  rw[a3f,Bool.and_eq_true] at h
  have ih:=V5 h.2
  have hxy:x.cps.toList<y.cps.toList:=of_decide_eq_true h.1
  refine List.pairwise_cons.mpr ⟨fun z hz=>?_,ih⟩
  rcases List.mem_cons.mp hz with e|e
  ·rw[e];exact hxy
  ·exact List.lt_trans hxy ((List.pairwise_cons.mp ih).1 z e)
theorem a4w:∀{a b:List Str},a.Pairwise ltP→b.Pairwise ltP→a.Perm b→a=b
 |[],b,_,_,p=>(List.Perm.nil_eq p)
 |x::r,[],_,_,p=>(List.Perm.eq_nil p)
 |x::r,y::t,h1,h2,p=>by
  have h1':=List.pairwise_cons.mp h1
  have h2':=List.pairwise_cons.mp h2
  have e:x=y:=Classical.byContradiction fun ne=>by
   have m1:x∈y::t:=p.mem_iff.mp List.mem_cons_self
   have m2:y∈x::r:=p.mem_iff.mpr List.mem_cons_self
   rcases List.mem_cons.mp m1 with z|z
   ·exact ne z
   ·rcases List.mem_cons.mp m2 with z'|z'
    ·exact ne z'.symm
    ·have q1:y.cps.toList<x.cps.toList:=h2'.1 x z
     have q2:x.cps.toList<y.cps.toList:=h1'.1 y z'
     exact List.lt_asymm q1 q2
  subst e
  rw[a4w h1'.2 h2'.2 (List.Perm.cons_inv p)]
theorem A8 {a b:List Str}(h1:sortedS a=true)(h2:sortedS b=true)(nd:a.Nodup)(p:a.Perm b):a=b:=
 a4w (V5 (a0l h1 nd)) (V5 (a0l h2 (p.nodup_iff.mp nd))) p
structure Ordr (W:Web) (s1 s2:List Str):Prop where
 p1:s1.Perm (W.pts.map (·.1))
 p2:s2.Perm (W.ts.map (·.1))
 o1:sortedS s1=true
 o2:sortedS s2=true
theorem Ordr.mem {W:Web}{s1 s2:List Str}(h:Ordr W s1 s2){n:Str}:n∈s1++s2↔n∈i8 W:=by
 unfold i8
 rw[List.mem_append,List.mem_append,h.p1.mem_iff,h.p2.mem_iff]
theorem Ordr.perm {W:Web}{s1 s2:List Str}(h:Ordr W s1 s2):(s1++s2).Perm (i8 W):=h.p1.append h.p2
theorem Ordr.len {W:Web}{s1 s2:List Str}(h:Ordr W s1 s2):(s1++s2).length=(i8 W).length:=h.perm.length_eq
def i9 (kvm:List (Key×V))(n:Str):Str:=match p6 kvm (Sum.inr n:Key) with
 |some (.str s)=>s
 |_=>""
theorem a1c {kvm:List (Key×V)}{n s:Str}(h:p6 kvm (Sum.inr n:Key)=some (.str s)):i9 kvm n=s:=by unfold i9;rw[h]
def TxtAt (kvm:List (Key×V))(n:Str):Prop:=∃s,p6 kvm (Sum.inr n:Key)=some (.str s)
theorem TxtAt.at_ {kvm:List (Key×V)}{n:Str}(h:TxtAt kvm n):p6 kvm (Sum.inr n:Key)=some (.str (i9 kvm n)):=by
 obtain⟨s,hs⟩:=h
 rw[a1c hs];exact hs
theorem ixd {H:Hp}{Q:VK}{d:Addr}{kvm:List (Key×V)}{n:Str}(hD:Rd H d (.dK kvm))(h:TxtAt kvm n)(q:Q (.str (i9 kvm n)) H):a5m K (.ref d) (.str n) H Q:=
 v0 (by have z:=R0 (k:=Sum.inr n) hD;rw[h.at_] at z;exact z) q
def V8 (K:PySem.W.Frag):Sp:=fun vs H Q _=>∃(a p q:Addr) (kvs:List (Key×V)) (W:Web),vs=[.ref a]∧WebAt K H a p q kvs W∧(i8 W).length≤60∧∀(l:Addr) (H':Hp) (s1 s2:List Str),H l=none→Same H H'→H' l=some (.lst ((s1++s2).map V.str))→Ordr W s1 s2→Q (.ref l) H'
theorem z7 (W:Web):(i8 W).length=W.pts.length+W.ts.length:=by unfold i8;rw[List.length_append,List.length_map,List.length_map]
theorem a7y {f:Addr}{fd:FuncData}(T:Txt K mg)(F:Fun K "things" "things" W9 f fd):FnOk P w K mg base CX0 1 f fd ["web"] (V8 K):=by
 refine F.ok sc_things (fun vs H Q E h=>?_) (fun cdv A outer s H vs Q E hr h=>?_)
 ·obtain⟨a,p,q,kvs,W,rfl,_⟩:=h
  rfl
 ·obtain⟨a,p,q,kvs,W,rfl,hW,h1,k⟩:=h
  rw[z7] at h1
  have hN:=sc_things.nd
  have hu:=B9 hr
  refine⟨_,QSs.r (qs1 (D5 (qOp (B4 K) (qB (J5 K rfl) T.b_sorted Boot.«sorted» (qa1 (qIx (kIx K hu) (qV 0) d9 (fun _ _=>rfl)) qa0)) (qB (J5 K rfl) T.b_sorted Boot.«sorted» (qa1 (qIx (kIx K hu) (qV 0) d9 (fun _ _=>rfl)) qa0))))),?_⟩
  walk_at "r"
  refine d8 hW.tup (h8 (j:=0) rfl) ?_
  walk_at "r"
  refine p0 (ss:=W.pts.map (·.1)) hW.pts (by rw[B7,u9]) (by rw[List.length_map];omega) (fun s1 a1 a2 l1 n1=>?_)
  obtain⟨H1,e1,f1,m1,_⟩:=b7 (o:= .lst _) n1
  rw[e1]
  have W1:=hW.mono m1.le
  walk_at "r"
  refine d8 W1.tup (h8 (j:=1) rfl) ?_
  walk_at "r"
  refine p0 (ss:=W.ts.map (·.1)) W1.ties (by rw[W1.ts.keys,u9]) (by rw[List.length_map];omega) (fun s2 b1 b2 l2 n2=>?_)
  obtain⟨H2,e2,f2,m2,_⟩:=b7 (o:= .lst _) n2
  rw[e2]
  have g1:=a1.length_eq
  have g2:=b1.length_eq
  rw[List.length_map] at g1 g2
  refine a7g (m2 _ _ f1) f2 (i6 (by rw[List.length_map,List.length_map];omega)) (fun l3 n3=>?_)
  obtain⟨H3,e3,f3,m3,_⟩:=b7 (o:= .lst _) n3
  rw[e3]
  refine k l3 H3 s1 s2 (m1.free (m2.free n3)) (m1.trans (m2.trans m3)) ?_ ⟨a1,b1,a2,b2⟩
  rw[f3,List.map_append]
def Q2 (K:PySem.W.Frag):Sp:=fun vs H Q _=>∃(t d:Addr) (x:Tie) (kvm:List (Key×V)),vs=[.ref t,.ref d]∧SqT K H t (Q9 x)∧Rd H d (.dK kvm)∧TxtAt kvm x.2.1∧TxtAt kvm x.2.2∧∀(l:Addr) (H':Hp),H l=none→Same H H'→H' l=some (.tup (Q9 (x.1,i9 kvm x.2.1,i9 kvm x.2.2)))→Q (.ref l) H'
structure FitP (P W:Web) (kvm:List (Key×V)):Prop where
 len:kvm.length=(i8 P).length
 txt:∀n∈i8 P,TxtAt kvm n
 nd:((i8 P).map (i9 kvm)).Nodup
 pts:∀x∈P.pts,(i9 kvm x.1,x.2)∈W.pts
 ts:∀x∈P.ts,(i9 kvm x.1,(x.2.1,i9 kvm x.2.2.1,i9 kvm x.2.2.2))∈W.ts
theorem b1Z {pts:List (Str×Str)}{n s:Str}(h:n∉pts.map (·.1)):B8 (pKV pts) (Sum.inr n:Key) (.str s)=pKV (pts++[(n,s)]):=by
 rw[N1 _ (D7 (by rw[B7,←u9];exact fun m=>h (Q0 m)))]
 unfold pKV;rw[List.map_append];rfl
theorem B6 {ms:List (Str×Str)}{n m:Str}(nd:(ms.map (·.1)).Nodup)(h:(n,m)∈ms):i9 (pKV ms) n=m:=a1c (I9 nd h)
theorem a2M {f:Addr}{fd:FuncData}(T:Txt K mg)(F:Fun K "tie_renamed" "tie_renamed" E9 f fd):FnOk P w K mg base CX0 1 f fd ["tie","names"] (Q2 K):=by
 refine F.ok sc_tie_renamed (fun vs H Q E h=>?_) (fun cdv A outer s H vs Q E hr h=>?_)
 ·obtain⟨t,d,x,kvm,rfl,_⟩:=h
  rfl
 ·obtain⟨t,d,⟨x1,x2,x3⟩,kvm,rfl,hT,hD,k1,k2,k⟩:=h
  have hN:=sc_tie_renamed.nd
  have hu:=B9 hr
  refine⟨_,QSs.r (qs1 (D5 (X7 (qa1 (qIx (kIx K hu) (qV 0) d9 (fun _ _=>rfl)) (qa1 (qIx (kIx K hu) (qV 1) (qIx (kIx K hu) (qV 0) d9 (fun _ _=>rfl)) (fun _ _=>rfl)) (qa1 (qIx (kIx K hu) (qV 1) (qIx (kIx K hu) (qV 0) d9 (fun _ _=>rfl)) (fun _ _=>rfl)) qa0)))))),?_⟩
  walk_at "r"
  refine d8 hT (h8 (j:=0) rfl) ?_
  walk_at "r"
  refine d8 hT (h8 (j:=1) rfl) ?_
  refine ixd hD k1 ?_
  walk_at "r"
  refine d8 hT (h8 (j:=2) rfl) ?_
  refine ixd hD k2 ?_
  walk_at "r"
  refine⟨i6 (by simp),fun l9 n9=>?_⟩
  obtain⟨H9,e9,f9,m9,_⟩:=b7 (o:= .tup _) n9
  rw[e9]
  exact k l9 H9 n9 m9 f9
def a2Z (x:Str):List Str→List Str
 |[]=>[x]
 |y::r=>if ltCps y.cps.toList x.cps.toList=true then y::a2Z x r else x::y::r
def a5M:List Str→List Str
 |[]=>[]
 |x::r=>a2Z x (a5M r)
theorem a3u (x:Str):∀l,(a2Z x l).Perm (x::l)
 |[]=> .refl _
 |y::r=>by
  unfold a2Z
  split
  ·exact((a3u x r).cons y).trans (.swap _ _ _)
  ·exact .refl _
theorem a1s:∀l,(a5M l).Perm l
 |[]=> .refl _
 |x::r=>(a3u x _).trans ((a1s r).cons x)
theorem a5F {a b:Str}(h:ltCps a.cps.toList b.cps.toList=true):ltCps b.cps.toList a.cps.toList=false:=by
 rw[ltCps_eq] at h⊢
 exact decide_eq_false (List.lt_asymm (of_decide_eq_true h))
theorem a4J {x:Str}:∀{l:List Str} {p:Str},risingS p l=true→ltCps x.cps.toList p.cps.toList=false→risingS p (a2Z x l)=true
 |[],p,_,h=>by unfold a2Z;unfold risingS;rw[h];rfl
 |y::r,p,h1,h=>by
  have h1':(!ltCps y.cps.toList p.cps.toList&&risingS y r)=true:=h1
  rw[Bool.and_eq_true] at h1'
  unfold a2Z
  split
  ·next e=>
   show(!ltCps y.cps.toList p.cps.toList&&risingS y (a2Z x r))=true
   rw[h1'.1,a4J h1'.2 (a5F e)];rfl
  ·next e=>
   show(!ltCps x.cps.toList p.cps.toList&&(!ltCps y.cps.toList x.cps.toList&&risingS y r))=true
   rw[h,h1'.2];simpa using e
theorem a3V:∀l,sortedS (a5M l)=true
 |[]=>rfl
 |x::r=>by
  have ih:=a3V r
  show sortedS (a2Z x (a5M r))=true
  cases e:a5M r with
  |nil=>rfl
  |cons y t=>
   rw[e] at ih
   unfold a2Z
   split
   ·next z=>exact a4J ih (a5F z)
   ·next z=>
    show(!ltCps y.cps.toList x.cps.toList&&risingS y t)=true
    rw[show risingS y t=true from ih];simpa using z
def C7 (ts:List (Str×Tie))(n:Str):Tie:=match ts.find? (fun x=>decide (x.1=n)) with
 |some x=>x.2
 |none=>("","","")
theorem a1x:∀{ts:List (Str×Tie)} {n:Str} {t:Tie},(ts.map (·.1)).Nodup→(n,t)∈ts→C7 ts n=t
 |[],_,_,_,h=>nomatch h
 |x::r,n,t,nd,h=>by
  unfold C7
  have nd':=List.nodup_cons.mp (show(x.1::r.map (·.1)).Nodup from nd)
  by_cases e:x.1=n
  ·rw[List.find?_cons_of_pos (by simpa using e)]
   rcases List.mem_cons.mp h with z|z
   ·rw[←z]
   ·exact absurd (List.mem_map.mpr ⟨_,z,rfl⟩) (e▸nd'.1)
  ·rw[List.find?_cons_of_neg (by simpa using e)]
   rcases List.mem_cons.mp h with z|z
   ·exact absurd (by rw[←z]) e
   ·exact a1x nd'.2 z
theorem Z0 {ts:List (Str×Tie)}{n:Str}(h:n∈ts.map (·.1)):(n,C7 ts n)∈ts:=by
 unfold C7
 cases e:ts.find? (fun x=>decide (x.1=n)) with
 |none=>
  obtain⟨x,hx,z⟩:=List.mem_map.mp h
  exact absurd (List.find?_eq_none.mp e x hx) (by simpa using z)
 |some x=>
  have z:x.1=n:=by simpa using List.find?_some e
  rw[←z];exact List.mem_of_find?_eq_some e
def N4 (fx:List (Str×Str))(n im:Str):Bool:=if n∈fx.map (·.1) then decide (im=i9 (pKV fx) n) else !decide (im∈fx.map (·.2))
def chL (L:Str→Str→Bool)(gp:List Str)(fx:List (Str×Str))(n:Str):List Str:=(gp.filter (L n)).filter (N4 fx n)
def plL (W:Web)(gt:List Str)(fx:List (Str×Str))(n:Str)(t:Tie):List Str:=gt.filter fun im=>decide (C7 W.ts im=t)&&N4 fx n im
def gv (nm b:List Str)(x:Str):Str:=i9 (pKV (nm.zip b)) x
def tcL (W:Web)(gt:List Str)(fx:List (Str×Str))(nm b:List Str)(x:Str×Tie):List Str:=plL W gt fx x.1 (x.2.1,gv nm b x.2.2.1,gv nm b x.2.2.2)
def mxS (a b:Str):Str:=if a.cps.toList<b.cps.toList then b else a
def Z6 (ts:List (Str×Tie))(n:Str):List (Str×Tie):=ts.filter fun x=>decide (mxS x.2.2.1 x.2.2.2=n)
def enB (ls:List (List Str)):Bool:=ls.all fun d=>decide (ls.count d≤d.length)
def Q5 (L:Str→Str→Bool)(Pc W:Web)(gp gt:List Str)(fx:List (Str×Str))(nm b:List Str):List Str:=match nm[b.length]? with
 |none=>[]
 |some n=>if n∈Pc.ts.map (·.1) then(tcL W gt fx nm b (n,C7 Pc.ts n)).filter (fun x=>!decide (x∈b))
  else((chL L gp fx n).filter (fun x=>!decide (x∈b))).filter fun im=>enB ((Z6 Pc.ts n).map (tcL W gt fx nm (b++[im])))
def a1D (img:List Str→List Str):Nat→List Str→List (List Str)
 |0,b=>[b]
 |k+1,b=>(img b).flatMap fun x=>a1D img k (b++[x])
def W4:List (List Str)→List Str→List (List Str)
 |[],b=>[b]
 |c::r,b=>c.flatMap fun x=>W4 r (b++[x])
def OkF (img:List Str→List Str)(j:Nat)(row:List Str):Prop:=∀(i:Nat) (x:Str),j≤i→row[i]?=some x→x∈img (row.take i)
theorem V7:∀{bs:List (List Str)} {b row:List Str},row∈W4 bs b→∃t,row=b++t∧t.length=bs.length∧∀(i:Nat) (x:Str) (c:List Str),t[i]?=some x→bs[i]?=some c→x∈c
 |[],b,row,h=>by
  rw[List.mem_singleton.mp h]
  exact⟨[],by simp,rfl,fun i x c hx _=>by simp at hx⟩
 |c::r,b,row,h=>by
  obtain⟨x,hx,h'⟩:=List.mem_flatMap.mp h
  obtain⟨t,e,hl,hm⟩:=V7 h'
  refine⟨x::t,by rw[e];simp,by simp [hl],fun i y d hy hd=>?_⟩
  cases i with
  |zero=>cases hy;cases hd;exact hx
  |succ i=>exact hm i y d hy hd
theorem a6H:∀{bs:List (List Str)} {b t:List Str},t.length=bs.length→(∀(i:Nat) (x:Str) (c:List Str),t[i]?=some x→bs[i]?=some c→x∈c)→b++t∈W4 bs b
 |[],b,[],_,_=>by simp [W4]
 |c::r,b,x::t,hl,hm=>by
  refine List.mem_flatMap.mpr ⟨x,hm 0 x c rfl rfl,?_⟩
  have z:=a6H (bs:=r) (b:=b++[x]) (t:=t) (by simpa using hl) fun i y d hy hd=>hm (i+1) y d hy hd
  simpa using z
theorem a0b {α β:Type}(p:α→Bool)(F:α→List β):∀l:List α,(l.filter p).flatMap F=l.flatMap fun x=>if p x=true then F x else []
 |[]=>rfl
 |a::l=>by
  cases e:p a with
  |true=>rw[List.filter_cons_of_pos e,List.flatMap_cons,List.flatMap_cons,if_pos e,a0b p F l]
  |false=>rw[List.filter_cons_of_neg (by rw[e];decide),List.flatMap_cons,if_neg (by rw[e];decide),a0b p F l];rfl
theorem a0I {α β:Type}{F G:α→List β}:∀{l:List α},(∀x∈l,F x=G x)→l.flatMap F=l.flatMap G
 |[],_=>rfl
 |a::l,h=>by rw[List.flatMap_cons,List.flatMap_cons,h a List.mem_cons_self,a0I fun x hx=>h x (List.mem_cons_of_mem _ hx)]
theorem O5 {α:Type}{p q:α→Bool}:∀{l:List α},(∀x∈l,p x=q x)→l.filter p=l.filter q
 |[],_=>rfl
 |a::l,h=>by
  have z:=O5 (l:=l) fun x hx=>h x (List.mem_cons_of_mem _ hx)
  rw[List.filter_cons,List.filter_cons,h a List.mem_cons_self,z]
open Classical in
theorem a9B {img:List Str→List Str}:∀{bs:List (List Str)} {b:List Str},(∀(j:Nat) (c:List Str),bs[j]?=some c→∀b':List Str,b'.length=b.length+j→img b'=c.filter fun x=>decide (x∈img b'))→
  a1D img bs.length b=(W4 bs b).filter fun row=>decide (OkF img b.length row)
 |[],b,_=>by
  show [b]=[b].filter _
  rw[List.filter_cons_of_pos (by
   refine decide_eq_true fun i x hi hx=>?_
   rw[List.getElem?_eq_none hi] at hx;cases hx)];rfl
 |c::r,b,h=>by
  show(img b).flatMap (fun x=>a1D img r.length (b++[x]))=(c.flatMap fun x=>W4 r (b++[x])).filter _
  have h0:=h 0 c rfl b (by omega)
  have hF:∀x,a1D img r.length (b++[x])=(W4 r (b++[x])).filter fun row=>decide (OkF img (b++[x]).length row):=fun x=>
   a9B fun j d hd b' hb=>h (j+1) d hd b' (by rw[hb,List.length_append,List.length_singleton];omega)
  rw[List.filter_flatMap,h0,a0b]
  refine a0I fun x hx=>?_
  rw[hF x]
  by_cases hin:x∈img b
  ·rw[if_pos (decide_eq_true hin)]
   refine O5 fun row hrow=>?_
   obtain⟨t,e,_⟩:=V7 hrow
   rw[Bool.eq_iff_iff,decide_eq_true_eq,decide_eq_true_eq]
   constructor
   ·intro ok i y hi hy
    by_cases z:i=b.length
    ·have e1:row[i]?=some x:=by rw[e,z];simp
     rw[e1] at hy;cases hy
     have e2:row.take i=b:=by rw[e,z];simp
     rw[e2];exact hin
    ·exact ok i y (by rw[List.length_append,List.length_singleton];omega) hy
   ·intro ok i y hi hy
    exact ok i y (by rw[List.length_append,List.length_singleton] at hi;omega) hy
  ·rw[if_neg (by rw[decide_eq_false hin];decide)]
   refine(List.filter_eq_nil_iff.mpr fun row hrow=>?_).symm
   obtain⟨t,e,_⟩:=V7 hrow
   intro ok
   have z:=of_decide_eq_true ok b.length x (Nat.le_refl _) (by rw[e];simp)
   rw[show row.take b.length=b by rw[e];simp] at z
   exact hin z
theorem a5v {c:List Str}{p:Str→Bool}:c.filter p=c.filter fun x=>decide (x∈c.filter p):=O5 fun x hx=>by
 rw[Bool.eq_iff_iff,decide_eq_true_eq,List.mem_filter]
 exact⟨fun h=>⟨hx,h⟩,fun h=>h.2⟩
theorem a6P:∀(nm b:List Str),((nm.zip b).map (·.1)).Sublist nm
 |[],_=> .slnil
 |_::_,[]=>List.nil_sublist _
 |n::nm,x::b=>(a6P nm b).cons_cons n
theorem a2v {nm:List Str}(b:List Str)(nd:nm.Nodup):((nm.zip b).map (·.1)).Nodup:=nd.sublist (a6P nm b)
theorem a1Y {nm b:List Str}{i:Nat}{n x:Str}(h1:nm[i]?=some n)(h2:b[i]?=some x):(n,x)∈nm.zip b:=by
 have z:(nm.zip b)[i]?=some (n,x):=by rw[List.getElem?_zip_eq_some];exact⟨h1,h2⟩
 exact List.mem_of_getElem? z
theorem a3q {nm b:List Str}{i:Nat}{n x:Str}(nd:nm.Nodup)(h1:nm[i]?=some n)(h2:b[i]?=some x):gv nm b n=x:=B6 (a2v b nd) (a1Y h1 h2)
theorem a6k {nm row:List Str}(nd:nm.Nodup)(hl:row.length=nm.length):nm.map (gv nm row)=row:=by
 refine List.ext_getElem? fun i=>?_
 rw[List.getElem?_map]
 by_cases hi:i<nm.length
 ·rw[List.getElem?_eq_getElem hi,List.getElem?_eq_getElem (show i<row.length by omega)]
  exact congrArg some (a3q nd (List.getElem?_eq_getElem hi) (List.getElem?_eq_getElem (by omega)))
 ·rw[List.getElem?_eq_none (by omega),List.getElem?_eq_none (by omega)];rfl
theorem Q1:∀{l m:List Str},l.Nodup→(∀x∈l,x∈m)→l.length≤m.length
 |[],m,_,_=>Nat.zero_le _
 |x::r,m,nd,h=>by
  have nd':=List.nodup_cons.mp nd
  have hx:=h x List.mem_cons_self
  have z:=Q1 (l:=r) (m:=m.erase x) nd'.2 fun y hy=>(List.mem_erase_of_ne (fun e:y=x=>nd'.1 (by rw[←e];exact hy))).mpr (h y (List.mem_cons_of_mem _ hy))
  rw[List.length_erase_of_mem hx] at z
  have:0<m.length:=List.length_pos_of_mem hx
  rw[List.length_cons];omega
theorem a3r {α:Type}(f:α→List Str)(d:List Str):∀ts:List α,(ts.map f).count d=(ts.filter fun t=>decide (f t=d)).length
 |[]=>rfl
 |t::r=>by
  rw[List.map_cons,List.count_cons,a3r f d r,List.filter_cons]
  by_cases e:f t=d
  ·rw[if_pos (by simpa using e),if_pos (by simpa using e)];rfl
  ·rw[if_neg (by simpa using e),if_neg (by simpa using e)];rfl
theorem b2S {α:Type}{ts:List α}{f:α→List Str}{r:α→Str}(hm:∀t∈ts,r t∈f t)(nd:(ts.map r).Nodup):enB (ts.map f)=true:=by
 unfold enB
 rw[List.all_eq_true]
 intro d hd
 rw[decide_eq_true_eq,a3r]
 have z:((ts.filter fun t=>decide (f t=d)).map r).length≤d.length:=by
  refine Q1 (nd.sublist (List.filter_sublist.map r)) fun x hx=>?_
  obtain⟨t,ht,rfl⟩:=List.mem_map.mp hx
  rw[List.mem_filter] at ht
  rw[←of_decide_eq_true ht.2];exact hm t ht.1
 rw[List.length_map] at z;exact z
def a2h (fx:List (Str×Str))(nm row:List Str):Prop:=∀x∈fx,gv nm row x.1=x.2
structure SrchP (L:Str→Str→Bool) (Pc W:Web) (s1 s2 gp gt:List Str) (fx:List (Str×Str)):Prop where
 o:Ordr Pc s1 s2
 o':Ordr W gp gt
 nd:(i8 Pc).Nodup
 nd':(i8 W).Nodup
 ends:∀x∈Pc.ts,x.2.2.1∈Pc.pts.map (·.1)∧x.2.2.2∈Pc.pts.map (·.1)
 fnd:(fx.map (·.1)).Nodup
 fin:∀x∈fx,x.1∈i8 Pc
 ls:∀n x,n∈Pc.pts.map (·.1)→x∈W.pts.map (·.1)→L n x=true→i9 (pKV W.pts) x=i9 (pKV Pc.pts) n
 lc:∀row,FitP Pc W (pKV ((s1++s2).zip row))→∀x∈Pc.pts,L x.1 (gv (s1++s2) row x.1)=true
section
variable {L:Str→Str→Bool} {Pc W:Web} {s1 s2 gp gt:List Str} {fx:List (Str×Str)}
def a1y (s1 s2 gp gt:List Str):List (List Str):=List.replicate s1.length gp++List.replicate s2.length gt
theorem a1j:(a1y s1 s2 gp gt).length=(s1++s2).length:=by unfold a1y;simp
theorem SrchP.nn (S:SrchP L Pc W s1 s2 gp gt fx):(s1++s2).Nodup:=S.o.perm.nodup_iff.mpr S.nd
theorem SrchP.is1 (S:SrchP L Pc W s1 s2 gp gt fx){i:Nat}{n:Str}(h:(s1++s2)[i]?=some n):(n∉Pc.ts.map (·.1)∧i<s1.length)∨(n∈Pc.ts.map (·.1)∧s1.length≤i):=by
 by_cases hi:i<s1.length
 ·refine .inl ⟨fun z=>?_,hi⟩
  rw[List.getElem?_append_left hi] at h
  have m1:n∈s1:=List.mem_of_getElem? h
  exact(List.nodup_append.mp S.nn).2.2 n m1 n (S.o.p2.mem_iff.mpr z) rfl
 ·rw[List.getElem?_append_right (by omega)] at h
  exact .inr ⟨S.o.p2.mem_iff.mp (List.mem_of_getElem? h),by omega⟩
theorem b1V {L c:List Str}{p:Str→Bool}(e:L=c.filter p):L=c.filter fun x=>decide (x∈L):=by subst e;exact a5v
theorem a8W (S:SrchP L Pc W s1 s2 gp gt fx){j:Nat}{c b:List Str}(h:(a1y s1 s2 gp gt)[j]?=some c)(hb:b.length=j):Q5 L Pc W gp gt fx (s1++s2) b=c.filter fun x=>decide (x∈Q5 L Pc W gp gt fx (s1++s2) b):=by
 have hj:j<(s1++s2).length:=by
  rw[←a1j (gp:=gp) (gt:=gt)]
  rcases Nat.lt_or_ge j (a1y s1 s2 gp gt).length with z|z
  ·exact z
  ·rw[List.getElem?_eq_none z] at h;cases h
 have hn:(s1++s2)[b.length]?=some ((s1++s2)[j]):=by rw[hb];exact List.getElem?_eq_getElem hj
 have hc:c=if j<s1.length then gp else gt:=by
  unfold a1y at h
  by_cases z:j<s1.length
  ·rw[List.getElem?_append_left (by simpa using z),List.getElem?_replicate,if_pos z] at h
   rw[if_pos z];exact(Option.some.inj h).symm
  ·rw[List.getElem?_append_right (by simpa using z),List.length_replicate,List.getElem?_replicate,if_pos (by rw[List.length_append] at hj;omega)] at h
   rw[if_neg z];exact(Option.some.inj h).symm
 obtain⟨p,e⟩:∃p,Q5 L Pc W gp gt fx (s1++s2) b=c.filter p:=by
  unfold Q5
  rw[hn]
  dsimp only
  rcases S.is1 (i:=j) (List.getElem?_eq_getElem hj) with⟨h1,h2⟩|⟨h1,h2⟩
  ·rw[if_neg h1,hc,if_pos h2]
   unfold chL
   rw[List.filter_filter,List.filter_filter,List.filter_filter]
   exact⟨_,rfl⟩
  ·rw[if_pos h1,hc,if_neg (by omega)]
   unfold tcL plL
   rw[List.filter_filter]
   exact⟨_,rfl⟩
 exact b1V e
theorem a0C {n:Str}{l:List Str}(h:n∈l):∃i:Nat,l[i]?=some n:=List.getElem?_of_mem h
theorem SrchP.pt_idx (S:SrchP L Pc W s1 s2 gp gt fx){n:Str}(h:n∈Pc.pts.map (·.1)):∃i:Nat,i<s1.length∧(s1++s2)[i]?=some n:=by
 obtain⟨i,hi⟩:=a0C (S.o.p1.mem_iff.mpr h)
 have hl:i<s1.length:=by
  rcases Nat.lt_or_ge i s1.length with z|z
  ·exact z
  ·rw[List.getElem?_eq_none z] at hi;cases hi
 exact⟨i,hl,by rw[List.getElem?_append_left hl];exact hi⟩
theorem a1X {nm row:List Str}{i j:Nat}{n:Str}(nd:nm.Nodup)(hl:row.length=nm.length)(h:nm[i]?=some n)(hij:i<j):gv nm (row.take j) n=gv nm row n:=by
 have hi:i<nm.length:=by
  rcases Nat.lt_or_ge i nm.length with z|z
  ·exact z
  ·rw[List.getElem?_eq_none z] at h;cases h
 have h2:row[i]?=some row[i]:=List.getElem?_eq_getElem (by omega)
 rw[a3q nd h h2,a3q nd h (b:=row.take j) (x:=row[i]) (by rw[List.getElem?_take,if_pos hij];exact h2)]
theorem b4Z {n x:Str}{nm row:List Str}(fnd:(fx.map (·.1)).Nodup)(d:a2h fx nm row)(inj:∀y∈fx,gv nm row y.1=gv nm row n→y.1=n)(e:gv nm row n=x):N4 fx n x=true:=by
 unfold N4
 split
 ·next h=>
  obtain⟨y,hy,rfl⟩:=List.mem_map.mp h
  rw[B6 fnd (show(y.1,y.2)∈fx from hy),←e]
  exact decide_eq_true (d y hy)
 ·next h=>
  have z:x∉fx.map (·.2):=fun z=>by
   obtain⟨y,hy,ey⟩:=List.mem_map.mp z
   have z1:=d y hy
   rw[ey,←e] at z1
   exact h (by rw[←inj y hy z1];exact List.mem_map.mpr ⟨y,hy,rfl⟩)
  simpa using z
theorem b5o {pts:List (Str×Str)}{g:List Str}{x kd:Str}(nd:(pts.map (·.1)).Nodup)(p:g.Perm (pts.map (·.1)))(h:x∈g)(hk:i9 (pKV pts) x=kd):(x,kd)∈pts:=by
 obtain⟨y,hy,rfl⟩:=List.mem_map.mp (p.mem_iff.mp h)
 rw[B6 nd (show(y.1,y.2)∈pts from hy)] at hk
 rw[←hk];exact hy
theorem b2U {Q:Web}{kvm:List (Key×V)}{x y:Str}(nd:((i8 Q).map (i9 kvm)).Nodup)(hx:x∈i8 Q)(hy:y∈i8 Q)(e:i9 kvm x=i9 kvm y):x=y:=by
 obtain⟨i,hi⟩:=a0C hx
 obtain⟨j,hj⟩:=a0C hy
 have e1:((i8 Q).map (i9 kvm))[i]?=some (i9 kvm x):=by rw[List.getElem?_map,hi];rfl
 have e2:((i8 Q).map (i9 kvm))[j]?=some (i9 kvm x):=by rw[List.getElem?_map,hj,e];rfl
 have li:i<((i8 Q).map (i9 kvm)).length:=by
  rcases Nat.lt_or_ge i ((i8 Q).map (i9 kvm)).length with z|z
  ·exact z
  ·rw[List.getElem?_eq_none z] at e1;cases e1
 have z:=(List.getElem?_inj li nd).mp (e1.trans e2.symm)
 rw[z,hj] at hi
 exact(Option.some.inj hi).symm
theorem a1V (S:SrchP L Pc W s1 s2 gp gt fx){i:Nat}{e:Str}(hi:i<s1.length)(he:e∈Pc.pts.map (·.1))(hle:¬(s1[i].cps.toList<e.cps.toList)):∃j:Nat,j≤i∧(s1++s2)[j]?=some e:=by
 obtain⟨j,hj,hjn⟩:=S.pt_idx he
 refine⟨j,?_,hjn⟩
 rcases Nat.lt_or_ge i j with z|z
 ·exfalso
  have nd1:s1.Nodup:=(List.nodup_append.mp S.nn).1
  have pw:=V5 (a0l S.o.o1 nd1)
  have w:=List.pairwise_iff_getElem.mp pw i j hi hj z
  rw[List.getElem?_append_left hj,List.getElem?_eq_getElem hj] at hjn
  rw[Option.some.inj hjn] at w
  exact hle w
 ·exact z
end
section
variable {L:Str→Str→Bool} {Pc W:Web} {s1 s2 gp gt:List Str} {fx:List (Str×Str)}
theorem b4W {j:Nat}{c:List Str}(h:(a1y s1 s2 gp gt)[j]?=some c):(j<s1.length∧c=gp)∨(s1.length≤j∧c=gt):=by
 unfold a1y at h
 by_cases z:j<s1.length
 ·rw[List.getElem?_append_left (by simpa using z),List.getElem?_replicate,if_pos z] at h
  exact .inl ⟨z,(Option.some.inj h).symm⟩
 ·rw[List.getElem?_append_right (by simpa using z),List.length_replicate,List.getElem?_replicate] at h
  split at h
  ·exact .inr ⟨by omega,(Option.some.inj h).symm⟩
  ·cases h
theorem V0 {α:Type}{l:List α}{i:Nat}{x:α}(h:l[i]?=some x):i<l.length:=by
 rcases Nat.lt_or_ge i l.length with z|z
 ·exact z
 ·rw[List.getElem?_eq_none z] at h;cases h
theorem mem_ch {n x:Str}:x∈chL L gp fx n↔x∈gp∧L n x=true∧N4 fx n x=true:=by
 unfold chL
 rw[List.mem_filter,List.mem_filter,and_assoc]
theorem mem_pl {n x:Str}{t:Tie}:x∈plL W gt fx n t↔x∈gt∧C7 W.ts x=t∧N4 fx n x=true:=by
 unfold plL
 rw[List.mem_filter,Bool.and_eq_true,decide_eq_true_eq]
theorem b4T (S:SrchP L Pc W s1 s2 gp gt fx){row:List Str}(hl:row.length=(s1++s2).length)(ok:OkF (Q5 L Pc W gp gt fx (s1++s2)) 0 row):FitP Pc W (pKV ((s1++s2).zip row))∧a2h fx (s1++s2) row:=by
 have nn:=S.nn
 have key:∀(i:Nat) (n x:Str),(s1++s2)[i]?=some n→row[i]?=some x→x∉row.take i∧N4 fx n x=true∧(n∉Pc.ts.map (·.1)→(x,i9 (pKV Pc.pts) n)∈W.pts)∧(n∈Pc.ts.map (·.1)→(x,((C7 Pc.ts n).1,gv (s1++s2) row (C7 Pc.ts n).2.1,gv (s1++s2) row (C7 Pc.ts n).2.2))∈W.ts):=by
  intro i n x hn hx
  have hil:=V0 hn
  have h0:=ok i x (Nat.zero_le _) hx
  have hlt:(row.take i).length=i:=by rw[List.length_take];omega
  unfold Q5 at h0
  rw[hlt,hn] at h0
  dsimp only at h0
  rcases S.is1 hn with⟨h1,h2⟩|⟨h1,h2⟩
  ·rw[if_neg h1,List.mem_filter,List.mem_filter,mem_ch] at h0
   refine⟨by simpa using h0.1.2,h0.1.1.2.2,fun _=>b5o (A6 S.nd') S.o'.p1 h0.1.1.1 (S.ls n x ((List.mem_append.mp (S.o.mem.mp (List.mem_of_getElem? hn))).resolve_right h1) (S.o'.p1.mem_iff.mp h0.1.1.1) h0.1.1.2.1),fun z=>absurd z h1⟩
  ·rw[if_pos h1,List.mem_filter] at h0
   have hm:=mem_pl.mp (show x∈plL W gt fx n _ from h0.1)
   refine⟨by simpa using h0.2,hm.2.2,fun z=>absurd h1 z,fun _=>?_⟩
   have hin:=Z0 h1
   have he:=S.ends _ hin
   obtain⟨j1,hj1,hk1⟩:=S.pt_idx he.1
   obtain⟨j2,hj2,hk2⟩:=S.pt_idx he.2
   have e1:=a1X (j:=i) nn hl hk1 (by omega)
   have e2:=a1X (j:=i) nn hl hk2 (by omega)
   have z:=Z0 (S.o'.p2.mem_iff.mp hm.1)
   rw[hm.2.1] at z
   dsimp only at z e1 e2
   rw[e1,e2] at z
   exact z
 have rnd:row.Nodup:=by
  refine List.pairwise_iff_getElem.mpr fun i j hi hj hij e=>?_
  have z:=(key j ((s1++s2)[j]'(by omega)) row[j] (List.getElem?_eq_getElem (by omega)) (List.getElem?_eq_getElem hj)).1
  refine z (List.mem_of_getElem? (i:=i) ?_)
  rw[List.getElem?_take,if_pos hij,List.getElem?_eq_getElem hi,e]
 have gvk:∀n∈s1++s2,∃(i:Nat) (x:Str),(s1++s2)[i]?=some n∧row[i]?=some x∧gv (s1++s2) row n=x:=fun n hn=>by
  obtain⟨i,hi⟩:=a0C hn
  have hil:=V0 hi
  exact⟨i,row[i],hi,List.getElem?_eq_getElem (by omega),a3q nn hi (List.getElem?_eq_getElem (by omega))⟩
 refine⟨⟨?_,fun n hn=>?_,?_,fun x hx=>?_,fun x hx=>?_⟩,fun x hx=>?_⟩
 ·rw[A3,List.length_zip,←S.o.len];omega
 ·obtain⟨i,x,h1,h2,_⟩:=gvk n (S.o.mem.mpr hn)
  exact⟨x,I9 (a2v row nn) (a1Y h1 h2)⟩
 ·have e:=a6k nn hl
  exact((S.o.perm.map (gv (s1++s2) row)).nodup_iff).mp (by rw[e];exact rnd)
 ·have hm:x.1∈i8 Pc:=List.mem_append_left _ (List.mem_map.mpr ⟨x,hx,rfl⟩)
  obtain⟨i,y,h1,h2,h3⟩:=gvk x.1 (S.o.mem.mpr hm)
  have hno:x.1∉Pc.ts.map (·.1):=fun z=>(List.nodup_append.mp S.nd).2.2 x.1 (List.mem_map.mpr ⟨x,hx,rfl⟩) x.1 z rfl
  have z:=(key i x.1 y h1 h2).2.2.1 hno
  rw[B6 (A6 S.nd) (show(x.1,x.2)∈Pc.pts from hx)] at z
  rw[show i9 (pKV ((s1++s2).zip row)) x.1=y from h3];exact z
 ·have hm:x.1∈Pc.ts.map (·.1):=List.mem_map.mpr ⟨x,hx,rfl⟩
  obtain⟨i,y,h1,h2,h3⟩:=gvk x.1 (S.o.mem.mpr (List.mem_append_right _ hm))
  have z:=(key i x.1 y h1 h2).2.2.2 hm
  rw[a1x (N3 S.nd) (show(x.1,x.2)∈Pc.ts from hx)] at z
  rw[show i9 (pKV ((s1++s2).zip row)) x.1=y from h3];exact z
 ·obtain⟨i,y,h1,h2,h3⟩:=gvk x.1 (S.o.mem.mpr (S.fin x hx))
  have z:=(key i x.1 y h1 h2).2.1
  unfold N4 at z
  rw[if_pos (List.mem_map.mpr ⟨x,hx,rfl⟩),B6 S.fnd (show(x.1,x.2)∈fx from hx)] at z
  rw[h3];exact of_decide_eq_true z
theorem a6Q (S:SrchP L Pc W s1 s2 gp gt fx){row:List Str}(f:FitP Pc W (pKV ((s1++s2).zip row)))(d:a2h fx (s1++s2) row){n:Str}(hn:n∈i8 Pc):N4 fx n (gv (s1++s2) row n)=true:=
 b4Z S.fnd d (fun y hy e=>b2U f.nd (S.fin y hy) hn e) rfl
theorem b0r (S:SrchP L Pc W s1 s2 gp gt fx){row:List Str}(f:FitP Pc W (pKV ((s1++s2).zip row)))(d:a2h fx (s1++s2) row){x:Str×Str}(hx:x∈Pc.pts):gv (s1++s2) row x.1∈chL L gp fx x.1:=by
 have z:=f.pts x hx
 exact mem_ch.mpr ⟨S.o'.p1.mem_iff.mpr (List.mem_map.mpr ⟨_,z,rfl⟩),S.lc row f x hx,a6Q S f d (List.mem_append_left _ (List.mem_map.mpr ⟨x,hx,rfl⟩))⟩
theorem a8R (S:SrchP L Pc W s1 s2 gp gt fx){row:List Str}(f:FitP Pc W (pKV ((s1++s2).zip row)))(d:a2h fx (s1++s2) row){x:Str×Tie}(hx:x∈Pc.ts):gv (s1++s2) row x.1∈tcL W gt fx (s1++s2) row x:=by
 have z:=f.ts x hx
 exact mem_pl.mpr ⟨S.o'.p2.mem_iff.mpr (List.mem_map.mpr ⟨_,z,rfl⟩),a1x (N3 S.nd') z,a6Q S f d (List.mem_append_right _ (List.mem_map.mpr ⟨x,hx,rfl⟩))⟩
theorem b4e (S:SrchP L Pc W s1 s2 gp gt fx){row:List Str}(f:FitP Pc W (pKV ((s1++s2).zip row)))(d:a2h fx (s1++s2) row):enB (Pc.pts.map fun x=>chL L gp fx x.1)=true:=by
 refine b2S (r:=fun x=>gv (s1++s2) row x.1) (fun x hx=>b0r S f d hx) ?_
 have z:=f.nd
 unfold i8 at z
 rw[List.map_append,List.map_map] at z
 exact(List.nodup_append.mp z).1
theorem a7c (S:SrchP L Pc W s1 s2 gp gt fx){row:List Str}(hl:row.length=(s1++s2).length){i:Nat}{x:Str×Tie}(h1:∃j:Nat,j<i∧(s1++s2)[j]?=some x.2.2.1)(h2:∃j:Nat,j<i∧(s1++s2)[j]?=some x.2.2.2):tcL W gt fx (s1++s2) (row.take i) x=tcL W gt fx (s1++s2) row x:=by
 obtain⟨j1,a1,b1⟩:=h1
 obtain⟨j2,a2,b2⟩:=h2
 unfold tcL
 rw[a1X S.nn hl b1 a1,a1X S.nn hl b2 a2]
theorem b4O (S:SrchP L Pc W s1 s2 gp gt fx){row:List Str}(hl:row.length=(s1++s2).length)(f:FitP Pc W (pKV ((s1++s2).zip row)))(d:a2h fx (s1++s2) row):OkF (Q5 L Pc W gp gt fx (s1++s2)) 0 row:=by
 have nn:=S.nn
 have e:=a6k nn hl
 have rnd:row.Nodup:=by
  rw[←e]
  exact((S.o.perm.map (gv (s1++s2) row)).nodup_iff).mpr f.nd
 intro i x _ hx
 have hil:=V0 hx
 have hn:(s1++s2)[i]?=some ((s1++s2)[i]'(by omega)):=List.getElem?_eq_getElem (by omega)
 generalize (s1++s2)[i]'(by omega)=n at hn
 have hg:gv (s1++s2) row n=x:=a3q nn hn hx
 have hlt:(row.take i).length=i:=by rw[List.length_take];omega
 have hni:x∉row.take i:=fun z=>by
  obtain⟨j,hj⟩:=a0C z
  rw[List.getElem?_take] at hj
  split at hj
  ·next hji=>
   have z2:=(List.getElem?_inj (V0 hj) rnd).mp (hj.trans hx.symm)
   omega
  ·cases hj
 unfold Q5
 rw[hlt,hn]
 dsimp only
 rcases S.is1 hn with⟨h1,h2⟩|⟨h1,h2⟩
 ·rw[if_neg h1]
  have hm:n∈Pc.pts.map (·.1):=by
   rcases List.mem_append.mp (S.o.mem.mp (List.mem_of_getElem? hn)) with z|z
   ·exact z
   ·exact absurd z h1
  obtain⟨y,hy,ey⟩:=List.mem_map.mp hm
  have hc:=b0r S f d hy
  rw[ey,hg] at hc
  refine List.mem_filter.mpr ⟨List.mem_filter.mpr ⟨hc,by simpa using hni⟩,?_⟩
  have et:row.take i++[x]=row.take (i+1):=by rw[List.take_succ,hx];rfl
  rw[et]
  have hs1:s1[i]=n:=by
   rw[List.getElem?_append_left h2,List.getElem?_eq_getElem h2] at hn
   exact Option.some.inj hn
  refine b2S (r:=fun t=>gv (s1++s2) row t.1) (fun t ht=>?_) ?_
  ·unfold Z6 at ht
   rw[List.mem_filter,decide_eq_true_eq] at ht
   have he:=S.ends t ht.1
   have m1:¬(s1[i].cps.toList<t.2.2.1.cps.toList):=by
    rw[hs1,←ht.2]
    unfold mxS
    split
    ·next z=>exact List.lt_asymm z
    ·exact List.lt_irrefl _
   have m2:¬(s1[i].cps.toList<t.2.2.2.cps.toList):=by
    rw[hs1,←ht.2]
    unfold mxS
    split
    ·exact List.lt_irrefl _
    ·next z=>exact z
   obtain⟨j1,a1,b1⟩:=a1V S h2 he.1 m1
   obtain⟨j2,a2,b2⟩:=a1V S h2 he.2 m2
   rw[a7c S hl ⟨j1,by omega,b1⟩ ⟨j2,by omega,b2⟩]
   exact a8R S f d ht.1
  ·have z:=f.nd
   unfold i8 at z
   rw[List.map_append,List.map_map,List.map_map] at z
   exact((List.nodup_append.mp z).2.1).sublist (List.filter_sublist.map _)
 ·rw[if_pos h1]
  have hin:=Z0 h1
  have he:=S.ends _ hin
  obtain⟨j1,hj1,hk1⟩:=S.pt_idx he.1
  obtain⟨j2,hj2,hk2⟩:=S.pt_idx he.2
  have hp:=a8R S f d hin
  rw[←a7c S hl (i:=i) ⟨j1,by omega,hk1⟩ ⟨j2,by omega,hk2⟩] at hp
  refine List.mem_filter.mpr ⟨?_,by simpa using hni⟩
  have hg':gv (s1++s2) row (n,C7 Pc.ts n).1=x:=hg
  rw[hg'] at hp;exact hp
open Classical in
noncomputable def a1f (Pc W:Web)(s1 s2 gp gt:List Str)(fx:List (Str×Str)):List (List Str):=(W4 (a1y s1 s2 gp gt) []).filter fun row=>decide (FitP Pc W (pKV ((s1++s2).zip row))∧a2h fx (s1++s2) row)
theorem a5b {row:List Str}(h:row∈W4 (a1y s1 s2 gp gt) []):row.length=(s1++s2).length:=by
 obtain⟨t,e,hl,_⟩:=V7 h
 rw[e,List.nil_append,hl,a1j]
open Classical in
theorem a9V (S:SrchP L Pc W s1 s2 gp gt fx):a1D (Q5 L Pc W gp gt fx (s1++s2)) (s1++s2).length []=a1f Pc W s1 s2 gp gt fx:=by
 rw[←a1j (gp:=gp) (gt:=gt),a9B fun j c hc b' hb=>a8W S hc (by rw[hb];simp)]
 unfold a1f
 refine O5 fun row hrow=>?_
 have hl:=a5b hrow
 rw[Bool.eq_iff_iff,decide_eq_true_eq,decide_eq_true_eq]
 exact⟨fun ok=>b4T S hl ok,fun h=>b4O S hl h.1 h.2⟩
open Classical in
theorem a7E (S:SrchP L Pc W s1 s2 gp gt fx)(h:enB (Pc.pts.map fun x=>chL L gp fx x.1)=false):a1f Pc W s1 s2 gp gt fx=[]:=by
 unfold a1f
 refine List.filter_eq_nil_iff.mpr fun row _ z=>?_
 have z:=of_decide_eq_true z
 rw[b4e S z.1 z.2] at h;cases h
end
def a0k (K:PySem.W.Frag):Sp:=fun vs H Q _=>∃(d:Addr) (n im:Str) (fx:List (Str×Str)),vs=[.str n,.str im,.ref d]∧H d=some (.dK (pKV fx))∧∀H',Same H H'→Q (.bl (N4 fx n im)) H'
theorem a4K {pts:List (Str×Str)}{n:Str}(h:n∈pts.map (·.1)):p6 (pKV pts) (Sum.inr n:Key)=some (.str (i9 (pKV pts) n)):=by
 cases e:p6 (pKV pts) (Sum.inr n:Key) with
 |none=>have z:=Y7 (pts:=pts) (n:=n);rw[e,decide_eq_true h] at z;cases z
 |some v=>
  obtain⟨k',rfl,_⟩:=a1W e
  rw[a1c e]
theorem b0B {pts:List (Str×Str)}:(pKV pts).map (·.2)=(pts.map (·.2)).map V.str:=by unfold pKV;rw[List.map_map,List.map_map];rfl
theorem a7x {f:Addr}{fd:FuncData}(T:Txt K mg)(F:Fun K "may_be" "may_be" V6 f fd):FnOk P w K mg base CX0 1 f fd ["name","image","fixed"] (a0k K):=by
 refine F.ok sc_may_be (fun vs H Q E h=>?_) (fun cdv A outer s H vs Q E hr h=>?_)
 ·obtain⟨d,n,im,fx,rfl,_⟩:=h
  rfl
 ·obtain⟨d,n,im,fx,rfl,hd,k⟩:=h
  have hN:=sc_may_be.nd
  have hu:=B9 hr
  refine⟨_,QSs.r (qsC (qIf (w5 (kIn K hu) (qV 0) (qV 2) (by rfl)) (qs1 (D5 (a3d (Q8 K hr) (qV 1) (qIx (kIx K hu) (qV 2) (qV 0) (fun _ _=>rfl)) (t5 _)))) qs0)
   (qs1 (D5 (a3d (U7 K hu) (qV 1) (qBT (a5Q K rfl) T.b_list Boot.«list» (qa1 (qM0 PySem.F.plainAttrs_dict PySem.F.slot_dict_values PySem.F.type_dict_values P5 K (qV 2)) qa0)) (by rfl))))),?_⟩
  walk_at "r"
  refine a4s (R0 (k:=Sum.inr n) (.inl hd)) ?_
  rw[Y7]
  walk_at "r"
  refine M4 (fun h1=>?_) (fun h1=>?_)
  ·walk_at "r"
   refine v0 (v:= .str (i9 (pKV fx) n)) (by have z:=R0 (k:=Sum.inr n) (.inl hd);rw[a4K h1] at z;exact z) ?_
   walk_at "r"
   have e:N4 fx n im=decide (im=i9 (pKV fx) n):=by unfold N4;rw[if_pos h1]
   rw[←e];exact k H (Same.refl H)
  ·walk_at "r"
   refine⟨.inr (.inr (.inl ⟨rfl,.inl ⟨_,hd⟩⟩)),?_⟩
   walk_at "r"
   refine⟨d,_,rfl,rfl,.inl hd,fun v1 n1=>?_⟩
   obtain⟨H1,e1,f1,m1,_⟩:=b7 (o:= .ext (a4o v1 d)) n1
   rw[e1]
   walk_at "r"
   refine a0f f1 (.inl (m1 _ _ hd)) (fun l2 n2=>?_)
   obtain⟨H2,e2,f2,m2,_⟩:=b7 (o:= .lst _) n2
   rw[e2]
   refine I0 (gs:=fx.map (·.2)) (SqL.of (by rw[f2,b0B])) ?_
   have e:N4 fx n im=!decide (im∈fx.map (·.2)):=by unfold N4;rw[if_neg h1]
   rw[←e];exact k H2 (m1.trans m2)
def LstAt (H:Hp)(v:V)(l:List Str):Prop:=∃a,v= .ref a∧H a=some (.lst (l.map V.str))
theorem LstAt.same {H H':Hp}{v:V}{l:List Str}(h:LstAt H v l)(s:Same H H'):LstAt H' v l:=let ⟨a,e,z⟩:=h;⟨a,e,s _ _ z⟩
def ChAt (H:Hp)(F:Str×Str→List Str)(kvs:List (Key×V))(pts:List (Str×Str)):Prop:=Paired (fun kv x=>kv.1=Sum.inr x.1∧LstAt H kv.2 (F x)) kvs pts
theorem ChAt.same {H H':Hp}{F:Str×Str→List Str}{kvs:List (Key×V)}{pts:List (Str×Str)}(h:ChAt H F kvs pts)(s:Same H H'):ChAt H' F kvs pts:=Paired.imp' (fun _ _ z=>⟨z.1,z.2.same s⟩) h
theorem ChAt.keys {H:Hp}{F:Str×Str→List Str}:∀{kvs:List (Key×V)} {pts:List (Str×Str)},ChAt H F kvs pts→kvs.map (·.1)=(pts.map (·.1)).map Sum.inr
 |_,_,.nil=>rfl
 |_,_,.cons a t=>by rw[List.map_cons,a.1,ChAt.keys t];rfl
theorem a7T {p:Str→Bool}{s:List Str}{i:Nat}{x:Str}(h:s[i]?=some x)(hp:p x=true):(s.take (i+1)).filter p=(s.take i).filter p++[x]:=by
 rw[List.take_succ,h,List.filter_append]
 show _++List.filter p [x]=_
 rw[List.filter_cons_of_pos hp];rfl
theorem a6a {p:Str→Bool}{s:List Str}{i:Nat}{x:Str}(h:s[i]?=some x)(hp:p x=false):(s.take (i+1)).filter p=(s.take i).filter p:=by
 rw[List.take_succ,h,List.filter_append]
 show _++List.filter p [x]=_
 rw[List.filter_cons_of_neg (by rw[hp];decide)];simp
theorem a1z {p:Str→Bool}{s:List Str}{i:Nat}:((s.take i).filter p).length≤s.length:=Nat.le_trans (List.length_filter_le _ _) (by rw[List.length_take];omega)
theorem a0H {p b:Addr}{o:Obj}{kvs:List (Key×V)}{H:Hp}(h:b≠p):C8 p o kvs H b=H b:=b5 h
theorem b2V {p:Addr}{o:Obj}{kvs:List (Key×V)}{H:Hp}:C8 p o kvs H p=some (.frz o (.dK kvs)):=d7
theorem a5w {p:Addr}{o:Obj}{kvs:List (Key×V)}{H H1:Hp}(s:Same H H1):Same (C8 p o kvs H) (C8 p o kvs H1):=fun b u hb=>by
 by_cases z:b=p
 ·rw[z,b2V] at hb⊢;exact hb
 ·rw[a0H z] at hb⊢;exact s _ _ hb
theorem b1q {kvs:List (Key×V)}{pp:List (Str×Str)}{i:Nat}{kv:Key×V}(h:kvs.map (·.1)=(pp.map (·.1)).map Sum.inr)(e:kvs[i]?=some kv):∃x,pp[i]?=some x∧kv.1=Sum.inr x.1:=by
 have z:(kvs.map (·.1))[i]?=some kv.1:=by rw[List.getElem?_map,e];rfl
 rw[h,List.getElem?_map,List.getElem?_map] at z
 cases e2:pp[i]? with
 |none=>rw[e2] at z;cases z
 |some x=>rw[e2] at z;exact⟨x,rfl,(Option.some.inj z).symm⟩
theorem b1h {kvs:List (Key×V)}{k:Key}(h:k∈kvs.map (·.1)):∃u,p6 kvs k=some u:=by
 induction kvs with
 |nil=>cases h
 |cons p r ih=>
  by_cases e:p.1=k
  ·exact⟨p.2,A2 e⟩
  ·rw[A1 e]
   exact ih ((List.mem_cons.mp h).resolve_left fun z=>e z.symm)
def N7 (K:PySem.W.Frag):Sp:=fun vs H Q _=>∃(p g d:Addr) (kvp kvg:List (Key×V)) (pp gg fx:List (Str×Str)) (L:Str→Str→Bool) (gp:List Str),vs=[.ref p,.ref g,.ref d]∧H p=some (.dK kvp)∧kvp.map (·.1)=(pp.map (·.1)).map Sum.inr∧(pp.map (·.1)).Nodup∧pp.length≤30∧Rd H g (.dK kvg)∧kvg.map (·.1)=(gg.map (·.1)).map Sum.inr∧(gg.map (·.1)).Nodup∧gg.length≤30∧gp.Perm (gg.map (·.1))∧sortedS gp=true∧
 (∀(n:Str) (v:V) (m:Str) (u:V),(Sum.inr n,v)∈kvp→p6 kvg (Sum.inr m:Key)=some u→EqA K H u v (L n m))∧H d=some (.dK (pKV fx))∧d≠p∧
 ∀(c:Addr) (H':Hp) (kvs:List (Key×V)),H c=none→Same H H'→H' c=some (.dK kvs)→ChAt H' (fun x=>chL L gp fx x.1) kvs pp→Q (.ref c) H'
theorem a1w {f:Addr}{fd:FuncData}(T:Txt K mg)(V9:Cal P w K mg base CX0 1 "may_be" ["name","image","fixed"] [] (a0k K))(F:Fun K "point_choices" "point_choices" C0 f fd):FnOk P w K mg base CX0 2 f fd ["piece_looks","web_looks","fixed"] (N7 K):=by
 refine F.ok sc_point_choices (fun vs H Q E h=>?_) (fun cdv A outer s H vs Q E hr h=>?_)
 ·obtain⟨p,g,d,kvp,kvg,pp,gg,fx,L,gp,rfl,_⟩:=h
  rfl
 ·obtain⟨p,g,d,kvp,kvg,pp,gg,fx,L,gp,rfl,hp,hkp,npp,lpp,hg,hkg,ngg,lgg,pgp,ogp,hEq,hd,hdp,k⟩:=h
  have lkp:kvp.length=pp.length:=by have z:=congrArg List.length hkp;rwa [List.length_map,List.length_map,List.length_map] at z
  have ngp:gp.Nodup:=pgp.nodup_iff.mpr ngg
  have lgp:gp.length≤30:=by rw[pgp.length_eq,List.length_map];exact lgg
  have hN:=sc_point_choices.nd
  have hu:=B9 hr
  refine⟨_,QSs.r (qsC (o0 (i:=3) hN rfl (by walk_at "l") qD0)
   (qsC (N5 PassesOwn.never rfl (a1U (qV 0)) (qgT K rfl (qg1 (qgN (i:=4) hN rfl (by walk_at "l")) (qg1 (qgN (i:=5) hN rfl (by walk_at "l")) qg0)))
    (qsC (V3 (i:=6) hN rfl (by walk_at "l") (own:=["image"]) (js:=[5,1]) (by kernel_rfl) rfl (V1 K (qB (J5 K rfl) T.b_sorted Boot.«sorted» (qa1 (qV 1) qa0))) (fun _ _ _ _=>(qgN (i:=0) (show List.Nodup (["image","look","web_looks"]:List Str) by decide+kernel) rfl (by walk_at "l"))) (fun _ _ _ _=>(a3S (w5 (b6t K hr) (qIx (kIx K hu) (qV 2) (qV 0) (fun _ _=>rfl)) (qV 1) (t5 _)))) (fun _ _ _ _=>(qV 0)))
   (qs1 (U3 (a0O (own:=["image"]) (js:=[4,2]) (by kernel_rfl) rfl (V1 K (qV 6)) (fun _ _ _ _=>(qgN (i:=0) (show List.Nodup (["image","name","fixed"]:List Str) by decide+kernel) rfl (by walk_at "l"))) (fun _ _ _ _=>(a3S (a0s K (qC V9 (hr.mono (by decide)) r9 (qa1 (qV 1) (qa1 (qV 0) (qa1 (qV 2) qa0))))))) (fun _ _ _ _=>(qV 0))) (qgS (qV 3) (qV 4) (u4 P w hu))))))
   (qs1 (D5 (qV 3))))),?_⟩
  walk_at "r"
  intro c nc
  obtain⟨H1,e1,f1,m1,_⟩:=b7 (o:= .dK []) nc
  rw[e1]
  walk_at "r"
  have hp1:=m1 _ _ hp
  have hcp:c≠p:=(b9 hp nc).symm
  refine T8 hp1 (fun ndp o1=>?_)
  refine K2 (n:=kvp.length) (fun i σ H'=>∃(kvs:List (Key×V)) (v1 v2 v3:Option V),σ=[some (.ref p),some (.ref g),some (.ref d),some (.ref c),v1,v2,v3]∧Same (C8 p o1 kvp H) H'∧H' c=some (.dK kvs)∧ChAt H' (fun x=>chL L gp fx x.1) kvs (pp.take i)) ⟨[],none,none,none,rfl,?_,?_,.nil⟩ (fun i σ H' hi hp=>?_) ?_ ?_
  ·exact a5w m1
  ·rw[a0H hcp];exact f1
  ·obtain⟨_,_,_,_,_,s,_⟩:=hp
   exact⟨s _ _ d7,hi⟩
  ·rintro bk i v σ H2' H2 hi ⟨kvs,v1,v2,v3,rfl,s2,hc2,ch2⟩ ⟨t,kv,hkv,nt,rfl,rfl⟩
   obtain⟨x,hx,ex⟩:=b1q hkp hkv
   obtain⟨kk,look⟩:=kv
   have ex':kk=Sum.inr x.1:=ex
   subst ex'
   have hkm:=List.mem_of_getElem? hkv
   obtain⟨H3,e3,f3,m3,_⟩:=b7 (o:= .tup _) nt
   rw[e3]
   have s3:=s2.trans m3
   have hg3:Rd H3 g (.dK kvg):=((a0E hp).trans s3.le) _ _ rfl hg
   have hd3:H3 d=some (.dK (pKV fx)):=s3 _ _ (by rw[a0H hdp];exact hd)
   refine K3 (SqT.of f3) rfl ?_
   walk_at "r"
   refine p0 (ss:=gg.map (·.1)) hg3 hkg (by rw[List.length_map];omega) (fun g1 a1 a2 l4 n4=>?_)
   have eg:g1=gp:=A8 a2 ogp (a1.nodup_iff.mpr ngg) (a1.trans pgp.symm)
   subst eg
   obtain⟨H4,e4,f4,m4,_⟩:=b7 (o:= .lst _) n4
   rw[e4]
   refine z8 (SqL.of f4) ?_
   refine D3 (n:=g1.length) (fun i out H'=>H'=H4∧out=((g1.take i).filter fun im=>L x.1 im).map V.str) ⟨rfl,rfl⟩ (fun i out H' hi hp=>⟨g1.map V.str,.str (g1[i]),SqL.of (by rw[hp.1];exact f4),by rw[List.getElem?_map,List.getElem?_eq_getElem hi];rfl⟩) ?_ ?_
   ·rintro N j v out H5 H5' hj ⟨rfl,rfl⟩ y hN'
    obtain⟨rfl,hy⟩:=Itl.get y (SqL.of f4)
    rw[List.getElem?_map] at hy
    obtain⟨im,him,rfl⟩:=Option.map_eq_some_iff.mp hy
    have hin:im∈gg.map (·.1):=a1.mem_iff.mp (List.mem_of_getElem? him)
    walk_at "r"
    refine⟨rfl,?_⟩
    walk_at "r"
    obtain⟨u,hu⟩:=b1h (kvs:=kvg) (k:=Sum.inr im) (by rw[hkg];exact List.mem_map.mpr ⟨im,hin,rfl⟩)
    refine v0 (v:=u) (by have z:=R0 (k:=Sum.inr im) (m4.rd hg3);rw[hu] at z;exact z) ?_
    walk_at "r"
    refine b5A (((hEq x.1 look im u hkm hu).mono (a0E hp)).mono (s3.trans m4).le) ?_
    walk_at "r"
    refine U4 (fun h1=>?_) (fun h1=>?_)
    ·walk_at "r"
     refine⟨i6 (by rw[List.length_map];have:=a1z (p:=fun im=>L x.1 im) (s:=g1) (i:=j);omega),hN' _ _ ⟨rfl,?_⟩⟩
     rw[a7T him h1,List.map_append];rfl
    ·exact hN' _ _ ⟨rfl,by rw[a6a him h1]⟩
   ·rintro out H5 ⟨rfl,rfl⟩
    refine⟨⟨_,SqL.of f4,by rw[List.length_map];exact Nat.le_refl _⟩,fun D hD=>⟨i6 (by rw[List.length_map];have:=a1z (p:=fun im=>L x.1 im) (s:=g1) (i:=g1.length);omega),?_⟩⟩
    rw[List.take_of_length_le (Nat.le_refl _)]
    obtain⟨H6,e6,f6,m6,_⟩:=b7 (H:=H5) (o:= .lst ((g1.filter fun im=>L x.1 im).map V.str)) hD
    generalize hal:(g1.filter fun im=>L x.1 im)=al at e6 f6⊢
    have hall:al.length≤30:=by rw[←hal];exact Nat.le_trans (List.length_filter_le _ _) lgp
    change P6 _ _ _ (upd H5 D _) _
    rw[e6]
    walk_at "r"
    refine z8 (SqL.of f6) ?_
    refine D3 (n:=al.length) (fun i out H'=>Same H6 H'∧out=((al.take i).filter (N4 fx x.1)).map V.str) ⟨Same.refl _,rfl⟩ (fun i out H' hi hp=>⟨_,.str (al[i]),SqL.of (hp.1 _ _ f6),by rw[List.getElem?_map,List.getElem?_eq_getElem hi];rfl⟩) ?_ ?_
    ·rintro N j v out H7 H7' hj ⟨s7,rfl⟩ y hN'
     obtain⟨rfl,hy⟩:=Itl.get y (SqL.of (s7 _ _ f6))
     rw[List.getElem?_map] at hy
     obtain⟨im,him,rfl⟩:=Option.map_eq_some_iff.mp hy
     walk_at "r"
     refine⟨rfl,?_⟩
     walk_at "r"
     refine⟨d,x.1,im,fx,rfl,s7 _ _ (m6 _ _ (m4 _ _ hd3)),fun H8 m8=>?_⟩
     walk_at "r"
     refine U4 (fun h1=>?_) (fun h1=>?_)
     ·walk_at "r"
      refine⟨i6 (by rw[List.length_map];have:=a1z (p:=N4 fx x.1) (s:=al) (i:=j);omega),hN' _ _ ⟨s7.trans m8,?_⟩⟩
      rw[a7T him h1,List.map_append];rfl
     ·exact hN' _ _ ⟨s7.trans m8,by rw[a6a him h1]⟩
    ·rintro out H7 ⟨s7,rfl⟩
     refine⟨⟨_,SqL.of (s7 _ _ f6),by rw[List.length_map];exact Nat.le_refl _⟩,fun D2 hD2=>⟨i6 (by rw[List.length_map];have:=a1z (p:=N4 fx x.1) (s:=al) (i:=al.length);omega),?_⟩⟩
     rw[List.take_of_length_le (Nat.le_refl _)]
     obtain⟨H8,e8,f8,m8,_⟩:=b7 (H:=H7) (o:= .lst ((al.filter (N4 fx x.1)).map V.str)) hD2
     have s38:=m4.trans (m6.trans (s7.trans m8))
     change b1I _ _ (upd H7 D2 _) _
     rw[e8]
     have hc8:H8 c=some (.dK kvs):=s38 _ _ (m3 _ _ hc2)
     have hlk:=Paired.length ch2
     rw[List.length_take] at hlk
     walk_at "r"
     refine N6 (p8 (k:=Sum.inr x.1) hc8 (i6 (by omega)) ?_)
     have fr:x.1∉(pp.take i).map (·.1):=fun z=>by
      have e7:pp.take (i+1)=pp.take i++[x]:=by rw[List.take_succ,hx];rfl
      have w:((pp.take (i+1)).map (·.1)).Nodup:=npp.sublist ((List.take_sublist _ _).map _)
      rw[e7,List.map_append] at w
      exact(List.nodup_append.mp w).2.2 x.1 z x.1 (by simp) rfl
     have ek:B8 kvs (Sum.inr x.1:Key) (.ref D2)=kvs++[(Sum.inr x.1,.ref D2)]:=N1 _ (D7 (by rw[ch2.keys];exact fun m=>fr (Q0 m)))
     have hnc:(C8 p o1 kvp H) c=none:=by rw[a0H hcp];exact nc
     have cUp:∀{v:V} {l:List Str},LstAt H8 v l→LstAt (upd H8 c (.dK (kvs++[(Sum.inr x.1,V.ref D2)]))) v l:=fun{v l} ⟨a,ea,z⟩=>⟨a,ea,by rw[b5 (fun q=>by rw[q,hc8] at z;cases z)];exact z⟩
     refine⟨kvs++[(Sum.inr x.1,.ref D2)],_,_,_,rfl,C3 (s3.trans s38) hnc,by rw[d7,ek],?_⟩
     rw[ek,show pp.take (i+1)=pp.take i++[x] by rw[List.take_succ,hx];rfl]
     refine A9 (Paired.imp' (fun _ _ z=>⟨z.1,cUp (z.2.same (m3.trans s38))⟩) ch2) ⟨rfl,cUp ⟨D2,rfl,?_⟩⟩
     rw[f8]
     show _=some (HO.lst ((chL L g1 fx x.1).map V.str))
     unfold chL
     rw[show(List.filter (L x.1) g1)=al from hal]
  ·rintro σ H2 ⟨kvs,v1,v2,v3,rfl,s2,hc2,ch2⟩
   refine⟨⟨s2 _ _ d7,Nat.le_refl _⟩,?_⟩
   walk_at "r"
   have hcp':thaw p H2 c=some (.dK kvs):=by rw[T5 hcp];exact hc2
   rw[List.take_of_length_le (by rw[lkp];exact Nat.le_refl _)] at ch2
   refine k c _ kvs nc (Same.thaw hp s2) hcp' (Paired.imp' (fun kv x z=>⟨z.1,?_⟩) ch2)
   obtain⟨a,ea,za⟩:=z.2
   have hap:a≠p:=fun q=>by rw[q,s2 _ _ d7] at za;cases za
   exact⟨a,ea,by rw[T5 hap];exact za⟩
abbrev k2 (a b:Str):List Key:=[Sum.inr a,Sum.inr b]
structure TH (HB H:Hp) (t:Addr) (kvs:List (List Key×V)) (F:Str→Str→List Str):Prop where
 at_:H t=some (.dT kvs)
 no:∀a b,p6 kvs (k2 a b)=none→F a b=[]
 so:∀a b v,p6 kvs (k2 a b)=some v→∃l,v= .ref l∧H l=some (.lst ((F a b).map V.str))∧HB l=none
 inj:∀a b a' b' v,p6 kvs (k2 a b)=some v→p6 kvs (k2 a' b')=some v→a=a'∧b=b'
theorem TH.same {HB H H2:Hp}{t:Addr}{kvs:List (List Key×V)}{F:Str→Str→List Str}(h:TH HB H t kvs F)(s:Same H H2):TH HB H2 t kvs F:=
 ⟨s _ _ h.at_,h.no,fun a b v e=>let ⟨l,q,z,f⟩:=h.so a b v e;⟨l,q,s _ _ z,f⟩,h.inj⟩
theorem TH.ext {HB H:Hp}{t:Addr}{kvs:List (List Key×V)}{F G:Str→Str→List Str}(h:TH HB H t kvs F)(e:∀a b,G a b=F a b):TH HB H t kvs G:=by
 have:G=F:=funext fun a=>funext fun b=>e a b
 rw[this];exact h
theorem TH.hit {HB H:Hp}{t l:Addr}{kvs:List (List Key×V)}{F G:Str→Str→List Str}{a' b' im:Str}(h:TH HB H t kvs F)(hv:p6 kvs (k2 a' b')=some (.ref l))(h1:G a' b'=F a' b'++[im])(h2:∀a b,¬(a=a'∧b=b')→G a b=F a b):
  TH HB (upd H l (.lst ((F a' b').map V.str++[.str im]))) t kvs G:=by
 obtain⟨l',e',z',f'⟩:=h.so _ _ _ hv
 cases e'
 have htl:t≠l:=fun q=>by rw[←q,h.at_] at z';cases z'
 refine⟨by rw[b5 htl];exact h.at_,fun a b e=>?_,fun a b v e=>?_,h.inj⟩
 ·by_cases q:a=a'∧b=b'
  ·rw[q.1,q.2,hv] at e;cases e
  ·rw[h2 a b q];exact h.no a b e
 ·by_cases q:a=a'∧b=b'
  ·obtain⟨rfl,rfl⟩:=q
   rw[hv] at e
   cases e
   exact⟨l,rfl,by rw[d7,h1,List.map_append];rfl,f'⟩
  ·obtain⟨l2,e2,z2,f2⟩:=h.so a b v e
   refine⟨l2,e2,?_,f2⟩
   have:l2≠l:=fun w=>q (by
    rw[e2,w] at e
    exact h.inj a b a' b' _ e hv)
   rw[b5 this,h2 a b q];exact z2
theorem TH.miss {HB H:Hp}{t l:Addr}{kvs:List (List Key×V)}{F G:Str→Str→List Str}{a' b' im:Str}(h:TH HB H t kvs F)(hv:p6 kvs (k2 a' b')=none)(hl:HB l=none)(hno:∀a b,p6 kvs (k2 a b)≠some (.ref l))(hlt:l≠t)(h1:G a' b'=F a' b'++[im])(h2:∀a b,¬(a=a'∧b=b')→G a b=F a b):
  TH HB (upd (upd H t (.dT (B8 kvs (k2 a' b') (.ref l)))) l (.lst ([]++[.str im]))) t (B8 kvs (k2 a' b') (.ref l)) G:=by
 have hk:∀{a b:Str},¬(a=a'∧b=b')→k2 a b≠k2 a' b':=fun{a b} q w=>by
  have w1:=List.cons.inj w
  have w2:=List.cons.inj w1.2
  exact q ⟨Sum.inr.inj w1.1,Sum.inr.inj w2.1⟩
 refine⟨by rw[b5 hlt.symm,d7],fun a b e=>?_,fun a b v e=>?_,fun a b c d v e e'=>?_⟩
 ·by_cases q:a=a'∧b=b'
  ·rw[C6,if_pos (by rw[q.1,q.2])] at e;cases e
  ·rw[C6,if_neg (hk q)] at e
   rw[h2 a b q];exact h.no a b e
 ·by_cases q:a=a'∧b=b'
  ·obtain⟨rfl,rfl⟩:=q
   rw[C6,if_pos rfl] at e
   cases e
   exact⟨l,rfl,by rw[d7,h1,h.no _ _ hv];rfl,hl⟩
  ·rw[C6,if_neg (hk q)] at e
   obtain⟨l2,e2,z2,f2⟩:=h.so a b v e
   have w1:l2≠l:=fun w=>hno a b (by rw[e,e2,w])
   have w2:l2≠t:=fun w=>by rw[w,h.at_] at z2;cases z2
   exact⟨l2,e2,by rw[b5 w1,b5 w2,h2 a b q];exact z2,f2⟩
 ·by_cases q:a=a'∧b=b'
  ·by_cases q':c=a'∧d=b'
   ·exact⟨q.1.trans q'.1.symm,q.2.trans q'.2.symm⟩
   ·rw[C6,if_pos (by rw[q.1,q.2])] at e
    rw[C6,if_neg (hk q')] at e'
    cases e
    exact absurd e' (hno c d)
  ·by_cases q':c=a'∧d=b'
   ·rw[C6,if_pos (by rw[q'.1,q'.2])] at e'
    rw[C6,if_neg (hk q)] at e
    cases e'
    exact absurd e (hno a b)
   ·rw[C6,if_neg (hk q)] at e
    rw[C6,if_neg (hk q')] at e'
    exact h.inj a b c d v e e'
def PlAt (H:Hp)(v:V)(F:Str→Str→List Str):Prop:=∃(t:Addr) (kvs:List (List Key×V)),v= .ref t∧H t=some (.dT kvs)∧(∀a b,p6 kvs (k2 a b)=none→F a b=[])∧∀a b v,p6 kvs (k2 a b)=some v→LstAt H v (F a b)
theorem PlAt.same {H H':Hp}{v:V}{F:Str→Str→List Str}(h:PlAt H v F)(s:Same H H'):PlAt H' v F:=
 let ⟨t,kvs,e,a,n,z⟩:=h;⟨t,kvs,e,s _ _ a,n,fun x y v q=>(z x y v q).same s⟩
def PlsAt (H:Hp)(F:Str×Tie→Str→Str→List Str)(kvs:List (Key×V))(ts:List (Str×Tie)):Prop:=Paired (fun kv x=>kv.1=Sum.inr x.1∧PlAt H kv.2 (F x)) kvs ts
theorem PlsAt.keys {H:Hp}{F:Str×Tie→Str→Str→List Str}:∀{kvs:List (Key×V)} {ts:List (Str×Tie)},PlsAt H F kvs ts→kvs.map (·.1)=(ts.map (·.1)).map Sum.inr
 |_,_,.nil=>rfl
 |_,_,.cons a t=>by rw[List.map_cons,a.1,PlsAt.keys t];rfl
theorem PlsAt.same {H H':Hp}{F:Str×Tie→Str→Str→List Str}{kvs:List (Key×V)}{ts:List (Str×Tie)}(h:PlsAt H F kvs ts)(s:Same H H'):PlsAt H' F kvs ts:=Paired.imp' (fun _ _ z=>⟨z.1,z.2.same s⟩) h
theorem thaw_at {q a:Addr}{H:Hp}{o:Obj}{w u:HO}(hq:H q=some (.frz o w))(ha:H a=some u)(hu:∀o' w',u≠ .frz o' w'):thaw q H a=some u:=by
 have:a≠q:=fun z=>by rw[z,hq] at ha;cases ha;exact hu _ _ rfl
 rw[T5 this];exact ha
theorem LstAt.thaw {q:Addr}{H:Hp}{o:Obj}{w:HO}{v:V}{l:List Str}(hq:H q=some (.frz o w))(h:LstAt H v l):LstAt (thaw q H) v l:=let ⟨a,e,z⟩:=h;⟨a,e,thaw_at hq z (fun _ _ z=>nomatch z)⟩
theorem PlAt.thaw {q:Addr}{H:Hp}{o:Obj}{w:HO}{v:V}{F:Str→Str→List Str}(hq:H q=some (.frz o w))(h:PlAt H v F):PlAt (thaw q H) v F:=
 let ⟨t,kvs,e,a,n,z⟩:=h;⟨t,kvs,e,thaw_at hq a (fun _ _ z=>nomatch z),n,fun x y v q=>(z x y v q).thaw hq⟩
def U8 (K:PySem.W.Frag):Sp:=fun vs H Q _=>∃(a p q a' p' q' d:Addr) (kvs kvs':List (Key×V)) (Pc W:Web) (fx:List (Str×Str)) (gt:List Str),vs=[.ref a,.ref a',.ref d]∧WebAt K H a p q kvs Pc∧H q=some (.dK kvs)∧(Pc.ts.map (·.1)).Nodup∧Pc.ts.length≤30∧WebAt K H a' p' q' kvs' W∧(W.ts.map (·.1)).Nodup∧W.ts.length≤30∧gt.Perm (W.ts.map (·.1))∧sortedS gt=true∧H d=some (.dK (pKV fx))∧d≠q∧
 ∀(c:Addr) (H':Hp) (kvp:List (Key×V)),H c=none→Same H H'→H' c=some (.dK kvp)→PlsAt H' (fun x a b=>plL W gt fx x.1 (x.2.1,a,b)) kvp Pc.ts→Q (.ref c) H'
theorem a2W {f:Addr}{fd:FuncData}(T:Txt K mg)(V9:Cal P w K mg base CX0 1 "may_be" ["name","image","fixed"] [] (a0k K))(F:Fun K "tie_places" "tie_places" J3 f fd):FnOk P w K mg base CX0 2 f fd ["piece","web","fixed"] (U8 K):=by
 refine F.ok sc_tie_places (fun vs H Q E h=>?_) (fun cdv A outer s H vs Q E hr h=>?_)
 ·obtain⟨a,p,q,a',p',q',d,kvs,kvs',Pc,W,fx,gt,rfl,_⟩:=h
  rfl
 ·obtain⟨a,p,q,a',p',q',d,kvs,kvs',Pc,W,fx,gt,rfl,hP,hq,ndP,lP,hW,ndW,lW,pgt,ogt,hd,hdq,k⟩:=h
  have lgt:gt.length≤30:=by rw[pgt.length_eq,List.length_map];exact lW
  have hkl:=hP.ts.length
  have hN:=sc_tie_places.nd
  have hu:=B9 hr
  refine⟨_,QSs.r (qsC (o0 (i:=3) hN rfl (by walk_at "l") qD0)
   (qsC (N5 PassesOwn.never rfl (a1U (qIx (kIx K hu) (qV 0) d9 (fun _ _=>rfl))) (qgT K rfl (qg1 (qgN (i:=4) hN rfl (by walk_at "l")) (qg1 (qgN (i:=5) hN rfl (by walk_at "l")) qg0)))
    (qsC (o0 (i:=6) hN rfl (by walk_at "l") b7u)
   (qsC (N5 PassesOwn.never rfl (V1 K (qB (J5 K rfl) T.b_sorted Boot.«sorted» (qa1 (qIx (kIx K hu) (qV 1) d9 (fun _ _=>rfl)) qa0))) (qgN (i:=7) hN rfl (by walk_at "l"))
    (qsC (o0 (i:=8) hN rfl (by walk_at "l") (qIx (kIx K hu) (qIx (kIx K hu) (qV 1) d9 (fun _ _=>rfl)) (qV 7) (fun _ _=>rfl)))
   (qs1 (qIf (qtW (a2H (w5 (Q8 K hr) (qIx (kIx K hu) (qV 8) d9 (fun _ _=>rfl)) (qIx (kIx K hu) (qV 5) d9 (fun _ _=>rfl)) (t5 _)) (a2x (a0s K (qC V9 (hr.mono (by decide)) r9 (qa1 (qV 4) (qa1 (qV 7) (qa1 (qV 2) qa0)))))))) (qs1 (qEx (qM PySem.F.plainAttrs_list PySem.F.slot_list_append PySem.F.type_list_append u0 K (qM PySem.F.plainAttrs_dict PySem.F.slot_dict_setdefault PySem.F.type_dict_setdefault (a0p hr) K (qV 6) (qa1 (qSl (kSl K) (qV 8) (qoS d9) qoN) (qa1 (O7 qa0) qa0))) (qa1 (qV 7) qa0)))) qs0))))
   (qs1 (U3 (qV 6) (qgS (qV 3) (qV 4) (u4 P w hu)))))))
   (qs1 (D5 (qV 3))))),?_⟩
  walk_at "r"
  intro c nc
  obtain⟨H1,e1,f1,m1,_⟩:=b7 (o:= .dK []) nc
  rw[e1]
  have hcq:c≠q:=(b9 hq nc).symm
  walk_at "r"
  refine d8 (m1.tup hP.tup) (h8 (j:=1) rfl) ?_
  refine T8 (m1 _ _ hq) (fun ndq o1=>?_)
  refine K2 (n:=kvs.length) (fun i σ H'=>∃(kvp:List (Key×V)) (v1 v2 v3 v4 v5:Option V),σ=[some (.ref a),some (.ref a'),some (.ref d),some (.ref c),v1,v2,v3,v4,v5]∧Same (C8 q o1 kvs H) H'∧H' c=some (.dK kvp)∧PlsAt H' (fun x a b=>plL W gt fx x.1 (x.2.1,a,b)) kvp (Pc.ts.take i)) ⟨[],none,none,none,none,none,rfl,a5w m1,by rw[a0H hcq];exact f1,.nil⟩ (fun i σ H' hi hp=>?_) ?_ ?_
  ·obtain⟨_,_,_,_,_,_,_,s,_⟩:=hp
   exact⟨s _ _ d7,hi⟩
  ·rintro bk i v σ H2' H2 hi ⟨kvp,v1,v2,v3,v4,v5,rfl,s2,hc2,pl2⟩ ⟨t,kv,hkv,nt,rfl,rfl⟩
   obtain⟨H3,e3,f3,m3,_⟩:=b7 (o:= .tup _) nt
   rw[e3]
   have s3:=s2.trans m3
   have le3:=(a0E (o:=o1) hq).trans s3.le
   have P3:=hP.mono le3
   have W3:=hW.mono le3
   have hd3:H3 d=some (.dK (pKV fx)):=s3 _ _ (by rw[a0H hdq];exact hd)
   obtain⟨x,hx,ex,tb,eb,sb⟩:=P3.ts.get hkv
   obtain⟨kk,kvv⟩:=kv
   have ex':kk=Sum.inr x.1:=ex
   have eb':kvv= .ref tb:=eb
   subst ex' eb'
   refine K3 (SqT.of f3) rfl ?_
   walk_at "r"
   intro th nth
   obtain⟨H4,e4,f4,m4,_⟩:=b7 (o:= .dT []) nth
   rw[e4]
   walk_at "r"
   refine d8 (m4.tup W3.tup) (h8 (j:=1) rfl) ?_
   walk_at "r"
   refine p0 (ss:=W.ts.map (·.1)) (m4.rd W3.ties) (by rw[W3.ts.keys,u9]) (by rw[List.length_map];omega) (fun g1 a1 a2 l5 n5=>?_)
   have eg:g1=gt:=A8 a2 ogt (a1.nodup_iff.mpr ndW) (a1.trans pgt.symm)
   subst eg
   obtain⟨H5,e5,f5,m5,_⟩:=b7 (o:= .lst _) n5
   rw[e5]
   refine z8 (SqL.of f5) ?_
   have hl5:H3 l5=none:=m4.free n5
   refine K2 (n:=g1.length) (fun j σ H'=>∃(kt:List (List Key×V)) (w1 w2:Option V),σ=[some (.ref a),some (.ref a'),some (.ref d),some (.ref c),some (.str x.1),some (.ref tb),some (.ref th),w1,w2]∧Same H3 H'∧H' l5=some (.lst (g1.map V.str))∧kt.length≤j∧(∀A B,p6 kt (k2 A B)≠some (.ref l5))∧TH H3 H' th kt fun A B=>(g1.take j).filter fun im=>decide (C7 W.ts im=(x.2.1,A,B))&&N4 fx x.1 im) ⟨[],v4,v5,rfl,m4.trans m5,f5,Nat.le_refl _,(fun _ _ z=>nomatch z),⟨m5 _ _ f4,(fun _ _ _=>rfl),(fun _ _ _ z=>nomatch z),fun _ _ _ _ _ z _=>nomatch z⟩⟩ (fun j σ H' hj hp=>?_) ?_ ?_
   ·obtain⟨_,_,_,_,_,z,_⟩:=hp
    exact⟨g1.map V.str,.str (g1[j]),SqL.of z,by rw[List.getElem?_map,List.getElem?_eq_getElem hj];rfl⟩
   ·rintro bk2 j v σ H6' H6 hj ⟨kt,w1,w2,rfl,s6,hl6,lk6,nl6,th6⟩ y
    obtain⟨rfl,hy⟩:=Itl.get y (SqL.of hl6)
    rw[List.getElem?_map] at hy
    obtain⟨im,him,rfl⟩:=Option.map_eq_some_iff.mp hy
    have hin:im∈W.ts.map (·.1):=a1.mem_iff.mp (List.mem_of_getElem? him)
    have W6:=W3.mono s6.le
    obtain⟨aa,hv,hT⟩:=a0L W6.ts ndW (Z0 hin)
    generalize hto:C7 W.ts im=to at hT
    obtain⟨t1,t2,t3⟩:=to
    walk_at "r"
    refine d8 W6.tup (h8 (j:=1) rfl) ?_
    walk_at "r"
    refine v0 (v:= .ref aa) (by have z:=R0 (k:=Sum.inr im) W6.ties;rw[hv] at z;exact z) ?_
    walk_at "r"
    refine d8 hT (h8 (j:=0) rfl) ?_
    walk_at "r"
    refine d8 (s6.tup sb) (h8 (j:=0) rfl) ?_
    walk_at "r"
    have stay:(∀A B,(decide (C7 W.ts im=(x.2.1,A,B))&&N4 fx x.1 im)=false)→∀H7,Same H6 H7→∃(kt:List (List Key×V)) (w1 w2:Option V),[some (.ref a),some (.ref a'),some (.ref d),some (.ref c),some (.str x.1),some (.ref tb),some (.ref th),some (.str im),some (.ref aa)]=[some (.ref a),some (.ref a'),some (.ref d),some (.ref c),some (.str x.1),some (.ref tb),some (.ref th),w1,w2]∧Same H3 H7∧H7 l5=some (.lst (g1.map V.str))∧kt.length≤j+1∧(∀A B,p6 kt (k2 A B)≠some (.ref l5))∧TH H3 H7 th kt fun A B=>(g1.take (j+1)).filter fun im=>decide (C7 W.ts im=(x.2.1,A,B))&&N4 fx x.1 im:=fun hf H7 m7=>
     ⟨kt,_,_,rfl,s6.trans m7,m7 _ _ hl6,by omega,nl6,(th6.same m7).ext fun A B=>a6a him (hf A B)⟩
    refine M4 (fun h1=>?_) (fun h1=>?_)
    ·walk_at "r"
     refine⟨d,x.1,im,fx,rfl,s6 _ _ hd3,fun H7 m7=>?_⟩
     walk_at "r"
     refine U4 (fun h2=>?_) (fun h2=>?_)
     ·walk_at "r"
      have th7:=th6.same m7
      refine⟨.inr (.inr (.inl ⟨rfl,.inr ⟨_,th7.at_⟩⟩)),?_⟩
      walk_at "r"
      refine a1m (m7.tup hT) (by rintro⟨z,_⟩;exact absurd (show(1:Nat)=0 from z) (by decide)) (fun l8 n8=>?_)
      obtain⟨H8,e8,f8,m8,_⟩:=b7 (o:= .tup [.str t2,.str t3]) n8
      rw[show a1i (Q9 (t1,t2,t3)) (some 1) none=[V.str t2,.str t3] from rfl,e8]
      walk_at "r"
      refine⟨i6 (by simp),fun l9 n9=>?_⟩
      obtain⟨H9,e9,f9,m9,o9⟩:=b7 (o:= .lst []) n9
      rw[e9]
      have th9:=th7.same (m8.trans m9)
      have s39:=s6.trans (m7.trans (m8.trans m9))
      have hl9:H3 l9=none:=(s6.trans (m7.trans m8)).free n9
      have hl5':=(m7.trans (m8.trans m9)) _ _ hl6
      have g1':((g1.take (j+1)).filter fun im=>decide (C7 W.ts im=(x.2.1,t2,t3))&&N4 fx x.1 im)=((g1.take j).filter fun im=>decide (C7 W.ts im=(x.2.1,t2,t3))&&N4 fx x.1 im)++[im]:=a7T him (by rw[hto,h2,decide_eq_true (by rw[show t1=x.2.1 from h1])];rfl)
      have g2':∀A B,¬(A=t2∧B=t3)→((g1.take (j+1)).filter fun im=>decide (C7 W.ts im=(x.2.1,A,B))&&N4 fx x.1 im)=((g1.take j).filter fun im=>decide (C7 W.ts im=(x.2.1,A,B))&&N4 fx x.1 im):=fun A B hno=>a6a him (by
       rw[hto,decide_eq_false (fun z=>hno ?_)];rfl
       have z2:=(Prod.mk.inj z).2
       exact⟨(Prod.mk.inj z2).1.symm,(Prod.mk.inj z2).2.symm⟩)
      refine⟨th,l8,kt,k2 t2 t3,.ref l9,rfl,rfl,th9.at_,m9 _ _ f8,i6 (by omega),?_⟩
      cases hvk:p6 kt (k2 t2 t3) with
      |some v=>
       obtain⟨l,rfl,hl,hlb⟩:=th9.so _ _ _ hvk
       refine⟨.inl ⟨rfl,_,SqL.of hl⟩,?_⟩
       walk_at "r"
       refine⟨l,_,.str im,rfl,rfl,hl,i6 (by rw[List.length_map];have:=a1z (p:=fun im=>decide (C7 W.ts im=(x.2.1,t2,t3))&&N4 fx x.1 im) (s:=g1) (i:=j);omega),?_⟩
       have hll:l5≠l:=fun z=>nl6 t2 t3 (by rw[hvk,z])
       exact⟨kt,_,_,rfl,C3 s39 hlb,by rw[b5 hll];exact hl5',by omega,nl6,th9.hit hvk g1' g2'⟩
      |none=>
       have hlt:l9≠th:=fun z=>by rw[z,th9.at_] at f9;cases f9
       have hno:∀A B,p6 kt (k2 A B)≠some (.ref l9):=fun A B z=>by
        obtain⟨l,e,hl,_⟩:=(th7.same m8).so _ _ _ z
        cases e
        rw[n9] at hl;cases hl
       have h59:l5≠l9:=fun z=>by
        have:=(m7.trans m8) _ _ hl6
        rw[z,n9] at this;cases this
       have h5t:l5≠th:=fun z=>by rw[z,th9.at_] at hl5';cases hl5'
       refine⟨.inl ⟨rfl,[],SqL.of (by rw[b5 hlt];exact f9)⟩,?_⟩
       walk_at "r"
       refine⟨l9,[],.str im,rfl,rfl,by rw[b5 hlt];exact f9,i6 (by simp),?_⟩
       have hnth:H3 th=none:=nth
       refine⟨B8 kt (k2 t2 t3) (.ref l9),_,_,rfl,C3 (C3 s39 hnth) hl9,by rw[b5 h59,b5 h5t];exact hl5',?_,fun A B z=>?_,th9.miss hvk hl9 hno hlt g1' g2'⟩
       ·have:=O8 kt (k2 t2 t3) (.ref l9);omega
       ·rw[C6] at z
        split at z
        ·cases z;exact h59 rfl
        ·exact nl6 A B z
     ·exact stay (fun A B=>by rw[h2,Bool.and_false]) H7 m7
    ·walk_at "r"
     exact stay (fun A B=>by rw[hto,decide_eq_false (fun z=>h1 (Prod.mk.inj z).1)];rfl) H6 (Same.refl _)
   ·rintro σ H6 ⟨kt,w1,w2,rfl,s6,hl6,lk6,nl6,th6⟩
    refine⟨⟨_,SqL.of hl6,by rw[List.length_map];exact Nat.le_refl _⟩,?_⟩
    rw[List.take_of_length_le (Nat.le_refl _)] at th6
    have hc6:H6 c=some (.dK kvp):=s6 _ _ (m3 _ _ hc2)
    have hlk:=Paired.length pl2
    rw[List.length_take] at hlk
    walk_at "r"
    refine N6 (p8 (k:=Sum.inr x.1) hc6 (i6 (by omega)) ?_)
    have e7:Pc.ts.take (i+1)=Pc.ts.take i++[x]:=by rw[List.take_succ,hx];rfl
    have fr:x.1∉(Pc.ts.take i).map (·.1):=fun z=>by
     have w:((Pc.ts.take (i+1)).map (·.1)).Nodup:=ndP.sublist ((List.take_sublist _ _).map _)
     rw[e7,List.map_append] at w
     exact(List.nodup_append.mp w).2.2 x.1 z x.1 (by simp) rfl
    have ek:B8 kvp (Sum.inr x.1:Key) (.ref th)=kvp++[(Sum.inr x.1,.ref th)]:=N1 _ (D7 (by rw[pl2.keys];exact fun m=>fr (Q0 m)))
    have hnc:(C8 q o1 kvs H) c=none:=by rw[a0H hcq];exact nc
    have cL:∀{v:V} {l:List Str},LstAt H6 v l→LstAt (upd H6 c (.dK (kvp++[(Sum.inr x.1,V.ref th)]))) v l:=fun{v l} ⟨a,ea,z⟩=>⟨a,ea,by rw[b5 (fun q=>by rw[q,hc6] at z;cases z)];exact z⟩
    have cP:∀{v:V} {F:Str→Str→List Str},PlAt H6 v F→PlAt (upd H6 c (.dK (kvp++[(Sum.inr x.1,V.ref th)]))) v F:=fun{v F} ⟨t,kk,e,z,n,so⟩=>⟨t,kk,e,by rw[b5 (fun q=>by rw[q,hc6] at z;cases z)];exact z,n,fun A B v e=>cL (so A B v e)⟩
    refine⟨kvp++[(Sum.inr x.1,.ref th)],_,_,_,_,_,rfl,C3 (s3.trans s6) hnc,by rw[d7,ek],?_⟩
    rw[ek,e7]
    refine A9 (Paired.imp' (fun _ _ z=>⟨z.1,cP (z.2.same (m3.trans s6))⟩) pl2) ⟨rfl,cP ⟨th,kt,rfl,th6.at_,th6.no,fun A B v e=>?_⟩⟩
    obtain⟨l,e1,e2,_⟩:=th6.so A B v e
    exact⟨l,e1,e2⟩
  ·rintro σ H2 ⟨kvp,v1,v2,v3,v4,v5,rfl,s2,hc2,pl2⟩
   refine⟨⟨s2 _ _ d7,Nat.le_refl _⟩,?_⟩
   walk_at "r"
   have hfq:H2 q=some (.frz o1 (.dK kvs)):=s2 _ _ d7
   rw[List.take_of_length_le (by omega)] at pl2
   exact k c _ kvp nc (Same.thaw hq s2) (thaw_at hfq hc2 (fun _ _ z=>nomatch z)) (Paired.imp' (fun kv x z=>⟨z.1,z.2.thaw hfq⟩) pl2)
def A4 (fx:List (Str×Str))(n:Str):Bool:=!decide (n∈fx.map (·.1))
theorem b3S {td ty tx:TE}{σ:L2.St}{H:Hp}{Q:VK}(q:td σ H fun x H1=>∃a,x= .ref a∧IsD H1 a∧ty σ H1 fun y H2=>tx σ H2 fun z H3=>∃o,DGet H3 a y o∧Q (o.getD z) H3):a6o td ty tx σ H Q:=q
abbrev LsAt (H:Hp)(xs:List V)(ls:List (List Str)):Prop:=Paired (LstAt H) xs ls
theorem LsAt.same {H H':Hp}{xs:List V}{ls:List (List Str)}(h:LsAt H xs ls)(s:Same H H'):LsAt H' xs ls:=Paired.imp' (fun _ _ z=>z.same s) h
theorem a3x:∀l d:List Str,L7 (l.map V.str) (d.map V.str)=decide (l=d)
 |[],[]=>rfl
 |[],_::_=>by simp [L7]
 |_::_,[]=>by simp [L7]
 |x::l,y::d=>by
  show(eqV (.str x) (.str y)&&L7 (l.map V.str) (d.map V.str))=_
  rw[a3x l d,Bool.eq_iff_iff]
  simp [eqV]
def a6U (H:Hp):V→List V
 | .ref a=>match H a with
  |some (.lst xs)=>xs
  |_=>[]
 |_=>[]
theorem a5h {H:Hp}{v:V}{l:List Str}(h:LstAt H v l):a6U H v=l.map V.str:=by
 obtain⟨a,rfl,z⟩:=h
 show(match H a with|some (.lst xs)=>xs|_=>[])=_
 rw[z]
theorem a5e {H:Hp}{d:List Str}:∀{xs:List V} {ls:List (List Str)},LsAt H xs ls→xs.countP (fun z=>L7 (a6U H z) (d.map V.str))=ls.count d
 |_,_,.nil=>rfl
 |_,l::_,.cons a t=>by
  rw[List.countP_cons,List.count_cons,a5e t,a5h a,a3x]
  by_cases e:l=d
  ·rw[if_pos (decide_eq_true e),if_pos (by simpa using e)]
  ·rw[if_neg (by rw[decide_eq_false e];decide),if_neg (by simpa using e)]
def a0o (K:PySem.W.Frag):Sp:=fun vs H Q _=>∃(l:Addr) (xs:List V) (ls:List (List Str)),vs=[.ref l]∧H l=some (.lst xs)∧LsAt H xs ls∧ls.length≤60∧∀H',Same H H'→Q (.bl (enB ls)) H'
theorem a8n {f:Addr}{fd:FuncData}(T:Txt K mg)(F:Fun K "enough" "enough" W8 f fd):FnOk P w K mg base CX0 1 f fd ["lists"] (a0o K):=by
 refine F.ok sc_enough (fun vs H Q E h=>?_) (fun cdv A outer s H vs Q E hr h=>?_)
 ·obtain⟨l,xs,ls,rfl,_⟩:=h
  rfl
 ·obtain⟨l,xs,ls,rfl,hl,hx,hn,k⟩:=h
  have hxl:=Paired.length hx
  have hN:=sc_enough.nd
  have hu:=B9 hr
  refine⟨_,QSs.r (qs1 (D5 (qB (b7f K rfl) T.b_all Boot.«all» (qa1 (a0O (own:=["drawn"]) (js:=[0]) (by kernel_rfl) rfl (V1 K (qV 0)) (fun _ _ _ _=>(qgN (i:=0) (show List.Nodup (["drawn","lists"]:List Str) by decide+kernel) rfl (by walk_at "l"))) (fun _ _ _ _=>a7H) (fun _ _ _ _=>(a3d b5l (qM PySem.F.plainAttrs_list PySem.F.slot_list_count PySem.F.type_list_count (a1Q K hr) K (qV 1) (qa1 (qV 0) qa0)) (qB (E2 K P w) T.b_len Boot.«len» (qa1 (qV 0) qa0)) (t5 _)))) qa0)))),?_⟩
  walk_at "r"
  refine z8 (SqL.of hl) ?_
  refine D3 (n:=xs.length) (fun i out H'=>H'=H∧out=(ls.take i).map fun d=>V.bl (decide (ls.count d≤d.length))) ⟨rfl,rfl⟩ (fun i out H' hi hp=>⟨xs,xs[i],SqL.of (by rw[hp.1];exact hl),List.getElem?_eq_getElem hi⟩) ?_ ?_
  ·rintro N i v out H1' H1 hi ⟨rfl,rfl⟩ y hN'
   obtain⟨rfl,hy⟩:=Itl.get y (SqL.of hl)
   obtain⟨d,hd,a,rfl,hda⟩:=w4 hx hy
   walk_at "r"
   refine⟨rfl,?_⟩
   walk_at "r"
   refine⟨.inl ⟨rfl,_,SqL.of hl⟩,?_⟩
   walk_at "r"
   refine⟨l,xs,.ref a,fun z=>L7 (a6U H1 z) (d.map V.str),rfl,rfl,hl,fun z hz=>?_,?_⟩
   ·obtain⟨j,hj⟩:=List.getElem?_of_mem hz
    obtain⟨e,he,b,rfl,hb⟩:=w4 hx hj
    exact⟨b,a,_,_,rfl,rfl,SqL.of hb,SqL.of hda,M8 _,M8 _,by show L7 (a6U H1 (V.ref b)) _=_;rw[a5h ⟨b,rfl,hb⟩]⟩
   ·rw[a5e hx]
    walk_at "r"
    refine D0 (j8 (SqL.of hda) ?_)
    rw[List.length_map]
    walk_at "r"
    refine⟨i6 (by rw[List.length_map,List.length_take];omega),hN' _ _ ⟨rfl,?_⟩⟩
    have e:decide ((ls.count d:Int)≤(d.length:Int))=decide (ls.count d≤d.length):=by rw[Bool.eq_iff_iff];simp
    rw[e];exact a0t (fun d=>V.bl (decide (ls.count d≤d.length))) hd
  ·rintro out H1 ⟨rfl,rfl⟩
   refine⟨⟨_,SqL.of hl,Nat.le_refl _⟩,fun D hD=>⟨i6 (by rw[List.length_map,List.length_take];omega),?_⟩⟩
   rw[List.take_of_length_le (by omega)]
   obtain⟨H2,e2,f2,m2,_⟩:=b7 (H:=H1) (o:= .lst (ls.map fun d=>V.bl (decide (ls.count d≤d.length)))) hD
   walk_at "r"
   change b2n K _ (upd H1 D _) _
   rw[e2]
   refine b5X (bs:=ls.map fun d=>decide (ls.count d≤d.length)) (SqL.of (by rw[f2,List.map_map];rfl)) ?_
   have e:(ls.map fun d=>decide (ls.count d≤d.length)).all id=enB ls:=by unfold enB;rw[List.all_map];rfl
   rw[e];exact k H2 m2
structure Sx (K:PySem.W.Frag) (H:Hp) (a p q c pl:Addr) (kvs kvc kvp:List (Key×V)) (L:Str→Str→Bool) (Pc W:Web) (s1 s2 gp gt:List Str) (fx:List (Str×Str)):Prop where
 S:SrchP L Pc W s1 s2 gp gt fx
 at_:WebAt K H a p q kvs Pc
 hq:H q=some (.dK kvs)
 l1:(i8 Pc).length≤30
 l2:(i8 W).length≤30
 big:((i8 Pc).length+1)*(max W.pts.length W.ts.length+1) ^ ((i8 Pc).filter (A4 fx)).length≤1000000
 hc:H c=some (.dK kvc)
 ch:ChAt H (fun x=>chL L gp fx x.1) kvc Pc.pts
 hl:H pl=some (.dK kvp)
 pls:PlsAt H (fun x a b=>plL W gt fx x.1 (x.2.1,a,b)) kvp Pc.ts
theorem Sx.same {H H':Hp}{a p q c pl:Addr}{kvs kvc kvp:List (Key×V)}{L:Str→Str→Bool}{Pc W:Web}{s1 s2 gp gt:List Str}{fx:List (Str×Str)}(h:Sx K H a p q c pl kvs kvc kvp L Pc W s1 s2 gp gt fx)(s:Same H H'):Sx K H' a p q c pl kvs kvc kvp L Pc W s1 s2 gp gt fx:=
 ⟨h.S,h.at_.mono s.le,s _ _ h.hq,h.l1,h.l2,h.big,s _ _ h.hc,h.ch.same s,s _ _ h.hl,h.pls.same s⟩
theorem a2r {α:Type}{R:V→Str×α→Prop}:∀{kvs:List (Key×V)} {ts:List (Str×α)} {x:Str×α},Paired (fun kv x=>kv.1=Sum.inr x.1∧R kv.2 x) kvs ts→(ts.map (·.1)).Nodup→x∈ts→∃v,p6 kvs (Sum.inr x.1:Key)=some v∧R v x
 |_,[],_,_,_,hx=>nomatch hx
 |kv::r,y::ts,x,.cons a t,nd,hx=>by
  have nd':=List.nodup_cons.mp (show(y.1::ts.map (·.1)).Nodup from nd)
  rcases List.mem_cons.mp hx with z|z
  ·subst z
   exact⟨kv.2,A2 a.1,a.2⟩
  ·obtain⟨v,h1,h2⟩:=a2r t nd'.2 z
   refine⟨v,?_,h2⟩
   rw[A1 (by rw[a.1];exact fun e=>nd'.1 (List.mem_map.mpr ⟨x,z,(Sum.inr.inj e).symm⟩))];exact h1
def M9 (K:PySem.W.Frag):Sp:=fun vs H Q _=>∃(a p q c pl d:Addr) (kvs kvc kvp kvm:List (Key×V)) (L:Str→Str→Bool) (Pc W:Web) (s1 s2 gp gt:List Str) (fx:List (Str×Str)) (x:Str×Tie),vs=[.ref a,.ref pl,.ref d,.str x.1]∧Sx K H a p q c pl kvs kvc kvp L Pc W s1 s2 gp gt fx∧x∈Pc.ts∧Rd H d (.dK kvm)∧TxtAt kvm x.2.2.1∧TxtAt kvm x.2.2.2∧
 ∀(v:V) (H':Hp),Same H H'→LstAt H' v (plL W gt fx x.1 (x.2.1,i9 kvm x.2.2.1,i9 kvm x.2.2.2))→Q v H'
theorem a2w {f:Addr}{fd:FuncData}(T:Txt K mg)(U2:Cal P w K mg base CX0 1 "tie_renamed" ["tie","names"] [] (Q2 K))(F:Fun K "tie_choices" "tie_choices" E3 f fd):FnOk P w K mg base CX0 2 f fd ["piece","places","put","name"] (M9 K):=by
 refine F.ok sc_tie_choices (fun vs H Q E h=>?_) (fun cdv A outer s H vs Q E hr h=>?_)
 ·obtain⟨a,p,q,c,pl,d,kvs,kvc,kvp,kvm,L,Pc,W,s1,s2,gp,gt,fx,x,rfl,_⟩:=h
  rfl
 ·obtain⟨a,p,q,c,pl,d,kvs,kvc,kvp,kvm,L,Pc,W,s1,s2,gp,gt,fx,x,rfl,X0,hx,hd,t1,t2,k⟩:=h
  obtain⟨aa,hv,hT⟩:=a0L X0.at_.ts (N3 X0.S.nd) (show(x.1,x.2)∈Pc.ts from hx)
  have hN:=sc_tie_choices.nd
  have hu:=B9 hr
  refine⟨_,QSs.r (qsC (o0 (i:=4) hN rfl (by walk_at "l") (qSl (kSl K) (qC U2 (hr.mono (by decide)) r9 (qa1 (qIx (kIx K hu) (qIx (kIx K hu) (qV 0) d9 (fun _ _=>rfl)) (qV 3) (fun _ _=>rfl)) (qa1 (qV 2) qa0))) (qoS d9) qoN))
   (qs1 (D5 (b5E hu (qIx (kIx K hu) (qV 1) (qV 3) (fun _ _=>rfl)) (qV 4) (O7 qa0))))),?_⟩
  walk_at "r"
  refine d8 X0.at_.tup (h8 (j:=1) rfl) ?_
  walk_at "r"
  refine v0 (v:= .ref aa) (by have z:=R0 (k:=Sum.inr x.1) X0.at_.ties;rw[hv] at z;exact z) ?_
  walk_at "r"
  refine⟨aa,d,x.2,kvm,rfl,hT,hd,t1,t2,fun l1 H1 n1 m1 f1=>?_⟩
  walk_at "r"
  refine a1m (SqT.of f1) (by rintro⟨z,_⟩;exact absurd (show(1:Nat)=0 from z) (by decide)) (fun l2 n2=>?_)
  obtain⟨H2,e2,f2,m2,_⟩:=b7 (o:= .tup [.str (i9 kvm x.2.2.1),.str (i9 kvm x.2.2.2)]) n2
  rw[show a1i (Q9 (x.2.1,i9 kvm x.2.2.1,i9 kvm x.2.2.2)) (some 1) none=[V.str (i9 kvm x.2.2.1),.str (i9 kvm x.2.2.2)] from rfl,e2]
  have X2:=X0.same (m1.trans m2)
  obtain⟨v,hv2,t,kt,rfl,ht,hno,hso⟩:=a2r (R:=fun v (x:Str×Tie)=>PlAt H2 v fun a b=>plL W gt fx x.1 (x.2.1,a,b)) (show Paired _ _ _ from X2.pls) (N3 X0.S.nd) hx
  walk_at "r"
  refine b3S ?_
  walk_at "r"
  refine v0 (v:= .ref t) (by have z:=R0 (k:=Sum.inr x.1) (.inl X2.hl);rw[hv2] at z;exact z) ?_
  refine⟨t,rfl,.inr ⟨_,.inl ht⟩,?_⟩
  walk_at "r"
  refine⟨i6 (by simp),fun l3 n3=>?_⟩
  obtain⟨H3,e3,f3,m3,_⟩:=b7 (o:= .lst []) n3
  rw[e3]
  refine⟨_,DGet.t (k:=k2 (i9 kvm x.2.2.1) (i9 kvm x.2.2.2)) (m3 _ _ ht) (m3 _ _ f2),?_⟩
  have m13:=m1.trans (m2.trans m3)
  cases hvk:p6 kt (k2 (i9 kvm x.2.2.1) (i9 kvm x.2.2.2)) with
  |none=>exact k _ H3 m13 ⟨l3,rfl,by rw[f3];have z:=hno _ _ hvk;dsimp only at z;rw[z];rfl⟩
  |some v=>exact k _ H3 m13 ((hso _ _ _ hvk).same m3)
theorem a1l:∀{nm b:List Str} {n x:Str},nm[b.length]?=some n→nm.zip (b++[x])=nm.zip b++[(n,x)]
 |[],b,n,x,h=>by simp at h
 |m::nm,[],n,x,h=>by
  have e:m=n:=by simpa using h
  subst e;simp
 |m::nm,y::b,n,x,h=>by
  have z:=a1l (nm:=nm) (b:=b) (n:=n) (x:=x) (by simpa using h)
  show(m,y)::nm.zip (b++[x])=(m,y)::nm.zip b++[(n,x)]
  rw[z];rfl
theorem a7n (nm:List Str):nm.map V.str=(nm.map (Sum.inr:Str→Key)).map kV:=by rw[List.map_map];rfl
theorem a4y {nm b:List Str}(nd:nm.Nodup):a0w ((nm.map (Sum.inr:Str→Key)).zip (b.map V.str))=pKV (nm.zip b):=by
 have e:(nm.map (Sum.inr:Str→Key)).zip (b.map V.str)=pKV (nm.zip b):=by rw[List.zip_map];rfl
 rw[e,b0N]
 rw[B7,←u9]
 exact List.Pairwise.map _ (fun a b h z=>h (Sum.inr.inj z)) (a2v b nd)
theorem a3E {mm:List (Str×Str)}{n:Str}(h:n∈mm.map (·.1)):TxtAt (pKV mm) n:=⟨_,a4K h⟩
theorem a4c {nm b:List Str}{i:Nat}{n:Str}(h:nm[i]?=some n)(hi:i<b.length):n∈(nm.zip b).map (·.1):=List.mem_map.mpr ⟨(n,b[i]),a1Y h (List.getElem?_eq_getElem hi),rfl⟩
theorem a7G {nm b:List Str}{n:Str}(nd:nm.Nodup)(h:nm[b.length]?=some n):n∉(nm.zip b).map (·.1):=fun z=>by
 have w:=a2v (b++[n]) nd
 rw[a1l h,List.map_append] at w
 exact(List.nodup_append.mp w).2.2 n z n (by simp) rfl
def a0g (K:PySem.W.Frag):Sp:=fun vs H Q _=>∃(a p q c pl d:Addr) (kvs kvc kvp:List (Key×V)) (L:Str→Str→Bool) (Pc W:Web) (s1 s2 gp gt:List Str) (fx mm:List (Str×Str)) (n im:Str),vs=[.ref a,.ref pl,.ref d,.str n,.str im]∧Sx K H a p q c pl kvs kvc kvp L Pc W s1 s2 gp gt fx∧H d=some (.dK (pKV mm))∧mm.length≤60∧n∉mm.map (·.1)∧
 (∀x∈Z6 Pc.ts n,x.2.2.1∈(mm++[(n,im)]).map (·.1)∧x.2.2.2∈(mm++[(n,im)]).map (·.1))∧
 ∀H',Same H H'→Q (.bl (enB ((Z6 Pc.ts n).map fun x=>plL W gt fx x.1 (x.2.1,i9 (pKV (mm++[(n,im)])) x.2.2.1,i9 (pKV (mm++[(n,im)])) x.2.2.2)))) H'
theorem a1K {α:Type}{p:α→Bool}{s:List α}{i:Nat}{x:α}(h:s[i]?=some x)(hp:p x=true):(s.take (i+1)).filter p=(s.take i).filter p++[x]:=by
 rw[List.take_succ,h,List.filter_append]
 show _++List.filter p [x]=_
 rw[List.filter_cons_of_pos hp];rfl
theorem a1F {α:Type}{p:α→Bool}{s:List α}{i:Nat}{x:α}(h:s[i]?=some x)(hp:p x=false):(s.take (i+1)).filter p=(s.take i).filter p:=by
 rw[List.take_succ,h,List.filter_append]
 show _++List.filter p [x]=_
 rw[List.filter_cons_of_neg (by rw[hp];decide)];simp
theorem b2R {α:Type}{p:α→Bool}{s:List α}{i:Nat}:((s.take i).filter p).length≤s.length:=Nat.le_trans (List.length_filter_le _ _) (by rw[List.length_take];omega)
theorem a4W {f:Addr}{fd:FuncData}(T:Txt K mg)(V4:Cal P w K mg base CX0 1 "enough" ["lists"] [] (a0o K))(E8:Cal P w K mg base CX0 2 "tie_choices" ["piece","places","put","name"] [] (M9 K))(F:Fun K "has_room" "has_room" O0 f fd):FnOk P w K mg base CX0 3 f fd ["piece","places","put","name","image"] (a0g K):=by
 refine F.ok sc_has_room (fun vs H Q E h=>?_) (fun cdv A outer s H vs Q E hr h=>?_)
 ·obtain⟨a,p,q,c,pl,d,kvs,kvc,kvp,L,Pc,W,s1,s2,gp,gt,fx,mm,n,im,rfl,_⟩:=h
  rfl
 ·obtain⟨a,p,q,c,pl,d,kvs,kvc,kvp,L,Pc,W,s1,s2,gp,gt,fx,mm,n,im,rfl,X0,hd,lm,nn,he,k⟩:=h
  have hkl:=X0.at_.ts.length
  have l1:=X0.l1
  rw[z7] at l1
  have hN:=sc_has_room.nd
  have hu:=B9 hr
  refine⟨_,QSs.r (qsC (o0 (i:=5) hN rfl (by walk_at "l") (qBT (a2A K rfl) T.b_dict Boot.«dict» (qa1 (qV 2) qa0)))
   (qsC (U3 (qV 4) (qgS (qV 5) (qV 3) (u4 P w hu)))
   (qsC (V3 (i:=6) hN rfl (by walk_at "l") (own:=["tie","told"]) (js:=[3]) (by kernel_rfl) rfl (a1U (qIx (kIx K hu) (qV 0) d9 (fun _ _=>rfl))) (fun _ _ _ _=>(qgT K rfl (qg1 (qgN (i:=0) (show List.Nodup (["tie","told","name"]:List Str) by decide+kernel) rfl (by walk_at "l")) (qg1 (qgN (i:=1) (show List.Nodup (["tie","told","name"]:List Str) by decide+kernel) rfl (by walk_at "l")) qg0)))) (fun _ _ _ _=>(a3S (w5 (Q8 K hr) (qB (b5c K rfl) T.b_max Boot.«max» (qa1 (qSl (kSl K) (qV 1) (qoS d9) qoN) qa0)) (qV 2) (t5 _)))) (fun _ _ _ _=>(qV 0)))
   (qs1 (D5 (qC V4 (hr.mono (by decide)) r9 (qa1 (a0O (own:=["tie"]) (js:=[0,1,5]) (by kernel_rfl) rfl (V1 K (qV 6)) (fun _ _ _ _=>(qgN (i:=0) (show List.Nodup (["tie","piece","places","longer"]:List Str) by decide+kernel) rfl (by walk_at "l"))) (fun _ _ _ _=>a7H) (fun _ _ _ _=>(qC E8 (hr.mono (by decide)) r9 (qa1 (qV 1) (qa1 (qV 2) (qa1 (qV 3) (qa1 (qV 0) qa0))))))) qa0))))))),?_⟩
  walk_at "r"
  refine K4 (.inl hd) (fun l1 n1=>?_)
  obtain⟨H1,e1,f1,m1,_⟩:=b7 (o:= .dK (pKV mm)) n1
  rw[e1]
  walk_at "r"
  refine N6 (p8 (k:=Sum.inr n) f1 (i6 (by rw[A3];omega)) ?_)
  rw[b1Z nn]
  have f2:(upd H1 l1 (.dK (pKV (mm++[(n,im)])))) l1=some (.dK (pKV (mm++[(n,im)]))):=d7
  have m2:Same H (upd H1 l1 (.dK (pKV (mm++[(n,im)])))):=C3 m1 n1
  generalize upd H1 l1 (.dK (pKV (mm++[(n,im)])))=H2 at f2 m2⊢
  have X2:=X0.same m2
  walk_at "r"
  refine d8 X2.at_.tup (h8 (j:=1) rfl) ?_
  refine T8 X2.hq (fun ndq o3=>?_)
  refine D3 (n:=kvs.length) (fun i out H'=>Same (C8 q o3 kvs H2) H'∧out=((Pc.ts.take i).filter fun x=>decide (mxS x.2.2.1 x.2.2.2=n)).map fun x=>V.str x.1) ⟨Same.refl _,rfl⟩ (fun i out H' hi hp=>⟨hp.1 _ _ d7,hi⟩) ?_ ?_
  ·rintro N i v out H3' H3 hi ⟨s3,rfl⟩ ⟨t,kv,hkv,nt,rfl,rfl⟩ hN'
   obtain⟨H4,e4,f4,m4,_⟩:=b7 (o:= .tup _) nt
   rw[e4]
   have le4:=(a0E (o:=o3) X2.hq).trans (s3.trans m4).le
   have P4:=X2.at_.mono le4
   obtain⟨x,hx,ex,tb,eb,sb⟩:=P4.ts.get hkv
   obtain⟨kk,kvv⟩:=kv
   have ex':kk=Sum.inr x.1:=ex
   have eb':kvv= .ref tb:=eb
   subst ex' eb'
   refine K3 (SqT.of f4) rfl ?_
   walk_at "r"
   refine⟨rfl,?_⟩
   walk_at "r"
   refine a1m sb (by rintro⟨z,_⟩;exact absurd (show(1:Nat)=0 from z) (by decide)) (fun l5 n5=>?_)
   obtain⟨H5,e5,f5,m5,_⟩:=b7 (o:= .tup [.str x.2.2.1,.str x.2.2.2]) n5
   rw[show a1i (Q9 x.2) (some 1) none=[V.str x.2.2.1,.str x.2.2.2] from rfl,e5]
   walk_at "r"
   refine b3M (SqT.of f5) ?_
   walk_at "r"
   rw[show(if x.2.2.1.cps.toList<x.2.2.2.cps.toList then x.2.2.2 else x.2.2.1)=mxS x.2.2.1 x.2.2.2 from rfl]
   refine M4 (fun h1=>?_) (fun h1=>?_)
   ·walk_at "r"
    refine⟨i6 (by rw[List.length_map];have:=b2R (p:=fun x:Str×Tie=>decide (mxS x.2.2.1 x.2.2.2=n)) (s:=Pc.ts) (i:=i);omega),hN' _ _ ⟨s3.trans (m4.trans m5),?_⟩⟩
    rw[a1K hx (decide_eq_true h1),List.map_append];rfl
   ·exact hN' _ _ ⟨s3.trans (m4.trans m5),by rw[a1F hx (decide_eq_false h1)]⟩
  ·rintro out H3 ⟨s3,rfl⟩
   refine⟨⟨s3 _ _ d7,Nat.le_refl _⟩,fun D hD=>⟨i6 (by rw[List.length_map];have:=b2R (p:=fun x:Str×Tie=>decide (mxS x.2.2.1 x.2.2.2=n)) (s:=Pc.ts) (i:=kvs.length);omega),?_⟩⟩
   rw[List.take_of_length_le (by omega)]
   change P6 _ _ _ (thaw q (upd H3 D (.lst ((Z6 Pc.ts n).map fun x=>V.str x.1)))) _
   have sM:=a0Q X2.hq s3 hD (u:= .lst ((Z6 Pc.ts n).map fun x=>V.str x.1))
   have fM:=a4j s3 hD (u:= .lst ((Z6 Pc.ts n).map fun x=>V.str x.1))
   generalize thaw q (upd H3 D (.lst ((Z6 Pc.ts n).map fun x=>V.str x.1)))=HM at sM fM⊢
   have XM:=X2.same sM
   have hdue:∀x∈Z6 Pc.ts n,x∈Pc.ts:=fun x hx=>(List.mem_filter.mp hx).1
   have hdl:(Z6 Pc.ts n).length≤30:=Nat.le_trans (List.length_filter_le _ _) (by omega)
   generalize Z6 Pc.ts n=due at fM hdue hdl he k
   walk_at "r"
   refine z8 (SqL.of fM) ?_
   refine D3 (n:=due.length) (fun i out H'=>Same HM H'∧LsAt H' out ((due.take i).map fun x=>plL W gt fx x.1 (x.2.1,i9 (pKV (mm++[(n,im)])) x.2.2.1,i9 (pKV (mm++[(n,im)])) x.2.2.2))) ⟨Same.refl _,.nil⟩ (fun i out H' hi hp=>⟨_,.str (due[i]).1,SqL.of (hp.1 _ _ fM),by rw[List.getElem?_map,List.getElem?_eq_getElem hi];rfl⟩) ?_ ?_
   ·rintro N i v out H4' H4 hi ⟨s4,ls⟩ y hN'
    obtain⟨rfl,hy⟩:=Itl.get y (SqL.of (s4 _ _ fM))
    rw[List.getElem?_map] at hy
    obtain⟨x,hx,rfl⟩:=Option.map_eq_some_iff.mp hy
    have hxm:=List.mem_of_getElem? hx
    walk_at "r"
    refine⟨rfl,?_⟩
    walk_at "r"
    refine⟨a,p,q,c,pl,l1,kvs,kvc,kvp,_,L,Pc,W,s1,s2,gp,gt,fx,x,rfl,XM.same s4,hdue x hxm,.inl (s4 _ _ (sM _ _ f2)),a3E (he x hxm).1,a3E (he x hxm).2,fun v H5 m5 hv=>?_⟩
    have hll:=Paired.length ls
    rw[List.length_map,List.length_take] at hll
    refine⟨i6 (by omega),hN' _ _ ⟨s4.trans m5,?_⟩⟩
    rw[show due.take (i+1)=due.take i++[x] by rw[List.take_succ,hx];rfl,List.map_append]
    exact A9 (LsAt.same ls m5) hv
   ·rintro out H4 ⟨s4,ls⟩
    have hll:=Paired.length ls
    rw[List.length_map,List.length_take] at hll
    refine⟨⟨_,SqL.of (s4 _ _ fM),by rw[List.length_map];exact Nat.le_refl _⟩,fun D2 hD2=>⟨i6 (by omega),?_⟩⟩
    rw[List.take_of_length_le (Nat.le_refl _)] at ls
    obtain⟨H5,e5,f5,m5,_⟩:=b7 (H:=H4) (o:= .lst out) hD2
    change b1m _ (upd H4 D2 _) _
    rw[e5]
    walk_at "r"
    exact⟨D2,out,_,rfl,f5,LsAt.same ls m5,by rw[List.length_map];omega,fun H6 m6=>k H6 (m2.trans (sM.trans (s4.trans (m5.trans m6))))⟩
def a1p (K:PySem.W.Frag):Sp:=fun vs H Q _=>∃(a p q c pl bl:Addr) (kvs kvc kvp:List (Key×V)) (L:Str→Str→Bool) (Pc W:Web) (s1 s2 gp gt:List Str) (fx:List (Str×Str)) (b:List Str),vs=[.ref a,.ref c,.ref pl,.ref bl]∧Sx K H a p q c pl kvs kvc kvp L Pc W s1 s2 gp gt fx∧H bl=some (.lst (b.map V.str))∧b.length<(s1++s2).length∧b6H H Q fun ss=>ss=Q5 L Pc W gp gt fx (s1++s2) b
theorem a7K {f:Addr}{fd:FuncData}(T:Txt K mg)(L8:Cal P w K mg base CX0 1 "things" ["web"] [] (V8 K))(E8:Cal P w K mg base CX0 2 "tie_choices" ["piece","places","put","name"] [] (M9 K))(a0G:Cal P w K mg base CX0 3 "has_room" ["piece","places","put","name","image"] [] (a0g K))(F:Fun K "images" "images" X1 f fd):FnOk P w K mg base CX0 4 f fd ["piece","choices","places","begun"] (a1p K):=by
 refine F.ok sc_images (fun vs H Q E h=>?_) (fun cdv A outer s H vs Q E hr h=>?_)
 ·obtain⟨a,p,q,c,pl,bl,kvs,kvc,kvp,L,Pc,W,s1,s2,gp,gt,fx,b,rfl,_⟩:=h
  rfl
 ·obtain⟨a,p,q,c,pl,bl,kvs,kvc,kvp,L,Pc,W,s1,s2,gp,gt,fx,b,rfl,X0,hb,hlb,k⟩:=h
  have S:=X0.S
  have nn:=S.nn
  have hnl:=S.o.len
  have l1:=X0.l1
  have l2:=X0.l2
  have lgt:gt.length≤30:=by rw[S.o'.p2.length_eq,List.length_map];rw[z7] at l2;omega
  have lgp:gp.length≤30:=by rw[S.o'.p1.length_eq,List.length_map];rw[z7] at l2;omega
  obtain⟨n,hn⟩:∃n,(s1++s2)[b.length]?=some n:=⟨_,List.getElem?_eq_getElem hlb⟩
  have hN:=sc_images.nd
  have hu:=B9 hr
  refine⟨_,QSs.r (qsC (o0 (i:=4) hN rfl (by walk_at "l") (qC L8 (hr.mono (by decide)) r9 (qa1 (qV 0) qa0)))
   (qsC (o0 (i:=5) hN rfl (by walk_at "l") (qIx (kIx K hu) (qV 4) (qB (E2 K P w) T.b_len Boot.«len» (qa1 (qV 3) qa0)) (fun _ _=>rfl)))
   (qsC (o0 (i:=6) hN rfl (by walk_at "l") (qDZ K T.b_dict T.b_zip rfl (qa1 (qV 4) (qa1 (qV 3) qa0))))
   (qsC (qIf (w5 (kIn K hu) (qV 5) (qIx (kIx K hu) (qV 0) d9 (fun _ _=>rfl)) (by rfl)) (qs1 (D5 (a0O (own:=["image"]) (js:=[3]) (by kernel_rfl) rfl (V1 K (qC E8 (hr.mono (by decide)) r9 (qa1 (qV 0) (qa1 (qV 2) (qa1 (qV 6) (qa1 (qV 5) qa0)))))) (fun _ _ _ _=>(qgN (i:=0) (show List.Nodup (["image","begun"]:List Str) by decide+kernel) rfl (by walk_at "l"))) (fun _ _ _ _=>(a3S (w5 (U7 K hu) (qV 0) (qV 1) (by rfl)))) (fun _ _ _ _=>(qV 0))))) qs0)
   (qsC (V3 (i:=7) hN rfl (by walk_at "l") (own:=["image"]) (js:=[3]) (by kernel_rfl) rfl (V1 K (qIx (kIx K hu) (qV 1) (qV 5) (fun _ _=>rfl))) (fun _ _ _ _=>(qgN (i:=0) (show List.Nodup (["image","begun"]:List Str) by decide+kernel) rfl (by walk_at "l"))) (fun _ _ _ _=>(a3S (w5 (U7 K hu) (qV 0) (qV 1) (by rfl)))) (fun _ _ _ _=>(qV 0)))
   (qs1 (D5 (a0O (own:=["image"]) (js:=[0,2,6,5]) (by kernel_rfl) rfl (V1 K (qV 7)) (fun _ _ _ _=>(qgN (i:=0) (show List.Nodup (["image","piece","places","put","name"]:List Str) by decide+kernel) rfl (by walk_at "l"))) (fun _ _ _ _=>(a3S (a0s K (qC a0G (hr.mono (by decide)) r9 (qa1 (qV 1) (qa1 (qV 2) (qa1 (qV 3) (qa1 (qV 4) (qa1 (qV 0) qa0))))))))) (fun _ _ _ _=>(qV 0)))))))))),?_⟩
  walk_at "r"
  refine⟨a,p,q,kvs,Pc,rfl,X0.at_,by omega,fun ln H1 r1 r2 n1 m1 f1 or=>?_⟩
  have er1:r1=s1:=A8 or.o1 S.o.o1 (or.p1.nodup_iff.mpr (A6 S.nd)) (or.p1.trans S.o.p1.symm)
  have er2:r2=s2:=A8 or.o2 S.o.o2 (or.p2.nodup_iff.mpr (N3 S.nd)) (or.p2.trans S.o.p2.symm)
  subst er1 er2
  walk_at "r"
  refine D0 (j8 (SqL.of (m1 _ _ hb)) ?_)
  rw[List.length_map]
  refine i7 (SqL.of f1) (i:=(b.length:Int)) (v:= .str n) (h8 (j:=b.length) (by rw[List.getElem?_map,hn];rfl)) ?_
  walk_at "r"
  refine⟨ln,bl,(r1++r2).map Sum.inr,b.map V.str,rfl,by rw[←a7n];exact SqL.of f1,SqL.of (m1 _ _ hb),fun d nd=>?_⟩
  rw[a4y nn]
  obtain⟨H2,e2,f2,m2,_⟩:=b7 (o:= .dK (pKV ((r1++r2).zip b))) nd
  rw[e2]
  have m12:=m1.trans m2
  have X2:=X0.same m12
  have hb2:=m12 _ _ hb
  walk_at "r"
  refine d8 X2.at_.tup (h8 (j:=1) rfl) ?_
  walk_at "r"
  refine a4s (R0 (k:=Sum.inr n) X2.at_.ties) ?_
  rw[a8r X2.at_.ts]
  walk_at "r"
  have hfil:∀(p:Str→Bool) (l:List Str),l.length≤30→∀i,((l.take i).filter p).length≤1000:=fun p l hl i=>Nat.le_trans a1z (by omega)
  refine M4 (fun h1=>?_) (fun h1=>?_)
  ·have hle:r1.length≤b.length:=by
    rcases S.is1 hn with⟨z,_⟩|⟨_,z⟩
    ·exact absurd h1 z
    ·exact z
   have hin:=Z0 h1
   have he:=S.ends _ hin
   obtain⟨j1,hj1,hk1⟩:=S.pt_idx he.1
   obtain⟨j2,hj2,hk2⟩:=S.pt_idx he.2
   walk_at "r"
   refine⟨a,p,q,c,pl,d,kvs,kvc,kvp,_,L,Pc,W,r1,r2,gp,gt,fx,(n,C7 Pc.ts n),rfl,X2,hin,.inl f2,a3E (a4c hk1 (by omega)),a3E (a4c hk2 (by omega)),fun v H3 m3 hv=>?_⟩
   obtain⟨lv,rfl,hlv⟩:=hv
   have etc:plL W gt fx n ((C7 Pc.ts n).1,i9 (pKV ((r1++r2).zip b)) (C7 Pc.ts n).2.1,i9 (pKV ((r1++r2).zip b)) (C7 Pc.ts n).2.2)=tcL W gt fx (r1++r2) b (n,C7 Pc.ts n):=rfl
   dsimp only at hlv
   rw[etc] at hlv
   have hcl:(tcL W gt fx (r1++r2) b (n,C7 Pc.ts n)).length≤30:=Nat.le_trans (List.length_filter_le _ _) lgt
   generalize htc:tcL W gt fx (r1++r2) b (n,C7 Pc.ts n)=tc at hlv hcl
   refine z8 (SqL.of hlv) ?_
   refine D3 (n:=tc.length) (fun i out H'=>Same H3 H'∧out=((tc.take i).filter fun x=>!decide (x∈b)).map V.str) ⟨Same.refl _,rfl⟩ (fun i out H' hi hp=>⟨_,.str (tc[i]),SqL.of (hp.1 _ _ hlv),by rw[List.getElem?_map,List.getElem?_eq_getElem hi];rfl⟩) ?_ ?_
   ·rintro N i v out H4' H4 hi ⟨s4,rfl⟩ y hN'
    obtain⟨rfl,hy⟩:=Itl.get y (SqL.of (s4 _ _ hlv))
    rw[List.getElem?_map] at hy
    obtain⟨x,hx,rfl⟩:=Option.map_eq_some_iff.mp hy
    walk_at "r"
    refine⟨rfl,?_⟩
    walk_at "r"
    refine I0 (gs:=b) (SqL.of (s4 _ _ (m3 _ _ hb2))) ?_
    walk_at "r"
    refine U4 (fun h2=>?_) (fun h2=>?_)
    ·walk_at "r"
     refine⟨i6 (by rw[List.length_map];exact hfil _ _ hcl _),hN' _ _ ⟨s4,?_⟩⟩
     rw[a7T hx h2,List.map_append];rfl
    ·exact hN' _ _ ⟨s4,by rw[a6a hx h2]⟩
   ·rintro out H4 ⟨s4,rfl⟩
    refine⟨⟨_,SqL.of (s4 _ _ hlv),by rw[List.length_map];exact Nat.le_refl _⟩,fun D hD=>⟨i6 (by rw[List.length_map];exact hfil _ _ hcl _),?_⟩⟩
    rw[List.take_of_length_le (Nat.le_refl _)]
    obtain⟨H5,e5,f5,m5,_⟩:=b7 (H:=H4) (o:= .lst ((tc.filter fun x=>!decide (x∈b)).map V.str)) hD
    show Q _ (upd H4 D _)
    rw[e5]
    refine k D H5 _ (m12.free (m3.free (s4.free hD))) (m12.trans (m3.trans (s4.trans m5))) f5 ?_
    unfold Q5
    rw[hn]
    dsimp only
    rw[if_pos h1,htc]
  ·have hlt:b.length<r1.length:=by
    rcases S.is1 hn with⟨_,z⟩|⟨z,_⟩
    ·exact z
    ·exact absurd z h1
   have hm:n∈Pc.pts.map (·.1):=by
    rcases List.mem_append.mp (S.o.mem.mp (List.mem_of_getElem? hn)) with z|z
    ·exact z
    ·exact absurd z h1
   obtain⟨y,hy,ey⟩:=List.mem_map.mp hm
   obtain⟨v,hv,lv,rfl,hlv⟩:=a2r (R:=fun v (x:Str×Str)=>LstAt H2 v (chL L gp fx x.1)) (show Paired _ _ _ from X2.ch) (A6 S.nd) hy
   rw[ey] at hv hlv
   have hcl:(chL L gp fx n).length≤30:=Nat.le_trans (List.length_filter_le _ _) (Nat.le_trans (List.length_filter_le _ _) lgp)
   generalize htc:chL L gp fx n=tc at hlv hcl
   walk_at "r"
   refine v0 (v:= .ref lv) (by have z:=R0 (k:=Sum.inr n) (.inl X2.hc);rw[hv] at z;exact z) ?_
   refine z8 (SqL.of hlv) ?_
   refine D3 (n:=tc.length) (fun i out H'=>Same H2 H'∧out=((tc.take i).filter fun x=>!decide (x∈b)).map V.str) ⟨Same.refl _,rfl⟩ (fun i out H' hi hp=>⟨_,.str (tc[i]),SqL.of (hp.1 _ _ hlv),by rw[List.getElem?_map,List.getElem?_eq_getElem hi];rfl⟩) ?_ ?_
   ·rintro N i v out H4' H4 hi ⟨s4,rfl⟩ y hN'
    obtain⟨rfl,hy⟩:=Itl.get y (SqL.of (s4 _ _ hlv))
    rw[List.getElem?_map] at hy
    obtain⟨x,hx,rfl⟩:=Option.map_eq_some_iff.mp hy
    walk_at "r"
    refine⟨rfl,?_⟩
    walk_at "r"
    refine I0 (gs:=b) (SqL.of (s4 _ _ hb2)) ?_
    walk_at "r"
    refine U4 (fun h2=>?_) (fun h2=>?_)
    ·walk_at "r"
     refine⟨i6 (by rw[List.length_map];exact hfil _ _ hcl _),hN' _ _ ⟨s4,?_⟩⟩
     rw[a7T hx h2,List.map_append];rfl
    ·exact hN' _ _ ⟨s4,by rw[a6a hx h2]⟩
   ·rintro out H4 ⟨s4,rfl⟩
    refine⟨⟨_,SqL.of (s4 _ _ hlv),by rw[List.length_map];exact Nat.le_refl _⟩,fun D hD=>⟨i6 (by rw[List.length_map];exact hfil _ _ hcl _),?_⟩⟩
    rw[List.take_of_length_le (Nat.le_refl _)]
    obtain⟨H5,e5,f5,m5,_⟩:=b7 (H:=H4) (o:= .lst ((tc.filter fun x=>!decide (x∈b)).map V.str)) hD
    have hul:(tc.filter fun x=>!decide (x∈b)).length≤30:=Nat.le_trans (List.length_filter_le _ _) hcl
    generalize hun:(tc.filter fun x=>!decide (x∈b))=un at e5 f5 hul⊢
    change P6 _ _ _ (upd H4 D _) _
    rw[e5]
    have m25:=s4.trans m5
    have X5:=X2.same m25
    walk_at "r"
    refine z8 (SqL.of f5) ?_
    refine D3 (n:=un.length) (fun i out H'=>Same H5 H'∧out=((un.take i).filter fun im=>enB ((Z6 Pc.ts n).map (tcL W gt fx (r1++r2) (b++[im])))).map V.str) ⟨Same.refl _,rfl⟩ (fun i out H' hi hp=>⟨_,.str (un[i]),SqL.of (hp.1 _ _ f5),by rw[List.getElem?_map,List.getElem?_eq_getElem hi];rfl⟩) ?_ ?_
    ·rintro N i v out H6' H6 hi ⟨s6,rfl⟩ y hN'
     obtain⟨rfl,hy⟩:=Itl.get y (SqL.of (s6 _ _ f5))
     rw[List.getElem?_map] at hy
     obtain⟨x,hx,rfl⟩:=Option.map_eq_some_iff.mp hy
     walk_at "r"
     refine⟨rfl,?_⟩
     walk_at "r"
     have hs1:r1[b.length]=n:=by
      rw[List.getElem?_append_left hlt,List.getElem?_eq_getElem hlt] at hn
      exact Option.some.inj hn
     have ends:∀t∈Z6 Pc.ts n,t.2.2.1∈((r1++r2).zip b++[(n,x)]).map (·.1)∧t.2.2.2∈((r1++r2).zip b++[(n,x)]).map (·.1):=fun t ht=>by
      unfold Z6 at ht
      rw[List.mem_filter,decide_eq_true_eq] at ht
      have he:=S.ends t ht.1
      rw[←a1l hn]
      have q1:¬(r1[b.length].cps.toList<t.2.2.1.cps.toList):=by
       rw[hs1,←ht.2]
       unfold mxS
       split
       ·next z=>exact List.lt_asymm z
       ·exact List.lt_irrefl _
      have q2:¬(r1[b.length].cps.toList<t.2.2.2.cps.toList):=by
       rw[hs1,←ht.2]
       unfold mxS
       split
       ·exact List.lt_irrefl _
       ·next z=>exact z
      obtain⟨j1,a1,b1⟩:=a1V S hlt he.1 q1
      obtain⟨j2,a2,b2⟩:=a1V S hlt he.2 q2
      exact⟨a4c b1 (by rw[List.length_append,List.length_singleton];omega),a4c b2 (by rw[List.length_append,List.length_singleton];omega)⟩
     refine⟨a,p,q,c,pl,d,kvs,kvc,kvp,L,Pc,W,r1,r2,gp,gt,fx,(r1++r2).zip b,n,x,rfl,X5.same s6,s6 _ _ (m25 _ _ f2),by rw[List.length_zip];omega,a7G nn hn,ends,fun H7 m7=>?_⟩
     have een:((Z6 Pc.ts n).map fun t=>plL W gt fx t.1 (t.2.1,i9 (pKV ((r1++r2).zip b++[(n,x)])) t.2.2.1,i9 (pKV ((r1++r2).zip b++[(n,x)])) t.2.2.2))=(Z6 Pc.ts n).map (tcL W gt fx (r1++r2) (b++[x])):=by
      rw[←a1l hn];rfl
     rw[een]
     walk_at "r"
     refine U4 (fun h2=>?_) (fun h2=>?_)
     ·walk_at "r"
      refine⟨i6 (by rw[List.length_map];exact hfil _ _ hul _),hN' _ _ ⟨s6.trans m7,?_⟩⟩
      rw[a7T hx h2,List.map_append];rfl
     ·exact hN' _ _ ⟨s6.trans m7,by rw[a6a hx h2]⟩
    ·rintro out H6 ⟨s6,rfl⟩
     refine⟨⟨_,SqL.of (s6 _ _ f5),by rw[List.length_map];exact Nat.le_refl _⟩,fun D2 hD2=>⟨i6 (by rw[List.length_map];exact hfil _ _ hul _),?_⟩⟩
     rw[List.take_of_length_le (Nat.le_refl _)]
     obtain⟨H7,e7,f7,m7,_⟩:=b7 (H:=H6) (o:= .lst ((un.filter fun im=>enB ((Z6 Pc.ts n).map (tcL W gt fx (r1++r2) (b++[im])))).map V.str)) hD2
     show Q _ (upd H6 D2 _)
     rw[e7]
     refine k D2 H7 _ (m12.free (m25.free (s6.free hD2))) (m12.trans (m25.trans (s6.trans m7))) f7 ?_
     unfold Q5
     rw[hn]
     dsimp only
     rw[if_neg h1,htc,hun]
def ndL (img:List Str→List Str):Nat→List Str→Nat
 |0,_=>1
 |k+1,b=>1+((img b).map fun x=>ndL img k (b++[x])).sum
theorem a3R {α:Type}{f:α→Nat}{B:Nat}:∀{l:List α},(∀x∈l,f x≤B)→(l.map f).sum≤l.length*B
 |[],_=>by simp
 |x::l,h=>by
  have z:=a3R (l:=l) fun y hy=>h y (List.mem_cons_of_mem _ hy)
  have z1:=h x List.mem_cons_self
  rw[List.map_cons,List.sum_cons,List.length_cons,Nat.add_mul];omega
theorem b3C {img:List Str→List Str}{k:Nat}{b:List Str}:1≤ndL img k b:=by
 cases k with
 |zero=>exact Nat.le_refl _
 |succ k=>show 1≤1+_;omega
theorem a7a {α:Type}{f:α→Nat}:∀{l:List α},(∀x∈l,1≤f x)→l.length≤(l.map f).sum
 |[],_=>Nat.le_refl _
 |x::l,h=>by
  have z:=a7a (l:=l) fun y hy=>h y (List.mem_cons_of_mem _ hy)
  have z1:=h x List.mem_cons_self
  rw[List.map_cons,List.sum_cons,List.length_cons];omega
theorem a6J {L:Str→Str→Bool}{Pc W:Web}{s1 s2 gp gt:List Str}{fx:List (Str×Str)}(S:SrchP L Pc W s1 s2 gp gt fx)(b:List Str):(Q5 L Pc W gp gt fx (s1++s2) b).length≤max W.pts.length W.ts.length:=by
 have h1:=S.o'.p1.length_eq
 have h2:=S.o'.p2.length_eq
 rw[List.length_map] at h1 h2
 unfold Q5
 split
 ·simp
 ·split
  ·exact Nat.le_trans (List.length_filter_le _ _) (Nat.le_trans (List.length_filter_le _ _) (by omega))
  ·exact Nat.le_trans (List.length_filter_le _ _) (Nat.le_trans (List.length_filter_le _ _) (Nat.le_trans (List.length_filter_le _ _) (Nat.le_trans (List.length_filter_le _ _) (by omega))))
theorem a6D {c:Str}:∀{l:List Str},l.Nodup→(∀x∈l,x=c)→l.length≤1
 |[],_,_=>Nat.zero_le _
 |[_],_,_=>Nat.le_refl _
 |x::y::l,nd,h=>by
  have e1:=h x (by simp)
  have e2:=h y (by simp)
  rw[e1,e2] at nd
  exact absurd List.mem_cons_self (List.nodup_cons.mp nd).1
theorem b1M {L:Str→Str→Bool}{Pc W:Web}{s1 s2 gp gt:List Str}{fx:List (Str×Str)}(S:SrchP L Pc W s1 s2 gp gt fx){b:List Str}{n:Str}(hn:(s1++s2)[b.length]?=some n)(hf:n∈fx.map (·.1)):(Q5 L Pc W gp gt fx (s1++s2) b).length≤1:=by
 have ndp:gp.Nodup:=S.o'.p1.nodup_iff.mpr (A6 S.nd')
 have ndt:gt.Nodup:=S.o'.p2.nodup_iff.mpr (N3 S.nd')
 have hm:∀im,N4 fx n im=true→im=i9 (pKV fx) n:=fun im h=>by
  unfold N4 at h
  rw[if_pos hf] at h
  exact of_decide_eq_true h
 unfold Q5
 rw[hn]
 show(if _ then _ else _:List Str).length≤1
 split
 ·refine a6D (c:=i9 (pKV fx) n) ((ndt.sublist List.filter_sublist).sublist List.filter_sublist) fun x hx=>?_
  have z:=(List.mem_filter.mp (List.mem_filter.mp hx).1).2
  exact hm x (Bool.and_eq_true_iff.mp z).2
 ·refine a6D (c:=i9 (pKV fx) n) ((((ndp.sublist List.filter_sublist).sublist List.filter_sublist).sublist List.filter_sublist).sublist List.filter_sublist) fun x hx=>?_
  exact hm x (List.mem_filter.mp (List.mem_filter.mp (List.mem_filter.mp hx).1).1).2
theorem a8F {L:Str→Str→Bool}{Pc W:Web}{s1 s2 gp gt:List Str}{fx:List (Str×Str)}(S:SrchP L Pc W s1 s2 gp gt fx):∀(k:Nat) (b:List Str),b.length+k=(s1++s2).length→ndL (Q5 L Pc W gp gt fx (s1++s2)) k b≤(k+1)*(max W.pts.length W.ts.length+1) ^ (((s1++s2).drop b.length).filter (A4 fx)).length
 |0,b,_=>by
  show 1≤_
  rw[Nat.zero_add,Nat.one_mul]
  exact Nat.one_le_pow _ _ (by omega)
 |k+1,b,hk=>by
  obtain⟨n,hn⟩:∃n,(s1++s2)[b.length]?=some n:=⟨_,List.getElem?_eq_getElem (by omega)⟩
  have hd:(s1++s2).drop b.length=n::(s1++s2).drop (b.length+1):=by
   rw[List.drop_eq_getElem_cons (by omega)]
   rw[List.getElem?_eq_getElem (by omega)] at hn
   rw[Option.some.inj hn]
  have hM:=a6J S b
  generalize hMM:max W.pts.length W.ts.length=M at*
  have ih:∀x∈Q5 L Pc W gp gt fx (s1++s2) b,ndL (Q5 L Pc W gp gt fx (s1++s2)) k (b++[x])≤(k+1)*(M+1) ^ (((s1++s2).drop (b.length+1)).filter (A4 fx)).length:=fun x _=>by
   have z:=a8F S k (b++[x]) (by rw[List.length_append,List.length_singleton];omega)
   rw[List.length_append,List.length_singleton,hMM] at z
   exact z
  have z:=a3R (f:=fun x=>ndL (Q5 L Pc W gp gt fx (s1++s2)) k (b++[x])) ih
  have z2:1≤(M+1) ^ (((s1++s2).drop (b.length+1)).filter (A4 fx)).length:=Nat.one_le_pow _ _ (by omega)
  show 1+_≤(k+1+1)*_
  rw[hd,List.filter_cons]
  generalize hc:(((s1++s2).drop (b.length+1)).filter (A4 fx)).length=c at*
  by_cases hf:n∈fx.map (·.1)
  ·have h1:=b1M S hn hf
   rw[if_neg (by unfold A4;simp [hf]),hc]
   have z3:(Q5 L Pc W gp gt fx (s1++s2) b).length*((k+1)*(M+1) ^ c)≤1*((k+1)*(M+1) ^ c):=Nat.mul_le_mul_right _ h1
   rw[Nat.add_mul (k+1) 1];omega
  ·rw[if_pos (by unfold A4;simp [hf]),List.length_cons,hc,Nat.pow_succ]
   have z3:(Q5 L Pc W gp gt fx (s1++s2) b).length*((k+1)*(M+1) ^ c)≤M*((k+1)*(M+1) ^ c):=Nat.mul_le_mul_right _ hM
   have e1:(k+1+1)*((M+1) ^ c*(M+1))=M*((k+1)*(M+1) ^ c)+((k+1)*(M+1) ^ c+((M+1) ^ c*(M+1))):=by
    rw[Nat.add_mul (k+1) 1,Nat.one_mul,←Nat.mul_assoc (k+1),Nat.mul_add ((k+1)*(M+1) ^ c) M 1,Nat.mul_one,Nat.mul_comm ((k+1)*(M+1) ^ c) M]
    omega
   rw[e1]
   have z4:1≤(k+1)*(M+1) ^ c:=Nat.mul_pos (by omega) z2
   omega
def tkM (mo:Option Nat)(rows:List (List Str)):List (List Str):=match mo with
 |none=>rows
 |some k=>rows.take k
def goM (mo:Option Nat)(n:Int):Bool:=match mo with
 |none=>true
 |some k=>!decide (n=(k:Int))
def b3H (mv:V)(mo:Option Nat):Prop:=(mv= .non∧mo=none)∨(mv= .int 1∧mo=some 1)
def LoAt (H:Hp)(t w:Addr)(xs:List V)(ls:List (List Str)):Prop:=Paired (fun v l=>∃a,v=V.ref a∧a≠t∧a≠w∧H a=some (.lst (l.map V.str))) xs ls
theorem LoAt.same {H H':Hp}{t w:Addr}{xs:List V}{ls:List (List Str)}(h:LoAt H t w xs ls)(s:Same H H'):LoAt H' t w xs ls:=Paired.imp' (fun _ _ ⟨a,e,n,m,z⟩=>⟨a,e,n,m,s _ _ z⟩) h
theorem LoAt.upT {H:Hp}{t w:Addr}{xs:List V}{ls:List (List Str)}{u:HO}(h:LoAt H t w xs ls):LoAt (upd H t u) t w xs ls:=Paired.imp' (fun _ _ ⟨a,e,n,m,z⟩=>⟨a,e,n,m,by rw[b5 n];exact z⟩) h
theorem LoAt.upW {H:Hp}{t w:Addr}{xs:List V}{ls:List (List Str)}{u:HO}(h:LoAt H t w xs ls):LoAt (upd H w u) t w xs ls:=Paired.imp' (fun _ _ ⟨a,e,n,m,z⟩=>⟨a,e,n,m,by rw[b5 m];exact z⟩) h
theorem a0V {α β:Type}{F:α→β→Prop}:∀{xs:List α} {ls:List β},Paired F xs ls→xs≠[]→∃xs' x ls' l,xs=xs'++[x]∧ls=ls'++[l]∧Paired F xs' ls'∧F x l
 |_,_,.nil,h=>absurd rfl h
 |[x],[l],.cons a .nil,_=>⟨[],x,[],l,rfl,rfl,.nil,a⟩
 |x::y::xs,l::m::ls,.cons a t,_=>by
  obtain⟨xs',x',ls',l',e1,e2,h1,h2⟩:=a0V t (by simp)
  exact⟨x::xs',x',l::ls',l',by rw[e1];rfl,by rw[e2];rfl,.cons a h1,h2⟩
structure LI (mo:Option Nat) (K:PySem.W.Frag) (img:List Str→List Str) (n:Nat) (H0 H':Hp) (tl wl:Addr) (xt xw:List V) (rows bs:List (List Str)) (m:Nat):Prop where
 s:Same H0 H'
 ht:H' tl=some (.lst xt)
 hw:H' wl=some (.lst xw)
 lt:LoAt H' tl wl xt rows
 lw:LoAt H' tl wl xw bs
 bl:∀b∈bs,b.length≤n
 sum:m=(bs.map fun b=>ndL img (n -b.length) b).sum
 all:rows++bs.reverse.flatMap (fun b=>a1D img (n -b.length) b)=a1D img n []
 big:rows.length+m≤1000000
 le1:mo=some 1→rows.length≤1
def a2C (K:PySem.W.Frag):Sp:=fun vs H Q _=>∃(a p q c pl:Addr) (kvs kvc kvp:List (Key×V)) (L:Str→Str→Bool) (Pc W:Web) (s1 s2 gp gt:List Str) (fx:List (Str×Str)) (mv:V) (mo:Option Nat),vs=[.ref a,.ref c,.ref pl,mv]∧b3H mv mo∧Sx K H a p q c pl kvs kvc kvp L Pc W s1 s2 gp gt fx∧
 ∀(l:Addr) (H':Hp) (xs:List V),H l=none→Same H H'→H' l=some (.lst xs)→LsAt H' xs (tkM mo (a1f Pc W s1 s2 gp gt fx))→(a1f Pc W s1 s2 gp gt fx).length≤1000000→Q (.ref l) H'
theorem a1q {n:Nat}(h:n≤2000000):n<sizeLine:=Nat.lt_of_le_of_lt h (by decide)
theorem a3U {H:Hp}{Q:VK}{i:Int}(q:Q (.bl true) H):a2e K (.int i) .non H Q:= .inl (.inl (.inl ⟨rfl,by simpa using q⟩))
theorem a7C {H:Hp}{Q:VK}{i:Int}{mv:V}{mo:Option Nat}(h:b3H mv mo)(q:Q (.bl (goM mo i)) H):a2e K (.int i) mv H Q:=by
 rcases h with⟨rfl,rfl⟩|⟨rfl,rfl⟩
 ·exact a3U q
 ·exact a5i q
theorem a7d {img:List Str→List Str}:∀{k:Nat} {b:List Str},(a1D img k b).length≤ndL img k b
 |0,_=>Nat.le_refl _
 |k+1,b=>by
  show((img b).flatMap fun x=>a1D img k (b++[x])).length≤1+((img b).map fun x=>ndL img k (b++[x])).sum
  rw[List.length_flatMap]
  have z:((img b).map fun x=>(a1D img k (b++[x])).length).sum≤((img b).map fun x=>ndL img k (b++[x])).sum:=by
   generalize img b=l
   induction l with
   |nil=>exact Nat.le_refl _
   |cons x l ih=>
    rw[List.map_cons,List.map_cons,List.sum_cons,List.sum_cons]
    exact Nat.add_le_add a7d ih
  omega
theorem b0s {f:Addr}{fd:FuncData}(T:Txt K mg)(L8:Cal P w K mg base CX0 1 "things" ["web"] [] (V8 K))(a2o:Cal P w K mg base CX0 4 "images" ["piece","choices","places","begun"] [] (a1p K))(F:Fun K "lines" "lines" a0h f fd):FnOk P w K mg base CX0 5 f fd ["piece","choices","places","most"] (a2C K):=by
 refine F.ok sc_lines (fun vs H Q E h=>?_) (fun cdv A outer s H vs Q E hr h=>?_)
 ·obtain⟨a,p,q,c,pl,kvs,kvc,kvp,Lr,Pc,W,s1,s2,gp,gt,fx,mv,mo,rfl,_⟩:=h
  rfl
 ·obtain⟨a,p,q,c,pl,kvs,kvc,kvp,Lr,Pc,W,s1,s2,gp,gt,fx,mv,mo,rfl,hmo,X0,k⟩:=h
  have S:=X0.S
  have hnl:=S.o.len
  have l1:=X0.l1
  have l2:=X0.l2
  have l2':=l2
  rw[z7] at l2'
  have hext:=a9V S
  have hM:=a6J S
  have hnd0:=a8F S (s1++s2).length [] (by simp)
  have hbig:=X0.big
  rw[←hnl,←(S.o.perm.filter (A4 fx)).length_eq] at hbig
  rw[show([]:List Str).length=0 from rfl,List.drop_zero] at hnd0
  have hN:=sc_lines.nd
  have hu:=B9 hr
  refine⟨_,QSs.r (qsC (o0 (i:=4) hN rfl (by walk_at "l") (qC L8 (hr.mono (by decide)) r9 (qa1 (qV 0) qa0)))
   (qsC (o0 (i:=5) hN rfl (by walk_at "l") (O7 qa0))
   (qsC (o0 (i:=6) hN rfl (by walk_at "l") (O7 (qa1 (O7 qa0) qa0)))
   (qsC (b3e PassesOwn.never (qtW (a2H (a0s K (qV 6)) (a2x (w5 (a3C K hr) (qB (E2 K P w) T.b_len Boot.«len» (qa1 (qV 5) qa0)) (qV 3) (t5 _))))) (qsC (o0 (i:=7) hN rfl (by walk_at "l") (qM0 PySem.F.plainAttrs_list PySem.F.slot_list_pop PySem.F.type_list_pop a4e K (qV 6)))
   (qs1 (qIf (w5 (Q8 K hr) (qB (E2 K P w) T.b_len Boot.«len» (qa1 (qV 7) qa0)) (qB (E2 K P w) T.b_len Boot.«len» (qa1 (qV 4) qa0)) (t5 _)) (qs1 (qEx (qM PySem.F.plainAttrs_list PySem.F.slot_list_append PySem.F.type_list_append u0 K (qV 5) (qa1 (qV 7) qa0)))) (qs1 (N5 PassesOwn.never rfl (a4z K T.b_reversed (qa1 (qC a2o (hr.mono (by decide)) r9 (qa1 (qV 0) (qa1 (qV 1) (qa1 (qV 2) (qa1 (qV 7) qa0))))) qa0)) (qgN (i:=8) hN rfl (by walk_at "l"))
    (qs1 (qEx (qM PySem.F.plainAttrs_list PySem.F.slot_list_append PySem.F.type_list_append u0 K (qV 6) (qa1 (qOp (B4 K) (qV 7) (O7 (qa1 (qV 8) qa0))) qa0))))))))))
   (qs1 (D5 (qV 5))))))),?_⟩
  walk_at "r"
  refine⟨a,p,q,kvs,Pc,rfl,X0.at_,by omega,fun ln H1 r1 r2 n1 m1 f1 or=>?_⟩
  have er1:r1=s1:=A8 or.o1 S.o.o1 (or.p1.nodup_iff.mpr (A6 S.nd)) (or.p1.trans S.o.p1.symm)
  have er2:r2=s2:=A8 or.o2 S.o.o2 (or.p2.nodup_iff.mpr (N3 S.nd)) (or.p2.trans S.o.p2.symm)
  subst er1 er2
  walk_at "r"
  refine⟨i6 (by simp),fun tl ntl=>?_⟩
  obtain⟨H2,e2,f2,m2,_⟩:=b7 (o:= .lst []) ntl
  rw[e2]
  walk_at "r"
  refine⟨i6 (by simp),fun l3 n3=>?_⟩
  obtain⟨H3,e3,f3,m3,_⟩:=b7 (o:= .lst []) n3
  rw[e3]
  walk_at "r"
  refine⟨i6 (by simp),fun wl nwl=>?_⟩
  obtain⟨H4,e4,f4,m4,_⟩:=b7 (o:= .lst [.ref l3]) nwl
  rw[e4]
  walk_at "r"
  have f2':=m4 _ _ (m3 _ _ f2)
  have f3':=m4 _ _ f3
  have h3t:l3≠tl:=(b9 f2 n3).symm
  have h3w:l3≠wl:=b9 f3 nwl
  have htw:tl≠wl:=b9 (m3 _ _ f2) nwl
  have m14:=m2.trans (m3.trans m4)
  have nwl1:H1 wl=none:=m2.free (m3.free nwl)
  generalize hN:(r1++r2).length=n at*
  generalize himg:Q5 Lr Pc W gp gt fx (r1++r2)=img at*
  refine⟨fun m σ H'=>∃(xt xw:List V) (rows bs:List (List Str)) (v1 v2:Option V),σ=[some (.ref a),some (.ref c),some (.ref pl),some mv,some (.ref ln),some (.ref tl),some (.ref wl),v1,v2]∧LI mo K img n H1 H' tl wl xt xw rows bs m,⟨_,[],[.ref l3],[],[[]],none,none,rfl,⟨m14,f2',f4,.nil,.cons ⟨l3,rfl,h3t,h3w,f3'⟩ .nil,(fun b hb=>by rw[List.mem_singleton.mp hb];exact Nat.zero_le _),rfl,by simp,?_,fun _=>Nat.zero_le _⟩⟩,?_⟩
  ·show 0+(ndL img n []+0)≤1000000
   omega
  rintro m σ H5 ⟨xt,xw,rows,bs,v1,v2,rfl,L⟩
  have hbl:bs.length≤m:=by rw[L.sum];exact a7a fun _ _=>b3C
  have hwl:=Paired.length L.lw
  have htl:=Paired.length L.lt
  have hb5:=L.big
  walk_at "r"
  refine⟨!xw.isEmpty,.inl ⟨_,SqL.of L.hw,rfl⟩,?_⟩
  cases hxe:xw.isEmpty with
  |true=>
   walk_at "r"
   have hx0:xw=[]:=by simpa using hxe
   have hb0:bs=[]:=by
    have:bs.length=0:=by rw[←hwl,hx0];rfl
    exact List.eq_nil_of_length_eq_zero this
   have ha:=L.all
   rw[hb0] at ha
   simp only[List.reverse_nil,List.flatMap_nil,List.append_nil] at ha
   rw[hext] at ha
   have hle:=L.le1
   refine k tl H5 xt (m1.free ntl) (m1.trans L.s) L.ht ?_ ?_
   ·rw[←ha]
    have e:tkM mo rows=rows:=by
     rcases hmo with⟨_,rfl⟩|⟨_,rfl⟩
     ·rfl
     ·exact List.take_of_length_le (hle rfl)
    rw[e]
    exact Paired.imp' (fun _ _ ⟨a,e,_,_,z⟩=>⟨a,e,z⟩) L.lt
   ·rw[←ha];omega
  |false=>
   have hxne:xw≠[]:=by
    intro z;rw[z] at hxe;cases hxe
   walk_at "r"
   refine D0 (j8 (SqL.of L.ht) ?_)
   walk_at "r"
   refine a7C hmo ?_
   walk_at "r"
   refine U4 (fun hgo=>?_) (fun hgo=>?_)
   case refine_2=>
    walk_at "r"
    have hall:=L.all
    rw[hext] at hall
    have h1:mo=some 1∧rows.length=1:=by
     rcases hmo with⟨_,rfl⟩|⟨_,rfl⟩
     ·cases hgo
     ·refine⟨rfl,?_⟩
      have z:(!decide ((xt.length:Int)=((1:Nat):Int)))=false:=hgo
      simp at z
      omega
    have hel:=a7d (img:=img) (k:=n) (b:=[])
    rw[hext] at hel
    refine k tl H5 xt (m1.free ntl) (m1.trans L.s) L.ht ?_ (by omega)
    rw[h1.1,←hall]
    show LsAt H5 xt (List.take 1 _)
    rw[List.take_append_of_le_length (by omega),List.take_of_length_le (by omega)]
    exact Paired.imp' (fun _ _ ⟨a,e,_,_,z⟩=>⟨a,e,z⟩) L.lt
   have hgo0:mo=some 1→rows.length=0:=fun e=>by
    have z:=L.le1 e
    subst e
    have z2:(!decide ((xt.length:Int)=((1:Nat):Int)))=true:=hgo
    simp at z2
    omega
   refine⟨fun σ' H'=>∃m',m'<m∧∃(xt xw:List V) (rows bs:List (List Str)) (v1 v2:Option V),σ'=[some (.ref a),some (.ref c),some (.ref pl),some mv,some (.ref ln),some (.ref tl),some (.ref wl),v1,v2]∧LI mo K img n H1 H' tl wl xt xw rows bs m',fun σ' H' z=>z,?_⟩
   obtain⟨xw',xv,bs',b,exw,ebs,lw',a5,rfl,hat,haw,hb⟩:=a0V L.lw hxne
   have hmb:b∈bs:=by rw[ebs];simp
   have hbn:=L.bl b hmb
   have hsum:=L.sum
   rw[ebs,List.map_append,List.sum_append] at hsum
   have hs1:([b].map fun b=>ndL img (n -b.length) b).sum=ndL img (n -b.length) b:=by simp
   rw[hs1] at hsum
   have hall:=L.all
   rw[ebs,List.reverse_append,List.reverse_singleton,List.singleton_append,List.flatMap_cons] at hall
   have hb'l:bs'.length≤m:=by rw[ebs,List.length_append] at hbl;omega
   have hxw':=Paired.length lw'
   walk_at "r"
   refine⟨.inl ⟨rfl,_,SqL.of L.hw⟩,?_⟩
   walk_at "r"
   refine⟨wl,xw,.ref a5,rfl,rfl,L.hw,by rw[exw];simp,?_⟩
   rw[show xw.dropLast=xw' by rw[exw];simp]
   have s6:Same H1 (upd H5 wl (.lst xw')):=C3 L.s nwl1
   have f6:(upd H5 wl (.lst xw')) wl=some (.lst xw'):=d7
   have t6:(upd H5 wl (.lst xw')) tl=some (.lst xt):=by rw[b5 htw];exact L.ht
   have b6:(upd H5 wl (.lst xw')) a5=some (.lst (b.map V.str)):=by rw[b5 haw];exact hb
   have lt6:LoAt (upd H5 wl (.lst xw')) tl wl xt rows:=L.lt.upW
   have lw6:LoAt (upd H5 wl (.lst xw')) tl wl xw' bs':=LoAt.upW (show LoAt H5 tl wl xw' bs' from lw')
   generalize upd H5 wl (.lst xw')=H6 at s6 f6 t6 b6 lt6 lw6⊢
   walk_at "r"
   refine D0 (j8 (SqL.of b6) ?_)
   rw[List.length_map]
   walk_at "r"
   refine D0 (j8 (SqL.of (s6 _ _ f1)) ?_)
   rw[List.length_map,hN]
   walk_at "r"
   refine M4 (fun h1=>?_) (fun h1=>?_)
   ·have h1':b.length=n:=by omega
    walk_at "r"
    refine⟨.inl ⟨rfl,_,SqL.of t6⟩,?_⟩
    walk_at "r"
    refine⟨tl,xt,.ref a5,rfl,rfl,t6,a1q (by omega),?_⟩
    rw[h1',Nat.sub_self] at hsum hall
    have e1:ndL img 0 b=1:=rfl
    have e2:a1D img 0 b=[b]:=rfl
    rw[e1] at hsum
    rw[e2] at hall
    have ntl1:H1 tl=none:=ntl
    refine⟨m -1,by omega,xt++[.ref a5],xw',rows++[b],bs',_,_,rfl,⟨C3 s6 ntl1,d7,by rw[b5 htw.symm];exact f6,A9 lt6.upT ⟨a5,rfl,hat,haw,by rw[b5 hat];exact b6⟩,lw6.upT,fun b' hb'=>L.bl b' (by rw[ebs];exact List.mem_append_left _ hb'),by omega,by rw[List.append_assoc];exact hall,by rw[List.length_append,List.length_singleton];omega,fun e=>by rw[List.length_append,List.length_singleton,hgo0 e];exact Nat.le_refl _⟩⟩
   ·have h1':b.length<n:=by omega
    obtain⟨kk,hkk⟩:∃kk,n -b.length=kk+1:=⟨n -b.length -1,by omega⟩
    walk_at "r"
    refine⟨a,p,q,c,pl,a5,kvs,kvc,kvp,Lr,Pc,W,r1,r2,gp,gt,fx,b,rfl,X0.same (m1.trans s6),b6,by omega,fun li H7 ss n7 m7 f7 hss=>?_⟩
    rw[himg] at hss
    subst hss
    walk_at "r"
    refine⟨li,_,rfl,SqL.of f7,?_⟩
    have hil:=hM b
    have hlit:li≠tl:=(b9 t6 n7).symm
    have hliw:li≠wl:=(b9 f6 n7).symm
    refine K2 (n:=(img b).length) (fun i σ H'=>∃(xw2:List V) (v2:Option V),σ=[some (.ref a),some (.ref c),some (.ref pl),some mv,some (.ref ln),some (.ref tl),some (.ref wl),some (.ref a5),v2]∧Same H1 H'∧H' li=some (.lst ((img b).map V.str))∧H' tl=some (.lst xt)∧H' wl=some (.lst xw2)∧H' a5=some (.lst (b.map V.str))∧LoAt H' tl wl xt rows∧LoAt H' tl wl xw2 (bs'++((img b).reverse.take i).map fun x=>b++[x])) ⟨xw',v2,rfl,s6.trans m7,f7,m7 _ _ t6,m7 _ _ f6,m7 _ _ b6,lt6.same m7,by simpa using lw6.same m7⟩ (fun i σ H' hi hp=>?_) ?_ ?_
    ·obtain⟨_,_,_,_,z,_⟩:=hp
     exact⟨SqL.of z,by rw[List.length_map];exact hi⟩
    ·rintro bk i v σ H8' H8 hi ⟨xw2,v2',rfl,s8,g8,t8,w8,b8,lt8,lw8⟩ ⟨rfl,hv⟩
     rw[List.length_map] at hv
     have hrev:(img b).reverse[i]?=(img b)[(img b).length -1 -i]?:=List.getElem?_reverse hi
     rw[List.getElem?_map,←hrev] at hv
     obtain⟨x,hx,rfl⟩:=Option.map_eq_some_iff.mp hv
     have hl8:=Paired.length lw8
     rw[List.length_append,List.length_map,List.length_take] at hl8
     walk_at "r"
     refine⟨.inl ⟨rfl,_,SqL.of w8⟩,?_⟩
     walk_at "r"
     refine⟨i6 (by simp),fun l9 n9=>?_⟩
     obtain⟨H9,e9,f9,m9,_⟩:=b7 (o:= .lst [.str x]) n9
     rw[e9]
     refine a7g (m9 _ _ b8) f9 (Nat.le_of_lt (i6 (by rw[List.length_map];simp;omega))) (fun l10 n10=>?_)
     obtain⟨H10,e10,f10,m10,_⟩:=b7 (o:= .lst (b.map V.str++[.str x])) n10
     rw[e10]
     have m810:=m9.trans m10
     have ht10:l10≠tl:=(b9 (m9 _ _ t8) n10).symm
     have hw10:l10≠wl:=(b9 (m9 _ _ w8) n10).symm
     walk_at "r"
     refine⟨wl,xw2,.ref l10,rfl,rfl,m810 _ _ w8,a1q (by omega),?_⟩
     refine⟨xw2++[.ref l10],_,rfl,C3 (s8.trans m810) nwl1,by rw[b5 hliw];exact m810 _ _ g8,by rw[b5 htw];exact m810 _ _ t8,d7,by rw[b5 haw];exact m810 _ _ b8,(lt8.same m810).upW,?_⟩
     rw[List.take_succ,hx,List.map_append,←List.append_assoc]
     refine A9 (lw8.same m810).upW ⟨l10,rfl,ht10,hw10,?_⟩
     rw[b5 hw10,f10,List.map_append];rfl
    ·rintro σ H8 ⟨xw2,v2',rfl,s8,g8,t8,w8,b8,lt8,lw8⟩
     rw[List.take_of_length_le (by rw[List.length_reverse];exact Nat.le_refl _)] at lw8
     refine⟨by show(img b).length=((img b).map V.str).length;rw[List.length_map],?_⟩
     rw[hkk] at hsum hall
     have e1:ndL img (kk+1) b=1+((img b).map fun x=>ndL img kk (b++[x])).sum:=rfl
     have e2:a1D img (kk+1) b=(img b).flatMap fun x=>a1D img kk (b++[x]):=rfl
     rw[e1] at hsum
     rw[e2] at hall
     have ek:∀x:Str,n -(b++[x]).length=kk:=fun x=>by rw[List.length_append,List.length_singleton];omega
     have eS:(((img b).reverse.map fun x=>b++[x]).map fun b=>ndL img (n -b.length) b).sum=((img b).map fun x=>ndL img kk (b++[x])).sum:=by
      rw[List.map_map,List.map_reverse,List.sum_reverse]
      exact congrArg List.sum (List.map_congr_left fun x _=>by show ndL img (n -(b++[x]).length) (b++[x])=_;rw[ek x])
     refine⟨m -1,by omega,xt,xw2,rows,bs'++(img b).reverse.map fun x=>b++[x],_,_,rfl,⟨s8,t8,w8,lt8,lw8,fun b' hb'=>?_,?_,?_,by omega,L.le1⟩⟩
     ·rcases List.mem_append.mp hb' with z|z
      ·exact L.bl b' (by rw[ebs];exact List.mem_append_left _ z)
      ·obtain⟨x,_,rfl⟩:=List.mem_map.mp z
       rw[List.length_append,List.length_singleton];omega
     ·rw[List.map_append,List.sum_append,eS];omega
     ·rw[List.reverse_append,←List.map_reverse,List.reverse_reverse,List.flatMap_append,List.flatMap_map]
      rw[←hall]
      congr 1
      congr 1
      exact a0I fun x _=>by rw[ek x]
def so1 (W:Web):List Str:=a5M (W.pts.map (·.1))
def so2 (W:Web):List Str:=a5M (W.ts.map (·.1))
def nmC (W:Web):List Str:=so1 W++so2 W
noncomputable def u5 (Pc W:Web)(fx:List (Str×Str)):List (List Str):=a1f Pc W (so1 Pc) (so2 Pc) (so1 W) (so2 W) fx
theorem D8 (W:Web):Ordr W (so1 W) (so2 W):=⟨a1s _,a1s _,a3V _,a3V _⟩
def DcAt (H:Hp)(nm:List Str)(xs:List V)(rows:List (List Str)):Prop:=Paired (fun v row=>∃d,v=V.ref d∧H d=some (.dK (pKV (nm.zip row)))) xs rows
theorem DcAt.same {H H':Hp}{nm:List Str}{xs:List V}{rows:List (List Str)}(h:DcAt H nm xs rows)(s:Same H H'):DcAt H' nm xs rows:=Paired.imp' (fun _ _ ⟨d,e,z⟩=>⟨d,e,s _ _ z⟩) h
def b5r (H:Hp)(p q:Addr)(fv:V)(fx:List (Str×Str)):Prop:=(fv= .non∧fx=[])∨∃d,fv= .ref d∧H d=some (.dK (pKV fx))∧d≠p∧d≠q
structure Mx (K:PySem.W.Frag) (H:Hp) (a p q a' p' q':Addr) (kvs kvs':List (Key×V)) (Pc W:Web) (fx:List (Str×Str)):Prop where
 P:WebIs 30 K H a p q kvs Pc
 G:WebIs 30 K H a' p' q' kvs' W
 big:((i8 Pc).length+1)*(max W.pts.length W.ts.length+1) ^ ((i8 Pc).filter (A4 fx)).length≤1000000
 fnd:(fx.map (·.1)).Nodup
 fin:∀x∈fx,x.1∈i8 Pc
structure LkP (K:PySem.W.Frag) (H:Hp) (pl wl:Addr) (kvp kvg:List (Key×V)) (L:Str→Str→Bool) (Pc W:Web):Prop where
 hp:H pl=some (.dK kvp)
 kp:kvp.map (·.1)=(Pc.pts.map (·.1)).map Sum.inr
 hg:Rd H wl (.dK kvg)
 kg:kvg.map (·.1)=(W.pts.map (·.1)).map Sum.inr
 eq:∀(n:Str) (v:V) (m:Str) (u:V),(Sum.inr n,v)∈kvp→p6 kvg (Sum.inr m:Key)=some u→EqA K H u v (L n m)
 ls:∀n x,n∈Pc.pts.map (·.1)→x∈W.pts.map (·.1)→L n x=true→i9 (pKV W.pts) x=i9 (pKV Pc.pts) n
 lc:∀row,FitP Pc W (pKV ((nmC Pc).zip row))→∀x∈Pc.pts,L x.1 (gv (nmC Pc) row x.1)=true
theorem LkP.same {H H':Hp}{pl wl:Addr}{kvp kvg:List (Key×V)}{L:Str→Str→Bool}{Pc W:Web}(h:LkP K H pl wl kvp kvg L Pc W)(s:Same H H'):LkP K H' pl wl kvp kvg L Pc W:=⟨s _ _ h.hp,h.kp,s.rd h.hg,h.kg,fun n v m u a b=>(h.eq n v m u a b).mono s.le,h.ls,h.lc⟩
def b7F (H:Hp)(Q:VK)(mo:Option Nat)(Pc W:Web)(fx:List (Str×Str)):Prop:=∀(l:Addr) (H':Hp) (xs:List V),H l=none→Same H H'→H' l=some (.lst xs)→DcAt H' (nmC Pc) xs (tkM mo (u5 Pc W fx))→(u5 Pc W fx).length≤1000000→(∀x∈xs,∃d,x=V.ref d∧H d=none)→Q (.ref l) H'
def a2j (K:PySem.W.Frag):Sp:=fun vs H Q _=>∃(a p q a' p' q' pl wl:Addr) (kvs kvs' kvp kvg:List (Key×V)) (L:Str→Str→Bool) (Pc W:Web) (fx:List (Str×Str)) (fv mv:V) (mo:Option Nat),vs=[.ref a,.ref a',.ref pl,.ref wl,fv,mv]∧Mx K H a p q a' p' q' kvs kvs' Pc W fx∧LkP K H pl wl kvp kvg L Pc W∧b3H mv mo∧b5r H pl q fv fx∧b7F H Q mo Pc W fx
theorem b2r {H:Hp}{a p q a' p' q' pl wl:Addr}{kvs kvs' kvp kvg:List (Key×V)}{L:Str→Str→Bool}{Pc W:Web}{fx:List (Str×Str)}(h:Mx K H a p q a' p' q' kvs kvs' Pc W fx)(l:LkP K H pl wl kvp kvg L Pc W):SrchP L Pc W (so1 Pc) (so2 Pc) (so1 W) (so2 W) fx:=
 ⟨D8 _,D8 _,h.P.nd,h.G.nd,h.P.ends,h.fnd,h.fin,l.ls,l.lc⟩
theorem b2O {H:Hp}{F:Str×Str→List Str}:∀{kvs:List (Key×V)} {pts:List (Str×Str)},ChAt H F kvs pts→LsAt H (kvs.map (·.2)) (pts.map F)
 |_,_,.nil=> .nil
 |_,_,.cons a t=> .cons a.2 (b2O t)
theorem Mx.same {H0 H1:Hp}{a p q a' p' q':Addr}{kvs kvs':List (Key×V)}{Pc W:Web}{fx:List (Str×Str)}(h:Mx K H0 a p q a' p' q' kvs kvs' Pc W fx)(s:Same H0 H1):Mx K H1 a p q a' p' q' kvs kvs' Pc W fx:=⟨h.P.same s,h.G.same s,h.big,h.fnd,h.fin⟩
theorem b2H {mo:Option Nat}{rows:List (List Str)}:(tkM mo rows).length≤rows.length:=by
 cases mo with
 |none=>exact Nat.le_refl _
 |some k=>exact List.length_take_le' _ _
def b6h (Pc W:Web)(n m:Str):Bool:=decide (i9 (pKV W.pts) m=i9 (pKV Pc.pts) n)
theorem b1i {H:Hp}{a p q a' p' q':Addr}{kvs kvs':List (Key×V)}{Pc W:Web}{fx:List (Str×Str)}(M:Mx K H a p q a' p' q' kvs kvs' Pc W fx):LkP K H p p' (pKV Pc.pts) (pKV W.pts) (b6h Pc W) Pc W:=by
 refine⟨M.P.hp,by rw[B7,u9],M.G.at_.pts,by rw[B7,u9],fun n v m u h1 h2=>?_,fun n x _ _ h=>of_decide_eq_true h,fun row f x hx=>?_⟩
 ·obtain⟨y,hy,e⟩:=List.mem_map.mp h1
  have e1:y.1=n:=Sum.inr.inj (Prod.mk.inj e).1
  have e2:V.str y.2=v:=(Prod.mk.inj e).2
  obtain⟨k',rfl,hk'⟩:=a1W h2
  refine .inl ⟨k',y.2,rfl,e2.symm,?_⟩
  unfold b6h
  rw[a1c h2,←e1,B6 (A6 M.P.nd) (show(y.1,y.2)∈Pc.pts from hy)]
 ·have z:=f.pts x hx
  refine decide_eq_true ?_
  rw[B6 (A6 M.P.nd) (show(x.1,x.2)∈Pc.pts from hx)]
  exact B6 (A6 M.G.nd) z
theorem b0U {f:Addr}{fd:FuncData}(T:Txt K mg)(P2:Cal P w K mg base CX0 2 "point_choices" ["piece_looks","web_looks","fixed"] [] (N7 K))(V4:Cal P w K mg base CX0 1 "enough" ["lists"] [] (a0o K))(X3:Cal P w K mg base CX0 2 "tie_places" ["piece","web","fixed"] [] (U8 K))(L8:Cal P w K mg base CX0 1 "things" ["web"] [] (V8 K))(a3P:Cal P w K mg base CX0 5 "lines" ["piece","choices","places","most"] [] (a2C K))(F:Fun K "found" "found" a0m f fd):FnOk P w K mg base CX0 6 f fd ["piece","web","piece_looks","web_looks","fixed","most"] (a2j K):=by
 refine F.ok sc_found (fun vs H Q E h=>?_) (fun cdv A outer s H vs Q E hr h=>?_)
 ·obtain⟨a,p,q,a',p',q',pl,wl,kvs,kvs',kvp,kvg,L,Pc,W,fx,fv,mv,mo,rfl,_⟩:=h
  rfl
 ·obtain⟨a,p,q,a',p',q',pl,wl,kvs,kvs',kvp,kvg,L,Pc,W,fx,fv,mv,mo,rfl,M0,L0,hmo,hf,k⟩:=h
  have S:=b2r M0 L0
  have lP:=M0.P.len
  have lW:=M0.G.len
  have lP2:=lP
  have lW2:=lW
  rw[z7] at lP2 lW2
  have hN:=sc_found.nd
  have hu:=B9 hr
  refine⟨_,QSs.r (qsC (o0 (i:=6) hN rfl (by walk_at "l") (b5J (w5 a9J (qV 4) a5Z (t5 _)) qD0 (qV 4)))
   (qsC (o0 (i:=7) hN rfl (by walk_at "l") (qC P2 (hr.mono (by decide)) r9 (qa1 (qV 2) (qa1 (qV 3) (qa1 (qV 6) qa0)))))
   (qsC (qIf (a6E (a0s K (qC V4 (hr.mono (by decide)) r9 (qa1 (qBT (a5Q K rfl) T.b_list Boot.«list» (qa1 (qM0 PySem.F.plainAttrs_dict PySem.F.slot_dict_values PySem.F.type_dict_values P5 K (qV 7)) qa0)) qa0)))) (qs1 (D5 (O7 qa0))) qs0)
   (qsC (o0 (i:=8) hN rfl (by walk_at "l") (qC X3 (hr.mono (by decide)) r9 (qa1 (qV 0) (qa1 (qV 1) (qa1 (qV 6) qa0)))))
   (qsC (o0 (i:=9) hN rfl (by walk_at "l") (qC L8 (hr.mono (by decide)) r9 (qa1 (qV 0) qa0)))
   (qs1 (D5 (a0O (own:=["row"]) (js:=[9]) (by kernel_rfl) rfl (V1 K (qC a3P (hr.mono (by decide)) r9 (qa1 (qV 0) (qa1 (qV 7) (qa1 (qV 8) (qa1 (qV 5) qa0)))))) (fun _ _ _ _=>(qgN (i:=0) (show List.Nodup (["row","names"]:List Str) by decide+kernel) rfl (by walk_at "l"))) (fun _ _ _ _=>a7H) (fun _ _ _ _=>(qDZ K T.b_dict T.b_zip rfl (qa1 (qV 1) (qa1 (qV 0) qa0)))))))))))),?_⟩
  refine b6x (fun σ H'=>∃d,σ=[some (.ref a),some (.ref a'),some (.ref pl),some (.ref wl),some fv,some mv,some (.ref d),none,none,none]∧Same H H'∧H' d=some (.dK (pKV fx))∧d≠pl∧d≠q) ?_ ?_
  ·rintro σ H1 ⟨d,rfl,m1,hd,hdp,hdq⟩
   have M1:=M0.same m1
   have L1:=L0.same m1
   walk_at "r"
   refine⟨pl,wl,d,kvp,kvg,Pc.pts,W.pts,fx,L,so1 W,rfl,L1.hp,L1.kp,A6 M1.P.nd,by omega,L1.hg,L1.kg,A6 M1.G.nd,by omega,(D8 W).p1,(D8 W).o1,L1.eq,hd,hdp,fun c H2 kvc nc m2 hc ch=>?_⟩
   have M2:=M1.same m2
   walk_at "r"
   refine⟨.inr (.inr (.inl ⟨rfl,.inl ⟨_,hc⟩⟩)),?_⟩
   walk_at "r"
   refine⟨c,_,rfl,rfl,.inl hc,fun v3 n3=>?_⟩
   obtain⟨H3,e3,f3,m3,_⟩:=b7 (o:= .ext (a4o v3 c)) n3
   rw[e3]
   walk_at "r"
   refine a0f f3 (.inl (m3 _ _ hc)) (fun l4 n4=>?_)
   obtain⟨H4,e4,f4,m4,_⟩:=b7 (o:= .lst _) n4
   rw[e4]
   walk_at "r"
   have m24:=m3.trans m4
   refine⟨l4,_,_,rfl,f4,LsAt.same (b2O ch) m24,by rw[List.length_map];omega,fun H5 m5=>?_⟩
   have m25:=m24.trans m5
   have M5:=M2.same m25
   walk_at "r"
   refine b1w (fun h1=>?_) (fun h1=>?_)
   ·walk_at "r"
    refine⟨i6 (by simp),fun l6 n6=>?_⟩
    obtain⟨H6,e6,f6,m6,_⟩:=b7 (o:= .lst []) n6
    rw[e6]
    have e0:u5 Pc W fx=[]:=a7E S h1
    refine k l6 H6 [] (m1.free (m2.free (m25.free n6))) (m1.trans (m2.trans (m25.trans m6))) f6 (by rw[e0];rcases hmo with⟨_,rfl⟩|⟨_,rfl⟩<;>exact .nil) (by rw[e0];exact Nat.zero_le _) (fun _ h=>nomatch h)
   ·walk_at "r"
    refine⟨a,p,q,a',p',q',d,kvs,kvs',Pc,W,fx,so2 W,rfl,M5.P.at_,M5.P.hq,N3 M5.P.nd,by omega,M5.G.at_,N3 M5.G.nd,by omega,(D8 W).p2,(D8 W).o2,m25 _ _ (m2 _ _ hd),hdq,fun ps H6 kvq nps m6 hps pls=>?_⟩
    have M6:=M5.same m6
    have m26:=m25.trans m6
    walk_at "r"
    refine⟨a,p,q,kvs,Pc,rfl,M6.P.at_,by omega,fun ln H7 r1 r2 n7 m7 f7 or=>?_⟩
    have er1:r1=so1 Pc:=A8 or.o1 (D8 Pc).o1 (or.p1.nodup_iff.mpr (A6 S.nd)) (or.p1.trans (D8 Pc).p1.symm)
    have er2:r2=so2 Pc:=A8 or.o2 (D8 Pc).o2 (or.p2.nodup_iff.mpr (N3 S.nd)) (or.p2.trans (D8 Pc).p2.symm)
    subst er1 er2
    have M7:=M6.same m7
    have m27:=m26.trans m7
    walk_at "r"
    refine⟨a,p,q,c,ps,kvs,kvc,kvq,L,Pc,W,so1 Pc,so2 Pc,so1 W,so2 W,fx,mv,mo,rfl,hmo,⟨S,M7.P.at_,M7.P.hq,by omega,by omega,M0.big,m27 _ _ hc,ch.same m27,m7 _ _ hps,pls.same m7⟩,fun lr H8 xs n8 m8 f8 ls hbig=>?_⟩
    have hrl:=Paired.length ls
    refine z8 (SqL.of f8) ?_
    refine D3 (n:=xs.length) (fun i out H'=>Same H8 H'∧DcAt H' (nmC Pc) out ((tkM mo (u5 Pc W fx)).take i)∧∀x∈out,∃d,x=V.ref d∧H d=none) ⟨Same.refl _,.nil,fun _ h=>nomatch h⟩ (fun i out H' hi hp=>⟨xs,xs[i],SqL.of (hp.1 _ _ f8),List.getElem?_eq_getElem hi⟩) ?_ ?_
    ·rintro N i v out H9' H9 hi ⟨s9,dc,hfr⟩ y hN'
     obtain⟨rfl,hy⟩:=Itl.get y (SqL.of (s9 _ _ f8))
     obtain⟨row,hrow,ar,rfl,har⟩:=w4 ls hy
     have hdl:=Paired.length dc
     rw[List.length_take] at hdl
     walk_at "r"
     refine⟨rfl,?_⟩
     walk_at "r"
     refine⟨ln,ar,(nmC Pc).map Sum.inr,row.map V.str,rfl,by rw[←a7n];exact SqL.of (s9 _ _ (m8 _ _ f7)),SqL.of (s9 _ _ har),fun d2 nd2=>?_⟩
     rw[a4y (nm:=nmC Pc) S.nn]
     obtain⟨H10,e10,f10,m10,_⟩:=b7 (o:= .dK (pKV ((nmC Pc).zip row))) nd2
     change _∧N _ (upd H9 d2 (.dK (pKV ((nmC Pc).zip row))))
     rw[e10]
     have hbig2:(u5 Pc W fx).length≤1000000:=hbig
     have htl:(tkM mo (u5 Pc W fx)).length≤(u5 Pc W fx).length:=b2H
     refine⟨Nat.le_of_lt (a1q (by omega)),hN' _ _ ⟨s9.trans m10,?_,fun x hx=>?_⟩⟩
     ·rw[show(tkM mo (u5 Pc W fx)).take (i+1)=(tkM mo (u5 Pc W fx)).take i++[row] by rw[List.take_succ,show(tkM mo (u5 Pc W fx))[i]?=some row from hrow];rfl]
      exact A9 (DcAt.same dc m10) ⟨d2,rfl,f10⟩
     ·rcases List.mem_append.mp hx with z|z
      ·exact hfr x z
      ·exact⟨d2,List.mem_singleton.mp z,m1.free (m2.free (m27.free (m8.free (s9.free nd2))))⟩
    ·rintro out H9 ⟨s9,dc,hfr⟩
     have hdl:=Paired.length dc
     rw[List.length_take] at hdl
     have hbig2:(u5 Pc W fx).length≤1000000:=hbig
     have htl:(tkM mo (u5 Pc W fx)).length≤(u5 Pc W fx).length:=b2H
     refine⟨⟨_,SqL.of (s9 _ _ f8),Nat.le_refl _⟩,fun D hD=>⟨Nat.le_of_lt (a1q (by omega)),?_⟩⟩
     rw[List.take_of_length_le (by rw[hrl];exact Nat.le_refl _)] at dc
     obtain⟨H10,e10,f10,m10,_⟩:=b7 (H:=H9) (o:= .lst out) hD
     show Q _ (upd H9 D _)
     rw[e10]
     exact k D H10 out (m1.free (m2.free (m27.free (m8.free (s9.free hD))))) (m1.trans (m2.trans (m27.trans (m8.trans (s9.trans m10))))) f10 (dc.same m10) hbig hfr
  ·intro nx hnx
   walk_at "r"
   rcases hf with⟨rfl,rfl⟩|⟨d,rfl,hd,hdp,hdq⟩
   ·rw[if_pos (by simp)]
    walk_at "r"
    intro d nd
    obtain⟨H1,e1,f1,m1,_⟩:=b7 (o:= .dK []) nd
    rw[e1]
    walk_at "r"
    exact hnx _ _ ⟨d,rfl,m1,f1,(b9 L0.hp nd).symm,(b9 M0.P.hq nd).symm⟩
   ·rw[if_neg (by simp)]
    walk_at "r"
    exact hnx _ _ ⟨d,rfl,Same.refl _,hd,hdp,hdq⟩
def b2Q (H:Hp)(nm:List Str)(v:V)(rows:List (List Str)):Prop:=(rows=[]∧v= .non)∨∃(row:List Str) (r:List (List Str)) (d:Addr),rows=row::r∧v= .ref d∧H d=some (.dK (pKV (nm.zip row)))
def Q3 (K:PySem.W.Frag):Sp:=fun vs H Q _=>∃(a p q a' p' q' pl wl:Addr) (kvs kvs' kvp kvg:List (Key×V)) (L:Str→Str→Bool) (Pc W:Web) (fx:List (Str×Str)) (fv:V),vs=[.ref a,.ref a',.ref pl,.ref wl,fv]∧Mx K H a p q a' p' q' kvs kvs' Pc W fx∧LkP K H pl wl kvp kvg L Pc W∧b5r H pl q fv fx∧∀(v:V) (H':Hp),Same H H'→b2Q H' (nmC Pc) v (u5 Pc W fx)→(∀d,v= .ref d→H d=none)→Q v H'
theorem a2g {f:Addr}{fd:FuncData}(T:Txt K mg)(a3Y:Cal P w K mg base CX0 6 "found" ["piece","web","piece_looks","web_looks","fixed","most"] [] (a2j K))(F:Fun K "first_found" "first_found" E4 f fd):FnOk P w K mg base CX0 7 f fd ["piece","web","piece_looks","web_looks","fixed"] (Q3 K):=by
 refine F.ok sc_first_found (fun vs H Q E h=>?_) (fun cdv A outer s H vs Q E hr h=>?_)
 ·obtain⟨a,p,q,a',p',q',pl,wl,kvs,kvs',kvp,kvg,L,Pc,W,fx,fv,rfl,_⟩:=h
  rfl
 ·obtain⟨a,p,q,a',p',q',pl,wl,kvs,kvs',kvp,kvg,L,Pc,W,fx,fv,rfl,M0,L0,hf,k⟩:=h
  have hN:=sc_first_found.nd
  have hu:=B9 hr
  refine⟨_,QSs.r (qsC (o0 (i:=5) hN rfl (by walk_at "l") (qC a3Y (hr.mono (by decide)) r9 (qa1 (qV 0) (qa1 (qV 1) (qa1 (qV 2) (qa1 (qV 3) (qa1 (qV 4) (qa1 d9 qa0))))))))
   (qs1 (D5 (b5J (a0s K (qV 5)) (qIx (kIx K hu) (qV 5) d9 (fun _ _=>rfl)) a5Z)))),?_⟩
  walk_at "r"
  refine⟨a,p,q,a',p',q',pl,wl,kvs,kvs',kvp,kvg,L,Pc,W,fx,fv,.int 1,some 1,rfl,M0,L0,.inr ⟨rfl,rfl⟩,hf,fun l H1 xs nl m1 f1 dc _ hfr=>?_⟩
  have dc':DcAt H1 (nmC Pc) xs ((u5 Pc W fx).take 1):=dc
  have hxl:=Paired.length dc'
  walk_at "r"
  refine⟨!xs.isEmpty,.inl ⟨_,SqL.of f1,rfl⟩,?_⟩
  cases hr:u5 Pc W fx with
  |nil=>
   rw[hr] at dc' hxl
   have hx0:xs=[]:=List.eq_nil_of_length_eq_zero (by simpa using hxl)
   subst hx0
   rw[if_neg (by decide)]
   walk_at "r"
   exact k .non H1 m1 (.inl ⟨hr,rfl⟩) fun _ z=>nomatch z
  |cons row r=>
   rw[hr] at dc' hxl
   obtain⟨x,rfl⟩:∃x,xs=[x]:=by
    match xs,hxl with
    |[x],_=>exact⟨x,rfl⟩
   obtain⟨row',hrow',d,rfl,hd⟩:=w4 (i:=0) dc' rfl
   have er:row=row':=Option.some.inj hrow'
   subst er
   rw[if_pos (by rfl)]
   walk_at "r"
   refine i7 (SqL.of f1) (h8 (j:=0) rfl) ?_
   walk_at "r"
   exact k (.ref d) H1 m1 (.inr ⟨row,r,d,hr,rfl,hd⟩) fun d' e=>by
    obtain⟨d2,e2,z⟩:=hfr (.ref d) (by simp)
    have e3:d=d2:=by injection e2
    have e4:d=d':=by injection e
    rw[←e4,e3];exact z
def R8 (K:PySem.W.Frag):Sp:=fun vs H Q _=>∃(a p q a' p' q' d:Addr) (kvs kvs':List (Key×V)) (Pc W:Web) (fx:List (Str×Str)),vs=[.ref a,.ref a',.ref d]∧Mx K H a p q a' p' q' kvs kvs' Pc W fx∧H d=some (.dK (pKV fx))∧d≠p∧d≠q∧∀(v:V) (H':Hp),Same H H'→b2Q H' (nmC Pc) v (u5 Pc W fx)→(∀d,v= .ref d→H d=none)→Q v H'
theorem a2u {f:Addr}{fd:FuncData}(T:Txt K mg)(T9:Cal P w K mg base CX0 7 "first_found" ["piece","web","piece_looks","web_looks","fixed"] [] (Q3 K))(F:Fun K "first_match" "first_match" E6 f fd):FnOk P w K mg base CX0 8 f fd ["piece","web","fixed"] (R8 K):=by
 refine F.ok sc_first_match (fun vs H Q E h=>?_) (fun cdv A outer s H vs Q E hr h=>?_)
 ·obtain⟨a,p,q,a',p',q',d,kvs,kvs',Pc,W,fx,rfl,_⟩:=h
  rfl
 ·obtain⟨a,p,q,a',p',q',d,kvs,kvs',Pc,W,fx,rfl,M0,hd,n1,n2,k⟩:=h
  have hN:=sc_first_match.nd
  have hu:=B9 hr
  refine⟨_,QSs.r (qs1 (D5 (qC T9 (hr.mono (by decide)) r9 (qa1 (qV 0) (qa1 (qV 1) (qa1 (qIx (kIx K hu) (qV 0) d9 (fun _ _=>rfl)) (qa1 (qIx (kIx K hu) (qV 1) d9 (fun _ _=>rfl)) (qa1 (qV 2) qa0)))))))),?_⟩
  walk_at "r"
  refine d8 M0.P.at_.tup (h8 (j:=0) rfl) ?_
  walk_at "r"
  refine d8 M0.G.at_.tup (h8 (j:=0) rfl) ?_
  walk_at "r"
  exact⟨a,p,q,a',p',q',p,p',kvs,kvs',_,_,_,Pc,W,fx,.ref d,rfl,M0,b1i M0,.inr ⟨d,rfl,hd,n1,n2⟩,k⟩
theorem a0i {x:Str}{l u:Option Int}{c:Nat}(h:c∈(Txt.slice x l u).cps.toList):c∈x.cps.toList:=by
 unfold Txt.slice at h
 split at h
 ·exact h
 ·simp only[List.mem_filterMap] at h
  obtain⟨i,_,hi⟩:=h
  exact Array.mem_toList_iff.mpr (Array.mem_of_getElem? hi)
theorem a4g (i:Int)(h0:0≤i)(h1:i<26):Y6 i∈kSL.cps.toList:=by
 have hl:kSL.cps.toList.length=26:=by decide+kernel
 unfold Y6
 rw[List.getD_eq_getElem?_getD,List.getElem?_eq_getElem (show i.toNat<kSL.cps.toList.length by omega)]
 exact List.getElem_mem _
def a3A (b:Str)(at_ c:Int)(k:Nat):Str:=Txt.slice b none (some at_)++(⟨#[Y6 ((c+(0+(k:Int))) % 26)]⟩:Str)++Txt.slice b (some at_) none
theorem b2m (b:Str)(at_ c:Int)(n:Nat)(hn:n≤26):((List.range n).map (a3A b at_ c)).Nodup:=a4T fun i j hi hj e=>by
 have z:=b1C e
 have e1:(c+(0+(i:Int))) % 26=(((c+(0+(i:Int))) % 26).toNat:Int):=by omega
 have e2:(c+(0+(j:Int))) % 26=(((c+(0+(j:Int))) % 26).toNat:Int):=by omega
 rw[e1,e2] at z
 have z2:=a5u _ _ (by omega) (by omega) z
 omega
theorem a7O {b:Str}{at_ c:Int}{k:Nat}(h:∀x∈b.cps.toList,x∈kSL.cps.toList)(hb:b.length≤7)(h0:0≤at_)(h1:at_≤b.length):C4 (a3A b at_ c k)=true:=by
 have g1:=a5y b at_ h0 h1
 have g2:=a2L b at_ h0 h1
 have hl:(a3A b at_ c k).length=(Txt.slice b none (some at_)).length+1+(Txt.slice b (some at_) none).length:=by
  unfold a3A
  rw[a0M,a0M,T1]
 unfold C4 a0v
 rw[hl,decide_eq_true (by omega),decide_eq_true (by omega),Bool.true_and,Bool.true_and]
 unfold a6Y
 rw[List.all_eq_true]
 intro x hx
 refine decide_eq_true ?_
 have hx':x∈((Txt.slice b none (some at_)).cps++ #[Y6 ((c+(0+(k:Int))) % 26)]++(Txt.slice b (some at_) none).cps).toList:=hx
 simp only[Array.toList_append,List.mem_append] at hx'
 rcases hx' with(z|z)|z
 ·exact h x (a0i z)
 ·have:x=Y6 ((c+(0+(k:Int))) % 26):=by simpa using z
  rw[this]
  exact a4g _ (by omega) (by omega)
 ·exact h x (a0i z)
def K1 (K:PySem.W.Frag):Sp:=fun vs H Q _=>∃(a:Addr) (ns:List Int) (k:Int),vs=[.ref a,.int k]∧SqL K H a (ns.map V.int)∧ns.length≤63∧0≤k∧∀m:Int,Q (.int m) H
def S7 (K:PySem.W.Frag):Sp:=fun vs H Q _=>∃c:Int,vs=[.int c,.int 16]∧∀(p:Addr) (H':Hp) (xs:List Int),H p=none→Same H H'→H' p=some (.lst (xs.map V.int))→xs.length=16→(∀x∈xs,0≤x)→Q (.ref p) H'
def U0 (K:PySem.W.Frag):Sp:=fun vs H Q _=>∃c n:Int,vs=[.int c,.int n]∧0≤n∧n≤26∧b6H H Q fun ss=>ss.length=n.toNat∧ss.Nodup∧∀s∈ss,C4 s=true
theorem a2T {f:Addr}{fd:FuncData}(T:Txt K mg)(F:Fun K "_law_mixed" "_law_mixed" J2 f fd):FnOk P w K mg base CX0 1 f fd ["_law_cell","_law_k"] (O6 K):=by
 refine F.ok sc__law_mixed (fun vs H Q E h=>?_) (fun cdv A outer s H vs Q E hr h=>?_)
 ·obtain⟨c,k,rfl,_⟩:=h
  rfl
 ·obtain⟨c,k,rfl,h0,h1,q⟩:=h
  have hN:=sc__law_mixed.nd
  have hu:=B9 hr
  refine⟨_,QSs.r (qsC (o0 (i:=2) hN rfl (by walk_at "l") (qOp j7 (qOp (B4 K) (qOp j7 (qV 0) d9) (qOp K0 d9 (qOp (B4 K) (qV 1) d9))) d9))
   (qsC (o0 (i:=2) hN rfl (by walk_at "l") (qOp j7 (qOp (B4 K) (qOp (B4 K) (qOp K0 (qV 2) (qV 2)) (qOp K0 d9 (qV 1))) d9) d9))
   (qs1 (D5 (qOp j7 (qOp K0 (qV 2) (qV 2)) d9))))),?_⟩
  walk_at "r"
  exact q _ (by omega)
theorem a1N {f:Addr}{fd:FuncData}(T:Txt K mg)(F:Fun K "_law_cell_at" "_law_cell_at" C9 f fd):FnOk P w K mg base CX0 1 f fd ["_law_script","_law_k"] (K1 K):=by
 refine F.ok sc__law_cell_at (fun vs H Q E h=>?_) (fun cdv A outer s H vs Q E hr h=>?_)
 ·obtain⟨a,ns,k',rfl,_⟩:=h
  rfl
 ·obtain⟨a,ns,k',rfl,hA,hl,h0,k⟩:=h
  have hN:=sc__law_cell_at.nd
  have hu:=B9 hr
  refine⟨_,QSs.r (qsC (qIf (w5 a9v (qV 1) (qB (E2 K P w) T.b_len Boot.«len» (qa1 (qV 0) qa0)) (t5 _)) (qs1 (D5 (qIx (kIx K hu) (qV 0) (qV 1) (fun _ _=>rfl)))) qs0)
   (qs1 (D5 d9))),?_⟩
  walk_at "r"
  refine D0 (j8 hA ?_)
  rw[List.length_map]
  walk_at "r"
  refine M4 (fun h1=>?_) (fun h1=>?_)
  ·walk_at "r"
   obtain⟨v,hv,hv2⟩:=a1t (xs:=ns.map V.int) h0 (by rw[List.length_map];exact h1)
   rw[List.getElem?_map] at hv2
   obtain⟨x,hx,rfl⟩:=Option.map_eq_some_iff.mp hv2
   exact i7 hA hv (k _)
  ·walk_at "r"
   exact k 0
theorem a2q {f:Addr}{fd:FuncData}(T:Txt K mg)(F:Fun K "_law_stream" "_law_stream" E7 f fd):FnOk P w K mg base CX0 1 f fd ["_law_cell","_law_many"] (S7 K):=by
 refine F.ok sc__law_stream (fun vs H Q E h=>?_) (fun cdv A outer s H vs Q E hr h=>?_)
 ·obtain⟨c,rfl,_⟩:=h
  rfl
 ·obtain⟨c,rfl,k⟩:=h
  have hN:=sc__law_stream.nd
  have hu:=B9 hr
  refine⟨_,QSs.r (qsC (o0 (i:=2) hN rfl (by walk_at "l") (qOp (B4 K) (qOp j7 (qV 0) d9) d9))
   (qsC (o0 (i:=3) hN rfl (by walk_at "l") (O7 qa0))
   (qsC (N5 PassesOwn.never rfl (a2f T.b_range (qa1 (qV 1) qa0)) (qgN (i:=4) hN rfl (by walk_at "l"))
    (qsC (o0 (i:=2) hN rfl (by walk_at "l") (qOp j7 (qOp (B4 K) (qOp (B4 K) (qOp K0 (qV 2) (qV 2)) (qOp K0 d9 (qV 4))) d9) d9))
   (qs1 (qEx (qM PySem.F.plainAttrs_list PySem.F.slot_list_append PySem.F.type_list_append u0 K (qV 3) (qa1 (qOp j7 (qOp K0 (qV 2) (qV 2)) d9) qa0))))))
   (qs1 (D5 (qV 3)))))),?_⟩
  walk_at "r"
  refine⟨i6 (by simp),fun lo no=>?_⟩
  obtain⟨H1,e1,f1,m1,_⟩:=b7 (o:= .lst _) no
  rw[e1]
  walk_at "r"
  refine N0 (by omega) (by omega) ?_
  refine L9 (n:=16) (fun i σ H'=>(∃(m:Int) (v:Option V),σ=[some (.int c),some (.int 16),some (.int m),some (.ref lo),v]∧0≤m∧m≤2200000000)∧Same H H'∧∃xs:List Int,H' lo=some (.lst (xs.map V.int))∧xs.length=i∧∀x∈xs,0≤x)
   ⟨⟨_,_,rfl,by omega,by omega⟩,m1,[],f1,rfl,fun _ h=>nomatch h⟩ (fun i σ H' hi _=>by exact hi) ?_ ?_
  ·rintro i v σ H2' H2 hi ⟨⟨m,v',rfl,h0,h1⟩,s2,xs,g2,hl,hx⟩ ⟨rfl,rfl⟩
   walk_at "r"
   have b0:0≤(m*m+69621*(0+(i:Int))+11) % 2147483647:=by omega
   have b1:(m*m+69621*(0+(i:Int))+11) % 2147483647<2147483647:=by omega
   generalize (m*m+69621*(0+(i:Int))+11) % 2147483647=m' at b0 b1⊢
   refine⟨.inl ⟨rfl,_,SqL.of g2⟩,?_⟩
   walk_at "r"
   refine⟨lo,_,_,rfl,rfl,g2,L5 (by rw[List.length_map];omega),?_⟩
   refine⟨⟨m',_,rfl,b0,by omega⟩,C3 s2 no,xs++[m'*m' % 2147483587],?_,by rw[List.length_append,hl];rfl,fun x hx'=>?_⟩
   ·rw[d7,List.map_append];rfl
   ·rcases List.mem_append.mp hx' with z|z
    ·exact hx x z
    ·rw[List.mem_singleton.mp z];omega
  ·rintro σ H2 ⟨⟨m,v',rfl,h0,h1⟩,s2,xs,g2,hl,hx⟩
   refine⟨Nat.le_refl _,?_⟩
   walk_at "r"
   exact k lo H2 xs no s2 g2 hl hx
theorem a3c {f:Addr}{fd:FuncData}(T:Txt K mg)(F:Fun K "_law_words" "_law_words" J1 f fd):FnOk P w K mg base CX0 1 f fd ["_law_number","_law_many"] (U0 K):=by
 refine F.ok sc__law_words (fun vs H Q E h=>?_) (fun cdv A outer s H vs Q E hr h=>?_)
 ·obtain⟨c,n,rfl,_⟩:=h
  rfl
 ·obtain⟨c,n,rfl,h0,h1,k⟩:=h
  have hN:=sc__law_words.nd
  have hu:=B9 hr
  refine⟨_,QSs.r (qsC (o0 (i:=2) hN rfl (by walk_at "l") a7w)
   (qsC (o0 (i:=3) hN rfl (by walk_at "l") a7w)
   (qsC (N5 PassesOwn.never rfl (a2f T.b_range (qa1 (qIx (kIx K hu) (O7 (qa1 d9 (qa1 d9 (qa1 d9 (qa1 d9 (qa1 d9 qa0)))))) (qOp j7 (qV 0) d9) (fun _ _=>rfl)) qa0)) (qgN (i:=4) hN rfl (by walk_at "l"))
    (qs1 (o0 (i:=3) hN rfl (by walk_at "l") (qOp (B4 K) (qV 3) (qIx (kIx K hu) (qV 2) (qOp j7 (qOp u7 (qV 0) (qOp (B4 K) (qV 4) d9)) d9) (fun _ _=>rfl))))))
   (qsC (o0 (i:=5) hN rfl (by walk_at "l") (qOp j7 (qOp u7 (qV 0) d9) (qOp (B4 K) (qB (E2 K P w) T.b_len Boot.«len» (qa1 (qV 3) qa0)) d9)))
   (qs1 (D5 (a0O (own:=["_law_k"]) (js:=[3,2,5,0]) (by kernel_rfl) rfl (a2f T.b_range (qa1 (qV 1) qa0)) (fun _ _ _ _=>(qgN (i:=0) (show List.Nodup (["_law_k","_law_base","_law_letters","_law_at","_law_number"]:List Str) by decide+kernel) rfl (by walk_at "l"))) (fun _ _ _ _=>a7H) (fun _ _ _ _=>(qOp (B4 K) (qOp (B4 K) (qSl (kSl K) (qV 1) qoN (qoS (qV 3))) (qIx (kIx K hu) (qV 2) (qOp j7 (qOp (B4 K) (qV 4) (qV 0)) d9) (fun _ _=>rfl))) (qSl (kSl K) (qV 1) (qoS (qV 3)) qoN)))))))))),?_⟩
  walk_at "r"
  refine⟨i6 (by simp),fun l1 n1=>?_⟩
  obtain⟨H1,e1,f1,m1,_⟩:=b7 (o:= .lst ([0,0,2,5,7].map V.int)) n1
  rw[show([V.int 0,V.int 0,V.int 2,V.int 5,V.int 7]:List V)=[0,0,2,5,7].map V.int from rfl,e1]
  walk_at "r"
  obtain⟨v,hv,hv2⟩:=a1t (xs:=([0,0,2,5,7]:List Int).map V.int) (i:=c % 5) (by omega) (by show _<((5:Nat):Int);omega)
  rw[List.getElem?_map] at hv2
  obtain⟨z,hz,rfl⟩:=Option.map_eq_some_iff.mp hv2
  have hz':0≤z∧z≤7:=by
   have hm:=List.mem_of_getElem? hz
   simp only[List.mem_cons,List.not_mem_nil,or_false] at hm
   omega
  refine i7 (SqL.of f1) hv ?_
  refine N0 (by omega) (by omega) ?_
  refine L9 (n:=z.toNat) (fun i σ H'=>H'=H1∧∃(b:Str) (v:Option V),σ=[some (.int c),some (.int n),some (.str kSL),some (.str b),v,none]∧b.length=i∧∀x∈b.cps.toList,x∈kSL.cps.toList) ⟨rfl,_,none,rfl,rfl,fun x hx=>by cases hx⟩ (fun i σ H' hi _=>by exact hi) ?_ ?_
  ·rintro i v σ H2' H2 hi ⟨rfl,b,v',rfl,hb,hbi⟩ ⟨rfl,rfl⟩
   walk_at "r"
   refine Z5 a1r (a6g (c/(0+(i:Int)+3) % 26) (by omega) (by omega)) ?_
   refine L4 (j:=⟨#[Y6 (c/(0+(i:Int)+3) % 26)]⟩) (i6 (by rw[T1];omega)) ?_
   walk_at "r"
   refine⟨rfl,_,_,rfl,by rw[a0M,T1];omega,fun x hx=>?_⟩
   have hx':x∈(b.cps++ #[Y6 (c/(0+(i:Int)+3) % 26)]).toList:=hx
   simp only[Array.toList_append,List.mem_append] at hx'
   rcases hx' with z|z
   ·exact hbi x z
   ·have:x=Y6 (c/(0+(i:Int)+3) % 26):=by simpa using z
    rw[this]
    exact a4g _ (by omega) (by omega)
  ·rintro σ H2 ⟨rfl,b,v',rfl,hb,hbi⟩
   refine⟨Nat.le_refl _,?_⟩
   walk_at "r"
   refine D0 (a3s (i6 (by omega)) ?_)
   walk_at "r"
   have q0:0≤c/5 % ((b.length:Int)+1):=Int.emod_nonneg _ (by omega)
   have q1:c/5 % ((b.length:Int)+1)<(b.length:Int)+1:=Int.emod_lt_of_pos _ (by omega)
   generalize c/5 % ((b.length:Int)+1)=at_ at q0 q1⊢
   refine N0 h0 (by omega) ?_
   refine D3 (n:=n.toNat) (fun i out H'=>H'=H2∧out=(List.range i).map fun k=>V.str (a3A b at_ c k)) ⟨rfl,rfl⟩ (fun i out H' hi _=>by exact hi) ?_ ?_
   ·rintro N i v out H3' H3 hi ⟨rfl,rfl⟩ ⟨rfl,rfl⟩ hN'
    walk_at "r"
    refine⟨rfl,?_⟩
    walk_at "r"
    refine a1a (i6 (by omega)) ?_
    walk_at "r"
    have hc3:=a6g ((c+(0+(i:Int))) % 26) (by omega) (by omega)
    refine Z5 a1r hc3 ?_
    have g1:=Txt.slice_le b Option.none (some at_)
    have g2:=Txt.slice_le b (some at_) Option.none
    refine L4 (j:=⟨#[Y6 ((c+(0+(i:Int))) % 26)]⟩) (i6 (by rw[T1];omega)) ?_
    walk_at "r"
    refine a1a (i6 (by omega)) ?_
    refine L4 (i6 (by rw[a0M,T1];omega)) ?_
    refine⟨i6 (by rw[List.length_map,List.length_range];omega),hN' _ _ ⟨rfl,?_⟩⟩
    rw[List.range_succ,List.map_append];rfl
   ·rintro out H3 ⟨rfl,rfl⟩
    refine⟨Nat.le_refl _,fun D hD=>⟨i6 (by rw[List.length_map,List.length_range];omega),?_⟩⟩
    obtain⟨H5,e5,f5,m5,_⟩:=b7 (o:= .lst _) hD
    refine k D _ ((List.range n.toNat).map (a3A b at_ c)) (m1.free hD) ?_ ?_ ⟨by rw[List.length_map,List.length_range],b2m _ _ _ _ (by omega),fun s hs=>?_⟩
    ·show Same _ (upd _ D _)
     rw[e5];exact m1.trans m5
    ·show upd _ D _ D=_
     rw[d7,List.map_map];rfl
    ·obtain⟨i,_,rfl⟩:=List.mem_map.mp hs
     exact a7O hbi (by omega) q0 (by omega)
section
open PySem.Builtin PySem.Builtin.Str
theorem a6F (l:List Nat):∀n,(List.range n).filterMap (fun k=>l[k]?)=l.take n
 |0=>by simp
 |n+1=>by
  rw[List.range_succ,List.filterMap_append,a6F l n,List.take_succ]
  congr 1
theorem b5g (n:Nat)(i:Int)(h0:0≤i)(h1:i≤n):strSliceIndices none (some i) 1 n=List.range i.toNat:=by
 unfold strSliceIndices sliceRange
 simp only[show(1:Int)>0 by decide,if_true]
 rw[if_neg (show ¬i<0 by omega),show max 0 (min i (n:Int))=i by omega]
 have e:(if(0:Int)<i then(i -0+1 -1)/1 else 0)=i:=by split<;>omega
 rw[e]
 refine(List.map_congr_left fun k _=>?_).trans (List.map_id _)
 show(0+1*(k:Int)).toNat=k
 omega
theorem a6n (x:Str)(i:Int)(h0:0≤i)(h1:i≤x.length):(Txt.slice x none (some i)).cps.toList=x.cps.toList.take i.toNat:=by
 unfold Txt.slice
 rw[b5g x.length i h0 h1]
 split
 ·next h=>
  have h':i.toNat=x.length:=by simpa using h
  have hl:x.cps.toList.length=x.length:=by show _=x.cps.size;simp
  rw[List.take_of_length_le (by omega)]
 ·have e:(fun k:Nat=>x.cps[k]?)=fun k=>x.cps.toList[k]?:=by funext k;simp
  show(List.filterMap (fun k=>x.cps[k]?) (List.range i.toNat)).toArray.toList=_
  rw[e,a6F]
end
def a3G (l:List Nat):Str:=⟨l.toArray⟩
theorem a8d (l:List Nat)(c:Nat):a3G l++(⟨#[c]⟩:Str)=a3G (l++[c]):=by
 unfold a3G
 show(⟨l.toArray++ #[c]⟩:Str)=_
 congr 1
 simp
theorem a0J (l:List Nat):(a3G l).length=l.length:=by
 show l.toArray.size=_
 simp
def a0r (s:Str)(i:Int):Nat:=s.cps.toList.getD i.toNat 0
theorem a9E (s:Str)(i:Int)(h0:0≤i)(h1:i<s.cps.toList.length):atI s.cps.toList i=some (a0r s i):=by
 obtain⟨v,hv,hv2⟩:=a1t (xs:=s.cps.toList) h0 h1
 rw[hv]
 unfold a0r
 rw[List.getD_eq_getElem?_getD,hv2];rfl
abbrev kSM:Str:=kSL++("0123456789.":Str)
def lnS (c:Int):Int:=([0,0,3,9,22]:List Int).getD (c % 5).toNat 0
def S8 (j:Nat):Int:=if 0<j then 37 else 26
def a1M (c:Int)(i:Nat):List Nat:=(List.range i).map fun j:Nat=>a0r kSM (c/((j:Int)+3) % S8 j)
def D9 (c:Int):Str:=a3G (a1M c (lnS c).toNat)
def b3q (c:Int)(k:Nat):Str:=(⟨#[Y6 ((c+(k:Int)) % 26)]⟩:Str)++(⟨#[a0r "0123456789." ((k:Int) % 11)]⟩:Str)
def nmS (c:Int)(k:Nat):Str:=Txt.slice (D9 c) none (some (c/5 % (((D9 c).length:Int)+1)))++b3q c k++Txt.slice (D9 c) (some (c/5 % (((D9 c).length:Int)+1))) none
theorem a8q (c:Int)(i:Nat):a1M c (i+1)=a1M c i++[a0r kSM (c/((i:Int)+3) % S8 i)]:=by
 unfold a1M
 rw[List.range_succ,List.map_append];rfl
theorem a1d (c:Int)(i:Nat):(a1M c i).length=i:=by unfold a1M;rw[List.length_map,List.length_range]
theorem b0k (c:Int):0≤lnS c∧lnS c≤22:=by
 have h0:(c % 5).toNat=0∨(c % 5).toNat=1∨(c % 5).toNat=2∨(c % 5).toNat=3∨(c % 5).toNat=4:=by omega
 unfold lnS
 rcases h0 with h|h|h|h|h<;>rw[h]<;>decide
def X9 (K:PySem.W.Frag):Sp:=fun vs H Q _=>∃(c:Int) (k:Nat),vs=[.int c,.int k]∧k≤300∧∀H',Same H H'→Q (.str (nmS c k)) H'
theorem a4m {f:Addr}{fd:FuncData}(T:Txt K mg)(F:Fun K "_law_name" "_law_name" K7 f fd):FnOk P w K mg base CX0 1 f fd ["_law_number","_law_k"] (X9 K):=by
 refine F.ok sc__law_name (fun vs H Q E h=>?_) (fun cdv A outer s H vs Q E hr h=>?_)
 ·obtain⟨c,k',rfl,_⟩:=h
  rfl
 ·obtain⟨c,k',rfl,hk,k⟩:=h
  have hN:=sc__law_name.nd
  have hu:=B9 hr
  refine⟨_,QSs.r (qsC (o0 (i:=2) hN rfl (by walk_at "l") a7w)
   (qsC (o0 (i:=3) hN rfl (by walk_at "l") a7w)
   (qsC (N5 PassesOwn.never rfl (a2f T.b_range (qa1 (qIx (kIx K hu) (O7 (qa1 d9 (qa1 d9 (qa1 d9 (qa1 d9 (qa1 d9 qa0)))))) (qOp j7 (qV 0) d9) (fun _ _=>rfl)) qa0)) (qgN (i:=4) hN rfl (by walk_at "l"))
    (qs1 (o0 (i:=3) hN rfl (by walk_at "l") (qOp (B4 K) (qV 3) (qIx (kIx K hu) (qOp (B4 K) (qV 2) a7w) (qOp j7 (qOp u7 (qV 0) (qOp (B4 K) (qV 4) d9)) (qIx (kIx K hu) (O7 (qa1 d9 (qa1 d9 qa0))) (qBT a0n T.b_int Boot.«int» (qa1 (a3d b2N (qV 4) d9 (t5 _)) qa0)) (fun _ _=>rfl))) (fun _ _=>rfl))))))
   (qsC (o0 (i:=5) hN rfl (by walk_at "l") (qOp j7 (qOp u7 (qV 0) d9) (qOp (B4 K) (qB (E2 K P w) T.b_len Boot.«len» (qa1 (qV 3) qa0)) d9)))
   (qsC (o0 (i:=6) hN rfl (by walk_at "l") (qOp (B4 K) (qIx (kIx K hu) (qV 2) (qOp j7 (qOp (B4 K) (qV 0) (qV 1)) d9) (fun _ _=>rfl)) (qIx (kIx K hu) a7w (qOp j7 (qV 1) d9) (fun _ _=>rfl))))
   (qs1 (D5 (qOp (B4 K) (qOp (B4 K) (qSl (kSl K) (qV 3) qoN (qoS (qV 5))) (qV 6)) (qSl (kSl K) (qV 3) (qoS (qV 5)) qoN))))))))),?_⟩
  walk_at "r"
  refine⟨i6 (by simp),fun l1 n1=>?_⟩
  obtain⟨H1,e1,f1,m1,_⟩:=b7 (o:= .lst (([0,0,3,9,22]:List Int).map V.int)) n1
  rw[show([V.int 0,V.int 0,V.int 3,V.int 9,V.int 22]:List V)=([0,0,3,9,22]:List Int).map V.int from rfl,e1]
  walk_at "r"
  obtain⟨v,hv,hv2⟩:=a1t (xs:=([0,0,3,9,22]:List Int).map V.int) (i:=c % 5) (by omega) (by show _<((5:Nat):Int);omega)
  rw[List.getElem?_map] at hv2
  obtain⟨z,hz,rfl⟩:=Option.map_eq_some_iff.mp hv2
  have ez:lnS c=z:=by unfold lnS;rw[List.getD_eq_getElem?_getD,hz];rfl
  have hz':=b0k c
  rw[ez] at hz'
  refine i7 (SqL.of f1) hv ?_
  refine N0 (by omega) (by omega) ?_
  refine L9 (n:=z.toNat) (fun i σ H'=>Same H H'∧∃(v:Option V),σ=[some (.int c),some (.int k'),some (.str kSL),some (.str (a3G (a1M c i))),v,none,none]) ⟨m1,none,rfl⟩ (fun i σ H' hi _=>by exact hi) ?_ ?_
  ·rintro i v σ H2' H2 hi ⟨s2,v',rfl⟩ ⟨rfl,rfl⟩
   have hbl:=a0J (a1M c i)
   rw[a1d] at hbl
   walk_at "r"
   refine L4 (by decide+kernel) ?_
   walk_at "r"
   refine⟨i6 (by simp),fun l3 n3=>?_⟩
   obtain⟨H3,e3,f3,m3,_⟩:=b7 (o:= .lst [.int 26,.int 37]) n3
   rw[e3]
   walk_at "r"
   refine .inr ⟨_,rfl,?_⟩
   have hmod:S8 i=26∨S8 i=37:=by unfold S8;split<;>simp
   have hix:atI [V.int 26,V.int 37] (if decide (0<0+(i:Int))=true then(1:Int) else 0)=some (.int (S8 i)):=by
    unfold S8
    by_cases h:0<i
    ·rw[if_pos (decide_eq_true (by omega)),if_pos h];rfl
    ·rw[if_neg (by rw[decide_eq_false (by omega)];simp),if_neg h];rfl
   refine i7 (SqL.of f3) hix ?_
   have hmp:0<S8 i:=by omega
   refine r_i hmp ?_
   have q0:0≤c/(0+(i:Int)+3) % S8 i:=Int.emod_nonneg _ (by omega)
   have q1:c/(0+(i:Int)+3) % S8 i<S8 i:=Int.emod_lt_of_pos _ hmp
   have hSl:kSM.cps.toList.length=37:=by decide+kernel
   refine Z5 (by decide+kernel) (a9E kSM _ q0 (by rw[hSl];omega)) ?_
   refine L4 (j:=⟨#[a0r kSM (c/(0+(i:Int)+3) % S8 i)]⟩) (i6 (by rw[T1];omega)) ?_
   walk_at "r"
   refine⟨s2.trans m3,some (.int (0+(i:Int))),?_⟩
   rw[a8q,←a8d,Int.zero_add (i:Int)];rfl
  ·rintro σ H2 ⟨s2,v',rfl⟩
   refine⟨Nat.le_refl _,?_⟩
   have eb:a3G (a1M c z.toNat)=D9 c:=by unfold D9;rw[ez]
   rw[eb]
   have hbl:(D9 c).length≤22:=by rw[←eb,a0J,a1d];omega
   walk_at "r"
   refine D0 (a3s (i6 (by omega)) ?_)
   walk_at "r"
   refine Z5 a1r (a6g ((c+(k':Int)) % 26) (by omega) (by omega)) ?_
   walk_at "r"
   have hdl:("0123456789.":Str).cps.toList.length=11:=by decide+kernel
   refine Z5 (by decide+kernel) (a9E "0123456789." ((k':Int) % 11) (by omega) (by rw[hdl];omega)) ?_
   refine L4 (i:=⟨#[Y6 ((c+(k':Int)) % 26)]⟩) (j:=⟨#[a0r "0123456789." ((k':Int) % 11)]⟩) (i6 (by rw[T1,T1];omega)) ?_
   walk_at "r"
   have g1:=Txt.slice_le (D9 c) Option.none (some (c/5 % (((D9 c).length:Int)+1)))
   have g2:=Txt.slice_le (D9 c) (some (c/5 % (((D9 c).length:Int)+1))) Option.none
   have gt:(b3q c k').length=2:=rfl
   refine a1a (i6 (by omega)) ?_
   walk_at "r"
   refine L4 (j:=b3q c k') (i6 (by omega)) ?_
   walk_at "r"
   refine a1a (i6 (by omega)) ?_
   refine L4 (i6 (by rw[a0M];omega)) ?_
   exact k _ s2
theorem a4Y (c:Int)(k:Nat):(nmS c k).cps.toList=(Txt.slice (D9 c) none (some (c/5 % (((D9 c).length:Int)+1)))).cps.toList++[Y6 ((c+(k:Int)) % 26),a0r "0123456789." ((k:Int) % 11)]++(Txt.slice (D9 c) (some (c/5 % (((D9 c).length:Int)+1))) none).cps.toList:=by
 show((Txt.slice (D9 c) none (some (c/5 % (((D9 c).length:Int)+1)))).cps++(#[Y6 ((c+(k:Int)) % 26)]++ #[a0r "0123456789." ((k:Int) % 11)])++(Txt.slice (D9 c) (some (c/5 % (((D9 c).length:Int)+1))) none).cps).toList=_
 simp
theorem a8t:∀i j:Nat,i<11→j<11→a0r "0123456789." i=a0r "0123456789." j→i=j:=by
 have h:∀i,i<11→∀j,j<11→a0r "0123456789." (i:Nat)=a0r "0123456789." (j:Nat)→i=j:=by decide+kernel
 exact fun i j hi hj=>h i hi j hj
theorem b0Y {c:Int}{i j:Nat}(hi:i<286)(hj:j<286)(h:nmS c i=nmS c j):i=j:=by
 have z:=congrArg (fun s:Str=>s.cps.toList) h
 simp only[a4Y,List.append_assoc,List.append_cancel_left_eq,List.cons_append,List.cons.injEq] at z
 have z1:=z.1
 have e1:(c+(i:Int)) % 26=(((c+(i:Int)) % 26).toNat:Int):=by omega
 have e2:(c+(j:Int)) % 26=(((c+(j:Int)) % 26).toNat:Int):=by omega
 rw[e1,e2] at z1
 have z2:=a5u _ _ (by omega) (by omega) z1
 have z3:=z.2.1
 have e3:(i:Int) % 11=(((i:Int) % 11).toNat:Int):=by omega
 have e4:(j:Int) % 11=(((j:Int) % 11).toNat:Int):=by omega
 rw[e3,e4] at z3
 have z4:=a8t _ _ (by omega) (by omega) z3
 omega
theorem a9z (s:Str)(i:Int)(h0:0≤i)(h1:i<s.cps.toList.length):a0r s i∈s.cps.toList:=by
 unfold a0r
 rw[List.getD_eq_getElem?_getD,List.getElem?_eq_getElem (show i.toNat<s.cps.toList.length by omega)]
 exact List.getElem_mem _
theorem b6N:kSM.cps.toList=kNS.cps.toList:=by decide+kernel
theorem b2G:∀x∈kSL.cps.toList,x∈kNS.cps.toList:=by decide+kernel
theorem b5y:∀x∈("0123456789.":Str).cps.toList,x∈kNS.cps.toList:=by decide+kernel
theorem b2q:∀i:Nat,i<26→a0r kSM (i:Nat)∈kSL.cps.toList:=by decide+kernel
theorem a8H {c:Int}{x:Nat}(h:x∈(D9 c).cps.toList):x∈kNS.cps.toList:=by
 have h':x∈a1M c (lnS c).toNat:=by simpa [D9,a3G] using h
 obtain⟨j,_,rfl⟩:=List.mem_map.mp h'
 rw[←b6N]
 have hl:kSM.cps.toList.length=37:=by decide+kernel
 have hm:S8 j=26∨S8 j=37:=by unfold S8;split<;>simp
 have q0:0≤c/((j:Int)+3) % S8 j:=Int.emod_nonneg _ (by omega)
 have q1:c/((j:Int)+3) % S8 j<S8 j:=Int.emod_lt_of_pos _ (by omega)
 exact a9z _ _ q0 (by rw[hl];omega)
theorem b2k (c:Int):(D9 c).length≤22:=by
 have:=b0k c
 unfold D9
 rw[a0J,a1d];omega
theorem a8M (c:Int)(k:Nat):a2n (nmS c k)=true:=by
 have hb:=b2k c
 have q0:0≤c/5 % (((D9 c).length:Int)+1):=Int.emod_nonneg _ (by omega)
 have q1:c/5 % (((D9 c).length:Int)+1)<((D9 c).length:Int)+1:=Int.emod_lt_of_pos _ (by omega)
 have hlist:=a4Y c k
 have g1:=a5y (D9 c) _ q0 (by omega)
 have g2:=a2L (D9 c) _ q0 (by omega)
 have htk:=a6n (D9 c) _ q0 (by omega)
 generalize c/5 % (((D9 c).length:Int)+1)=at_ at q0 q1 hlist g1 g2 htk
 have hl:(nmS c k).length=(nmS c k).cps.toList.length:=a3Q _
 have e1:=a3Q (Txt.slice (D9 c) none (some at_))
 have e2:=a3Q (Txt.slice (D9 c) (some at_) none)
 have hlen:(nmS c k).length=(Txt.slice (D9 c) none (some at_)).length+2+(Txt.slice (D9 c) (some at_) none).length:=by
  rw[hl,hlist,List.length_append,List.length_append,e1,e2];rfl
 have dl:("0123456789.":Str).cps.toList.length=11:=by decide+kernel
 unfold a2n
 rw[Bool.and_eq_true]
 constructor
 ·unfold a0v
  rw[hlen,decide_eq_true (by omega),decide_eq_true (by omega),Bool.true_and,Bool.true_and]
  unfold a6Y
  rw[List.all_eq_true,hlist]
  intro x hx
  refine decide_eq_true ?_
  rcases List.mem_append.mp hx with z|z
  ·rcases List.mem_append.mp z with z|z
   ·exact a8H (a0i z)
   ·simp only[List.mem_cons,List.not_mem_nil,or_false] at z
    rcases z with rfl|rfl
    ·exact b2G _ (a4g _ (by omega) (by omega))
    ·exact b5y _ (a9z _ _ (by omega) (by rw[dl];omega))
  ·exact a8H (a0i z)
 ·unfold hdB
  refine decide_eq_true ?_
  rw[hlist,htk]
  by_cases h0:at_=0
  ·rw[h0]
   exact a4g _ (by omega) (by omega)
  ·have hbs:(D9 c).cps.toList=a1M c (lnS c).toNat:=by simp [D9,a3G]
   have hbl:(D9 c).length=(lnS c).toNat:=by unfold D9;rw[a0J,a1d]
   obtain⟨m,hm⟩:∃m,(lnS c).toNat=m+1:=⟨(lnS c).toNat -1,by omega⟩
   obtain⟨t,ht⟩:∃t,at_.toNat=t+1:=⟨at_.toNat -1,by omega⟩
   rw[hbs,hm,ht]
   unfold a1M
   rw[List.range_succ_eq_map,List.map_cons,List.take_succ_cons,List.cons_append,List.cons_append,List.headD_cons]
   have q2:(c/(((0:Nat):Int)+3) % S8 0)=(((c/(((0:Nat):Int)+3) % S8 0).toNat:Nat):Int):=by
    have:S8 0=26:=rfl
    rw[this];omega
   rw[q2]
   exact b2q _ (by have:S8 0=26:=rfl;rw[this];omega)
structure a9U (W:Web):Prop where
 nm:∀x∈i8 W,a2n x=true
 kd:∀x∈W.pts,C4 x.2=true
 tk:∀x∈W.ts,C4 x.2.1=true
theorem a3k {x s:Str}{m:Int}(h:a0v x s m=true):(x.length:Int)≤m:=by
 unfold a0v at h
 simp only[Bool.and_eq_true,decide_eq_true_eq] at h
 exact h.1.2
structure a4n (m:Nat) (W:Web):Prop where
 good:a9U W
 kds:∀n∈i8 W,C4 n=true
 l1:W.pts.length≤m
 l2:W.ts.length≤m
structure Sd where
 a:Addr
 p:Addr
 q:Addr
 kvs:List (Key×V)
 W:Web
def SdIs (K:PySem.W.Frag)(H:Hp)(s:Sd):Prop:=WebIs 24 K H s.a s.p s.q s.kvs s.W
theorem SdIs.same {H H':Hp}{s:Sd}(h:SdIs K H s)(m:Same H H'):SdIs K H' s:=WebIs.same h m
structure RuleIs (K:PySem.W.Frag) (H:Hp) (r bl:Addr) (L R:Sd) (bs:List Sd):Prop where
 tup:SqT K H r [.ref L.a,.ref R.a,.ref bl]
 l:SdIs K H L
 r:SdIs K H R
 bl:SqL K H bl (bs.map fun s=>V.ref s.a)
 bars:∀b∈bs,SdIs K H b
theorem RuleIs.same {H H':Hp}{r bl:Addr}{L R:Sd}{bs:List Sd}(h:RuleIs K H r bl L R bs)(m:Same H H'):RuleIs K H' r bl L R bs:=⟨m.tup h.tup,h.l.same m,h.r.same m,m.seq h.bl,fun b hb=>(h.bars b hb).same m⟩
structure b6K (n:Str) (L R:Web):Prop where
 p:∀k,(n,k)∈L.pts↔(n,k)∈R.pts
 t:∀t,(n,t)∈L.ts↔(n,t)∈R.ts
structure b0T (L R:Web) (bs:List Sd):Prop where
 l:a4n 4 L
 r:a4n 4 R
 ag:∀n∈i8 L,n∈i8 R→b6K n L R
 len:bs.length≤3
 bars:∀b∈bs,a4n 6 b.W∧(∀x∈L.pts,x∈b.W.pts)∧∀x∈L.ts,x∈b.W.ts
def Z7 (K:PySem.W.Frag):Sp:=fun vs H Q _=>∃(a b:Addr) (c:Int) (ns:List Int) (ks:List Str),vs=[.ref a,.int c,.ref b]∧SqL K H a (ns.map V.int)∧ns.length≤63∧SqL K H b (ks.map V.str)∧0<ks.length∧ks.length≤3∧(∀s∈ks,C4 s=true)∧∀(a p q:Addr) (kvs:List (Key×V)) (W:Web) (H':Hp),Same H H'→WebIs 24 K H' a p q kvs W→a9U W→W.pts.length+W.ts.length≤12→(∀x∈i8 W,∃j,j<13∧x=nmS c j)→Q (.ref a) H'
theorem a4Q {f:Addr}{fd:FuncData}(T:Txt K mg)(D1:Cal P w K mg base CX0 1 "_law_mixed" ["_law_cell","_law_k"] [] (O6 K))(B5:Cal P w K mg base CX0 1 "_law_cell_at" ["_law_script","_law_k"] [] (K1 K))(T3:Cal P w K mg base CX0 1 "_law_name" ["_law_number","_law_k"] [] (X9 K))(F:Fun K "_law_web" "_law_web" O2 f fd):FnOk P w K mg base CX0 2 f fd ["_law_script","_law_number","_law_kinds"] (Z7 K):=by
 refine F.ok sc__law_web (fun vs H Q E h=>?_) (fun cdv A outer s H vs Q E hr h=>?_)
 ·obtain⟨a,b,c,ns,ks,rfl,_⟩:=h
  rfl
 ·obtain⟨a,b,c,ns,ks,rfl,hA,hl,hC,hk0,hk3,hkk,k⟩:=h
  have hN:=sc__law_web.nd
  have hu:=B9 hr
  refine⟨_,QSs.r (qsC (o0 (i:=3) hN rfl (by walk_at "l") qD0)
   (qsC (o0 (i:=4) hN rfl (by walk_at "l") qD0)
   (qsC (N5 PassesOwn.never rfl (a2f T.b_range (qa1 (qOp (B4 K) d9 (qOp j7 (qOp u7 (qV 1) d9) d9)) qa0)) (qgN (i:=5) hN rfl (by walk_at "l"))
    (qsC (o0 (i:=6) hN rfl (by walk_at "l") (qC D1 (hr.mono (by decide)) r9 (qa1 (qC B5 (hr.mono (by decide)) r9 (qa1 (qV 0) (qa1 (qOp (B4 K) d9 (qV 5)) qa0))) (qa1 (qV 5) qa0))))
   (qsC (o0 (i:=7) hN rfl (by walk_at "l") (qB (J5 K rfl) T.b_sorted Boot.«sorted» (qa1 (qV 3) qa0)))
   (qs1 (qIf (qtW (a4H (w5 (Q8 K hr) (qV 7) (O7 qa0) (t5 _)) (a4O (w5 (Q8 K hr) (qOp j7 (qV 6) d9) d9 (t5 _))))) (qs1 (U3 (qIx (kIx K hu) (qV 2) (qOp j7 (qOp u7 (qV 6) d9) (qB (E2 K P w) T.b_len Boot.«len» (qa1 (qV 2) qa0))) (fun _ _=>rfl)) (qgS (qV 3) (qC T3 (hr.mono (by decide)) r9 (qa1 (qV 1) (qa1 (qV 5) qa0))) (u4 P w hu)))) (qsC (o0 (i:=8) hN rfl (by walk_at "l") (X7 (qa1 (qIx (kIx K hu) (qV 7) (qOp j7 (qOp u7 (qV 6) d9) (qB (E2 K P w) T.b_len Boot.«len» (qa1 (qV 7) qa0))) (fun _ _=>rfl)) (qa1 (qIx (kIx K hu) (qV 7) (qOp j7 (qOp u7 (qV 6) d9) (qB (E2 K P w) T.b_len Boot.«len» (qa1 (qV 7) qa0))) (fun _ _=>rfl)) qa0))))
   (qs1 (U3 (qOp (B4 K) (X7 (qa1 (qIx (kIx K hu) (qV 2) (qOp j7 (qOp u7 (qV 6) d9) (qB (E2 K P w) T.b_len Boot.«len» (qa1 (qV 2) qa0))) (fun _ _=>rfl)) qa0)) (qV 8)) (qgS (qV 4) (qC T3 (hr.mono (by decide)) r9 (qa1 (qV 1) (qa1 (qV 5) qa0))) (u4 P w hu))))))))))
   (qs1 (D5 (X7 (qa1 (qV 3) (qa1 (qV 4) qa0)))))))),?_⟩
  walk_at "r"
  intro p np
  obtain⟨H1,e1,f1,m1,o1⟩:=b7 (o:= .dK []) np
  rw[e1]
  walk_at "r"
  intro q nq
  obtain⟨H2,e2,f2,m2,o2⟩:=b7 (o:= .dK []) nq
  rw[e2]
  have hpq:p≠q:=fun z=>by rw[←z,f1] at nq;cases nq
  have nq0:H q=none:=m1.free nq
  walk_at "r"
  refine N0 (by omega) (by omega) ?_
  refine L9 (n:=(3+c/7 % 10).toNat) (fun i σ H'=>∃(pts:List (Str×Str)) (kvs:List (Key×V)) (ts:List (Str×Tie)) (v1 v2 v3 v4:Option V),σ=[some (.ref a),some (.int c),some (.ref b),some (.ref p),some (.ref q),v1,v2,v3,v4]∧Same H H'∧H' p=some (.dK (pKV pts))∧H' q=some (.dK kvs)∧TiesIs K H' kvs ts∧(pts.map (·.1)++ts.map (·.1)).Nodup∧(∀x∈pts.map (·.1)++ts.map (·.1),x∈(List.range i).map (nmS c))∧pts.length+ts.length=i∧(∀x∈ts,x.2.2.1∈pts.map (·.1)∧x.2.2.2∈pts.map (·.1))∧(∀x∈pts,C4 x.2=true)∧∀x∈ts,C4 x.2.1=true)
   ⟨[],[],[],_,_,_,_,rfl,m1.trans m2,m2 _ _ f1,f2,.nil,List.nodup_nil,(fun _ h=>nomatch h),rfl,(fun _ h=>nomatch h),(fun _ h=>nomatch h),fun _ h=>nomatch h⟩ (fun i σ H' hi _=>by exact hi) ?_ ?_
  ·rintro i v σ H3' H3 hi ⟨pts,kvs,ts,v1,v2,v3,v4,rfl,s3,g3,t3,w3,d1,d2,l1,l2,k1,k2⟩ ⟨rfl,rfl⟩
   have e7:(List.range (i+1)).map (nmS c)=(List.range i).map (nmS c)++[nmS c i]:=by rw[List.range_succ,List.map_append];rfl
   have nin:nmS c i∉(List.range i).map (nmS c):=fun m=>by
    obtain⟨j,hj,e⟩:=List.mem_map.mp m
    have hj':=List.mem_range.mp hj
    have:=b0Y (by omega) (by omega) e
    omega
   have fresh:nmS c i∉pts.map (·.1)++ts.map (·.1):=fun m=>nin (d2 _ m)
   have sub1:∀x∈pts.map (·.1)++ts.map (·.1),x∈(List.range (i+1)).map (nmS c):=fun x hx=>by rw[e7];exact List.mem_append_left _ (d2 x hx)
   have here:nmS c i∈(List.range (i+1)).map (nmS c):=by rw[e7];simp
   walk_at "r"
   refine⟨a,ns,_,rfl,s3.seq hA,hl,by omega,fun m=>?_⟩
   walk_at "r"
   refine⟨_,_,rfl,by omega,by omega,fun x hx0=>?_⟩
   walk_at "r"
   refine p0 (ss:=pts.map (·.1)) (.inl g3) (by rw[B7,u9]) (by rw[List.length_map];omega) (fun s1 a1 a2 l5 n5=>?_)
   obtain⟨H5,e5,f5,m5,_⟩:=b7 (o:= .lst _) n5
   rw[e5]
   have ha1l:=a1.length_eq
   rw[List.length_map] at ha1l
   walk_at "r"
   refine⟨i6 (by simp),fun l6 n6=>?_⟩
   obtain⟨H6,e6,f6,m6,_⟩:=b7 (o:= .lst _) n6
   rw[e6]
   have h6:=m6 _ _ f5
   have s6:=s3.trans (m5.trans m6)
   have g6:=m6 _ _ (m5 _ _ g3)
   have t6:=m6 _ _ (m5 _ _ t3)
   have w6:=w3.mono (m5.trans m6).le
   refine a8o (a4A (SqL.of h6) (SqL.of f6) (M8 _) rfl ?_)
   walk_at "r"
   refine U4 (fun hz=>?_) (fun hz=>?_)
   ·walk_at "r"
    refine D0 (j8 (s6.seq hC) ?_)
    rw[List.length_map]
    walk_at "r"
    obtain⟨kd,hkd,hkd'⟩:=C2 (ss:=ks) (i:=x/3 % (ks.length:Int)) (Int.emod_nonneg _ (by omega)) (Int.emod_lt_of_pos _ (by omega))
    refine i7 (s6.seq hC) hkd ?_
    walk_at "r"
    refine⟨c,i,by rw[Int.zero_add];rfl,by omega,fun H7 m7=>?_⟩
    have s7:=s6.trans m7
    have g7:=m7 _ _ g6
    have t7:=m7 _ _ t6
    have w7:=w6.mono m7.le
    refine N6 (p8 (k:=Sum.inr (nmS c i)) g7 (i6 (by unfold pKV;rw[List.length_map];omega)) ?_)
    have ep:B8 (pKV pts) (Sum.inr (nmS c i):Key) (.str kd)=pKV (pts++[(nmS c i,kd)]):=by
     rw[N1 _ (D7 (by rw[B7,←u9];exact fun m=>fresh (List.mem_append_left _ (Q0 m))))]
     unfold pKV;rw[List.map_append];rfl
    refine⟨pts++[(nmS c i,kd)],kvs,ts,_,_,_,_,rfl,C3 s7 np,by rw[d7,ep],by rw[b5 (Ne.symm hpq)];exact t7,Paired.imp' (fun _ _ z=>a0W g7 z) w7,a9h d1 fresh,a6B sub1 here,?_,?_,?_,fun y hy=>k2 y hy⟩
    ·rw[List.length_append,List.length_singleton];omega
    ·intro x hx
     rw[List.map_append]
     exact⟨List.mem_append_left _ (l2 x hx).1,List.mem_append_left _ (l2 x hx).2⟩
    ·intro y hy
     rcases List.mem_append.mp hy with h'|h'
     ·exact k1 y h'
     ·rw[List.mem_singleton.mp h'];exact hkk _ hkd'
   ·walk_at "r"
    refine M4 (fun h3=>?_) (fun h3=>?_)
    ·walk_at "r"
     refine D0 (j8 (s6.seq hC) ?_)
     rw[List.length_map]
     walk_at "r"
     obtain⟨kd,hkd,hkd'⟩:=C2 (ss:=ks) (i:=x/3 % (ks.length:Int)) (Int.emod_nonneg _ (by omega)) (Int.emod_lt_of_pos _ (by omega))
     refine i7 (s6.seq hC) hkd ?_
     walk_at "r"
     refine⟨c,i,by rw[Int.zero_add];rfl,by omega,fun H7 m7=>?_⟩
     have s7:=s6.trans m7
     have g7:=m7 _ _ g6
     have t7:=m7 _ _ t6
     have w7:=w6.mono m7.le
     refine N6 (p8 (k:=Sum.inr (nmS c i)) g7 (i6 (by unfold pKV;rw[List.length_map];omega)) ?_)
     have ep:B8 (pKV pts) (Sum.inr (nmS c i):Key) (.str kd)=pKV (pts++[(nmS c i,kd)]):=by
      rw[N1 _ (D7 (by rw[B7,←u9];exact fun m=>fresh (List.mem_append_left _ (Q0 m))))]
      unfold pKV;rw[List.map_append];rfl
     refine⟨pts++[(nmS c i,kd)],kvs,ts,_,_,_,_,rfl,C3 s7 np,by rw[d7,ep],by rw[b5 (Ne.symm hpq)];exact t7,Paired.imp' (fun _ _ z=>a0W g7 z) w7,a9h d1 fresh,a6B sub1 here,?_,?_,?_,fun y hy=>k2 y hy⟩
     ·rw[List.length_append,List.length_singleton];omega
     ·intro x hx
      rw[List.map_append]
      exact⟨List.mem_append_left _ (l2 x hx).1,List.mem_append_left _ (l2 x hx).2⟩
     ·intro y hy
      rcases List.mem_append.mp hy with h'|h'
      ·exact k1 y h'
      ·rw[List.mem_singleton.mp h'];exact hkk _ hkd'
    ·have hpos:0<pts.length:=by
      cases pts with
      |nil=>exact absurd hz (by rw[List.Perm.eq_nil a1];decide)
      |cons _ _=>simp
     walk_at "r"
     refine D0 (j8 (SqL.of h6) ?_)
     rw[List.length_map,ha1l]
     walk_at "r"
     obtain⟨o1,ho1,hm1⟩:=C2 (ss:=s1) (i:=x/9 % (pts.length:Int)) (Int.emod_nonneg _ (by omega)) (by rw[ha1l];exact Int.emod_lt_of_pos _ (by omega))
     refine i7 (SqL.of h6) ho1 ?_
     walk_at "r"
     refine D0 (j8 (SqL.of h6) ?_)
     rw[List.length_map,ha1l]
     walk_at "r"
     obtain⟨o2,ho2,hm2⟩:=C2 (ss:=s1) (i:=x/101 % (pts.length:Int)) (Int.emod_nonneg _ (by omega)) (by rw[ha1l];exact Int.emod_lt_of_pos _ (by omega))
     refine i7 (SqL.of h6) ho2 ?_
     walk_at "r"
     refine⟨i6 (by simp),fun l8 n8=>?_⟩
     obtain⟨H8,e8,f8,m8,_⟩:=b7 (o:= .tup _) n8
     rw[e8]
     have s8:=s6.trans m8
     walk_at "r"
     refine D0 (j8 (s8.seq hC) ?_)
     rw[List.length_map]
     walk_at "r"
     obtain⟨kd,hkd,hkd'⟩:=C2 (ss:=ks) (i:=x/3 % (ks.length:Int)) (Int.emod_nonneg _ (by omega)) (Int.emod_lt_of_pos _ (by omega))
     refine i7 (s8.seq hC) hkd ?_
     walk_at "r"
     refine⟨i6 (by simp),fun l9 n9=>?_⟩
     obtain⟨H9,e9,f9,m9,_⟩:=b7 (o:= .tup _) n9
     rw[e9]
     walk_at "r"
     refine .inr (.inr (.inr ⟨l9,l8,_,_,rfl,rfl,SqT.of f9,SqT.of (m9 _ _ f8),by simp,i6 (by simp),(fun z=>by cases z),fun _ l10 n10=>?_⟩))
     obtain⟨H10,e10,f10,m10,_⟩:=b7 (o:= .tup (Q9 (kd,o1,o2))) n10
     rw[show([V.str kd]++[V.str o1,V.str o2]:List V)=Q9 (kd,o1,o2) from rfl,e10]
     walk_at "r"
     refine⟨c,i,by rw[Int.zero_add];rfl,by omega,fun H11 m11=>?_⟩
     have M:=m8.trans (m9.trans (m10.trans m11))
     have s11:=s6.trans M
     have g11:=M _ _ g6
     have t11:=M _ _ t6
     have w11:=w6.mono M.le
     refine N6 (p8 (k:=Sum.inr (nmS c i)) t11 (i6 (by have z:=w11.length;omega)) ?_)
     have ek:B8 kvs (Sum.inr (nmS c i):Key) (.ref l10)=kvs++[(Sum.inr (nmS c i),.ref l10)]:=N1 _ (D7 (by rw[w11.keys,←u9];exact fun m=>fresh (List.mem_append_right _ (Q0 m))))
     refine⟨pts,_,ts++[(nmS c i,(kd,o1,o2))],_,_,_,_,rfl,C3 s11 nq0,by rw[b5 hpq];exact g11,d7,?_,b3a d1 fresh,b1p sub1 here,?_,?_,k1,?_⟩
     ·rw[ek]
      exact A9 (Paired.imp' (fun _ _ z=>a0W t11 z) w11) (a0W t11 ⟨rfl,l10,rfl,SqT.of (m11 _ _ f10)⟩)
     ·rw[List.length_append,List.length_singleton];omega
     ·intro x hx
      rcases List.mem_append.mp hx with h'|h'
      ·exact l2 x h'
      ·rw[List.mem_singleton.mp h'];exact⟨a1.mem_iff.mp hm1,a1.mem_iff.mp hm2⟩
     ·intro y hy
      rcases List.mem_append.mp hy with h'|h'
      ·exact k2 y h'
      ·rw[List.mem_singleton.mp h'];exact hkk _ hkd'
  ·rintro σ H3 ⟨pts,kvs,ts,v1,v2,v3,v4,rfl,s3,g3,t3,w3,d1,d2,l1,l2,k1,k2⟩
   refine⟨Nat.le_refl _,?_⟩
   walk_at "r"
   refine⟨i6 (by simp),fun l9 n9=>?_⟩
   obtain⟨H9,e9,f9,m9,_⟩:=b7 (H:=H3) (o:= .tup [.ref p,.ref q]) n9
   change Q _ (upd H3 l9 _)
   rw[e9]
   have hgn:∀x∈pts.map (·.1)++ts.map (·.1),a2n x=true:=fun x hx=>by
    obtain⟨j,_,rfl⟩:=List.mem_map.mp (d2 x hx)
    exact a8M c j
   have hnl:∀x∈pts.map (·.1)++ts.map (·.1),x.length≤100:=fun x hx=>by
    have z:=hgn x hx
    unfold a2n at z
    have:=a3k (Bool.and_eq_true _ _▸z).1
    omega
   exact k l9 p q kvs ⟨pts,ts⟩ H9 (s3.trans m9) ⟨⟨SqT.of f9,.inl (m9 _ _ g3),.inl (m9 _ _ t3),w3.mono m9.le⟩,m9 _ _ g3,m9 _ _ t3,hpq,d1,by show(pts.map (·.1)++ts.map (·.1)).length≤24;rw[List.length_append,List.length_map,List.length_map];omega,l2,hnl⟩ ⟨hgn,k1,k2⟩ (by show pts.length+ts.length≤12;omega) (fun x hx=>by
    obtain⟨j,hj,rfl⟩:=List.mem_map.mp (d2 x hx)
    have:=List.mem_range.mp hj
    exact⟨j,by omega,rfl⟩)
structure b5I (W:Web) (ps ts:List Str):Prop where
 n1:ps.Nodup
 n2:ts.Nodup
 l1:ps.length≤4
 l2:ts.length≤4
 p:∀n∈ps,n∈W.pts.map (·.1)
 t:∀n∈ts,∃x,(n,x)∈W.ts∧x.2.1∈ps∧x.2.2∈ps
def S0 (K:PySem.W.Frag):Sp:=fun vs H Q _=>∃(S:Sd) (lx:Addr) (xs:List Int),vs=[.ref S.a,.ref lx]∧SdIs K H S∧SqL K H lx (xs.map V.int)∧xs.length=16∧(∀x∈xs,0≤x)∧∀(t lp lt:Addr) (ps ts:List Str) (H':Hp),Same H H'→H' t=some (.tup [.ref lp,.ref lt])→H' lp=some (.lst (ps.map V.str))→H' lt=some (.lst (ts.map V.str))→b5I S.W ps ts→Q (.ref t) H'
theorem P8 {xs:List Int}(hl:xs.length=16)(h0:∀x∈xs,0≤x)(i:Nat)(hi:i<16):∃x,atI (xs.map V.int) (i:Int)=some (.int x)∧0≤x:=
 ⟨xs[i]'(by omega),h8 (j:=i) (by rw[List.getElem?_map,List.getElem?_eq_getElem (by omega)];rfl),h0 _ (List.getElem_mem _)⟩
theorem a2Q {f:Addr}{fd:FuncData}(T:Txt K mg)(F:Fun K "_law_picked" "_law_picked" E5 f fd):FnOk P w K mg base CX0 1 f fd ["_law_web_here","_law_xs"] (S0 K):=by
 refine F.ok sc__law_picked (fun vs H Q E h=>?_) (fun cdv A outer s H vs Q E hr h=>?_)
 ·obtain⟨S,lx,xs,rfl,_⟩:=h
  rfl
 ·obtain⟨S,lx,xs,rfl,hS,hX,hxl,hx0,k⟩:=h
  have hSl:=hS.len
  rw[z7] at hSl
  have hN:=sc__law_picked.nd
  have hu:=B9 hr
  refine⟨_,QSs.r (qsC (o0 (i:=2) hN rfl (by walk_at "l") (qB (J5 K rfl) T.b_sorted Boot.«sorted» (qa1 (qIx (kIx K hu) (qV 0) d9 (fun _ _=>rfl)) qa0)))
   (qsC (o0 (i:=3) hN rfl (by walk_at "l") (O7 qa0))
   (qsC (N5 PassesOwn.never rfl (a2f T.b_range (qa1 (qOp K0 (qOp j7 (qIx (kIx K hu) (qV 1) d9 (fun _ _=>rfl)) d9) (qBT a0n T.b_int Boot.«int» (qa1 (a3d (a3C K hr) (qV 2) (O7 qa0) (t5 _)) qa0))) qa0)) (qgN (i:=4) hN rfl (by walk_at "l"))
    (qs1 (qIf (w5 (U7 K hu) (qIx (kIx K hu) (qV 2) (qOp j7 (qIx (kIx K hu) (qV 1) (qOp (B4 K) d9 (qV 4)) (fun _ _=>rfl)) (qB (E2 K P w) T.b_len Boot.«len» (qa1 (qV 2) qa0))) (fun _ _=>rfl)) (qV 3) (by rfl)) (qs1 (qEx (qM PySem.F.plainAttrs_list PySem.F.slot_list_append PySem.F.type_list_append u0 K (qV 3) (qa1 (qIx (kIx K hu) (qV 2) (qOp j7 (qIx (kIx K hu) (qV 1) (qOp (B4 K) d9 (qV 4)) (fun _ _=>rfl)) (qB (E2 K P w) T.b_len Boot.«len» (qa1 (qV 2) qa0))) (fun _ _=>rfl)) qa0)))) qs0)))
   (qsC (o0 (i:=5) hN rfl (by walk_at "l") (O7 qa0))
   (qsC (N5 PassesOwn.never rfl (Q6 K T.b_enumerate (qa1 (qB (J5 K rfl) T.b_sorted Boot.«sorted» (qa1 (qIx (kIx K hu) (qV 0) d9 (fun _ _=>rfl)) qa0)) qa0)) (qgT K rfl (qg1 (qgN (i:=6) hN rfl (by walk_at "l")) (qg1 (qgN (i:=7) hN rfl (by walk_at "l")) qg0)))
    (qsC (o0 (i:=8) hN rfl (by walk_at "l") (qIx (kIx K hu) (qIx (kIx K hu) (qV 0) d9 (fun _ _=>rfl)) (qV 7) (fun _ _=>rfl)))
   (qs1 (qIf (qtW (a2H (w5 (kIn K hu) (qIx (kIx K hu) (qV 8) d9 (fun _ _=>rfl)) (qV 3) (by rfl)) (a2H (w5 (kIn K hu) (qIx (kIx K hu) (qV 8) d9 (fun _ _=>rfl)) (qV 3) (by rfl)) (a2H (w5 a9v (qB (E2 K P w) T.b_len Boot.«len» (qa1 (qV 5) qa0)) d9 (t5 _)) (a2x (w5 b2N (qOp j7 (qOp u7 (qIx (kIx K hu) (qV 1) d9 (fun _ _=>rfl)) (qOp (B4 K) (qV 6) d9)) d9) d9 (t5 _))))))) (qs1 (qEx (qM PySem.F.plainAttrs_list PySem.F.slot_list_append PySem.F.type_list_append u0 K (qV 5) (qa1 (qV 7) qa0)))) qs0))))
   (qs1 (D5 (X7 (qa1 (qV 3) (qa1 (qV 5) qa0)))))))))),?_⟩
  refine C5 ?_
  walk_at "e"
  refine d8 hS.at_.tup (h8 (j:=0) rfl) ?_
  walk_at "e"
  refine p0 (ss:=S.W.pts.map (·.1)) hS.at_.pts (by rw[B7,u9]) (by rw[List.length_map];omega) (fun s1 a1 a2 l1 n1=>?_)
  obtain⟨H1,e1,f1,m1,_⟩:=b7 (o:= .lst _) n1
  rw[e1]
  have g1:=a1.length_eq
  rw[List.length_map] at g1
  walk_at "e"
  refine C5 ?_
  walk_at "e"
  refine⟨i6 (by simp),fun lp np=>?_⟩
  obtain⟨H2,e2,f2,m2,_⟩:=b7 (o:= .lst []) np
  rw[e2]
  walk_at "e"
  refine C5 ?_
  walk_at "e"
  obtain⟨x0,hx,hx'⟩:=P8 hxl hx0 0 (by omega)
  refine i7 ((m1.trans m2).seq hX) hx ?_
  walk_at "e"
  refine⟨i6 (by simp),fun l3 n3=>?_⟩
  obtain⟨H3,e3,f3,m3,_⟩:=b7 (o:= .lst []) n3
  rw[e3]
  refine b1Y (a2s (SqL.of (m3 _ _ (m2 _ _ f1))) (SqL.of f3) (M8 _) rfl ?_)
  refine .inr ⟨_,rfl,?_⟩
  have hem:L7 (s1.map V.str) []=decide (s1=[]):=by cases s1<;>rfl
  rw[hem]
  generalize hn:(if(!decide (s1=[]))=true then(1:Int) else 0)=n
  have hn01:(n=0∨n=1)∧(n=1→0<s1.length):=by
   subst hn
   cases s1 with
   |nil=>simp
   |cons _ _=>simp
  have hp0:lp≠l1:=b9 f1 np|>.symm
  walk_at "e"
  have hmul:0≤x0 % 5*n∧x0 % 5*n≤4∧(0<x0 % 5*n→n=1):=by
   rcases hn01.1 with rfl|rfl<;>omega
  generalize x0 % 5*n=cnt at hmul⊢
  refine N0 (by omega) (by omega) ?_
  have M3:=m1.trans (m2.trans m3)
  refine L9 (n:=cnt.toNat) (fun i σ H'=>Same H H'∧H' l1=some (.lst (s1.map V.str))∧(∃v4,σ=[some (.ref S.a),some (.ref lx),some (.ref l1),some (.ref lp),v4,none,none,none,none])∧∃ps:List Str,H' lp=some (.lst (ps.map V.str))∧ps.Nodup∧ps.length≤i∧∀n∈ps,n∈s1)
   ⟨M3,m3 _ _ (m2 _ _ f1),⟨_,rfl⟩,[],m3 _ _ f2,List.nodup_nil,Nat.le_refl _,fun _ h=>nomatch h⟩ (fun i σ H' hi _=>by exact hi) ?_ ?_
  ·rintro i v σ H4' H4 hi ⟨s4,h4,⟨v4,rfl⟩,ps,g4,nd4,hl4,in4⟩ ⟨rfl,rfl⟩
   have hpos:0<s1.length:=hn01.2 (hmul.2.2 (by omega))
   obtain⟨xj,hxj,hxj'⟩:=P8 hxl hx0 (1+i) (by omega)
   have hxe:((1+i:Nat):Int)=1+(0+(i:Int)):=by omega
   rw[hxe] at hxj
   obtain⟨nm,hnm,hnm'⟩:=C2 (ss:=s1) (i:=xj % (s1.length:Int)) (Int.emod_nonneg _ (by omega)) (Int.emod_lt_of_pos _ (by omega))
   walk_at "e"
   refine i7 (s4.seq hX) hxj ?_
   walk_at "e"
   refine D0 (j8 (SqL.of h4) ?_)
   rw[List.length_map]
   walk_at "e"
   refine i7 (SqL.of h4) hnm ?_
   walk_at "e"
   refine I0 (SqL.of g4) ?_
   walk_at "e"
   refine a0z (fun hb=>?_) (fun hb=>?_)
   ·walk_at "e"
    refine⟨.inl ⟨rfl,_,SqL.of g4⟩,?_⟩
    walk_at "e"
    refine i7 (s4.seq hX) hxj ?_
    walk_at "e"
    refine D0 (j8 (SqL.of h4) ?_)
    rw[List.length_map]
    walk_at "e"
    refine i7 (SqL.of h4) hnm ?_
    walk_at "e"
    refine⟨lp,_,_,rfl,rfl,g4,L5 (by rw[List.length_map];omega),?_⟩
    refine⟨C3 s4 (m1.free np),by rw[b5 hp0.symm];exact h4,⟨_,rfl⟩,ps++[nm],?_,z0 nd4 hb,by rw[List.length_append,List.length_singleton];omega,fun n hn=>?_⟩
    ·rw[d7,List.map_append];rfl
    ·rcases List.mem_append.mp hn with z|z
     ·exact in4 n z
     ·rw[List.mem_singleton.mp z];exact hnm'
   ·walk_at "e"
    exact⟨s4,h4,⟨_,rfl⟩,ps,g4,nd4,by omega,in4⟩
  ·rintro σ H4 ⟨s4,h4,⟨v4,rfl⟩,ps,g4,nd4,hl4,in4⟩
   refine⟨Nat.le_refl _,?_⟩
   have S4:=hS.same s4
   refine C5 ?_
   walk_at "e"
   refine⟨i6 (by simp),fun lt nt=>?_⟩
   obtain⟨H5,e5,f5,m5,_⟩:=b7 (H:=H4) (o:= .lst []) nt
   change P6 _ _ _ (upd H4 lt _) _
   rw[e5]
   walk_at "e"
   refine C5 ?_
   walk_at "e"
   have S5:=S4.same m5
   refine d8 S5.at_.tup (h8 (j:=1) rfl) ?_
   walk_at "e"
   refine p0 (ss:=S.W.ts.map (·.1)) S5.at_.ties (by rw[S5.at_.ts.keys,u9]) (by rw[List.length_map];omega) (fun s2 b1 b2 l6 n6=>?_)
   obtain⟨H6,e6,f6,m6,_⟩:=b7 (o:= .lst _) n6
   rw[e6]
   have g2:=b1.length_eq
   rw[List.length_map] at g2
   have nd2:s2.Nodup:=b1.nodup_iff.mpr (N3 hS.nd)
   have hlt6:lt≠l6:=b9 f5 n6
   have hlpt:lp≠lt:=b9 g4 nt
   walk_at "e"
   refine⟨_,rfl,.inl ⟨l6,_,rfl,SqL.of f6,?_⟩⟩
   have M6:=m5.trans m6
   refine L9 (n:=s2.length) (fun i σ H'=>Same H4 H'∧H' l6=some (.lst (s2.map V.str))∧(∃v4 v6 v7 v8,σ=[some (.ref S.a),some (.ref lx),some (.ref l1),some (.ref lp),v4,some (.ref lt),v6,v7,v8])∧∃ts:List Str,H' lt=some (.lst (ts.map V.str))∧ts.Nodup∧ts.length≤4∧(∀n∈ts,n∈s2.take i)∧∀n∈ts,∃x,(n,x)∈S.W.ts∧x.2.1∈ps∧x.2.2∈ps)
    ⟨M6,f6,⟨_,_,_,_,rfl⟩,[],m6 _ _ f5,List.nodup_nil,Nat.zero_le _,(fun _ h=>nomatch h),fun _ h=>nomatch h⟩ (fun i σ H' hi hp=>⟨_,.str (s2[i]),SqL.of hp.2.1,by rw[List.getElem?_map,List.getElem?_eq_getElem hi];rfl⟩) ?_ ?_
   ·rintro i v σ H7 H8 hi ⟨s7,h7,⟨v4,v6,v7,v8,rfl⟩,ts,g7,nd7,hl7,in7,ok7⟩ ⟨t,x,hx,nt',rfl,rfl⟩
    have hx':=hx _ (SqL.of h7)
    rw[List.getElem?_map,List.getElem?_eq_getElem hi] at hx'
    cases hx'
    obtain⟨H9,e9,f9,m9,_⟩:=b7 (o:= .tup _) nt'
    rw[e9]
    have e7:s2.take (i+1)=s2.take i++[s2[i]]:=by rw[List.take_succ,List.getElem?_eq_getElem hi];rfl
    have nin:s2[i]∉ts:=fun m=>by
     have z:(s2.take (i+1)).Nodup:=nd2.sublist (List.take_sublist _ _)
     rw[e7] at z
     exact(List.nodup_append.mp z).2.2 _ (in7 _ m) _ (by simp) rfl
    have hin:s2[i]∈S.W.ts.map (·.1):=b1.mem_iff.mp (List.getElem_mem hi)
    have s9:=s7.trans m9
    have S9:=S4.same s9
    have p9:=s9 _ _ g4
    have g9:=m9 _ _ g7
    have h9:=m9 _ _ h7
    obtain⟨aa,⟨y1,y2,y3⟩,q1,q2,q3⟩:=TiesIs.val (ts:=S.W.ts) S9.at_.ts hin
    refine K3 (SqT.of f9) rfl ?_
    walk_at "r"
    refine d8 S9.at_.tup (h8 (j:=1) rfl) ?_
    walk_at "r"
    refine v0 (v:= .ref aa) (by have z:=R0 (k:=Sum.inr s2[i]) S9.at_.ties;rw[q1] at z;exact z) ?_
    have stay:Same H4 H9∧H9 l6=some (.lst (s2.map V.str))∧(∃v4' v6 v7 v8,[some (V.ref S.a),some (.ref lx),some (.ref l1),some (.ref lp),v4,some (.ref lt),some (.int (i:Int)),some (.str s2[i]),some (.ref aa)]=[some (.ref S.a),some (.ref lx),some (.ref l1),some (.ref lp),v4',some (.ref lt),v6,v7,v8])∧∃ts:List Str,H9 lt=some (.lst (ts.map V.str))∧ts.Nodup∧ts.length≤4∧(∀n∈ts,n∈s2.take (i+1))∧∀n∈ts,∃x,(n,x)∈S.W.ts∧x.2.1∈ps∧x.2.2∈ps:=
     ⟨s9,h9,⟨_,_,_,_,rfl⟩,ts,g9,nd7,hl7,fun n hn=>by rw[e7];exact List.mem_append_left _ (in7 n hn),ok7⟩
    walk_at "r"
    refine d8 q3 (h8 (j:=1) rfl) ?_
    walk_at "r"
    refine a2a (SqL.of p9) ?_
    walk_at "r"
    refine M4 (fun c1=>?_) (fun c1=>?_)
    ·walk_at "r"
     refine d8 q3 (h8 (j:=2) rfl) ?_
     walk_at "r"
     refine a2a (SqL.of p9) ?_
     walk_at "r"
     refine M4 (fun c2=>?_) (fun c2=>?_)
     ·walk_at "r"
      refine D0 (j8 (SqL.of g9) ?_)
      rw[List.length_map]
      walk_at "r"
      refine M4 (fun c3=>?_) (fun c3=>?_)
      ·obtain⟨x5,hx5,hx5'⟩:=P8 hxl hx0 5 (by omega)
       walk_at "r"
       refine i7 ((s4.trans s9).seq hX) hx5 ?_
       walk_at "r"
       refine M4 (fun c4=>?_) (fun c4=>?_)
       ·walk_at "r"
        refine⟨.inl ⟨rfl,_,SqL.of g9⟩,?_⟩
        walk_at "r"
        refine⟨lt,_,_,rfl,rfl,g9,L5 (by rw[List.length_map];omega),?_⟩
        refine⟨C3 s9 nt,by rw[b5 hlt6.symm];exact h9,⟨_,_,_,_,rfl⟩,ts++[s2[i]],?_,z0 nd7 nin,by rw[List.length_append,List.length_singleton];omega,fun n hn=>?_,fun n hn=>?_⟩
        ·rw[d7,List.map_append];rfl
        ·rw[e7]
         rcases List.mem_append.mp hn with z|z
         ·exact List.mem_append_left _ (in7 n z)
         ·exact List.mem_append_right _ z
        ·rcases List.mem_append.mp hn with z|z
         ·exact ok7 n z
         ·rw[List.mem_singleton.mp z];exact⟨_,q2,c1,c2⟩
       ·walk_at "r"
        exact stay
      ·walk_at "r"
       exact stay
     ·walk_at "r"
      exact stay
    ·walk_at "r"
     exact stay
   ·rintro σ H7 ⟨s7,h7,⟨v4,v6,v7,v8,rfl⟩,ts,g7,nd7,hl7,in7,ok7⟩
    refine⟨⟨_,SqL.of h7,by rw[List.length_map];exact Nat.le_refl _⟩,?_⟩
    walk_at "r"
    refine⟨i6 (by simp),fun t nt'=>?_⟩
    obtain⟨H9,e9,f9,m9,_⟩:=b7 (H:=H7) (o:= .tup [.ref lp,.ref lt]) nt'
    change Q _ (upd H7 t _)
    rw[e9]
    exact k t lp lt ps ts H9 (s4.trans (s7.trans m9)) f9 (m9 _ _ (s7 _ _ g4)) (m9 _ _ g7) ⟨nd4,nd7,by omega,hl7,fun n hn=>a1.mem_iff.mp (in4 n hn),ok7⟩
structure b6s (W:Web) (ps ts os:List Str):Prop where
 sub:∀n∈os,n∈ps++ts
 len:os.length≤8
 ok:∀n∈ts,n∉os→∀x,(n,x)∈W.ts→x.2.1∉os∧x.2.2∉os
def a0e (K:PySem.W.Frag):Sp:=fun vs H Q _=>∃(S:Sd) (lp lt lx:Addr) (ps ts:List Str) (xs:List Int),vs=[.ref S.a,.ref lp,.ref lt,.ref lx]∧SdIs K H S∧SqL K H lp (ps.map V.str)∧SqL K H lt (ts.map V.str)∧b5I S.W ps ts∧SqL K H lx (xs.map V.int)∧xs.length=16∧(∀x∈xs,0≤x)∧∀(l:Addr) (os:List Str) (H':Hp),H l=none→Same H H'→H' l=some (.lst (os.map V.str))→b6s S.W ps ts os→Q (.ref l) H'
theorem a4I {f:Addr}{fd:FuncData}(T:Txt K mg)(F:Fun K "_law_out" "_law_out" O1 f fd):FnOk P w K mg base CX0 1 f fd ["_law_web_here","_law_points","_law_ties","_law_xs"] (a0e K):=by
 refine F.ok sc__law_out (fun vs H Q E h=>?_) (fun cdv A outer s H vs Q E hr h=>?_)
 ·obtain⟨S,lp,lt,lx,ps,ts,xs,rfl,_⟩:=h
  rfl
 ·obtain⟨S,lp,lt,lx,ps,ts,xs,rfl,hS,hP,hT,pk,hX,hxl,hx0,k⟩:=h
  have hSl:=hS.len
  rw[z7] at hSl
  have hkl:=hS.at_.ts.length
  have pl1:=pk.l1
  have pl2:=pk.l2
  have hN:=sc__law_out.nd
  have hu:=B9 hr
  refine⟨_,QSs.r (qsC (o0 (i:=4) hN rfl (by walk_at "l") (O7 qa0))
   (qsC (N5 PassesOwn.never rfl (Q6 K T.b_enumerate (qa1 (qV 1) qa0)) (qgT K rfl (qg1 (qgN (i:=5) hN rfl (by walk_at "l")) (qg1 (qgN (i:=6) hN rfl (by walk_at "l")) qg0)))
    (qsC (V3 (i:=7) hN rfl (by walk_at "l") (own:=["_law_tie"]) (js:=[6,2,0]) (by kernel_rfl) rfl (V1 K (qIx (kIx K hu) (qV 0) d9 (fun _ _=>rfl))) (fun _ _ _ _=>(qgN (i:=0) (show List.Nodup (["_law_tie","_law_name_here","_law_ties","_law_web_here"]:List Str) by decide+kernel) rfl (by walk_at "l"))) (fun _ _ _ _=>(a3S (qtW (a2H (w5 (kIn K hu) (qV 1) (qSl (kSl K) (qIx (kIx K hu) (qIx (kIx K hu) (qV 3) d9 (fun _ _=>rfl)) (qV 0) (fun _ _=>rfl)) (qoS d9) qoN) (by rfl)) (a2x (w5 (U7 K hu) (qV 0) (qV 2) (by rfl))))))) (fun _ _ _ _=>(qV 0)))
   (qs1 (qIf (qtW (a2H (w5 (Q8 K hr) (qOp a9S (qOp a9t (qIx (kIx K hu) (qV 3) d9 (fun _ _=>rfl)) (qV 5)) d9) d9 (t5 _)) (a2x (qtW (a4H (w5 (Q8 K hr) (qV 7) (O7 qa0) (t5 _)) (a4O (w5 (Q8 K hr) (qOp j7 (qIx (kIx K hu) (qV 3) d9 (fun _ _=>rfl)) d9) d9 (t5 _)))))))) (qs1 (qEx (qM PySem.F.plainAttrs_list PySem.F.slot_list_append PySem.F.type_list_append u0 K (qV 4) (qa1 (qV 6) qa0)))) qs0))))
   (qsC (N5 PassesOwn.never rfl (Q6 K T.b_enumerate (qa1 (qV 2) qa0)) (qgT K rfl (qg1 (qgN (i:=5) hN rfl (by walk_at "l")) (qg1 (qgN (i:=6) hN rfl (by walk_at "l")) qg0)))
    (qs1 (qIf (qtW (a4H (w5 (kIn K hu) (qIx (kIx K hu) (qIx (kIx K hu) (qIx (kIx K hu) (qV 0) d9 (fun _ _=>rfl)) (qV 6) (fun _ _=>rfl)) d9 (fun _ _=>rfl)) (qV 4) (by rfl)) (a4H (w5 (kIn K hu) (qIx (kIx K hu) (qIx (kIx K hu) (qIx (kIx K hu) (qV 0) d9 (fun _ _=>rfl)) (qV 6) (fun _ _=>rfl)) d9 (fun _ _=>rfl)) (qV 4) (by rfl)) (a4O (w5 (Q8 K hr) (qOp a9S (qOp a9t (qIx (kIx K hu) (qV 3) d9 (fun _ _=>rfl)) (qV 5)) d9) d9 (t5 _)))))) (qs1 (qEx (qM PySem.F.plainAttrs_list PySem.F.slot_list_append PySem.F.type_list_append u0 K (qV 4) (qa1 (qV 6) qa0)))) qs0)))
   (qs1 (D5 (qV 4)))))),?_⟩
  refine C5 ?_
  walk_at "e"
  refine⟨i6 (by simp),fun lo no=>?_⟩
  obtain⟨H1,e1,f1,m1,_⟩:=b7 (o:= .lst []) no
  rw[e1]
  walk_at "e"
  refine C5 ?_
  walk_at "e"
  refine⟨_,rfl,.inl ⟨lp,_,rfl,m1.seq hP,?_⟩⟩
  refine L9 (n:=ps.length) (fun i σ H'=>Same H H'∧(∃v5 v6 v7,σ=[some (.ref S.a),some (.ref lp),some (.ref lt),some (.ref lx),some (.ref lo),v5,v6,v7])∧∃os:List Str,H' lo=some (.lst (os.map V.str))∧os.length≤i∧∀n∈os,n∈ps)
   ⟨m1,⟨_,_,_,rfl⟩,[],f1,Nat.le_refl _,fun _ h=>nomatch h⟩ (fun i σ H' hi hp=>⟨_,.str (ps[i]),hp.1.seq hP,by rw[List.getElem?_map,List.getElem?_eq_getElem hi];rfl⟩) ?_ ?_
  ·rintro i v σ H2 H2' hi ⟨s2,⟨v5,v6,v7,rfl⟩,os,g2,hl2,in2⟩ ⟨t,x,hx,nt,rfl,rfl⟩
   have hx':=hx _ (s2.seq hP)
   rw[List.getElem?_map,List.getElem?_eq_getElem hi] at hx'
   cases hx'
   obtain⟨H3,e3,f3,m3,_⟩:=b7 (o:= .tup _) nt
   rw[e3]
   have s3:=s2.trans m3
   have S3:=hS.same s3
   refine K3 (SqT.of f3) rfl ?_
   walk_at "r"
   refine d8 S3.at_.tup (h8 (j:=1) rfl) ?_
   refine a2p S3.hq (fun ndq o4=>?_)
   refine D3 (n:=S.kvs.length) (fun j out H'=>Same (C8 S.q o4 S.kvs H3) H'∧∃ls:List Str,out=ls.map V.str∧ls.length≤j∧∀y∈S.W.ts.take j,(ps[i]=y.2.2.1∨ps[i]=y.2.2.2)→y.1∉ts→y.1∈ls) ⟨Same.refl _,[],rfl,Nat.le_refl _,fun _ h=>by simp at h⟩ (fun j out H' hj hp=>⟨hp.1 _ _ d7,hj⟩) ?_ ?_
   ·rintro N j v out H5' H5 hj ⟨s5,ls,rfl,hls,loo⟩ ⟨rfl,kv,hkv,rfl⟩ hN'
    have le5:=(a0E (o:=o4) S3.hq).trans s5.le
    have S5:=S3.at_.mono le5
    obtain⟨x,hx,ex,bb,eb,sb⟩:=S5.ts.get hkv
    have hkm:=List.mem_of_getElem? hkv
    obtain⟨kk,kvv⟩:=kv
    have ex':kk=Sum.inr x.1:=ex
    have eb':kvv= .ref bb:=eb
    subst ex' eb'
    obtain⟨x0,x1,x2,x3⟩:=x
    have e9:S.W.ts.take (j+1)=S.W.ts.take j++[(x0,x1,x2,x3)]:=by rw[List.take_succ,hx];rfl
    have no:∀{HZ:Hp},((ps[i]=x2∨ps[i]=x3)→x0∉ts→False)→Same H5 HZ→N (ls.map V.str) HZ:=fun hf sz=>hN' _ _ ⟨s5.trans sz,ls,rfl,by omega,fun y hy h1 h2=>by
     rw[e9] at hy
     rcases List.mem_append.mp hy with z|z
     ·exact loo y z h1 h2
     ·have ez:=List.mem_singleton.mp z
      subst ez
      exact(hf h1 h2).elim⟩
    walk_at "r"
    refine⟨rfl,?_⟩
    walk_at "r"
    refine d8 S5.tup (h8 (j:=1) rfl) ?_
    walk_at "r"
    refine v0 (v:= .ref bb) (by have z:=R0 (k:=Sum.inr x0) S5.ties;rw[a1Z (kv:=(Sum.inr x0,.ref bb)) ndq hkm] at z;exact z) ?_
    walk_at "r"
    refine a1m sb (by rintro⟨z,_⟩;exact absurd (show(1:Nat)=0 from z) (by decide)) (fun l6 n6=>?_)
    obtain⟨H6,e6,f6,m6,_⟩:=b7 (o:= .tup [.str x2,.str x3]) n6
    rw[show a1i (Q9 (x1,x2,x3)) (some 1) none=[V.str x2,.str x3] from rfl,e6]
    refine a5x (.inr (SqT.of f6)) rfl rfl ?_
    walk_at "r"
    refine U4 (fun b1=>?_) (fun b1=>?_)
    ·walk_at "r"
     refine I0 ((((Same.le s3).trans le5).trans m6.le).lst hT) ?_
     walk_at "r"
     refine a0z (fun b2=>?_) (fun b2=>?_)
     ·walk_at "r"
      refine⟨i6 (by rw[List.length_map];omega),hN' _ _ ⟨s5.trans m6,ls++[x0],by rw[List.map_append];rfl,by rw[List.length_append,List.length_singleton];omega,fun y hy h1 h2=>by
       rw[e9] at hy
       rcases List.mem_append.mp hy with z|z
       ·exact List.mem_append_left _ (loo y z h1 h2)
       ·have ez:=List.mem_singleton.mp z
        subst ez
        exact List.mem_append_right _ List.mem_cons_self⟩⟩
     ·exact no (fun _ h=>h b2) m6
    ·refine no (fun h _=>?_) m6
     have b1':(eqV (.str x2) (.str ps[i])||(eqV (.str x3) (.str ps[i])||false))=false:=b1
     rcases h with h|h
     ·rw[h] at b1';rw[R7 rfl] at b1';cases b1'
     ·rw[h] at b1';rw[show eqV (.str x3) (.str x3)=true from R7 rfl] at b1';simp at b1'
   ·rintro out H5 ⟨s5,ls,rfl,hls,loo⟩
    rw[hkl,List.take_of_length_le (Nat.le_refl _)] at loo
    refine⟨⟨s5 _ _ d7,Nat.le_refl _⟩,fun D hD=>⟨i6 (by rw[List.length_map];omega),?_⟩⟩
    have sM:=a0Q S3.hq s5 hD (u:= .lst (ls.map V.str))
    have fM:=a4j s5 hD (u:= .lst (ls.map V.str))
    generalize thaw S.q (upd H5 D (.lst (ls.map V.str)))=HM at sM fM⊢
    have s6:=s3.trans sM
    have g6:=sM _ _ (m3 _ _ g2)
    have stay:∀{HZ:Hp} {v:Option V},Same HM HZ→Same H HZ∧(∃v5 v6 v7,[some (V.ref S.a),some (.ref lp),some (.ref lt),some (.ref lx),some (.ref lo),some (.int (i:Int)),some (.str ps[i]),v]=[some (.ref S.a),some (.ref lp),some (.ref lt),some (.ref lx),some (.ref lo),v5,v6,v7])∧∃os:List Str,HZ lo=some (.lst (os.map V.str))∧os.length≤i+1∧(∀n∈os,n∈ps):=fun sz=>⟨s6.trans sz,⟨_,_,_,rfl⟩,os,sz _ _ g6,by omega,in2⟩
    obtain⟨x6,hx6,hx6'⟩:=P8 hxl hx0 6 (by omega)
    walk_at "r"
    refine i7 (s6.seq hX) hx6 ?_
    walk_at "r"
    refine M4 (fun c1=>?_) (fun c1=>?_)
    ·walk_at "r"
     refine⟨i6 (by simp),fun l8 n8=>?_⟩
     obtain⟨H8,e8,f8,m8,_⟩:=b7 (o:= .lst []) n8
     rw[e8]
     refine a8o (a4A (SqL.of (m8 _ _ fM)) (SqL.of f8) (M8 _) rfl ?_)
     walk_at "r"
     have g8:=m8 _ _ g6
     have app:Same H (upd H8 lo (.lst (os.map V.str++[V.str ps[i]])))∧(∃v5 v6 v7',[some (V.ref S.a),some (.ref lp),some (.ref lt),some (.ref lx),some (.ref lo),some (.int (i:Int)),some (.str ps[i]),some (.ref D)]=[some (.ref S.a),some (.ref lp),some (.ref lt),some (.ref lx),some (.ref lo),v5,v6,v7'])∧∃os':List Str,(upd H8 lo (.lst (os.map V.str++[V.str ps[i]]))) lo=some (.lst (os'.map V.str))∧os'.length≤i+1∧∀n∈os',n∈ps:=by
      refine⟨C3 (s6.trans m8) no,⟨_,_,_,rfl⟩,os++[ps[i]],by rw[d7,List.map_append];rfl,by rw[List.length_append,List.length_singleton];omega,fun n hn=>?_⟩
      rcases List.mem_append.mp hn with z|z
      ·exact in2 n z
      ·rw[List.mem_singleton.mp z];exact List.getElem_mem hi
     refine U4 (fun c2=>?_) (fun c2=>?_)
     ·walk_at "r"
      refine⟨.inl ⟨rfl,_,SqL.of g8⟩,?_⟩
      walk_at "r"
      refine⟨lo,_,_,rfl,rfl,g8,L5 (by rw[List.length_map];omega),?_⟩
      exact app
     ·walk_at "r"
      obtain⟨x9,hx9,hx9'⟩:=P8 hxl hx0 9 (by omega)
      refine i7 ((s6.trans m8).seq hX) hx9 ?_
      walk_at "r"
      refine M4 (fun c3=>?_) (fun c3=>?_)
      ·walk_at "r"
       refine⟨.inl ⟨rfl,_,SqL.of g8⟩,?_⟩
       walk_at "r"
       refine⟨lo,_,_,rfl,rfl,g8,L5 (by rw[List.length_map];omega),?_⟩
       exact app
      ·walk_at "r"
       exact stay m8
    ·walk_at "r"
     exact stay (Same.refl _)
  ·rintro σ H2 ⟨s2,⟨v5,v6,v7,rfl⟩,os,g2,hl2,in2⟩
   refine⟨⟨_,s2.seq hP,by rw[List.length_map];exact Nat.le_refl _⟩,?_⟩
   refine C5 ?_
   walk_at "e"
   refine⟨_,rfl,.inl ⟨lt,_,rfl,s2.seq hT,?_⟩⟩
   refine L9 (n:=ts.length) (fun i σ H'=>Same H H'∧(∃v5 v6 v7,σ=[some (.ref S.a),some (.ref lp),some (.ref lt),some (.ref lx),some (.ref lo),v5,v6,v7])∧∃os:List Str,H' lo=some (.lst (os.map V.str))∧os.length≤ps.length+i∧(∀n∈os,n∈ps++ts)∧∀n∈ts.take i,n∉os→∀x,(n,x)∈S.W.ts→x.2.1∉os∧x.2.2∉os)
    ⟨s2,⟨_,_,_,rfl⟩,os,g2,by omega,fun n hn=>List.mem_append_left _ (in2 n hn),fun _ h=>by simp at h⟩ (fun i σ H' hi hp=>⟨_,.str (ts[i]),hp.1.seq hT,by rw[List.getElem?_map,List.getElem?_eq_getElem hi];rfl⟩) ?_ ?_
   ·rintro i v σ H3 H3' hi ⟨s3,⟨v5,v6,v7,rfl⟩,os,g3',hl3,in3,ok3⟩ ⟨t,x,hx,nt,rfl,rfl⟩
    have hx':=hx _ (s3.seq hT)
    rw[List.getElem?_map,List.getElem?_eq_getElem hi] at hx'
    cases hx'
    obtain⟨H4,e4,f4,m4,_⟩:=b7 (o:= .tup _) nt
    rw[e4]
    have s4:=s3.trans m4
    have S4:=hS.same s4
    have g3:=m4 _ _ g3'
    have hnm:=pk.t _ (List.getElem_mem hi)
    have hin:ts[i]∈S.W.ts.map (·.1):=by
     obtain⟨x,hx,_⟩:=hnm
     exact List.mem_map.mpr ⟨_,hx,rfl⟩
    obtain⟨aa,⟨y1,y2,y3⟩,q1,q2,q3⟩:=TiesIs.val (ts:=S.W.ts) S4.at_.ts hin
    have ix:∀{Q:VK},Q (.ref aa) H4→a5m K (.ref S.q) (.str ts[i]) H4 Q:=fun z=>v0 (v:= .ref aa) (by have z:=R0 (k:=Sum.inr ts[i]) S4.at_.ties;rw[q1] at z;exact z) z
    have e7:ts.take (i+1)=ts.take i++[ts[i]]:=by rw[List.take_succ,List.getElem?_eq_getElem hi];rfl
    have far:∀m∈S.W.pts.map (·.1),m≠ts[i]:=fun m hm e=>(List.nodup_append.mp hS.nd).2.2 m hm ts[i] hin e
    have fin:Same H (upd H4 lo (.lst (os.map V.str++[V.str ts[i]])))∧(∃v5 v6 v7',[some (V.ref S.a),some (.ref lp),some (.ref lt),some (.ref lx),some (.ref lo),some (.int (i:Int)),some (.str ts[i]),v7]=[some (.ref S.a),some (.ref lp),some (.ref lt),some (.ref lx),some (.ref lo),v5,v6,v7'])∧∃os':List Str,(upd H4 lo (.lst (os.map V.str++[V.str ts[i]]))) lo=some (.lst (os'.map V.str))∧os'.length≤ps.length+(i+1)∧(∀n∈os',n∈ps++ts)∧∀n∈ts.take (i+1),n∉os'→∀x,(n,x)∈S.W.ts→x.2.1∉os'∧x.2.2∉os':=by
     refine⟨C3 s4 no,⟨_,_,_,rfl⟩,os++[ts[i]],by rw[d7,List.map_append];rfl,by rw[List.length_append,List.length_singleton];omega,fun n hn=>?_,fun n hn hno x hx=>?_⟩
     ·rcases List.mem_append.mp hn with z|z
      ·exact in3 n z
      ·rw[List.mem_singleton.mp z];exact List.mem_append_right _ (List.getElem_mem hi)
     ·rw[e7] at hn
      rcases List.mem_append.mp hn with z|z
      ·have h':=ok3 n z (fun m=>hno (List.mem_append_left _ m)) x hx
       have he:=hS.ends (n,x) hx
       exact⟨fun m=>(List.mem_append.mp m).elim h'.1 (fun m=>far _ he.1 (List.mem_singleton.mp m)),fun m=>(List.mem_append.mp m).elim h'.2 (fun m=>far _ he.2 (List.mem_singleton.mp m))⟩
      ·exact absurd (List.mem_append_right _ z) hno
    refine K3 (SqT.of f4) rfl ?_
    walk_at "r"
    refine d8 S4.at_.tup (h8 (j:=1) rfl) ?_
    walk_at "r"
    refine ix ?_
    refine d8 q3 (h8 (j:=1) rfl) ?_
    walk_at "r"
    refine a2a (SqL.of g3) ?_
    walk_at "r"
    refine M4 (fun c1=>?_) (fun c1=>?_)
    ·walk_at "r"
     refine⟨.inl ⟨rfl,_,SqL.of g3⟩,?_⟩
     walk_at "r"
     refine⟨lo,_,_,rfl,rfl,g3,L5 (by rw[List.length_map];omega),?_⟩
     exact fin
    walk_at "r"
    refine d8 S4.at_.tup (h8 (j:=1) rfl) ?_
    walk_at "r"
    refine ix ?_
    refine d8 q3 (h8 (j:=2) rfl) ?_
    walk_at "r"
    refine a2a (SqL.of g3) ?_
    walk_at "r"
    refine M4 (fun c2=>?_) (fun c2=>?_)
    ·walk_at "r"
     refine⟨.inl ⟨rfl,_,SqL.of g3⟩,?_⟩
     walk_at "r"
     refine⟨lo,_,_,rfl,rfl,g3,L5 (by rw[List.length_map];omega),?_⟩
     exact fin
    walk_at "r"
    obtain⟨x7,hx7,hx7'⟩:=P8 hxl hx0 7 (by omega)
    refine i7 (s4.seq hX) hx7 ?_
    walk_at "r"
    refine M4 (fun c3=>?_) (fun c3=>?_)
    ·walk_at "r"
     refine⟨.inl ⟨rfl,_,SqL.of g3⟩,?_⟩
     walk_at "r"
     refine⟨lo,_,_,rfl,rfl,g3,L5 (by rw[List.length_map];omega),?_⟩
     exact fin
    walk_at "r"
    refine⟨s4,⟨_,_,_,rfl⟩,os,g3,by omega,in3,fun n hn hno x hx=>?_⟩
    rw[e7] at hn
    rcases List.mem_append.mp hn with z|z
    ·exact ok3 n z hno x hx
    ·have hnn:n=ts[i]:=List.mem_singleton.mp z
     subst hnn
     have:x=(y1,y2,y3):=C1 (N3 hS.nd) hx q2
     subst this
     exact⟨c1,c2⟩
   ·rintro σ H3 ⟨s3,⟨v5,v6,v7,rfl⟩,os,g3,hl3,in3,ok3⟩
    refine⟨⟨_,s3.seq hT,by rw[List.length_map];exact Nat.le_refl _⟩,?_⟩
    rw[List.take_of_length_le (Nat.le_refl _)] at ok3
    walk_at "r"
    exact k lo os H3 no s3 g3 ⟨in3,by omega,ok3⟩
def Wd (ws:List Str)(lo hi:Nat)(n:Str):Prop:=∃j,lo≤j∧j<hi∧ws[j]?=some n
theorem a8P {ws:List Str}(nd:ws.Nodup){i j:Nat}{n:Str}(h1:ws[i]?=some n)(h2:ws[j]?=some n):i=j:=by
 obtain⟨hi,e1⟩:=List.getElem?_eq_some_iff.mp h1
 obtain⟨hj,e2⟩:=List.getElem?_eq_some_iff.mp h2
 have z:=List.pairwise_iff_getElem.mp nd
 rcases Nat.lt_trichotomy i j with h|h|h
 ·exact absurd (e1.trans e2.symm) (z i j hi hj h)
 ·exact h
 ·exact absurd (e2.trans e1.symm) (z j i hj hi h)
theorem Wd.no {ws:List Str}{a b c d:Nat}{n:Str}(nd:ws.Nodup)(h1:Wd ws a b n)(h2:Wd ws c d n)(h:b≤c∨d≤a):False:=by
 obtain⟨i,i1,i2,i3⟩:=h1
 obtain⟨j,j1,j2,j3⟩:=h2
 have:=a8P nd i3 j3
 omega
theorem Wd.up {ws:List Str}{a b c d:Nat}{n:Str}(h:Wd ws a b n)(h1:c≤a)(h2:b≤d):Wd ws c d n:=by
 obtain⟨i,i1,i2,i3⟩:=h
 exact⟨i,by omega,by omega,i3⟩
theorem Wd.in_ {ws:List Str}{a b:Nat}{n:Str}(h:Wd ws a b n):n∈ws:=by
 obtain⟨i,_,_,h⟩:=h
 exact List.mem_of_getElem? h
structure LR (ws:List Str) (i1 i2 i3 i4:Nat) (PL:List (Str×Str)) (TL:List (Str×Tie)) (PR:List (Str×Str)) (TR:List (Str×Tie)):Prop where
 pl:∀x∈PL,Wd ws 0 i1 x.1∧C4 x.2=true
 tl:∀x∈TL,Wd ws 4 (4+i2) x.1∧C4 x.2.1=true∧x.2.2.1∈PL.map (·.1)∧x.2.2.2∈PL.map (·.1)
 ndl:(PL.map (·.1)).Nodup
 ndt:(TL.map (·.1)).Nodup
 ll:PL.length≤i1
 lt:TL.length≤i2
 pr:∀x∈PR,(x∈PL∨Wd ws 8 (8+i3) x.1)∧C4 x.2=true
 tr:∀x∈TR,(x∈TL∨Wd ws 10 (10+i4) x.1)∧C4 x.2.1=true∧x.2.2.1∈PR.map (·.1)∧x.2.2.2∈PR.map (·.1)
 ndr:(PR.map (·.1)).Nodup
 ndu:(TR.map (·.1)).Nodup
 lr:PR.length≤i1+i3
 lu:TR.length≤i2+i4
theorem LR.new:LR ws 0 0 0 0 [] [] [] []:=
 ⟨(fun _ h=>nomatch h),(fun _ h=>nomatch h),List.nodup_nil,List.nodup_nil,Nat.le_refl _,Nat.le_refl _,(fun _ h=>nomatch h),(fun _ h=>nomatch h),List.nodup_nil,List.nodup_nil,Nat.le_refl _,Nat.le_refl _⟩
theorem o5 {α:Type}(l:List (Str×α))(x:Str×α):(l++[x]).map (·.1)=l.map (·.1)++[x.1]:=by rw[List.map_append];rfl
theorem LR.f1 {ws:List Str}{i:Nat}{PL PR:List (Str×Str)}{n:Str}(h:LR ws i 0 0 0 PL [] PR [])(nd:ws.Nodup)(hn:ws[i]?=some n):n∉PL.map (·.1)∧n∉PR.map (·.1):=by
 have a:n∉PL.map (·.1):=fun z=>by
  obtain⟨x,hx,rfl⟩:=List.mem_map.mp z
  exact Wd.no nd (h.pl x hx).1 ⟨i,Nat.le_refl _,Nat.lt_succ_self _,hn⟩ (.inl (Nat.le_refl _))
 refine⟨a,fun z=>?_⟩
 obtain⟨x,hx,rfl⟩:=List.mem_map.mp z
 rcases(h.pr x hx).1 with z|z
 ·exact a (List.mem_map.mpr ⟨x,z,rfl⟩)
 ·obtain⟨j,j1,j2,_⟩:=z
  omega
theorem LR.s1 {ws:List Str}{i:Nat}{PL PR:List (Str×Str)}{n kd:Str}(h:LR ws i 0 0 0 PL [] PR [])(nd:ws.Nodup)(hn:ws[i]?=some n)(hk:C4 kd=true)(b:Bool):LR ws (i+1) 0 0 0 (PL++[(n,kd)]) [] (if b then PR++[(n,kd)] else PR) []:=by
 obtain⟨f1,f2⟩:=h.f1 nd hn
 refine⟨fun x hx=>?_,(fun _ h=>nomatch h),?_,List.nodup_nil,?_,Nat.le_refl _,fun x hx=>?_,(fun _ h=>nomatch h),?_,List.nodup_nil,?_,Nat.le_refl _⟩
 ·rcases List.mem_append.mp hx with z|z
  ·exact⟨(h.pl x z).1.up (Nat.le_refl _) (Nat.le_succ _),(h.pl x z).2⟩
  ·rw[List.mem_singleton.mp z];exact⟨⟨i,Nat.zero_le _,Nat.lt_succ_self _,hn⟩,hk⟩
 ·rw[o5];exact z0 h.ndl f1
 ·rw[List.length_append,List.length_singleton];have:=h.ll;omega
 ·have old:∀x∈PR,(x∈PL++[(n,kd)]∨Wd ws 8 (8+0) x.1)∧C4 x.2=true:=fun x hx=>⟨(h.pr x hx).1.elim (fun z=> .inl (List.mem_append_left _ z)) .inr,(h.pr x hx).2⟩
  cases b with
  |false=>exact old x hx
  |true=>
   rcases List.mem_append.mp (show x∈PR++[(n,kd)] from hx) with z|z
   ·exact old x z
   ·rw[List.mem_singleton.mp z];exact⟨.inl (List.mem_append_right _ List.mem_cons_self),hk⟩
 ·cases b with
  |false=>exact h.ndr
  |true=>show((PR++[(n,kd)]).map (·.1)).Nodup;rw[o5];exact z0 h.ndr f2
 ·cases b with
  |false=>show PR.length≤_;have:=h.lr;omega
  |true=>show(PR++[(n,kd)]).length≤_;rw[List.length_append,List.length_singleton];have:=h.lr;omega
theorem LR.f2 {ws:List Str}{i1 i:Nat}{PL PR:List (Str×Str)}{TL TR:List (Str×Tie)}{n:Str}(h:LR ws i1 i 0 0 PL TL PR TR)(nd:ws.Nodup)(hn:ws[4+i]?=some n):n∉TL.map (·.1)∧n∉TR.map (·.1):=by
 have a:n∉TL.map (·.1):=fun z=>by
  obtain⟨x,hx,rfl⟩:=List.mem_map.mp z
  exact Wd.no nd (h.tl x hx).1 ⟨4+i,Nat.le_refl _,Nat.lt_succ_self _,hn⟩ (.inl (Nat.le_refl _))
 refine⟨a,fun z=>?_⟩
 obtain⟨x,hx,rfl⟩:=List.mem_map.mp z
 rcases(h.tr x hx).1 with z|z
 ·exact a (List.mem_map.mpr ⟨x,z,rfl⟩)
 ·obtain⟨j,j1,j2,_⟩:=z
  omega
theorem LR.s2 {ws:List Str}{i1 i:Nat}{PL PR:List (Str×Str)}{TL TR:List (Str×Tie)}{n kd o1 o2:Str}(h:LR ws i1 i 0 0 PL TL PR TR)(nd:ws.Nodup)(hn:ws[4+i]?=some n)(hk:C4 kd=true)(h1:o1∈PL.map (·.1))(h2:o2∈PL.map (·.1))(b:Bool)(hb:b=true→o1∈PR.map (·.1)∧o2∈PR.map (·.1)):
  LR ws i1 (i+1) 0 0 PL (TL++[(n,(kd,o1,o2))]) PR (if b then TR++[(n,(kd,o1,o2))] else TR):=by
 obtain⟨f1,f2⟩:=h.f2 nd hn
 refine⟨h.pl,fun x hx=>?_,h.ndl,?_,h.ll,?_,h.pr,fun x hx=>?_,h.ndr,?_,h.lr,?_⟩
 ·rcases List.mem_append.mp hx with z|z
  ·exact⟨(h.tl x z).1.up (Nat.le_refl _) (Nat.le_succ _),(h.tl x z).2⟩
  ·rw[List.mem_singleton.mp z];exact⟨⟨4+i,Nat.le_add_right _ _,Nat.lt_succ_self _,hn⟩,hk,h1,h2⟩
 ·rw[o5];exact z0 h.ndt f1
 ·rw[List.length_append,List.length_singleton];have:=h.lt;omega
 ·have old:∀x∈TR,(x∈TL++[(n,(kd,o1,o2))]∨Wd ws 10 (10+0) x.1)∧C4 x.2.1=true∧x.2.2.1∈PR.map (·.1)∧x.2.2.2∈PR.map (·.1):=fun x hx=>⟨(h.tr x hx).1.elim (fun z=> .inl (List.mem_append_left _ z)) .inr,(h.tr x hx).2⟩
  cases b with
  |false=>exact old x hx
  |true=>
   rcases List.mem_append.mp (show x∈TR++[(n,(kd,o1,o2))] from hx) with z|z
   ·exact old x z
   ·rw[List.mem_singleton.mp z];exact⟨.inl (List.mem_append_right _ List.mem_cons_self),hk,hb rfl⟩
 ·cases b with
  |false=>exact h.ndu
  |true=>show((TR++[(n,(kd,o1,o2))]).map (·.1)).Nodup;rw[o5];exact z0 h.ndu f2
 ·cases b with
  |false=>show TR.length≤_;have:=h.lu;omega
  |true=>show(TR++[(n,(kd,o1,o2))]).length≤_;rw[List.length_append,List.length_singleton];have:=h.lu;omega
theorem LR.f3 {ws:List Str}{i1 i2 i:Nat}{PL PR:List (Str×Str)}{TL TR:List (Str×Tie)}{n:Str}(h:LR ws i1 i2 i 0 PL TL PR TR)(nd:ws.Nodup)(h4:i1≤4)(hn:ws[8+i]?=some n):n∉PR.map (·.1):=fun z=>by
 obtain⟨x,hx,rfl⟩:=List.mem_map.mp z
 have w:Wd ws (8+i) (8+i+1) x.1:=⟨8+i,Nat.le_refl _,Nat.lt_succ_self _,hn⟩
 rcases(h.pr x hx).1 with z|z
 ·exact Wd.no nd (h.pl x z).1 w (.inl (by omega))
 ·exact Wd.no nd z w (.inl (Nat.le_refl _))
theorem LR.s3 {ws:List Str}{i1 i2 i:Nat}{PL PR:List (Str×Str)}{TL TR:List (Str×Tie)}{n kd:Str}(h:LR ws i1 i2 i 0 PL TL PR TR)(nd:ws.Nodup)(h4:i1≤4)(hn:ws[8+i]?=some n)(hk:C4 kd=true):LR ws i1 i2 (i+1) 0 PL TL (PR++[(n,kd)]) TR:=by
 refine⟨h.pl,h.tl,h.ndl,h.ndt,h.ll,h.lt,fun x hx=>?_,fun x hx=>?_,?_,h.ndu,?_,h.lu⟩
 ·rcases List.mem_append.mp hx with z|z
  ·exact⟨(h.pr x z).1.imp id fun w=>w.up (Nat.le_refl _) (Nat.le_succ _),(h.pr x z).2⟩
  ·rw[List.mem_singleton.mp z];exact⟨.inr ⟨8+i,Nat.le_add_right _ _,Nat.lt_succ_self _,hn⟩,hk⟩
 ·have z:=h.tr x hx
  refine⟨z.1,z.2.1,?_,?_⟩<;>rw[o5]
  ·exact List.mem_append_left _ z.2.2.1
  ·exact List.mem_append_left _ z.2.2.2
 ·rw[o5];exact z0 h.ndr (h.f3 nd h4 hn)
 ·rw[List.length_append,List.length_singleton];have:=h.lr;omega
theorem LR.f4 {ws:List Str}{i1 i2 i3 i:Nat}{PL PR:List (Str×Str)}{TL TR:List (Str×Tie)}{n:Str}(h:LR ws i1 i2 i3 i PL TL PR TR)(nd:ws.Nodup)(h4:i2≤4)(hn:ws[10+i]?=some n):n∉TR.map (·.1):=fun z=>by
 obtain⟨x,hx,rfl⟩:=List.mem_map.mp z
 have w:Wd ws (10+i) (10+i+1) x.1:=⟨10+i,Nat.le_refl _,Nat.lt_succ_self _,hn⟩
 rcases(h.tr x hx).1 with z|z
 ·exact Wd.no nd (h.tl x z).1 w (.inl (by omega))
 ·exact Wd.no nd z w (.inl (Nat.le_refl _))
theorem LR.s4 {ws:List Str}{i1 i2 i3 i:Nat}{PL PR:List (Str×Str)}{TL TR:List (Str×Tie)}{n kd o1 o2:Str}(h:LR ws i1 i2 i3 i PL TL PR TR)(nd:ws.Nodup)(h4:i2≤4)(hn:ws[10+i]?=some n)(hk:C4 kd=true)(h1:o1∈PR.map (·.1))(h2:o2∈PR.map (·.1)):LR ws i1 i2 i3 (i+1) PL TL PR (TR++[(n,(kd,o1,o2))]):=by
 refine⟨h.pl,h.tl,h.ndl,h.ndt,h.ll,h.lt,h.pr,fun x hx=>?_,h.ndr,?_,h.lr,?_⟩
 ·rcases List.mem_append.mp hx with z|z
  ·exact⟨(h.tr x z).1.imp id fun w=>w.up (Nat.le_refl _) (Nat.le_succ _),(h.tr x z).2⟩
  ·rw[List.mem_singleton.mp z];exact⟨.inr ⟨10+i,Nat.le_add_right _ _,Nat.lt_succ_self _,hn⟩,hk,h1,h2⟩
 ·rw[o5];exact z0 h.ndu (h.f4 nd h4 hn)
 ·rw[List.length_append,List.length_singleton];have:=h.lu;omega
theorem a3l {x:Str}(h:C4 x=true):x.length≤8:=by
 have:=a3k (show a0v x kSL 8=true from h)
 omega
theorem a7U {x:Str}(h:C4 x=true):a2n x=true:=by
 have h':a0v x kSL 8=true:=h
 unfold a0v at h'
 simp only[Bool.and_eq_true,decide_eq_true_eq] at h'
 unfold a2n
 rw[Bool.and_eq_true]
 have ha:∀c∈x.cps.toList,c∈kSL.cps.toList:=fun c hc=>of_decide_eq_true (List.all_eq_true.mp (show a6Y x kSL=true from h'.2) c hc)
 constructor
 ·unfold a0v
  rw[decide_eq_true h'.1.1,decide_eq_true (show(x.length:Int)≤24 by omega),Bool.true_and,Bool.true_and]
  exact List.all_eq_true.mpr fun c hc=>decide_eq_true (b2G _ (ha c hc))
 ·unfold hdB
  refine decide_eq_true (ha _ ?_)
  have hl:=a3Q x
  cases e:x.cps.toList with
  |nil=>rw[e] at hl;simp at hl;omega
  |cons c r=>exact List.mem_cons_self
theorem a5c {W:Web}{m:Nat}(h1:∀n∈i8 W,C4 n=true)(h2:∀x∈W.pts,C4 x.2=true)(h3:∀x∈W.ts,C4 x.2.1=true)(l1:W.pts.length≤m)(l2:W.ts.length≤m):a4n m W:=
 ⟨⟨fun n hn=>a7U (h1 n hn),h2,h3⟩,h1,l1,l2⟩
theorem LR.nmL {ws:List Str}{i1 i2 i3 i4:Nat}{PL PR:List (Str×Str)}{TL TR:List (Str×Tie)}(h:LR ws i1 i2 i3 i4 PL TL PR TR)(h1:i1≤4)(h2:i2≤4):∀n∈i8 ⟨PL,TL⟩,Wd ws 0 8 n:=fun n hn=>by
 rcases List.mem_append.mp (show n∈PL.map (·.1)++TL.map (·.1) from hn) with z|z
 ·obtain⟨x,hx,rfl⟩:=List.mem_map.mp z
  exact(h.pl x hx).1.up (Nat.zero_le _) (by omega)
 ·obtain⟨x,hx,rfl⟩:=List.mem_map.mp z
  exact(h.tl x hx).1.up (Nat.zero_le _) (by omega)
theorem LR.nmP {ws:List Str}{i1 i2 i3 i4:Nat}{PL PR:List (Str×Str)}{TL TR:List (Str×Tie)}(h:LR ws i1 i2 i3 i4 PL TL PR TR)(h1:i1≤4)(h3:i3≤2){n:Str}(hn:n∈PR.map (·.1)):Wd ws 0 4 n∨Wd ws 8 10 n:=by
 obtain⟨x,hx,rfl⟩:=List.mem_map.mp hn
 rcases(h.pr x hx).1 with z|z
 ·exact .inl ((h.pl x z).1.up (Nat.zero_le _) (by omega))
 ·exact .inr (z.up (by omega) (by omega))
theorem LR.nmT {ws:List Str}{i1 i2 i3 i4:Nat}{PL PR:List (Str×Str)}{TL TR:List (Str×Tie)}(h:LR ws i1 i2 i3 i4 PL TL PR TR)(h2:i2≤4)(h4:i4≤2){n:Str}(hn:n∈TR.map (·.1)):Wd ws 4 8 n∨Wd ws 10 12 n:=by
 obtain⟨x,hx,rfl⟩:=List.mem_map.mp hn
 rcases(h.tr x hx).1 with z|z
 ·exact .inl ((h.tl x z).1.up (by omega) (by omega))
 ·exact .inr (z.up (by omega) (by omega))
theorem LR.ndL {ws:List Str}{i1 i2 i3 i4:Nat}{PL PR:List (Str×Str)}{TL TR:List (Str×Tie)}(h:LR ws i1 i2 i3 i4 PL TL PR TR)(nd:ws.Nodup)(h1:i1≤4):(i8 ⟨PL,TL⟩).Nodup:=
 List.nodup_append.mpr ⟨h.ndl,h.ndt,fun a ha b hb e=>by
  subst e
  obtain⟨x,hx,rfl⟩:=List.mem_map.mp ha
  obtain⟨y,hy,ey⟩:=List.mem_map.mp hb
  have ey':y.1=x.1:=ey
  have w:=(h.tl y hy).1
  rw[ey'] at w
  exact Wd.no nd (h.pl x hx).1 w (.inl h1)⟩
theorem LR.ndR {ws:List Str}{i1 i2 i3 i4:Nat}{PL PR:List (Str×Str)}{TL TR:List (Str×Tie)}(h:LR ws i1 i2 i3 i4 PL TL PR TR)(nd:ws.Nodup)(h1:i1≤4)(h2:i2≤4)(h3:i3≤2)(h4:i4≤2):(i8 ⟨PR,TR⟩).Nodup:=
 List.nodup_append.mpr ⟨h.ndr,h.ndu,fun a ha b hb e=>by
  subst e
  rcases h.nmP h1 h3 ha with z|z<;>rcases h.nmT h2 h4 hb with w|w<;>exact Wd.no nd z w (by omega)⟩
theorem LR.rule {ws:List Str}{i1 i2 i3 i4:Nat}{PL PR:List (Str×Str)}{TL TR:List (Str×Tie)}(h:LR ws i1 i2 i3 i4 PL TL PR TR)(nd:ws.Nodup)(hk:∀s∈ws,C4 s=true)(h1:i1≤4)(h2:i2≤4)(h3:i3≤2)(h4:i4≤2)(l1:PR.length≤4)(l2:TR.length≤4):b0T ⟨PL,TL⟩ ⟨PR,TR⟩ []:=by
 have hpl:PL.length≤4:=by have:=h.ll;omega
 have htl:TL.length≤4:=by have:=h.lt;omega
 refine⟨a5c (fun n hn=>hk n (h.nmL h1 h2 n hn).in_) (fun x hx=>(h.pl x hx).2) (fun x hx=>(h.tl x hx).2.1) hpl htl,a5c (fun n hn=>hk n ?_) (fun x hx=>(h.pr x hx).2) (fun x hx=>(h.tr x hx).2.1) l1 l2,fun n hL hR=>?_,Nat.zero_le _,fun _ h=>nomatch h⟩
 ·rcases List.mem_append.mp (show n∈PR.map (·.1)++TR.map (·.1) from hn) with z|z
  ·exact(h.nmP h1 h3 z).elim (fun w=>w.in_) fun w=>w.in_
  ·exact(h.nmT h2 h4 z).elim (fun w=>w.in_) fun w=>w.in_
 ·rcases List.mem_append.mp (show n∈PL.map (·.1)++TL.map (·.1) from hL) with zL|zL
  ·--a point of left
   have wL:Wd ws 0 4 n:=by
    obtain⟨x,hx,rfl⟩:=List.mem_map.mp zL
    exact(h.pl x hx).1.up (Nat.zero_le _) (by omega)
   have nTL:∀t,(n,t)∉TL:=fun t z=>Wd.no nd wL (h.tl _ z).1 (.inl (Nat.le_refl _))
   have nTR:n∉TR.map (·.1):=fun z=>by rcases h.nmT h2 h4 z with w|w<;>exact Wd.no nd wL w (by omega)
   have zR:n∈PR.map (·.1):=by
    rcases List.mem_append.mp (show n∈PR.map (·.1)++TR.map (·.1) from hR) with z|z
    ·exact z
    ·exact absurd z nTR
   have sub:∀k,(n,k)∈PR→(n,k)∈PL:=fun k z=>by
    rcases(h.pr _ z).1 with w|w
    ·exact w
    ·exact(Wd.no nd wL w (.inl (by omega))).elim
   obtain⟨⟨n',k'⟩,hx,e⟩:=List.mem_map.mp zR
   have e':n'=n:=e
   subst e'
   exact⟨fun k=>⟨fun z=>by rw[C1 h.ndl z (sub k' hx)];exact hx,sub k⟩,fun t=>⟨fun z=>(nTL t z).elim,fun z=>(nTR (List.mem_map.mpr ⟨_,z,rfl⟩)).elim⟩⟩
  ·have wL:Wd ws 4 8 n:=by
    obtain⟨x,hx,rfl⟩:=List.mem_map.mp zL
    exact(h.tl x hx).1.up (Nat.le_refl _) (by omega)
   have nPL:∀t,(n,t)∉PL:=fun t z=>Wd.no nd wL (h.pl _ z).1 (.inr h1)
   have nPR:n∉PR.map (·.1):=fun z=>by rcases h.nmP h1 h3 z with w|w<;>exact Wd.no nd wL w (by omega)
   have zR:n∈TR.map (·.1):=by
    rcases List.mem_append.mp (show n∈PR.map (·.1)++TR.map (·.1) from hR) with z|z
    ·exact absurd z nPR
    ·exact z
   have sub:∀k,(n,k)∈TR→(n,k)∈TL:=fun k z=>by
    rcases(h.tr _ z).1 with w|w
    ·exact w
    ·exact(Wd.no nd wL w (.inl (by omega))).elim
   obtain⟨⟨n',k'⟩,hx,e⟩:=List.mem_map.mp zR
   have e':n'=n:=e
   subst e'
   exact⟨fun t=>⟨fun z=>(nPL t z).elim,fun z=>(nPR (List.mem_map.mpr ⟨_,z,rfl⟩)).elim⟩,fun k=>⟨fun z=>by rw[C1 h.ndt z (sub k' hx)];exact hx,sub k⟩⟩
structure NE (B:Hp) (wd d1 d2 d3 d4:Addr):Prop where
 b0:B wd=none
 b1:B d1=none
 b2:B d2=none
 b3:B d3=none
 b4:B d4=none
 n01:wd≠d1
 n02:wd≠d2
 n03:wd≠d3
 n04:wd≠d4
 n12:d1≠d2
 n13:d1≠d3
 n14:d1≠d4
 n23:d2≠d3
 n24:d2≠d4
 n34:d3≠d4
structure RS (K:PySem.W.Frag) (B H:Hp) (wd d1 d2 d3 d4 a1 a2:Addr) (kw kL kR:List (Key×V)) (PL PR:List (Str×Str)) (TL TR:List (Str×Tie)):Prop where
 sm:Same B H
 t1:SqT K H a1 [.ref d1,.ref d2]
 t2:SqT K H a2 [.ref d3,.ref d4]
 w:H wd=some (.dK kw)
 h1:H d1=some (.dK (pKV PL))
 h2:H d2=some (.dK kL)
 h3:H d3=some (.dK (pKV PR))
 h4:H d4=some (.dK kR)
 tl:TiesIs K H kL TL
 tr:TiesIs K H kR TR
section
variable {B H H':Hp} {wd d1 d2 d3 d4 a1 a2 l:Addr} {kw kL kR kw':List (Key×V)} {PL PR:List (Str×Str)} {TL TR:List (Str×Tie)} {n kd o1 o2:Str}
theorem RS.mono (r:RS K B H wd d1 d2 d3 d4 a1 a2 kw kL kR PL PR TL TR)(s:Same H H'):RS K B H' wd d1 d2 d3 d4 a1 a2 kw kL kR PL PR TL TR:=
 ⟨r.sm.trans s,s.tup r.t1,s.tup r.t2,s _ _ r.w,s _ _ r.h1,s _ _ r.h2,s _ _ r.h3,s _ _ r.h4,r.tl.mono s.le,r.tr.mono s.le⟩
theorem RS.setW (e:NE B wd d1 d2 d3 d4)(r:RS K B H wd d1 d2 d3 d4 a1 a2 kw kL kR PL PR TL TR):RS K B (upd H wd (.dK kw')) wd d1 d2 d3 d4 a1 a2 kw' kL kR PL PR TL TR:=
 ⟨C3 r.sm e.b0,J6 r.w r.t1,J6 r.w r.t2,d7,by rw[b5 e.n01.symm];exact r.h1,by rw[b5 e.n02.symm];exact r.h2,by rw[b5 e.n03.symm];exact r.h3,by rw[b5 e.n04.symm];exact r.h4,E1 r.w r.tl,E1 r.w r.tr⟩
theorem Y0 (h:n∉PL.map (·.1)):B8 (pKV PL) (Sum.inr n:Key) (.str kd)=pKV (PL++[(n,kd)]):=by
 rw[N1 _ (D7 (by rw[B7,←u9];exact fun m=>h (Q0 m)))]
 unfold pKV;rw[List.map_append];rfl
theorem RS.set1 (e:NE B wd d1 d2 d3 d4)(r:RS K B H wd d1 d2 d3 d4 a1 a2 kw kL kR PL PR TL TR)(h:n∉PL.map (·.1)):RS K B (upd H d1 (.dK (B8 (pKV PL) (Sum.inr n:Key) (.str kd)))) wd d1 d2 d3 d4 a1 a2 kw kL kR (PL++[(n,kd)]) PR TL TR:=by
 rw[Y0 h]
 exact⟨C3 r.sm e.b1,J6 r.h1 r.t1,J6 r.h1 r.t2,by rw[b5 e.n01];exact r.w,d7,by rw[b5 e.n12.symm];exact r.h2,by rw[b5 e.n13.symm];exact r.h3,by rw[b5 e.n14.symm];exact r.h4,E1 r.h1 r.tl,E1 r.h1 r.tr⟩
theorem RS.set3 (e:NE B wd d1 d2 d3 d4)(r:RS K B H wd d1 d2 d3 d4 a1 a2 kw kL kR PL PR TL TR)(h:n∉PR.map (·.1)):RS K B (upd H d3 (.dK (B8 (pKV PR) (Sum.inr n:Key) (.str kd)))) wd d1 d2 d3 d4 a1 a2 kw kL kR PL (PR++[(n,kd)]) TL TR:=by
 rw[Y0 h]
 exact⟨C3 r.sm e.b3,J6 r.h3 r.t1,J6 r.h3 r.t2,by rw[b5 e.n03];exact r.w,by rw[b5 e.n13];exact r.h1,by rw[b5 e.n23];exact r.h2,d7,by rw[b5 e.n34.symm];exact r.h4,E1 r.h3 r.tl,E1 r.h3 r.tr⟩
theorem a6q (w:TiesIs K H kL TL)(h:n∉TL.map (·.1))(hl:SqT K H l (Q9 (kd,o1,o2))):TiesIs K H (B8 kL (Sum.inr n:Key) (.ref l)) (TL++[(n,(kd,o1,o2))]):=by
 rw[N1 _ (D7 (by rw[w.keys,←u9];exact fun m=>h (Q0 m)))]
 exact A9 w ⟨rfl,l,rfl,hl⟩
theorem RS.set2 (e:NE B wd d1 d2 d3 d4)(r:RS K B H wd d1 d2 d3 d4 a1 a2 kw kL kR PL PR TL TR)(h:n∉TL.map (·.1))(hl:SqT K H l (Q9 (kd,o1,o2))):RS K B (upd H d2 (.dK (B8 kL (Sum.inr n:Key) (.ref l)))) wd d1 d2 d3 d4 a1 a2 kw (B8 kL (Sum.inr n:Key) (.ref l)) kR PL PR (TL++[(n,(kd,o1,o2))]) TR:=
 ⟨C3 r.sm e.b2,J6 r.h2 r.t1,J6 r.h2 r.t2,by rw[b5 e.n02];exact r.w,by rw[b5 e.n12];exact r.h1,d7,by rw[b5 e.n23.symm];exact r.h3,by rw[b5 e.n24.symm];exact r.h4,E1 r.h2 (a6q r.tl h hl),E1 r.h2 r.tr⟩
theorem RS.set4 (e:NE B wd d1 d2 d3 d4)(r:RS K B H wd d1 d2 d3 d4 a1 a2 kw kL kR PL PR TL TR)(h:n∉TR.map (·.1))(hl:SqT K H l (Q9 (kd,o1,o2))):RS K B (upd H d4 (.dK (B8 kR (Sum.inr n:Key) (.ref l)))) wd d1 d2 d3 d4 a1 a2 kw kL (B8 kR (Sum.inr n:Key) (.ref l)) PL PR TL (TR++[(n,(kd,o1,o2))]):=
 ⟨C3 r.sm e.b4,J6 r.h4 r.t1,J6 r.h4 r.t2,by rw[b5 e.n04];exact r.w,by rw[b5 e.n14];exact r.h1,by rw[b5 e.n24];exact r.h2,by rw[b5 e.n34];exact r.h3,d7,E1 r.h4 r.tl,E1 r.h4 (a6q r.tr h hl)⟩
end
structure WO (ps ws os:List Str) (i:Nat) (kw:List (Key×V)) (PL PR:List (Str×Str)):Prop where
 ok:∀kv∈kw,∃n s,kv=(Sum.inr n,V.str s)
 at_:∀j n w,j<i→ps[j]?=some n→ws[j]?=some w→p6 kw (Sum.inr n:Key)=some (.str w)
 inL:∀j w,j<i→ws[j]?=some w→w∈PL.map (·.1)
 inR:∀j n w,j<i→ps[j]?=some n→n∉os→ws[j]?=some w→w∈PR.map (·.1)
theorem WO.s1 {ps ws os:List Str}{i:Nat}{kw:List (Key×V)}{PL PR:List (Str×Str)}{n w kd:Str}(h:WO ps ws os i kw PL PR)(nd:ps.Nodup)(hn:ps[i]?=some n)(hw:ws[i]?=some w)(b:Bool)(hb:n∉os→b=true):
  WO ps ws os (i+1) (B8 kw (Sum.inr n:Key) (.str w)) (PL++[(w,kd)]) (if b then PR++[(w,kd)] else PR):=by
 refine⟨a5f h.ok ⟨_,_,rfl⟩,fun j m v hj h1 h2=>?_,fun j v hj h2=>?_,fun j m v hj h1 h3 h2=>?_⟩
 ·rw[C6]
  by_cases e:j=i
  ·subst e
   rw[h1] at hn;cases hn
   rw[h2] at hw;cases hw
   rw[if_pos rfl]
  ·have hne:m≠n:=fun z=>e (a8P nd (z▸h1) hn)
   rw[if_neg (fun z=>hne (Sum.inr.inj z))]
   exact h.at_ j m v (by omega) h1 h2
 ·rw[o5]
  by_cases e:j=i
  ·subst e
   rw[h2] at hw;cases hw
   exact List.mem_append_right _ List.mem_cons_self
  ·exact List.mem_append_left _ (h.inL j v (by omega) h2)
 ·by_cases e:j=i
  ·subst e
   rw[h1] at hn;cases hn
   rw[h2] at hw;cases hw
   rw[hb h3,if_pos rfl,o5]
   exact List.mem_append_right _ List.mem_cons_self
  ·have z:=h.inR j m v (by omega) h1 h3 h2
   cases b with
   |false=>exact z
   |true=>show v∈(PR++[(w,kd)]).map (·.1);rw[o5];exact List.mem_append_left _ z
theorem WO.s2 {ps ws os:List Str}{i:Nat}{kw:List (Key×V)}{PL PR:List (Str×Str)}{m w:Str}(h:WO ps ws os i kw PL PR)(hm:m∉ps):WO ps ws os i (B8 kw (Sum.inr m:Key) (.str w)) PL PR:=by
 refine⟨a5f h.ok ⟨_,_,rfl⟩,fun j n v hj h1 h2=>?_,h.inL,h.inR⟩
 rw[C6,if_neg (fun z:(Sum.inr n:Key)=Sum.inr m=>hm (by rw[←Sum.inr.inj z];exact List.mem_of_getElem? h1))]
 exact h.at_ j n v hj h1 h2
def b3N (ws:List Str):Prop:=ws.length=16∧ws.Nodup∧∀s∈ws,C4 s=true
def b5z (ks:List Str):Prop:=0<ks.length∧ks.length≤3∧∀s∈ks,C4 s=true
theorem a5J {ws:List Str}(h:ws.length=16)(i:Nat)(hi:i<16):∃w,ws[i]?=some w∧∀j:Int,j=(i:Int)→atI (ws.map V.str) j=some (.str w):=
 ⟨ws[i]'(by omega),List.getElem?_eq_getElem (by omega),fun j hj=>by rw[hj];exact h8 (j:=i) (by rw[List.getElem?_map,List.getElem?_eq_getElem (by omega)];rfl)⟩
theorem WO.get {ps ws os:List Str}{kw:List (Key×V)}{PL PR:List (Str×Str)}{n:Str}(h:WO ps ws os ps.length kw PL PR)(hl:ws.length=16)(h4:ps.length≤4)(hn:n∈ps):∃w,p6 kw (Sum.inr n:Key)=some (.str w)∧w∈PL.map (·.1)∧(n∉os→w∈PR.map (·.1)):=by
 obtain⟨j,hj⟩:=List.getElem?_of_mem hn
 obtain⟨hjl,_⟩:=List.getElem?_eq_some_iff.mp hj
 obtain⟨w,hw,_⟩:=a5J hl j (by omega)
 exact⟨w,h.at_ j n w hjl hj hw,h.inL j w hjl hw,fun ho=>h.inR j n w hjl hj ho hw⟩
def swp (x:Str×Str):Str×Str:=(x.2,x.1)
structure MP (W:Web) (os:List Str) (pr PL:List (Str×Str)) (TL:List (Str×Tie)) (Rn:List Str):Prop where
 n1:(pr.map (·.1)).Nodup
 n2:(pr.map (·.2)).Nodup
 wd:pr.map (·.2)=PL.map (·.1)++TL.map (·.1)
 pt:∀x∈PL,∃n,(n,x.1)∈pr∧(n,x.2)∈W.pts
 ti:∀x∈TL,∃n b e,(n,x.1)∈pr∧(b,x.2.2.1)∈pr∧(e,x.2.2.2)∈pr∧(n,(x.2.1,b,e))∈W.ts
 ko:∀x∈pr,x.2∈Rn↔x.1∉os
section
variable {W:Web} {os:List Str} {pr PL:List (Str×Str)} {TL:List (Str×Tie)} {Rn Rn':List Str} {n w kd b e u2 u3:Str}
theorem V2 (l:List (Str×Str))(x:Str×Str):(l++[x]).map (·.2)=l.map (·.2)++[x.2]:=by rw[List.map_append];rfl
theorem MP.ko' (h:MP W os pr PL TL Rn)(hw:w∉pr.map (·.2))(h1:∀y,y≠w→(y∈Rn'↔y∈Rn))(h2:w∈Rn'↔n∉os):∀x∈pr++[(n,w)],x.2∈Rn'↔x.1∉os:=fun x hx=>by
 rcases List.mem_append.mp hx with z|z
 ·rw[h1 x.2 fun q=>hw (List.mem_map.mpr ⟨x,z,q⟩)];exact h.ko x z
 ·rw[List.mem_singleton.mp z];exact h2
theorem MP.sP (h:MP W os pr PL [] Rn)(hn:n∉pr.map (·.1))(hw:w∉pr.map (·.2))(hp:(n,kd)∈W.pts)(h1:∀y,y≠w→(y∈Rn'↔y∈Rn))(h2:w∈Rn'↔n∉os):MP W os (pr++[(n,w)]) (PL++[(w,kd)]) [] Rn':=by
 refine⟨by rw[o5];exact z0 h.n1 hn,by rw[V2];exact z0 h.n2 hw,?_,fun x hx=>?_,(fun _ h=>nomatch h),h.ko' hw h1 h2⟩
 ·have z:=h.wd
  rw[List.map_nil,List.append_nil] at z
  rw[V2,o5,List.map_nil,List.append_nil,z]
 ·rcases List.mem_append.mp hx with z|z
  ·obtain⟨n',h1',h2'⟩:=h.pt x z
   exact⟨n',List.mem_append_left _ h1',h2'⟩
  ·rw[List.mem_singleton.mp z];exact⟨n,List.mem_append_right _ List.mem_cons_self,hp⟩
theorem MP.sT (h:MP W os pr PL TL Rn)(hn:n∉pr.map (·.1))(hw:w∉pr.map (·.2))(hp:(n,(kd,b,e))∈W.ts)(hb:(b,u2)∈pr)(he:(e,u3)∈pr)(h1:∀y,y≠w→(y∈Rn'↔y∈Rn))(h2:w∈Rn'↔n∉os):MP W os (pr++[(n,w)]) PL (TL++[(w,(kd,u2,u3))]) Rn':=by
 refine⟨by rw[o5];exact z0 h.n1 hn,by rw[V2];exact z0 h.n2 hw,?_,fun x hx=>?_,fun x hx=>?_,h.ko' hw h1 h2⟩
 ·rw[V2,o5,h.wd,List.append_assoc]
 ·obtain⟨n',h1',h2'⟩:=h.pt x hx
  exact⟨n',List.mem_append_left _ h1',h2'⟩
 ·rcases List.mem_append.mp hx with z|z
  ·obtain⟨n',b',e',q1,q2,q3,q4⟩:=h.ti x z
   exact⟨n',b',e',List.mem_append_left _ q1,List.mem_append_left _ q2,List.mem_append_left _ q3,q4⟩
  ·rw[List.mem_singleton.mp z];exact⟨n,b,e,List.mem_append_right _ List.mem_cons_self,List.mem_append_left _ hb,List.mem_append_left _ he,hp⟩
theorem MP.sR (h:MP W os pr PL TL Rn)(h1:∀y∈pr.map (·.2),(y∈Rn'↔y∈Rn)):MP W os pr PL TL Rn':=
 ⟨h.n1,h.n2,h.wd,h.pt,h.ti,fun x hx=>by rw[h1 _ (List.mem_map.mpr ⟨x,hx,rfl⟩)];exact h.ko x hx⟩
end
def Y5 (K:PySem.W.Frag):Sp:=fun vs H Q _=>∃(S:Sd) (lx lw lk:Addr) (xs:List Int) (ws ks:List Str),vs=[.ref S.a,.ref lx,.ref lw,.ref lk]∧SdIs K H S∧a9U S.W∧SqL K H lx (xs.map V.int)∧xs.length=16∧(∀x∈xs,0≤x)∧SqL K H lw (ws.map V.str)∧b3N ws∧SqL K H lk (ks.map V.str)∧b5z ks∧
 ∀(t r m bl:Addr) (L R:Sd) (pr:List (Str×Str)) (os:List Str) (H':Hp),Same H H'→H' t=some (.tup [.ref r,.ref m])→H' m=some (.dK (pKV (pr.map swp)))→H' bl=some (.lst [])→RuleIs K H' r bl L R []→b0T L.W R.W []→MP S.W os pr L.W.pts L.W.ts (i8 R.W)→(∀n∈i8 L.W,Wd ws 0 8 n)→Q (.ref t) H'
theorem a4a {f:Addr}{fd:FuncData}(T:Txt K mg)(U6:Cal P w K mg base CX0 1 "_law_picked" ["_law_web_here","_law_xs"] [] (S0 K))(a0y:Cal P w K mg base CX0 1 "_law_out" ["_law_web_here","_law_points","_law_ties","_law_xs"] [] (a0e K))(F:Fun K "_law_rule" "_law_rule" K8 f fd):FnOk P w K mg base CX0 2 f fd ["_law_web_here","_law_xs","_law_words_here","_law_kinds"] (Y5 K):=by
 refine F.ok sc__law_rule (fun vs H Q E h=>?_) (fun cdv A outer s H vs Q E hr h=>?_)
 ·obtain⟨S,lx,lw,lk,xs,ws,ks,rfl,_⟩:=h
  rfl
 ·obtain⟨S,lx,lw,lk,xs,ws,ks,rfl,hS,hG,hX,hxl,hx0,hW,⟨wl,wnd,wk⟩,hK,⟨kl0,kl3,kk⟩,k⟩:=h
  have hSl:=hS.len
  rw[z7] at hSl
  have hN:=sc__law_rule.nd
  have hu:=B9 hr
  refine⟨_,QSs.r (qsC (U3 (qC U6 (hr.mono (by decide)) r9 (qa1 (qV 0) (qa1 (qV 1) qa0))) (qgT K rfl (qg1 (qgN (i:=4) hN rfl (by walk_at "l")) (qg1 (qgN (i:=5) hN rfl (by walk_at "l")) qg0))))
   (qsC (o0 (i:=6) hN rfl (by walk_at "l") (qC a0y (hr.mono (by decide)) r9 (qa1 (qV 0) (qa1 (qV 4) (qa1 (qV 5) (qa1 (qV 1) qa0))))))
   (qsC (o0 (i:=7) hN rfl (by walk_at "l") qD0)
   (qsC (o0 (i:=8) hN rfl (by walk_at "l") (X7 (qa1 qD0 (qa1 qD0 qa0))))
   (qsC (o0 (i:=9) hN rfl (by walk_at "l") (X7 (qa1 qD0 (qa1 qD0 qa0))))
   (qsC (N5 PassesOwn.never rfl (Q6 K T.b_enumerate (qa1 (qV 4) qa0)) (qgT K rfl (qg1 (qgN (i:=10) hN rfl (by walk_at "l")) (qg1 (qgN (i:=11) hN rfl (by walk_at "l")) qg0)))
    (qsC (U3 (qIx (kIx K hu) (qV 2) (qV 10) (fun _ _=>rfl)) (qgS (qV 7) (qV 11) (u4 P w hu)))
   (qsC (U3 (qIx (kIx K hu) (qIx (kIx K hu) (qV 0) d9 (fun _ _=>rfl)) (qV 11) (fun _ _=>rfl)) (qgS (qIx (kIx K hu) (qV 8) d9 (fun _ _=>rfl)) (qIx (kIx K hu) (qV 2) (qV 10) (fun _ _=>rfl)) (u4 P w hu)))
   (qs1 (qIf (w5 (U7 K hu) (qV 11) (qV 6) (by rfl)) (qs1 (U3 (qIx (kIx K hu) (qIx (kIx K hu) (qV 0) d9 (fun _ _=>rfl)) (qV 11) (fun _ _=>rfl)) (qgS (qIx (kIx K hu) (qV 9) d9 (fun _ _=>rfl)) (qIx (kIx K hu) (qV 2) (qV 10) (fun _ _=>rfl)) (u4 P w hu)))) qs0)))))
   (qsC (N5 PassesOwn.never rfl (Q6 K T.b_enumerate (qa1 (qV 5) qa0)) (qgT K rfl (qg1 (qgN (i:=10) hN rfl (by walk_at "l")) (qg1 (qgN (i:=11) hN rfl (by walk_at "l")) qg0)))
    (qsC (U3 (qIx (kIx K hu) (qIx (kIx K hu) (qV 0) d9 (fun _ _=>rfl)) (qV 11) (fun _ _=>rfl)) (qgT K rfl (qg1 (qgN (i:=12) hN rfl (by walk_at "l")) (qg1 (qgN (i:=13) hN rfl (by walk_at "l")) (qg1 (qgN (i:=14) hN rfl (by walk_at "l")) qg0)))))
   (qsC (U3 (qIx (kIx K hu) (qV 2) (qOp (B4 K) d9 (qV 10)) (fun _ _=>rfl)) (qgS (qV 7) (qV 11) (u4 P w hu)))
   (qsC (U3 (X7 (qa1 (qV 12) (qa1 (qIx (kIx K hu) (qV 7) (qV 13) (fun _ _=>rfl)) (qa1 (qIx (kIx K hu) (qV 7) (qV 14) (fun _ _=>rfl)) qa0)))) (qgS (qIx (kIx K hu) (qV 8) d9 (fun _ _=>rfl)) (qIx (kIx K hu) (qV 2) (qOp (B4 K) d9 (qV 10)) (fun _ _=>rfl)) (u4 P w hu)))
   (qs1 (qIf (w5 (U7 K hu) (qV 11) (qV 6) (by rfl)) (qs1 (U3 (X7 (qa1 (qV 12) (qa1 (qIx (kIx K hu) (qV 7) (qV 13) (fun _ _=>rfl)) (qa1 (qIx (kIx K hu) (qV 7) (qV 14) (fun _ _=>rfl)) qa0)))) (qgS (qIx (kIx K hu) (qV 9) d9 (fun _ _=>rfl)) (qIx (kIx K hu) (qV 2) (qOp (B4 K) d9 (qV 10)) (fun _ _=>rfl)) (u4 P w hu)))) qs0))))))
   (qsC (N5 PassesOwn.never rfl (a2f T.b_range (qa1 (qB (a3j rfl) T.b_min Boot.«min» (qa1 (qOp j7 (qIx (kIx K hu) (qV 1) d9 (fun _ _=>rfl)) d9) (qa1 (qOp b0x d9 (qB (E2 K P w) T.b_len Boot.«len» (qa1 (qIx (kIx K hu) (qV 9) d9 (fun _ _=>rfl)) qa0))) qa0))) qa0)) (qgN (i:=10) hN rfl (by walk_at "l"))
    (qs1 (U3 (qIx (kIx K hu) (qV 3) (qOp j7 (qOp u7 (qIx (kIx K hu) (qV 1) d9 (fun _ _=>rfl)) (qOp (B4 K) (qV 10) d9)) (qB (E2 K P w) T.b_len Boot.«len» (qa1 (qV 3) qa0))) (fun _ _=>rfl)) (qgS (qIx (kIx K hu) (qV 9) d9 (fun _ _=>rfl)) (qIx (kIx K hu) (qV 2) (qOp (B4 K) d9 (qV 10)) (fun _ _=>rfl)) (u4 P w hu)))))
   (qsC (o0 (i:=15) hN rfl (by walk_at "l") (qB (J5 K rfl) T.b_sorted Boot.«sorted» (qa1 (qIx (kIx K hu) (qV 9) d9 (fun _ _=>rfl)) qa0)))
   (qsC (N5 PassesOwn.never rfl (a2f T.b_range (qa1 (qOp K0 (qB (a3j rfl) T.b_min Boot.«min» (qa1 (qOp j7 (qIx (kIx K hu) (qV 1) d9 (fun _ _=>rfl)) d9) (qa1 (qOp b0x d9 (qB (E2 K P w) T.b_len Boot.«len» (qa1 (qIx (kIx K hu) (qV 9) d9 (fun _ _=>rfl)) qa0))) qa0))) (qBT a0n T.b_int Boot.«int» (qa1 (a3d (a3C K hr) (qV 15) (O7 qa0) (t5 _)) qa0))) qa0)) (qgN (i:=10) hN rfl (by walk_at "l"))
    (qsC (o0 (i:=12) hN rfl (by walk_at "l") (qIx (kIx K hu) (qV 3) (qOp j7 (qOp u7 (qIx (kIx K hu) (qV 1) d9 (fun _ _=>rfl)) (qOp (B4 K) (qV 10) d9)) (qB (E2 K P w) T.b_len Boot.«len» (qa1 (qV 3) qa0))) (fun _ _=>rfl)))
   (qsC (o0 (i:=13) hN rfl (by walk_at "l") (qIx (kIx K hu) (qV 15) (qOp j7 (qOp u7 (qIx (kIx K hu) (qV 1) d9 (fun _ _=>rfl)) (qOp (B4 K) (qV 10) d9)) (qB (E2 K P w) T.b_len Boot.«len» (qa1 (qV 15) qa0))) (fun _ _=>rfl)))
   (qs1 (U3 (X7 (qa1 (qV 12) (qa1 (qV 13) (qa1 (qIx (kIx K hu) (qV 15) (qOp j7 (qOp u7 (qIx (kIx K hu) (qV 1) d9 (fun _ _=>rfl)) (qOp (B4 K) (qV 10) d9)) (qB (E2 K P w) T.b_len Boot.«len» (qa1 (qV 15) qa0))) (fun _ _=>rfl)) qa0)))) (qgS (qIx (kIx K hu) (qV 9) d9 (fun _ _=>rfl)) (qIx (kIx K hu) (qV 2) (qOp (B4 K) d9 (qV 10)) (fun _ _=>rfl)) (u4 P w hu)))))))
   (qsC (o0 (i:=16) hN rfl (by walk_at "l") qD0)
   (qsC (N5 PassesOwn.never rfl (a1U (qV 7)) (qgT K rfl (qg1 (qgN (i:=11) hN rfl (by walk_at "l")) (qg1 (qgN (i:=17) hN rfl (by walk_at "l")) qg0)))
    (qs1 (U3 (qV 11) (qgS (qV 16) (qV 17) (u4 P w hu)))))
   (qs1 (D5 (X7 (qa1 (X7 (qa1 (qV 8) (qa1 (qV 9) (qa1 (O7 qa0) qa0)))) (qa1 (qV 16) qa0))))))))))))))))),?_⟩
  refine C5 ?_
  walk_at "e"
  refine⟨S,lx,xs,rfl,hS,hX,hxl,hx0,fun t0 lp lt ps ts H1 s1 f1 g1 g2 pk=>?_⟩
  refine K3 (SqT.of f1) rfl ?_
  walk_at "e"
  refine C5 ?_
  walk_at "e"
  refine⟨S,lp,lt,lx,ps,ts,xs,rfl,hS.same s1,SqL.of g1,SqL.of g2,pk,s1.seq hX,hxl,hx0,fun lo os B nlo s2 fo ok=>?_⟩
  have s02:=s1.trans s2
  have SB:=hS.same s02
  have XB:=s02.seq hX
  have WB:=s02.seq hW
  have KB:=s02.seq hK
  have PB:=s2 _ _ g1
  have TB:=s2 _ _ g2
  walk_at "e"
  refine C5 ?_
  walk_at "e"
  intro wd n0
  obtain⟨H3,e3,f3,m3,_⟩:=b7 (o:= .dK []) n0
  rw[e3]
  walk_at "e"
  refine C5 ?_
  walk_at "e"
  intro d1 n1
  obtain⟨H4,e4,f4,m4,_⟩:=b7 (o:= .dK []) n1
  rw[e4]
  walk_at "e"
  intro d2 n2
  obtain⟨H5,e5,f5,m5,_⟩:=b7 (o:= .dK []) n2
  rw[e5]
  walk_at "e"
  refine⟨i6 (by simp),fun a1 na1=>?_⟩
  obtain⟨H6,e6,f6,m6,_⟩:=b7 (o:= .tup _) na1
  rw[e6]
  walk_at "e"
  refine C5 ?_
  walk_at "e"
  intro d3 n3
  obtain⟨H7,e7,f7,m7,_⟩:=b7 (o:= .dK []) n3
  rw[e7]
  walk_at "e"
  intro d4 n4
  obtain⟨H8,e8,f8,m8,_⟩:=b7 (o:= .dK []) n4
  rw[e8]
  walk_at "e"
  refine⟨i6 (by simp),fun a2 na2=>?_⟩
  obtain⟨H9,e9,f9,m9,_⟩:=b7 (o:= .tup _) na2
  rw[e9]
  have m36:=m4.trans (m5.trans m6)
  have ne:NE B wd d1 d2 d3 d4:=⟨n0,m3.free n1,m3.free (m4.free n2),m3.free (m36.free n3),m3.free (m36.free (m7.free n4)),b9 f3 n1,b9 (m4 _ _ f3) n2,b9 (m36 _ _ f3) n3,b9 (m7 _ _ (m36 _ _ f3)) n4,
   b9 f4 n2,b9 (m6 _ _ (m5 _ _ f4)) n3,b9 (m7 _ _ (m6 _ _ (m5 _ _ f4))) n4,b9 (m6 _ _ f5) n3,b9 (m7 _ _ (m6 _ _ f5)) n4,b9 f7 n4⟩
  have m79:=m7.trans (m8.trans m9)
  have rs0:RS K B H9 wd d1 d2 d3 d4 a1 a2 [] [] [] [] [] [] []:=⟨m3.trans (m36.trans m79),SqT.of (m79 _ _ f6),SqT.of f9,m79 _ _ (m36 _ _ f3),m79 _ _ (m6 _ _ (m5 _ _ f4)),m79 _ _ (m6 _ _ f5),m9 _ _ (m8 _ _ f7),m9 _ _ f8,.nil,.nil⟩
  have hP4:=pk.l1
  have hT4:=pk.l2
  walk_at "e"
  refine C5 ?_
  walk_at "e"
  refine⟨_,rfl,.inl ⟨lp,_,rfl,SqL.of (rs0.sm _ _ PB),?_⟩⟩
  refine L9 (n:=ps.length) (fun i σ H'=>(∃v10 v11 v12 v13 v14 v15 v16 v17,σ=[some (V.ref S.a),some (.ref lx),some (.ref lw),some (.ref lk),some (.ref lp),some (.ref lt),some (.ref lo),some (.ref wd),some (.ref a1),some (.ref a2),v10,v11,v12,v13,v14,v15,v16,v17])∧∃pr PL PR,RS K B H' wd d1 d2 d3 d4 a1 a2 (pKV pr) [] [] PL PR [] []∧LR ws i 0 0 0 PL [] PR []∧WO ps ws os i (pKV pr) PL PR∧pr.length≤i∧MP S.W os pr PL [] (PR.map (·.1))∧pr.map (·.1)=ps.take i)
   ⟨⟨_,_,_,_,_,_,_,_,rfl⟩,[],[],[],rs0,LR.new,⟨(fun _ h=>nomatch h),(fun j _ _ h=>absurd h (Nat.not_lt_zero _)),(fun j _ h=>absurd h (Nat.not_lt_zero _)),fun j _ _ h=>absurd h (Nat.not_lt_zero _)⟩,Nat.le_refl _,⟨List.nodup_nil,List.nodup_nil,rfl,(fun _ h=>nomatch h),(fun _ h=>nomatch h),fun _ h=>nomatch h⟩,rfl⟩ (fun i σ H' hi hp=>⟨_,.str (ps[i]),SqL.of (hp.2.choose_spec.choose_spec.choose_spec.1.sm _ _ PB),by rw[List.getElem?_map,List.getElem?_eq_getElem hi];rfl⟩) ?_ ?_
  ·rintro i v σ H10 H10' hi ⟨⟨v10,v11,v12,v13,v14,v15,v16,v17,rfl⟩,pr,PL,PR,rs,lr,wo,hkl,mp,hpr⟩ ⟨t,x,hx,nt,rfl,rfl⟩
   have hx':=hx _ (SqL.of (rs.sm _ _ PB))
   rw[List.getElem?_map,List.getElem?_eq_getElem hi] at hx'
   cases hx'
   have hpi:ps[i]?=some ps[i]:=List.getElem?_eq_getElem hi
   obtain⟨wi,hwi,hwa⟩:=a5J wl i (by omega)
   obtain⟨⟨x0,kd⟩,hxm,ex⟩:=List.mem_map.mp (pk.p _ (List.getElem_mem hi))
   have ex':x0=ps[i]:=ex
   subst ex'
   have hkd:=hG.kd _ hxm
   obtain⟨nL,nR⟩:=lr.f1 wnd hwi
   obtain⟨H11,e11,f11,m11,_⟩:=b7 (o:= .tup _) nt
   rw[e11]
   have r11:=rs.mono m11
   refine K3 (SqT.of f11) rfl ?_
   walk_at "e"
   refine C5 ?_
   walk_at "e"
   refine i7 (r11.sm.seq WB) (hwa _ rfl) ?_
   walk_at "e"
   refine N6 (p8 (k:=Sum.inr ps[i]) r11.w (i6 (by rw[A3];omega)) ?_)
   have hni:ps[i]∉pr.map (·.1):=fun z=>by
    rw[hpr] at z
    have z2:(ps.take (i+1)).Nodup:=pk.n1.sublist (List.take_sublist _ _)
    rw[List.take_succ,hpi] at z2
    exact(List.nodup_append.mp z2).2.2 _ z _ (by simp) rfl
   have hwn:wi∉pr.map (·.2):=fun z=>by
    rw[mp.wd,List.map_nil,List.append_nil] at z
    exact nL z
   have hpr':(pr++[(ps[i],wi)]).map (·.1)=ps.take (i+1):=by rw[o5,hpr,List.take_succ,hpi];rfl
   have hkl':(pr++[(ps[i],wi)]).length≤i+1:=by rw[List.length_append,List.length_singleton];omega
   rw[Y0 hni]
   have r12:=r11.setW (kw':=pKV (pr++[(ps[i],wi)])) ne
   generalize upd H11 wd (.dK (pKV (pr++[(ps[i],wi)])))=H12 at r12⊢
   have S12:=SB.same r12.sm
   refine C5 ?_
   walk_at "e"
   refine d8 S12.at_.tup (h8 (j:=0) rfl) ?_
   walk_at "e"
   refine v0 (v:= .str kd) (by have z:=R0 (k:=Sum.inr ps[i]) S12.at_.pts;rw[I9 (A6 hS.nd) hxm] at z;exact z) ?_
   walk_at "e"
   refine d8 r12.t1 (h8 (j:=0) rfl) ?_
   walk_at "e"
   refine i7 (r12.sm.seq WB) (hwa _ rfl) ?_
   walk_at "e"
   refine N6 (p8 (k:=Sum.inr wi) r12.h1 (i6 (by rw[A3];have:=lr.ll;omega)) ?_)
   have r13:=r12.set1 (kd:=kd) ne nL
   generalize upd H12 d1 (.dK (B8 (pKV PL) (Sum.inr wi) (.str kd)))=H13 at r13⊢
   have S13:=SB.same r13.sm
   walk_at "e"
   refine I0 (SqL.of (r13.sm _ _ fo)) ?_
   walk_at "e"
   refine a0z (fun hb=>?_) (fun hb=>?_)
   ·walk_at "e"
    refine d8 S13.at_.tup (h8 (j:=0) rfl) ?_
    walk_at "e"
    refine v0 (v:= .str kd) (by have z:=R0 (k:=Sum.inr ps[i]) S13.at_.pts;rw[I9 (A6 hS.nd) hxm] at z;exact z) ?_
    walk_at "e"
    refine d8 r13.t2 (h8 (j:=0) rfl) ?_
    walk_at "e"
    refine i7 (r13.sm.seq WB) (hwa _ rfl) ?_
    walk_at "e"
    refine N6 (p8 (k:=Sum.inr wi) r13.h3 (i6 (by rw[A3];have:=lr.lr;omega)) ?_)
    exact⟨⟨_,_,_,_,_,_,_,_,rfl⟩,_,_,_,r13.set3 (kd:=kd) ne nR,lr.s1 wnd hwi hkd true,by have z:=wo.s1 (kd:=kd) pk.n1 hpi hwi true (fun _=>rfl);rw[Y0 hni] at z;exact z,hkl',mp.sP hni hwn hxm (fun y hy=>by show y∈(PR++[(wi,kd)]).map (·.1)↔_;rw[o5,List.mem_append,List.mem_singleton];exact⟨fun z=>z.elim id fun q=>absurd q hy,.inl⟩) ⟨fun _=>hb,fun _=>by show wi∈(PR++[(wi,kd)]).map (·.1);rw[o5];simp⟩,hpr'⟩
   ·walk_at "e"
    exact⟨⟨_,_,_,_,_,_,_,_,rfl⟩,_,_,_,r13,lr.s1 wnd hwi hkd false,by have z:=wo.s1 (kd:=kd) pk.n1 hpi hwi false (fun z=>absurd hb z);rw[Y0 hni] at z;exact z,hkl',mp.sP hni hwn hxm (fun y hy=>Iff.rfl) ⟨fun z=>absurd z nR,fun z=>absurd hb z⟩,hpr'⟩
  ·rintro σ H10 ⟨⟨v10,v11,v12,v13,v14,v15,v16,v17,rfl⟩,pr,PL,PR,rs,lr,wo,hkl,mp,hpr⟩
   rw[List.take_of_length_le (Nat.le_refl _)] at hpr
   refine⟨⟨_,SqL.of (rs.sm _ _ PB),by rw[List.length_map];exact Nat.le_refl _⟩,?_⟩
   change a3K _ _ _ _ H10
   refine C5 ?_
   walk_at "e"
   refine⟨_,rfl,.inl ⟨lt,_,rfl,SqL.of (rs.sm _ _ TB),?_⟩⟩
   refine L9 (n:=ts.length) (fun i σ H'=>(∃v10 v11 v12 v13 v14 v15 v16 v17,σ=[some (V.ref S.a),some (.ref lx),some (.ref lw),some (.ref lk),some (.ref lp),some (.ref lt),some (.ref lo),some (.ref wd),some (.ref a1),some (.ref a2),v10,v11,v12,v13,v14,v15,v16,v17])∧∃pr kL kR TL TR,RS K B H' wd d1 d2 d3 d4 a1 a2 (pKV pr) kL kR PL PR TL TR∧LR ws ps.length i 0 0 PL TL PR TR∧WO ps ws os ps.length (pKV pr) PL PR∧pr.length≤ps.length+i∧MP S.W os pr PL TL (PR.map (·.1)++TR.map (·.1))∧pr.map (·.1)=ps++ts.take i)
    ⟨⟨_,_,_,_,_,_,_,_,rfl⟩,_,_,_,_,_,rs,lr,wo,hkl,by rw[List.map_nil,List.append_nil];exact mp,by rw[List.take_zero,List.append_nil];exact hpr⟩ (fun i σ H' hi hp=>⟨_,.str (ts[i]),SqL.of (hp.2.choose_spec.choose_spec.choose_spec.choose_spec.choose_spec.1.sm _ _ TB),by rw[List.getElem?_map,List.getElem?_eq_getElem hi];rfl⟩) ?_ ?_
   ·clear rs lr wo hkl mp hpr
    rintro i v σ H10 H10' hi ⟨⟨v10,v11,v12,v13,v14,v15,v16,v17,rfl⟩,pr,kL,kR,TL,TR,rs,lr,wo,hkl,mp,hpr⟩ ⟨t,x,hx,nt,rfl,rfl⟩
    have hx':=hx _ (SqL.of (rs.sm _ _ TB))
    rw[List.getElem?_map,List.getElem?_eq_getElem hi] at hx'
    cases hx'
    have hti:=List.getElem_mem hi
    have htk:ts.take (i+1)=ts.take i++[ts[i]]:=by rw[List.take_succ,List.getElem?_eq_getElem hi];rfl
    have htn:ts[i]∉ts.take i:=fun z=>by
     have z2:(ts.take (i+1)).Nodup:=pk.n2.sublist (List.take_sublist _ _)
     rw[htk] at z2
     exact(List.nodup_append.mp z2).2.2 _ z _ (by simp) rfl
    generalize ts[i]=nm at hti htk htn
    obtain⟨wi,hwi,hwa⟩:=a5J wl (4+i) (by omega)
    obtain⟨⟨y1,y2,y3⟩,hym,hy2,hy3⟩:=pk.t _ hti
    have hkd:=hG.tk _ hym
    obtain⟨nL,nR⟩:=lr.f2 wnd hwi
    have hnp:nm∉ps:=fun z=>(List.nodup_append.mp hS.nd).2.2 nm (pk.p _ z) nm (List.mem_map.mpr ⟨_,hym,rfl⟩) rfl
    obtain⟨H11,e11,f11,m11,_⟩:=b7 (o:= .tup _) nt
    rw[e11]
    have r11:=rs.mono m11
    have S11:=SB.same r11.sm
    obtain⟨aa,q1,q3⟩:=a0L S11.at_.ts (N3 hS.nd) hym
    refine K3 (SqT.of f11) rfl ?_
    walk_at "e"
    refine C5 ?_
    walk_at "e"
    refine d8 S11.at_.tup (h8 (j:=1) rfl) ?_
    walk_at "e"
    refine v0 (v:= .ref aa) (by have z:=R0 (k:=Sum.inr nm) S11.at_.ties;rw[q1] at z;exact z) ?_
    refine K3 (xs:=[.str y1,.str y2,.str y3]) q3 rfl ?_
    walk_at "e"
    refine C5 ?_
    walk_at "e"
    refine i7 (r11.sm.seq WB) (hwa _ rfl) ?_
    walk_at "e"
    refine N6 (p8 (k:=Sum.inr nm) r11.w (i6 (by rw[A3];omega)) ?_)
    have hni:nm∉pr.map (·.1):=fun z=>by
     rw[hpr] at z
     exact(List.mem_append.mp z).elim hnp htn
    have hwn:wi∉pr.map (·.2):=fun z=>by
     rw[mp.wd] at z
     rcases List.mem_append.mp z with z|z
     ·obtain⟨y,hy,ey⟩:=List.mem_map.mp z
      have:=(lr.pl y hy).1
      rw[show y.1=wi from ey] at this
      exact Wd.no wnd this ⟨4+i,Nat.le_refl _,Nat.lt_succ_self _,hwi⟩ (.inl (by omega))
     ·exact nL z
    have hwR:wi∉PR.map (·.1)++TR.map (·.1):=fun z=>by
     rcases List.mem_append.mp z with z|z
     ·obtain⟨y,hy,ey⟩:=List.mem_map.mp z
      rcases(lr.pr y hy).1 with q|q
      ·have:=(lr.pl y q).1
       rw[show y.1=wi from ey] at this
       exact Wd.no wnd this ⟨4+i,Nat.le_refl _,Nat.lt_succ_self _,hwi⟩ (.inl (by omega))
      ·obtain⟨j,j1,j2,_⟩:=q
       omega
     ·exact nR z
    have hpr':(pr++[(nm,wi)]).map (·.1)=ps++ts.take (i+1):=by rw[o5,hpr,htk,List.append_assoc]
    have hkl':(pr++[(nm,wi)]).length≤ps.length+(i+1):=by rw[List.length_append,List.length_singleton];omega
    have wo2:=wo.s2 (w:=wi) hnp
    obtain⟨u2',hu2',_,_⟩:=wo.get wl hP4 hy2
    obtain⟨u3',hu3',_,_⟩:=wo.get wl hP4 hy3
    obtain⟨_,eb2,hb2⟩:=a1W hu2'
    obtain⟨_,eb3,hb3⟩:=a1W hu3'
    rw[Y0 hni] at wo2⊢
    have r12:=r11.setW (kw':=pKV (pr++[(nm,wi)])) ne
    generalize upd H11 wd (.dK (pKV (pr++[(nm,wi)])))=H12 at r12⊢
    obtain⟨u2,hu2,uL2,uR2⟩:=wo2.get wl hP4 hy2
    obtain⟨u3,hu3,uL3,uR3⟩:=wo2.get wl hP4 hy3
    have n1':((pr++[(nm,wi)]).map (·.1)).Nodup:=by rw[o5];exact z0 mp.n1 hni
    have hb2':(y2,u2)∈pr:=by
     have z:=I9 (k:=u2') n1' (List.mem_append_left _ (by rw[V.str.inj eb2];exact hb2))
     rw[hu2] at z
     rw[V.str.inj (Option.some.inj z),V.str.inj eb2];exact hb2
    have hb3':(y3,u3)∈pr:=by
     have z:=I9 (k:=u3') n1' (List.mem_append_left _ (by rw[V.str.inj eb3];exact hb3))
     rw[hu3] at z
     rw[V.str.inj (Option.some.inj z),V.str.inj eb3];exact hb3
    refine C5 ?_
    walk_at "e"
    refine v0 (v:= .str u2) (by have z:=R0 (k:=Sum.inr y2) (show Rd H12 wd _ from .inl r12.w);rw[hu2] at z;exact z) ?_
    walk_at "e"
    refine v0 (v:= .str u3) (by have z:=R0 (k:=Sum.inr y3) (show Rd H12 wd _ from .inl r12.w);rw[hu3] at z;exact z) ?_
    walk_at "e"
    refine⟨i6 (by simp),fun l13 n13=>?_⟩
    obtain⟨H13,e13,f13,m13,_⟩:=b7 (o:= .tup _) n13
    rw[e13]
    have r13:=r12.mono m13
    walk_at "e"
    refine d8 r13.t1 (h8 (j:=1) rfl) ?_
    walk_at "e"
    refine i7 (r13.sm.seq WB) (hwa _ rfl) ?_
    walk_at "e"
    refine N6 (p8 (k:=Sum.inr wi) r13.h2 (i6 (by have:=lr.lt;have:=r13.tl.length;omega)) ?_)
    have r14:=r13.set2 (kd:=y1) (o1:=u2) (o2:=u3) ne nL (SqT.of f13)
    generalize upd H13 d2 (.dK (B8 kL (Sum.inr wi) (.ref l13)))=H14 at r14⊢
    walk_at "e"
    refine I0 (SqL.of (r14.sm _ _ fo)) ?_
    walk_at "e"
    refine a0z (fun hb=>?_) (fun hb=>?_)
    ·obtain⟨ob2,ob3⟩:=ok.ok _ hti hb _ hym
     walk_at "e"
     refine v0 (v:= .str u2) (by have z:=R0 (k:=Sum.inr y2) (show Rd H14 wd _ from .inl r14.w);rw[hu2] at z;exact z) ?_
     walk_at "e"
     refine v0 (v:= .str u3) (by have z:=R0 (k:=Sum.inr y3) (show Rd H14 wd _ from .inl r14.w);rw[hu3] at z;exact z) ?_
     walk_at "e"
     refine⟨i6 (by simp),fun l15 n15=>?_⟩
     obtain⟨H15,e15,f15,m15,_⟩:=b7 (o:= .tup _) n15
     rw[e15]
     have r15:=r14.mono m15
     walk_at "e"
     refine d8 r15.t2 (h8 (j:=1) rfl) ?_
     walk_at "e"
     refine i7 (r15.sm.seq WB) (hwa _ rfl) ?_
     walk_at "e"
     refine N6 (p8 (k:=Sum.inr wi) r15.h4 (i6 (by have:=lr.lu;have:=r15.tr.length;omega)) ?_)
     exact⟨⟨_,_,_,_,_,_,_,_,rfl⟩,_,_,_,_,_,r15.set4 (kd:=y1) (o1:=u2) (o2:=u3) ne nR (SqT.of f15),lr.s2 wnd hwi hkd uL2 uL3 true (fun _=>⟨uR2 ob2,uR3 ob3⟩),wo2,hkl',mp.sT hni hwn hym hb2' hb3' (fun y hy=>by show y∈PR.map (·.1)++(TR++[(wi,(y1,u2,u3))]).map (·.1)↔_;rw[o5,←List.append_assoc,List.mem_append,List.mem_singleton];exact⟨fun z=>z.elim id fun q=>absurd q hy,.inl⟩) ⟨fun _=>hb,fun _=>by show wi∈PR.map (·.1)++(TR++[(wi,(y1,u2,u3))]).map (·.1);rw[o5];simp⟩,hpr'⟩
    ·walk_at "e"
     exact⟨⟨_,_,_,_,_,_,_,_,rfl⟩,_,_,_,_,_,r14,lr.s2 wnd hwi hkd uL2 uL3 false (fun z=>nomatch z),wo2,hkl',mp.sT hni hwn hym hb2' hb3' (fun y hy=>Iff.rfl) ⟨fun z=>absurd z hwR,fun z=>absurd hb z⟩,hpr'⟩
   ·clear rs lr wo hkl mp hpr
    rintro σ H10 ⟨⟨v10,v11,v12,v13,v14,v15,v16,v17,rfl⟩,pr,kL,kR,TL,TR,rs,lr,wo,hkl,mp,hpr⟩
    rw[List.take_of_length_le (Nat.le_refl _)] at hpr
    refine⟨⟨_,SqL.of (rs.sm _ _ TB),by rw[List.length_map];exact Nat.le_refl _⟩,?_⟩
    change a3K _ _ _ _ H10
    have hrl:=lr.lr
    have hul:=lr.lu
    have htr:=rs.tr.length
    obtain⟨x8,hx8,hx8'⟩:=P8 hxl hx0 8 (by omega)
    obtain⟨x9,hx9,hx9'⟩:=P8 hxl hx0 9 (by omega)
    obtain⟨x10,hx10,hx10'⟩:=P8 hxl hx0 10 (by omega)
    obtain⟨x11,hx11,hx11'⟩:=P8 hxl hx0 11 (by omega)
    obtain⟨x12,hx12,hx12'⟩:=P8 hxl hx0 12 (by omega)
    obtain⟨x13,hx13,hx13'⟩:=P8 hxl hx0 13 (by omega)
    refine C5 ?_
    walk_at "e"
    refine i7 (rs.sm.seq XB) hx8 ?_
    walk_at "e"
    refine d8 rs.t2 (h8 (j:=0) rfl) ?_
    walk_at "e"
    refine D0 (a3h (.inl rs.h3) ?_)
    rw[A3]
    walk_at "e"
    refine⟨_,_,rfl,?_⟩
    generalize hcnt:(if 4 -(PR.length:Int)<x8 % 3 then 4 -(PR.length:Int) else x8 % 3)=cnt
    have hc:0≤cnt∧cnt≤2∧PR.length+cnt.toNat≤4:=by subst hcnt;split<;>omega
    walk_at "e"
    refine N0 (by omega) (by omega) ?_
    refine L9 (n:=cnt.toNat) (fun i σ H'=>(∃v10 v11 v12 v13 v14 v15 v16 v17,σ=[some (V.ref S.a),some (.ref lx),some (.ref lw),some (.ref lk),some (.ref lp),some (.ref lt),some (.ref lo),some (.ref wd),some (.ref a1),some (.ref a2),v10,v11,v12,v13,v14,v15,v16,v17])∧∃PR',RS K B H' wd d1 d2 d3 d4 a1 a2 (pKV pr) kL kR PL PR' TL TR∧LR ws ps.length ts.length i 0 PL TL PR' TR∧PR'.length=PR.length+i∧∀y,(Wd ws 0 8 y∨False)→(y∈PR'.map (·.1)↔y∈PR.map (·.1)))
     ⟨⟨_,_,_,_,_,_,_,_,rfl⟩,_,rs,lr,rfl,fun _ _=>Iff.rfl⟩ (fun i σ H' hi _=>by exact hi) ?_ ?_
    ·clear rs lr
     rintro i v σ H10' H10 hi ⟨⟨v10,v11,v12,v13,v14,v15,v16,v17,rfl⟩,PR',rs,lr,hprl,bP⟩ ⟨rfl,rfl⟩
     obtain⟨wi,hwi,hwa⟩:=a5J wl (8+i) (by omega)
     have hwa':=hwa (8+(0+(i:Int))) (by omega)
     obtain⟨kd,hkd,hkm⟩:=C2 (ss:=ks) (i:=x9/(0+(i:Int)+1) % (ks.length:Int)) (Int.emod_nonneg _ (by omega)) (Int.emod_lt_of_pos _ (by omega))
     walk_at "e"
     refine i7 (rs.sm.seq XB) hx9 ?_
     walk_at "e"
     refine D0 (j8 (rs.sm.seq KB) ?_)
     rw[List.length_map]
     walk_at "e"
     refine i7 (rs.sm.seq KB) hkd ?_
     walk_at "e"
     refine d8 rs.t2 (h8 (j:=0) rfl) ?_
     walk_at "e"
     refine i7 (rs.sm.seq WB) hwa' ?_
     walk_at "e"
     refine N6 (p8 (k:=Sum.inr wi) rs.h3 (i6 (by rw[A3];omega)) ?_)
     exact⟨⟨_,_,_,_,_,_,_,_,rfl⟩,_,rs.set3 (kd:=kd) ne (lr.f3 wnd hP4 hwi),lr.s3 wnd hP4 hwi (kk _ hkm),by rw[List.length_append,List.length_singleton];omega,fun y hy=>by
      rw[o5,List.mem_append,List.mem_singleton,←bP y hy]
      refine⟨fun z=>z.elim id fun q=>?_,.inl⟩
      subst q
      exact(Wd.no wnd (hy.elim id False.elim) ⟨8+i,Nat.le_refl _,Nat.lt_succ_self _,hwi⟩ (.inl (by omega))).elim⟩
    ·clear rs lr
     rintro σ H10 ⟨⟨v10,v11,v12,v13,v14,v15,v16,v17,rfl⟩,PR',rs,lr,hprl,bP⟩
     refine⟨Nat.le_refl _,?_⟩
     change a3K _ _ _ _ H10
     refine C5 ?_
     walk_at "e"
     refine d8 rs.t2 (h8 (j:=0) rfl) ?_
     walk_at "e"
     refine p0 (ss:=PR'.map (·.1)) (.inl rs.h3) (by rw[B7,u9]) (by rw[List.length_map];omega) (fun s1' b1 b2 le nle=>?_)
     have ble:B le=none:=rs.sm.free nle
     obtain⟨H11,e11,f11,m11,_⟩:=b7 (o:= .lst _) nle
     rw[e11]
     have r11:=rs.mono m11
     have gl:=b1.length_eq
     rw[List.length_map] at gl
     walk_at "e"
     refine C5 ?_
     walk_at "e"
     refine i7 (r11.sm.seq XB) hx10 ?_
     walk_at "e"
     refine d8 r11.t2 (h8 (j:=1) rfl) ?_
     walk_at "e"
     refine D0 (a3h (.inl r11.h4) ?_)
     walk_at "e"
     refine⟨_,_,rfl,?_⟩
     generalize hcnt2:(if 4 -(kR.length:Int)<x10 % 3 then 4 -(kR.length:Int) else x10 % 3)=cnt2
     have hc2:0≤cnt2∧cnt2≤2∧TR.length+cnt2.toNat≤4:=by subst hcnt2;split<;>omega
     walk_at "e"
     refine⟨i6 (by simp),fun l3 n3=>?_⟩
     obtain⟨H12,e12,f12,m12,_⟩:=b7 (o:= .lst []) n3
     rw[e12]
     refine b1Y (a2s (SqL.of (m12 _ _ f11)) (SqL.of f12) (M8 _) rfl ?_)
     refine .inr ⟨_,rfl,?_⟩
     have hem:L7 (s1'.map V.str) []=decide (s1'=[]):=by cases s1'<;>rfl
     rw[hem]
     generalize hn:(if(!decide (s1'=[]))=true then(1:Int) else 0)=nn
     have hn01:(nn=0∨nn=1)∧(nn=1→0<s1'.length):=by
      subst hn
      cases s1' with
      |nil=>simp
      |cons _ _=>simp
     have hne4:d4≠le:=b9 rs.h4 nle
     walk_at "e"
     have hmul:0≤cnt2*nn∧cnt2*nn≤cnt2∧(0<cnt2*nn→nn=1):=by
      rcases hn01.1 with rfl|rfl<;>omega
     generalize cnt2*nn=cnt3 at hmul⊢
     refine N0 (by omega) (by omega) ?_
     have r12:=r11.mono m12
     refine L9 (n:=cnt3.toNat) (fun i σ H'=>(∃v10 v11 v12 v13 v14 v16 v17,σ=[some (V.ref S.a),some (.ref lx),some (.ref lw),some (.ref lk),some (.ref lp),some (.ref lt),some (.ref lo),some (.ref wd),some (.ref a1),some (.ref a2),v10,v11,v12,v13,v14,some (.ref le),v16,v17])∧H' le=some (.lst (s1'.map V.str))∧∃kR' TR',RS K B H' wd d1 d2 d3 d4 a1 a2 (pKV pr) kL kR' PL PR' TL TR'∧LR ws ps.length ts.length cnt.toNat i PL TL PR' TR'∧TR'.length=TR.length+i∧∀y,(Wd ws 0 8 y∨False)→(y∈TR'.map (·.1)↔y∈TR.map (·.1)))
      ⟨⟨_,_,_,_,_,_,_,rfl⟩,m12 _ _ f11,_,_,r12,lr,rfl,fun _ _=>Iff.rfl⟩ (fun i σ H' hi _=>by exact hi) ?_ ?_
     ·clear rs r11 r12 lr
      rintro i v σ H10' H10 hi ⟨⟨v10,v11,v12,v13,v14,v16,v17,rfl⟩,hle,kR',TR',rs,lr,htrl,bT⟩ ⟨rfl,rfl⟩
      have hpos:0<s1'.length:=hn01.2 (hmul.2.2 (by omega))
      obtain⟨wi,hwi,hwa⟩:=a5J wl (10+i) (by omega)
      have hwa':=hwa (10+(0+(i:Int))) (by omega)
      obtain⟨kd,hkd,hkm⟩:=C2 (ss:=ks) (i:=x11/(0+(i:Int)+1) % (ks.length:Int)) (Int.emod_nonneg _ (by omega)) (Int.emod_lt_of_pos _ (by omega))
      obtain⟨o1,ho1,hm1⟩:=C2 (ss:=s1') (i:=x12/(0+(i:Int)+1) % (s1'.length:Int)) (Int.emod_nonneg _ (by omega)) (Int.emod_lt_of_pos _ (by omega))
      obtain⟨o2,ho2,hm2⟩:=C2 (ss:=s1') (i:=x13/(0+(i:Int)+1) % (s1'.length:Int)) (Int.emod_nonneg _ (by omega)) (Int.emod_lt_of_pos _ (by omega))
      refine C5 ?_
      walk_at "e"
      refine i7 (rs.sm.seq XB) hx11 ?_
      walk_at "e"
      refine D0 (j8 (rs.sm.seq KB) ?_)
      rw[List.length_map]
      walk_at "e"
      refine i7 (rs.sm.seq KB) hkd ?_
      walk_at "e"
      refine C5 ?_
      walk_at "e"
      refine i7 (rs.sm.seq XB) hx12 ?_
      walk_at "e"
      refine D0 (j8 (SqL.of hle) ?_)
      rw[List.length_map]
      walk_at "e"
      refine i7 (SqL.of hle) ho1 ?_
      walk_at "e"
      refine i7 (rs.sm.seq XB) hx13 ?_
      walk_at "e"
      refine D0 (j8 (SqL.of hle) ?_)
      rw[List.length_map]
      walk_at "e"
      refine i7 (SqL.of hle) ho2 ?_
      walk_at "e"
      refine⟨i6 (by simp),fun l13 n13=>?_⟩
      obtain⟨H13,e13,f13,m13,_⟩:=b7 (o:= .tup _) n13
      rw[e13]
      have r13:=rs.mono m13
      have hle13:=m13 _ _ hle
      walk_at "e"
      refine d8 r13.t2 (h8 (j:=1) rfl) ?_
      walk_at "e"
      refine i7 (r13.sm.seq WB) hwa' ?_
      walk_at "e"
      refine N6 (p8 (k:=Sum.inr wi) r13.h4 (i6 (by have:=r13.tr.length;omega)) ?_)
      exact⟨⟨_,_,_,_,_,_,_,rfl⟩,by rw[b5 hne4.symm];exact hle13,_,_,r13.set4 (kd:=kd) (o1:=o1) (o2:=o2) ne (lr.f4 wnd hT4 hwi) (SqT.of f13),lr.s4 wnd hT4 hwi (kk _ hkm) (b1.mem_iff.mp hm1) (b1.mem_iff.mp hm2),by rw[List.length_append,List.length_singleton];omega,fun y hy=>by
       rw[o5,List.mem_append,List.mem_singleton,←bT y hy]
       refine⟨fun z=>z.elim id fun q=>?_,.inl⟩
       subst q
       exact(Wd.no wnd (hy.elim id False.elim) ⟨10+i,Nat.le_refl _,Nat.lt_succ_self _,hwi⟩ (.inl (by omega))).elim⟩
     ·clear rs r11 r12 lr
      rintro σ G ⟨⟨v10,v11,v12,v13,v14,v16,v17,rfl⟩,hle,kR',TR',rs,lr,htrl,bT⟩
      refine⟨Nat.le_refl _,?_⟩
      change a3K _ _ _ _ G
      refine C5 ?_
      walk_at "e"
      intro md nmd
      obtain⟨G1,eG1,fG1,mG1,_⟩:=b7 (o:= .dK []) nmd
      rw[eG1]
      walk_at "e"
      refine C5 ?_
      walk_at "e"
      have hmw:md≠wd:=(b9 rs.w nmd).symm
      refine T8 (mG1 _ _ rs.w) (fun ndw o=>?_)
      have gm:C8 wd o (pKV pr) G md=none:=by unfold C8;rw[b5 hmw];exact nmd
      have sG:Same (C8 wd o (pKV pr) G) (C8 wd o (pKV pr) G1):=fun b u e=>by
       unfold C8 at e⊢
       by_cases hb:b=wd
       ·subst hb;rw[d7] at e⊢;exact e
       ·rw[b5 hb] at e⊢;exact mG1 _ _ e
      refine L9 (n:=(pKV pr).length) (fun i σ H'=>(∃v10 v11 v12 v13 v14 v15 v17,σ=[some (V.ref S.a),some (.ref lx),some (.ref lw),some (.ref lk),some (.ref lp),some (.ref lt),some (.ref lo),some (.ref wd),some (.ref a1),some (.ref a2),v10,v11,v12,v13,v14,v15,some (.ref md),v17])∧Same (C8 wd o (pKV pr) G) H'∧H' md=some (.dK (pKV ((pr.take i).map swp))))
       ⟨⟨_,_,_,_,_,_,_,rfl⟩,sG,by unfold C8;rw[b5 hmw];exact fG1⟩ (fun i σ H' hi hp=>⟨hp.2.1 _ _ d7,hi⟩) ?_ ?_
      ·rintro i v σ G2 G2' hi ⟨⟨v10,v11,v12,v13,v14,v15,v17,rfl⟩,s2',hkm⟩ ⟨t,kv,hkv,nt,rfl,rfl⟩
       obtain⟨⟨n,s⟩,hxi,rfl⟩:=a7s hkv
       have e7:pr.take (i+1)=pr.take i++[(n,s)]:=by rw[List.take_succ,hxi];rfl
       have hfr:s∉((pr.take i).map swp).map (·.1):=fun z=>by
        rw[List.map_map] at z
        have z2:((pr.take (i+1)).map (·.2)).Nodup:=mp.n2.sublist ((List.take_sublist _ _).map _)
        rw[e7,V2] at z2
        exact(List.nodup_append.mp z2).2.2 s z s (by simp) rfl
       obtain⟨G3,eG3,fG3,mG3,_⟩:=b7 (o:= .tup _) nt
       rw[eG3]
       refine K3 (SqT.of fG3) rfl ?_
       walk_at "e"
       refine N6 (p8 (k:=Sum.inr s) (mG3 _ _ hkm) (i6 (by rw[A3,List.length_map,List.length_take];omega)) ?_)
       refine⟨⟨_,_,_,_,_,_,_,rfl⟩,C3 (s2'.trans mG3) gm,?_⟩
       rw[d7,e7,List.map_append]
       exact congrArg (fun z=>some (HO.dK z)) ((Y0 (kd:=n) hfr).trans rfl)
      ·rintro σ G2 ⟨⟨v10,v11,v12,v13,v14,v15,v17,rfl⟩,s2',hkm⟩
       rw[A3,List.take_of_length_le (Nat.le_refl _)] at hkm
       refine⟨⟨s2' _ _ d7,Nat.le_refl _⟩,?_⟩
       have sG2:=s2'.thaw rs.w
       have hkm2:thaw wd G2 md=some (.dK (pKV (pr.map swp))):=by rw[T5 hmw];exact hkm
       have rs2:=rs.mono sG2
       change b1P _ _ _ (thaw wd G2)
       generalize thaw wd G2=G3 at sG2 rs2 hkm2⊢
       walk_at "e"
       refine⟨i6 (by simp),fun bl nbl=>?_⟩
       obtain⟨G4,e4',f4',m4',_⟩:=b7 (o:= .lst []) nbl
       rw[e4']
       walk_at "e"
       refine⟨i6 (by simp),fun r nr=>?_⟩
       obtain⟨G5,e5',f5',m5',_⟩:=b7 (o:= .tup _) nr
       rw[e5']
       walk_at "e"
       refine⟨i6 (by simp),fun t nt=>?_⟩
       obtain⟨G6,e6',f6',m6',_⟩:=b7 (o:= .tup _) nt
       rw[e6']
       have rs6:=rs2.mono (m4'.trans (m5'.trans m6'))
       have hcn:cnt.toNat≤2:=by omega
       have hcm:cnt3.toNat≤2:=by omega
       have hTR:TR'.length≤4:=by omega
       have hPR:PR'.length≤4:=by omega
       have hrk:=lr.rule wnd wk hP4 hT4 hcn hcm hPR hTR
       have hold:∀y∈pr.map (·.2),Wd ws 0 8 y:=fun y hy=>by rw[mp.wd] at hy;exact lr.nmL hP4 hT4 y hy
       have hRn:∀y∈pr.map (·.2),(y∈i8 ⟨PR',TR'⟩↔y∈PR.map (·.1)++TR.map (·.1)):=fun y hy=>by
        have wy:=hold y hy
        show y∈PR'.map (·.1)++TR'.map (·.1)↔_
        rw[List.mem_append,List.mem_append]
        exact⟨fun z=>z.elim (fun z=> .inl ((bP y (.inl wy)).mp z)) fun z=> .inr ((bT y (.inl wy)).mp z),fun z=>z.elim (fun z=> .inl ((bP y (.inl wy)).mpr z)) fun z=> .inr ((bT y (.inl wy)).mpr z)⟩
       have nlk:∀{x:Str},C4 x=true→x.length≤100:=fun h=>by have:=a3l h;omega
       refine k t r md bl ⟨a1,d1,d2,kL,⟨PL,TL⟩⟩ ⟨a2,d3,d4,kR',⟨PR',TR'⟩⟩ pr os G6 (s02.trans rs6.sm) f6' (m6' _ _ (m5' _ _ (m4' _ _ hkm2))) (m6' _ _ (m5' _ _ f4')) ⟨SqT.of (m6' _ _ f5'),?_,?_,SqL.of (m6' _ _ (m5' _ _ f4')),fun _ h=>nomatch h⟩ hrk (mp.sR (Rn':=i8 ⟨PR',TR'⟩) hRn) (fun y hy=>lr.nmL hP4 hT4 y hy)
       ·exact⟨⟨rs6.t1,.inl rs6.h1,.inl rs6.h2,rs6.tl⟩,rs6.h1,rs6.h2,ne.n12,lr.ndL wnd hP4,by rw[z7];have q1:PL.length≤4:=hrk.l.l1;have q2:TL.length≤4:=hrk.l.l2;show PL.length+TL.length≤24;omega,fun x hx=>(lr.tl x hx).2.2,fun x hx=>nlk (hrk.l.kds x hx)⟩
       ·exact⟨⟨rs6.t2,.inl rs6.h3,.inl rs6.h4,rs6.tr⟩,rs6.h3,rs6.h4,ne.n34,lr.ndR wnd hP4 hT4 hcn hcm,by rw[z7];show PR'.length+TR'.length≤24;omega,fun x hx=>(lr.tr x hx).2.2,fun x hx=>nlk (hrk.r.kds x hx)⟩
theorem j9 {t u:TS}{nx:L2.St→Hp→Prop}{rt:V→Hp→Prop}{bk ct:L2.St→Hp→Prop}{σ:L2.St}{H:Hp}(h:∀nx':L2.St→Hp→Prop,(∀σ H,u ⟨nx,rt,bk,ct⟩ σ H→nx' σ H)→t ⟨nx',rt,bk,ct⟩ σ H):a3K t u ⟨nx,rt,bk,ct⟩ σ H:=h _ fun _ _ z=>z
structure a6V (L B:Web):Prop where
 p:∀x∈L.pts,x∈B.pts
 t:∀x∈L.ts,x∈B.ts
 l1:B.pts.length≤L.pts.length+2
 l2:B.ts.length≤L.ts.length+2
theorem b6C {ws:List Str}(wnd:ws.Nodup){pts:List (Str×Str)}{j:Nat}{w:Str}(hj:12≤j)(hw:ws[j]?=some w)(h:∀n∈pts.map (·.1),Wd ws 0 8 n∨Wd ws 12 j n):w∉pts.map (·.1):=fun m=>by
 rcases h w m with z|z
 ·exact z.no wnd ⟨j,Nat.le_refl _,Nat.lt_succ_self _,hw⟩ (.inl (by omega))
 ·exact z.no wnd ⟨j,Nat.le_refl _,Nat.lt_succ_self _,hw⟩ (.inl (Nat.le_refl _))
theorem b3I {ws a b c d:List Str}(wnd:ws.Nodup)(h:(a++b).Nodup)(hab:∀n∈a++b,Wd ws 0 8 n)(nc:c.Nodup)(hc:∀n∈c,Wd ws 12 14 n)(nd:d.Nodup)(hd:∀n∈d,Wd ws 14 16 n):((a++c)++(b++d)).Nodup:=by
 obtain⟨na,nb,dab⟩:=List.nodup_append.mp h
 have ha:∀n∈a,Wd ws 0 8 n:=fun n z=>hab n (List.mem_append_left _ z)
 have hb:∀n∈b,Wd ws 0 8 n:=fun n z=>hab n (List.mem_append_right _ z)
 refine List.nodup_append.mpr ⟨List.nodup_append.mpr ⟨na,nc,fun x hx y hy e=>?_⟩,List.nodup_append.mpr ⟨nb,nd,fun x hx y hy e=>?_⟩,fun x hx y hy e=>?_⟩
 ·subst e;exact(ha x hx).no wnd (hc x hy) (.inl (by omega))
 ·subst e;exact(hb x hx).no wnd (hd x hy) (.inl (by omega))
 ·subst e
  rcases List.mem_append.mp hx with h1|h1<;>rcases List.mem_append.mp hy with h2|h2
  ·exact dab x h1 x h2 rfl
  ·exact(ha x h1).no wnd (hd x h2) (.inl (by omega))
  ·exact(hb x h2).no wnd (hc x h1) (.inl (by omega))
  ·exact(hc x h1).no wnd (hd x h2) (.inl (by omega))
theorem a6y {ws:List Str}{a b:Nat}{n:Str}(wk:∀s∈ws,C4 s=true)(h:Wd ws a b n):n.length≤100:=by
 obtain⟨j,_,_,hj⟩:=h
 have:=a3l (wk n (List.mem_of_getElem? hj))
 omega
def Z4 (K:PySem.W.Frag):Sp:=fun vs H Q _=>∃(L:Sd) (lx lw lk:Addr) (xs:List Int) (ws ks:List Str) (k:Int),vs=[.ref L.a,.ref lx,.ref lw,.ref lk,.int k]∧0≤k∧k≤10∧SdIs K H L∧(i8 L.W).length≤8∧(∀n∈i8 L.W,Wd ws 0 8 n)∧SqL K H lx (xs.map V.int)∧xs.length=16∧(∀x∈xs,0≤x)∧SqL K H lw (ws.map V.str)∧b3N ws∧SqL K H lk (ks.map V.str)∧b5z ks∧
 ∀(B:Sd) (H':Hp),Same H H'→SdIs K H' B→a6V L.W B.W→Q (.ref B.a) H'
theorem a5z {f:Addr}{fd:FuncData}(T:Txt K mg)(F:Fun K "_law_bar" "_law_bar" N9 f fd):FnOk P w K mg base CX0 1 f fd ["_law_left","_law_xs","_law_words_here","_law_kinds","_law_k"] (Z4 K):=by
 refine F.ok sc__law_bar (fun vs H Q E h=>?_) (fun cdv A outer s H vs Q E hr h=>?_)
 ·obtain⟨L,lx,lw,lk,xs,ws,ks,k,rfl,_⟩:=h
  rfl
 ·obtain⟨L,lx,lw,lk,xs,ws,ks,kk,rfl,hk0,hk1,hL,hL8,hLw,hX,hxl,hx0,hWs,⟨wl,wnd,wk⟩,hKs,⟨k0,k3,kkd⟩,k⟩:=h
  have hLn:=hL8
  rw[z7] at hLn
  have hkl:=hL.at_.ts.length
  obtain⟨x14,hx14,hx14'⟩:=P8 hxl hx0 14 (by omega)
  obtain⟨x15,hx15,hx15'⟩:=P8 hxl hx0 15 (by omega)
  have hN:=sc__law_bar.nd
  have hu:=B9 hr
  refine⟨_,QSs.r (qsC (o0 (i:=5) hN rfl (by walk_at "l") (qOp u7 (qIx (kIx K hu) (qV 1) d9 (fun _ _=>rfl)) (qOp (B4 K) (qV 4) d9)))
   (qsC (o0 (i:=6) hN rfl (by walk_at "l") (X7 (qa1 (qBT (a2A K rfl) T.b_dict Boot.«dict» (qa1 (qIx (kIx K hu) (qV 0) d9 (fun _ _=>rfl)) qa0)) (qa1 (qBT (a2A K rfl) T.b_dict Boot.«dict» (qa1 (qIx (kIx K hu) (qV 0) d9 (fun _ _=>rfl)) qa0)) qa0))))
   (qsC (N5 PassesOwn.never rfl (a2f T.b_range (qa1 (qOp j7 (qV 5) d9) qa0)) (qgN (i:=7) hN rfl (by walk_at "l"))
    (qs1 (U3 (qIx (kIx K hu) (qV 3) (qOp j7 (qOp u7 (qV 5) (qOp (B4 K) d9 (qV 7))) (qB (E2 K P w) T.b_len Boot.«len» (qa1 (qV 3) qa0))) (fun _ _=>rfl)) (qgS (qIx (kIx K hu) (qV 6) d9 (fun _ _=>rfl)) (qIx (kIx K hu) (qV 2) (qOp (B4 K) d9 (qV 7)) (fun _ _=>rfl)) (u4 P w hu)))))
   (qsC (o0 (i:=8) hN rfl (by walk_at "l") (qB (J5 K rfl) T.b_sorted Boot.«sorted» (qa1 (qIx (kIx K hu) (qV 6) d9 (fun _ _=>rfl)) qa0)))
   (qsC (N5 PassesOwn.never rfl (a2f T.b_range (qa1 (qOp K0 (qOp j7 (qOp u7 (qV 5) d9) d9) (qBT a0n T.b_int Boot.«int» (qa1 (a3d (a3C K hr) (qV 8) (O7 qa0) (t5 _)) qa0))) qa0)) (qgN (i:=7) hN rfl (by walk_at "l"))
    (qsC (o0 (i:=9) hN rfl (by walk_at "l") (qOp u7 (qIx (kIx K hu) (qV 1) d9 (fun _ _=>rfl)) (qOp (B4 K) (qOp (B4 K) (qV 4) (qOp K0 d9 (qV 7))) d9)))
   (qs1 (U3 (X7 (qa1 (qIx (kIx K hu) (qV 3) (qOp j7 (qV 9) (qB (E2 K P w) T.b_len Boot.«len» (qa1 (qV 3) qa0))) (fun _ _=>rfl)) (qa1 (qIx (kIx K hu) (qV 8) (qOp j7 (qOp u7 (qV 9) d9) (qB (E2 K P w) T.b_len Boot.«len» (qa1 (qV 8) qa0))) (fun _ _=>rfl)) (qa1 (qIx (kIx K hu) (qV 8) (qOp j7 (qOp u7 (qV 9) d9) (qB (E2 K P w) T.b_len Boot.«len» (qa1 (qV 8) qa0))) (fun _ _=>rfl)) qa0)))) (qgS (qIx (kIx K hu) (qV 6) d9 (fun _ _=>rfl)) (qIx (kIx K hu) (qV 2) (qOp (B4 K) d9 (qV 7)) (fun _ _=>rfl)) (u4 P w hu))))))
   (qs1 (D5 (qV 6)))))))),?_⟩
  refine j9 fun nx1 hx=>?_
  walk_at "e"
  refine i7 hX hx14 ?_
  walk_at "e"
  have hxx:0≤x14/(kk+1):=Int.ediv_nonneg hx14' (by omega)
  generalize x14/(kk+1)=x at hxx⊢
  refine hx [some (.ref L.a),some (.ref lx),some (.ref lw),some (.ref lk),some (.int kk),some (.int x),none,none,none,none] _ ?_
  clear hx
  refine j9 fun nx2 hx=>?_
  walk_at "e"
  refine d8 hL.at_.tup (h8 (j:=0) rfl) ?_
  refine K4 hL.at_.pts (fun bp nbp=>?_)
  obtain⟨H1,e1,f1,m1,_⟩:=b7 (o:= .dK (pKV L.W.pts)) nbp
  rw[e1]
  have L1:=hL.same m1
  walk_at "e"
  refine d8 L1.at_.tup (h8 (j:=1) rfl) ?_
  refine K4 L1.at_.ties (fun bq nbq=>?_)
  obtain⟨H2,e2,f2,m2,_⟩:=b7 (o:= .dK L.kvs) nbq
  rw[e2]
  walk_at "e"
  refine⟨i6 (by simp),fun ba nba=>?_⟩
  obtain⟨H3,e3,f3,m3,_⟩:=b7 (o:= .tup [.ref bp,.ref bq]) nba
  rw[e3]
  have npq:bp≠bq:=b9 f1 nbq
  have m03:=m1.trans (m2.trans m3)
  have p3:=m3 _ _ (m2 _ _ f1)
  have q3:=m3 _ _ f2
  have t3:=L1.at_.ts.mono (m2.trans m3).le
  have nbq0:=m1.free nbq
  walk_at "e"
  refine hx [some (.ref L.a),some (.ref lx),some (.ref lw),some (.ref lk),some (.int kk),some (.int x),some (.ref ba),none,none,none] _ ?_
  clear hx
  refine j9 fun nx3 hx=>?_
  walk_at "e"
  have hm3:0≤x % 3∧x % 3≤2:=by omega
  generalize hcnt:x % 3=cnt at hm3⊢
  refine N0 (by omega) (by omega) ?_
  refine K2 (n:=cnt.toNat) (fun i σ H'=>Same H H'∧(∃v7,σ=[some (.ref L.a),some (.ref lx),some (.ref lw),some (.ref lk),some (.int kk),some (.int x),some (.ref ba),v7,none,none])∧SqT K H' ba [.ref bp,.ref bq]∧H' bq=some (.dK L.kvs)∧TiesIs K H' L.kvs L.W.ts∧∃E:List (Str×Str),H' bp=some (.dK (pKV (L.W.pts++E)))∧E.length=i∧(E.map (·.1)).Nodup∧∀n∈E.map (·.1),Wd ws 12 (12+i) n) ⟨m03,⟨_,rfl⟩,SqT.of f3,q3,t3,[],by rw[List.append_nil];exact p3,rfl,List.nodup_nil,fun _ h=>nomatch h⟩ (fun i σ H' hi _=>by exact hi) ?_ ?_
  ·rintro bk i v σ H4' H4 hi ⟨s4,⟨v7,rfl⟩,t4,q4,ti4,E,g4,el,end_,ew⟩ ⟨rfl,rfl⟩
   obtain⟨w1,hw1,hw1'⟩:=a5J wl (12+i) (by omega)
   obtain⟨kd,hkd,_⟩:=C2 (ss:=ks) (i:=x/(30+(0+(i:Int))) % (ks.length:Int)) (Int.emod_nonneg _ (by omega)) (Int.emod_lt_of_pos _ (by omega))
   have hno:w1∉(L.W.pts++E).map (·.1):=b6C wnd (by omega) hw1 fun n hn=>by
    rw[List.map_append] at hn
    rcases List.mem_append.mp hn with z|z
    ·exact .inl (hLw n (List.mem_append_left _ z))
    ·exact .inr (ew n z)
   walk_at "r"
   refine D0 (j8 (s4.seq hKs) ?_)
   rw[List.length_map]
   walk_at "r"
   refine i7 (s4.seq hKs) hkd ?_
   walk_at "r"
   refine d8 t4 (h8 (j:=0) rfl) ?_
   walk_at "r"
   refine i7 (s4.seq hWs) (hw1' _ (by omega)) ?_
   refine N6 (p8 (k:=Sum.inr w1) g4 (i6 (by rw[A3,List.length_append];omega)) ?_)
   rw[Y0 hno]
   refine⟨C3 s4 nbp,⟨_,rfl⟩,J6 g4 t4,by rw[b5 npq.symm];exact q4,E1 g4 ti4,E++[(w1,kd)],by rw[d7,List.append_assoc],by rw[List.length_append,el];rfl,?_,fun n hn=>?_⟩
   ·rw[List.map_append]
    exact z0 end_ fun z=>hno (by rw[List.map_append];exact List.mem_append_right _ z)
   ·rw[List.map_append] at hn
    rcases List.mem_append.mp hn with z|z
    ·exact(ew n z).up (Nat.le_refl _) (by omega)
    ·rw[show n=w1 by simpa using z];exact⟨12+i,by omega,by omega,hw1⟩
  rintro σ H4 ⟨s4,⟨v7,rfl⟩,t4,q4,ti4,E,g4,el,end_,ew⟩
  refine⟨Nat.le_refl _,?_⟩
  refine hx [some (.ref L.a),some (.ref lx),some (.ref lw),some (.ref lk),some (.int kk),some (.int x),some (.ref ba),v7,none,none] H4 ?_
  clear hx
  refine j9 fun nx4 hx=>?_
  walk_at "e"
  refine d8 t4 (h8 (j:=0) rfl) ?_
  walk_at "e"
  refine p0 (ss:=(L.W.pts++E).map (·.1)) (.inl g4) (by rw[B7,u9]) (by rw[List.length_map,List.length_append];omega) (fun s1 a1 a2 l1 n1=>?_)
  obtain⟨H5,e5,f5,m5,_⟩:=b7 (o:= .lst _) n1
  rw[e5]
  have g1:=a1.length_eq
  walk_at "e"
  refine hx [some (.ref L.a),some (.ref lx),some (.ref lw),some (.ref lk),some (.int kk),some (.int x),some (.ref ba),v7,some (.ref l1),none] _ ?_
  clear hx
  refine j9 fun nx5 hx=>?_
  walk_at "e"
  refine⟨i6 (by simp),fun l6 n6=>?_⟩
  obtain⟨H6,e6,f6,m6,_⟩:=b7 (o:= .lst []) n6
  rw[e6]
  refine b1Y (a2s (SqL.of (m6 _ _ f5)) (SqL.of f6) (M8 _) rfl ?_)
  refine .inr ⟨_,rfl,?_⟩
  have hem:L7 (s1.map V.str) []=decide (s1=[]):=by cases s1<;>rfl
  rw[hem]
  generalize hn:(if(!decide (s1=[]))=true then(1:Int) else 0)=n
  have hn01:(n=0∨n=1)∧(n=1→0<s1.length):=by
   subst hn
   cases s1 with
   |nil=>simp
   |cons _ _=>simp
  walk_at "e"
  have hmul:0≤x/3 % 3*n∧x/3 % 3*n≤2∧(0<x/3 % 3*n→n=1):=by
   rcases hn01.1 with rfl|rfl<;>omega
  generalize x/3 % 3*n=cnt2 at hmul⊢
  refine N0 (by omega) (by omega) ?_
  have m46:=m5.trans m6
  have s6:=s4.trans m46
  have g6:=m46 _ _ g4
  have q6:=m46 _ _ q4
  have f6':=m6 _ _ f5
  have hbl:l1≠bq:=(b9 q4 n1).symm
  refine K2 (n:=cnt2.toNat) (fun i σ H'=>Same H H'∧(∃v7 v9,σ=[some (.ref L.a),some (.ref lx),some (.ref lw),some (.ref lk),some (.int kk),some (.int x),some (.ref ba),v7,some (.ref l1),v9])∧SqT K H' ba [.ref bp,.ref bq]∧H' l1=some (.lst (s1.map V.str))∧H' bp=some (.dK (pKV (L.W.pts++E)))∧∃(F:List (Str×Tie)) (kq:List (Key×V)),H' bq=some (.dK kq)∧TiesIs K H' kq (L.W.ts++F)∧F.length=i∧(F.map (·.1)).Nodup∧(∀n∈F.map (·.1),Wd ws 14 (14+i) n)∧∀y∈F,y.2.2.1∈(L.W.pts++E).map (·.1)∧y.2.2.2∈(L.W.pts++E).map (·.1)) ⟨s6,⟨_,_,rfl⟩,m46.tup t4,f6',g6,[],L.kvs,q6,by rw[List.append_nil];exact ti4.mono m46.le,rfl,List.nodup_nil,(fun _ h=>nomatch h),fun _ h=>nomatch h⟩ (fun i σ H' hi _=>by exact hi) ?_ ?_
  ·rintro bk i v σ H7' H7 hi ⟨s7,⟨v7,v9,rfl⟩,t7,l7,p7,F,kq,q7,ti7,fl,fnd,fw,fe⟩ ⟨rfl,rfl⟩
   have hpos:0<s1.length:=hn01.2 (hmul.2.2 (by omega))
   obtain⟨w1,hw1,hw1'⟩:=a5J wl (14+i) (by omega)
   have hno:w1∉(L.W.ts++F).map (·.1):=fun m=>by
    rw[List.map_append] at m
    have hwd:Wd ws (14+i) (14+i+1) w1:=⟨14+i,Nat.le_refl _,Nat.lt_succ_self _,hw1⟩
    rcases List.mem_append.mp m with z|z
    ·exact(hLw _ (List.mem_append_right _ z)).no wnd hwd (.inl (by omega))
    ·exact(fw _ z).no wnd hwd (.inl (Nat.le_refl _))
   have hkq:=ti7.length
   rw[List.length_append] at hkq
   refine j9 fun nx6 hx=>?_
   walk_at "e"
   refine i7 (s7.seq hX) hx15 ?_
   walk_at "e"
   have hyy:0≤x15/(kk+2*(0+(i:Int))+1):=Int.ediv_nonneg hx15' (by omega)
   generalize x15/(kk+2*(0+(i:Int))+1)=y at hyy⊢
   obtain⟨kd,hkd,_⟩:=C2 (ss:=ks) (i:=y % (ks.length:Int)) (Int.emod_nonneg _ (by omega)) (Int.emod_lt_of_pos _ (by omega))
   obtain⟨o1,ho1,ho1'⟩:=C2 (ss:=s1) (i:=y/3 % (s1.length:Int)) (Int.emod_nonneg _ (by omega)) (Int.emod_lt_of_pos _ (by omega))
   obtain⟨o2,ho2,ho2'⟩:=C2 (ss:=s1) (i:=y/19 % (s1.length:Int)) (Int.emod_nonneg _ (by omega)) (Int.emod_lt_of_pos _ (by omega))
   refine hx [some (.ref L.a),some (.ref lx),some (.ref lw),some (.ref lk),some (.int kk),some (.int x),some (.ref ba),some (.int (0+(i:Int))),some (.ref l1),some (.int y)] _ ?_
   walk_at "e"
   refine D0 (j8 (s7.seq hKs) ?_)
   rw[List.length_map]
   walk_at "e"
   refine i7 (s7.seq hKs) hkd ?_
   walk_at "e"
   refine D0 (j8 (SqL.of l7) ?_)
   rw[List.length_map]
   walk_at "e"
   refine i7 (SqL.of l7) ho1 ?_
   walk_at "e"
   refine D0 (j8 (SqL.of l7) ?_)
   rw[List.length_map]
   walk_at "e"
   refine i7 (SqL.of l7) ho2 ?_
   walk_at "e"
   refine⟨i6 (by simp),fun l8 n8=>?_⟩
   obtain⟨H8,e8,f8,m8,_⟩:=b7 (o:= .tup (Q9 (kd,o1,o2))) n8
   change tOp _ _ _ _ (upd H7 l8 (.tup (Q9 (kd,o1,o2)))) _
   rw[e8]
   have q8:=m8 _ _ q7
   walk_at "e"
   refine d8 (m8.tup t7) (h8 (j:=1) rfl) ?_
   walk_at "e"
   refine i7 ((s7.trans m8).seq hWs) (hw1' _ (by omega)) ?_
   refine N6 (p8 (k:=Sum.inr w1) q8 (i6 (by omega)) ?_)
   refine⟨C3 (s7.trans m8) nbq0,⟨_,_,rfl⟩,J6 q8 (m8.tup t7),by rw[b5 hbl];exact m8 _ _ l7,by rw[b5 npq];exact m8 _ _ p7,F++[(w1,(kd,o1,o2))],_,d7,?_,by rw[List.length_append,fl];rfl,?_,fun n hn=>?_,fun z hz=>?_⟩
   ·rw[←List.append_assoc]
    exact E1 q8 (a6q (ti7.mono m8.le) hno (SqT.of f8))
   ·rw[List.map_append]
    exact z0 fnd fun z=>hno (by rw[List.map_append];exact List.mem_append_right _ z)
   ·rw[List.map_append] at hn
    rcases List.mem_append.mp hn with z|z
    ·exact(fw n z).up (Nat.le_refl _) (by omega)
    ·rw[show n=w1 by simpa using z];exact⟨14+i,by omega,by omega,hw1⟩
   ·rcases List.mem_append.mp hz with z|z
    ·exact fe _ z
    ·rw[List.mem_singleton.mp z]
     exact⟨a1.mem_iff.mp ho1',a1.mem_iff.mp ho2'⟩
  rintro σ H7 ⟨s7,⟨v7,v9,rfl⟩,t7,l7,p7,F,kq,q7,ti7,fl,fnd,fw,fe⟩
  refine⟨Nat.le_refl _,?_⟩
  refine hx [some (.ref L.a),some (.ref lx),some (.ref lw),some (.ref lk),some (.int kk),some (.int x),some (.ref ba),v7,some (.ref l1),v9] H7 ?_
  walk_at "e"
  have hfl:F.length≤2:=by omega
  have hel:E.length≤2:=by omega
  refine k ⟨ba,bp,bq,kq,⟨L.W.pts++E,L.W.ts++F⟩⟩ H7 s7 ⟨⟨t7,.inl p7,.inl q7,ti7⟩,p7,q7,npq,?_,?_,fun y hy=>?_,fun n hn=>?_⟩ ⟨fun y hy=>List.mem_append_left _ hy,fun y hy=>List.mem_append_left _ hy,by show(L.W.pts++E).length≤_;rw[List.length_append];omega,by show(L.W.ts++F).length≤_;rw[List.length_append];omega⟩
  ·show((L.W.pts++E).map (·.1)++(L.W.ts++F).map (·.1)).Nodup
   rw[List.map_append,List.map_append]
   exact b3I wnd hL.nd hLw end_ (fun n z=>(ew n z).up (Nat.le_refl _) (by omega)) fnd (fun n z=>(fw n z).up (Nat.le_refl _) (by omega))
  ·rw[z7]
   show(L.W.pts++E).length+(L.W.ts++F).length≤24
   rw[List.length_append,List.length_append];omega
  ·rcases List.mem_append.mp hy with z|z
   ·have he:=hL.ends y z
    show y.2.2.1∈(L.W.pts++E).map (·.1)∧y.2.2.2∈(L.W.pts++E).map (·.1)
    rw[List.map_append]
    exact⟨List.mem_append_left _ he.1,List.mem_append_left _ he.2⟩
   ·exact fe y z
  ·have hn':n∈(L.W.pts++E).map (·.1)++(L.W.ts++F).map (·.1):=hn
   rw[List.map_append,List.map_append] at hn'
   rcases List.mem_append.mp hn' with z|z<;>rcases List.mem_append.mp z with q|q
   ·exact hL.nl n (List.mem_append_left _ q)
   ·exact a6y wk (ew n q)
   ·exact hL.nl n (List.mem_append_right _ q)
   ·exact a6y wk (fw n q)
theorem WebIs.up {n m:Nat}{H:Hp}{a p q:Addr}{kvs:List (Key×V)}{W:Web}(h:WebIs n K H a p q kvs W)(l:n≤m):WebIs m K H a p q kvs W:=⟨h.at_,h.hp,h.hq,h.ne,h.nd,Nat.le_trans h.len l,h.ends,h.nl⟩
structure b3J (B W:Web) (fx:List (Str×Str)):Prop where
 big:((i8 B).length+1)*(max W.pts.length W.ts.length+1) ^ ((i8 B).filter (A4 fx)).length≤1000000
 fnd:(fx.map (·.1)).Nodup
 fin:∀x∈fx,x.1∈i8 B
def b5u (H H':Hp)(v:V)(bs:List Sd)(W:Web)(fx:List (Str×Str)):Prop:=
 ((∀b∈bs,u5 b.W W fx=[])∧v= .non)∨∃(i:Nat) (b:Sd) (row:List Str) (r:List (List Str)) (t d:Addr),bs[i]?=some b∧(∀b'∈bs.take i,u5 b'.W W fx=[])∧u5 b.W W fx=row::r∧v= .ref t∧H' t=some (.tup [.int (i:Int),.ref d])∧H' d=some (.dK (pKV ((nmC b.W).zip row)))∧H d=none
def a1n (K:PySem.W.Frag):Sp:=fun vs H Q _=>∃(S L R:Sd) (r bl m:Addr) (bs:List Sd) (fx:List (Str×Str)),vs=[.ref S.a,.ref r,.ref m]∧SdIs K H S∧RuleIs K H r bl L R bs∧bs.length≤10∧H m=some (.dK (pKV fx))∧(∀b∈bs,m≠b.p∧m≠b.q∧b3J b.W S.W fx)∧∀(v:V) (H':Hp),Same H H'→b5u H H' v bs S.W fx→Q v H'
theorem a7B {f:Addr}{fd:FuncData}(T:Txt K mg)(U5:Cal P w K mg base CX0 8 "first_match" ["piece","web","fixed"] [] (R8 K))(F:Fun K "barred" "barred" W0 f fd):FnOk P w K mg base CX0 9 f fd ["web","rule","match"] (a1n K):=by
 refine F.ok sc_barred (fun vs H Q E h=>?_) (fun cdv A outer s H vs Q E hr h=>?_)
 ·obtain⟨S,L,R,r,bl,m,bs,fx,rfl,_⟩:=h
  rfl
 ·obtain⟨S,L,R,r,bl,m,bs,fx,rfl,hS,hR,hbl,hm,hb,k⟩:=h
  have hN:=sc_barred.nd
  have hu:=B9 hr
  refine⟨_,QSs.r (qsC (N5 PassesOwn.never rfl (Q6 K T.b_enumerate (qa1 (qIx (kIx K hu) (qV 1) d9 (fun _ _=>rfl)) qa0)) (qgT K rfl (qg1 (qgN (i:=3) hN rfl (by walk_at "l")) (qg1 (qgN (i:=4) hN rfl (by walk_at "l")) qg0)))
    (qsC (o0 (i:=5) hN rfl (by walk_at "l") (qC U5 (hr.mono (by decide)) r9 (qa1 (qV 4) (qa1 (qV 0) (qa1 (qV 2) qa0)))))
   (qs1 (qIf (w5 a8U (qV 5) a5Z (t5 _)) (qs1 (D5 (X7 (qa1 (qV 3) (qa1 (qV 5) qa0))))) qs0))))
   (qs1 (D5 a5Z))),?_⟩
  refine j9 fun nx1 hx=>?_
  walk_at "e"
  refine d8 hR.tup (h8 (j:=2) rfl) ?_
  refine⟨_,rfl,.inl ⟨bl,_,rfl,hR.bl,?_⟩⟩
  refine K2 (n:=bs.length) (fun i σ H'=>Same H H'∧(∃v3 v4 v5,σ=[some (.ref S.a),some (.ref r),some (.ref m),v3,v4,v5])∧∀b∈bs.take i,u5 b.W S.W fx=[]) ⟨Same.refl _,⟨_,_,_,rfl⟩,fun b h=>by simp at h⟩ (fun i σ H' hi hp=>⟨_,.ref (bs[i]).a,hp.1.seq hR.bl,by rw[List.getElem?_map,List.getElem?_eq_getElem hi];rfl⟩) ?_ ?_
  ·rintro bk i v σ H1 H1' hi ⟨s1,⟨v3,v4,v5,rfl⟩,hno⟩ ⟨t,x,hx9,nt,rfl,rfl⟩
   have hx':=hx9 _ (s1.seq hR.bl)
   rw[List.getElem?_map,List.getElem?_eq_getElem hi] at hx'
   cases hx'
   have hbm:=List.getElem_mem hi
   obtain⟨n1,n2,B⟩:=hb _ hbm
   obtain⟨H2,e2,f2,m2,_⟩:=b7 (o:= .tup _) nt
   rw[e2]
   have s2:=s1.trans m2
   have R2:=hR.same s2
   refine K3 (SqT.of f2) rfl ?_
   walk_at "e"
   refine j9 fun nx2 hx2=>?_
   walk_at "e"
   refine⟨_,_,_,_,_,_,m,_,_,_,_,fx,rfl,⟨WebIs.up (R2.bars _ hbm) (by omega),WebIs.up (hS.same s2) (by omega),B.big,B.fnd,B.fin⟩,s2 _ _ hm,n1,n2,fun v' H3 m3 fst nw=>?_⟩
   refine hx2 [some (.ref S.a),some (.ref r),some (.ref m),some (.int (i:Int)),some (.ref (bs[i]).a),some v'] _ ?_
   rcases fst with⟨e,rfl⟩|⟨row,rr,d,e,rfl,hd⟩
   ·walk_at "e"
    rw[if_neg (by simp)]
    walk_at "e"
    refine⟨s2.trans m3,⟨_,_,_,rfl⟩,fun b h=>?_⟩
    rw[List.take_succ,List.getElem?_eq_getElem hi] at h
    rcases List.mem_append.mp h with z|z
    ·exact hno b z
    ·rw[show b=bs[i] by simpa using z];exact e
   ·walk_at "e"
    rw[if_pos (by simp)]
    walk_at "e"
    refine⟨i6 (by simp),fun t4 n4=>?_⟩
    obtain⟨H4,e4,f4,m4,_⟩:=b7 (o:= .tup [.int (i:Int),.ref d]) n4
    rw[e4]
    exact k _ _ (s2.trans (m3.trans m4)) (.inr ⟨i,_,row,rr,t4,d,List.getElem?_eq_getElem hi,hno,e,rfl,f4,m4 _ _ hd,s2.free (nw d rfl)⟩)
  rintro σ H1 ⟨s1,⟨v3,v4,v5,rfl⟩,hno⟩
  refine⟨⟨_,s1.seq hR.bl,by rw[List.length_map];exact Nat.le_refl _⟩,?_⟩
  rw[List.take_of_length_le (Nat.le_refl _)] at hno
  refine hx [some (.ref S.a),some (.ref r),some (.ref m),v3,v4,v5] H1 ?_
  walk_at "e"
  exact k _ _ s1 (.inl ⟨hno,rfl⟩)
theorem b1H {nm row:List Str}{n:Str}(nd:nm.Nodup)(hl:row.length=nm.length)(h:n∈nm):TxtAt (pKV (nm.zip row)) n:=by
 obtain⟨i,hi⟩:=a0C h
 have hil:=V0 hi
 exact⟨row[i],I9 (a2v row nd) (a1Y hi (List.getElem?_eq_getElem (by omega)))⟩
theorem nmC_mem {W:Web}{n:Str}:n∈nmC W↔n∈i8 W:=(D8 W).mem
theorem a3F {W:Web}(h:(i8 W).Nodup):(nmC W).Nodup:=(D8 W).perm.nodup_iff.mpr h
theorem FitP.congr {Pc W:Web}{km kn:List (Key×V)}(f:FitP Pc W km)(hl:kn.length=(i8 Pc).length)(ht:∀n∈i8 Pc,TxtAt kn n)(he:∀n∈i8 Pc,i9 kn n=i9 km n)(ends:∀x∈Pc.ts,x.2.2.1∈Pc.pts.map (·.1)∧x.2.2.2∈Pc.pts.map (·.1)):FitP Pc W kn:=by
 refine⟨hl,ht,?_,fun x hx=>?_,fun x hx=>?_⟩
 ·rw[List.map_congr_left he];exact f.nd
 ·rw[he _ (List.mem_append_left _ (List.mem_map.mpr ⟨x,hx,rfl⟩))];exact f.pts x hx
 ·rw[he _ (List.mem_append_right _ (List.mem_map.mpr ⟨x,hx,rfl⟩)),he _ (List.mem_append_left _ (ends x hx).1),he _ (List.mem_append_left _ (ends x hx).2)];exact f.ts x hx
def O9 (Pc:Web)(ms:List (Str×Str)):List Str:=(nmC Pc).map (i9 (pKV ms))
section
variable {Pc W:Web} {ms fx:List (Str×Str)}
theorem a0c:(O9 Pc ms).length=(nmC Pc).length:=List.length_map _
theorem a7q (nd:(i8 Pc).Nodup){n:Str}(h:n∈i8 Pc):gv (nmC Pc) (O9 Pc ms) n=i9 (pKV ms) n:=by
 obtain⟨i,hi⟩:=a0C (nmC_mem.mpr h)
 exact a3q (a3F nd) hi (by unfold O9;rw[List.getElem?_map,hi];rfl)
theorem a6z:(nmC Pc).length=(i8 Pc).length:=(D8 Pc).perm.length_eq
theorem b0E (nd:(i8 Pc).Nodup)(ends:∀x∈Pc.ts,x.2.2.1∈Pc.pts.map (·.1)∧x.2.2.2∈Pc.pts.map (·.1))(f:FitP Pc W (pKV ms)):FitP Pc W (pKV ((nmC Pc).zip (O9 Pc ms))):=
 f.congr (by rw[A3,List.length_zip,a0c,Nat.min_self,a6z]) (fun n hn=>b1H (a3F nd) a0c (nmC_mem.mpr hn)) (fun n hn=>a7q nd hn) ends
theorem a8a (nd:(i8 Pc).Nodup)(f:FitP Pc W (pKV ms)):O9 Pc ms∈W4 (a1y (so1 Pc) (so2 Pc) (so1 W) (so2 W)) []:=by
 have z:=a6H (bs:=a1y (so1 Pc) (so2 Pc) (so1 W) (so2 W)) (b:=[]) (t:=O9 Pc ms) (by rw[a1j,a0c];rfl) fun i x c hx hc=>by
  unfold O9 at hx
  rw[List.getElem?_map] at hx
  cases en:(nmC Pc)[i]? with
  |none=>rw[en] at hx;cases hx
  |some n=>
   rw[en] at hx
   cases hx
   have en':(so1 Pc++so2 Pc)[i]?=some n:=en
   rcases b4W hc with⟨hi,rfl⟩|⟨hi,rfl⟩
   ·rw[List.getElem?_append_left hi] at en'
    obtain⟨y,hy,rfl⟩:=List.mem_map.mp ((D8 Pc).p1.mem_iff.mp (List.mem_of_getElem? en'))
    exact(D8 W).p1.mem_iff.mpr (List.mem_map.mpr ⟨_,f.pts y hy,rfl⟩)
   ·rw[List.getElem?_append_right hi] at en'
    obtain⟨y,hy,rfl⟩:=List.mem_map.mp ((D8 Pc).p2.mem_iff.mp (List.mem_of_getElem? en'))
    exact(D8 W).p2.mem_iff.mpr (List.mem_map.mpr ⟨_,f.ts y hy,rfl⟩)
 simpa using z
open Classical in
theorem mem_rows {row:List Str}:row∈u5 Pc W fx↔row∈W4 (a1y (so1 Pc) (so2 Pc) (so1 W) (so2 W)) []∧FitP Pc W (pKV ((nmC Pc).zip row))∧a2h fx (nmC Pc) row:=by
 unfold u5 a1f
 rw[List.mem_filter,decide_eq_true_eq];exact Iff.rfl
theorem a9n {row:List Str}(h:row∈u5 Pc W fx):row.length=(nmC Pc).length:=a5b (mem_rows.mp h).1
end
theorem EqN.of0 {H:Hp}{x y:V}{b:Bool}(h:EqN K H 0 x y b):∀n,EqN K H n x y b
 |0=>h
 |n+1=> .inl (EqN.of0 h n)
theorem a9P {H:Hp}{d e:Addr}{a b:List (Str×Str)}(hd:H d=some (.dK (pKV a)))(he:H e=some (.dK (pKV b)))(p:a.Perm b)(nd:(b.map (·.1)).Nodup):EqD K H d e true:=by
 by_cases z:d=e
 ·exact .inl ⟨z,rfl⟩
 ·exact a7j z (.inl hd) (.inl he) p nd
theorem b2p {H:Hp}{Q:VK}{a b:Addr}{ms:List (Str×Str)}(ha:H a=some (.dK (pKV ms)))(hb:H b=some (.dK (pKV ms)))(nd:(ms.map (·.1)).Nodup)(q:Q (.bl true) H):a1G K (.ref a) (.ref b) H Q:=by
 refine .inl (a8K (r:=true) (.inl ha) (.inl hb) (a4r fun kv hkv=>?_) ?_)
 ·obtain⟨x,hx,rfl⟩:=List.mem_map.mp hkv
  exact⟨.str x.2,I9 nd hx,a6W _⟩
 ·rw[show((pKV ms).length==(pKV ms).length&&true)=true by simp];exact q
def LexLt (r1 r2:List Str):Prop:=∃(j:Nat) (a b:Str),r1[j]?=some a∧r2[j]?=some b∧(∀i,i<j→r1[i]?=r2[i]?)∧a.cps.toList<b.cps.toList
theorem a5t:∀{bs:List (List Str)} {b:List Str},(∀c∈bs,c.Pairwise ltP)→(W4 bs b).Pairwise LexLt
 |[],b,_=>by simp [W4]
 |c::r,b,h=>by
  refine List.pairwise_flatMap.mpr ⟨fun x _=>a5t fun d hd=>h d (List.mem_cons_of_mem _ hd),?_⟩
  refine List.Pairwise.imp (fun{x y} hxy r1 h1 r2 h2=>?_) (h c List.mem_cons_self)
  obtain⟨t1,e1,_⟩:=V7 h1
  obtain⟨t2,e2,_⟩:=V7 h2
  refine⟨b.length,x,y,by rw[e1];simp,by rw[e2];simp,fun i hi=>?_,hxy⟩
  rw[e1,e2,List.append_assoc,List.append_assoc,List.getElem?_append_left hi,List.getElem?_append_left hi]
theorem a6x {W:Web}(nd:(i8 W).Nodup):(so1 W).Pairwise ltP∧(so2 W).Pairwise ltP:=
 ⟨V5 (a0l (D8 W).o1 ((D8 W).p1.nodup_iff.mpr (A6 nd))),V5 (a0l (D8 W).o2 ((D8 W).p2.nodup_iff.mpr (N3 nd)))⟩
open Classical in
theorem a9d {Pc W:Web}{fx:List (Str×Str)}(nd:(i8 W).Nodup):(u5 Pc W fx).Pairwise LexLt:=by
 unfold u5 a1f
 refine List.Pairwise.filter _ (a5t fun c hc=>?_)
 unfold a1y at hc
 rcases List.mem_append.mp hc with z|z
 ·rw[(List.mem_replicate.mp z).2];exact(a6x nd).1
 ·rw[(List.mem_replicate.mp z).2];exact(a6x nd).2
theorem b2g {a b:List (Str×Str)}(na:a.Nodup)(hs:∀x∈a,x∈b)(hl:b.length≤a.length):a.Perm b:=by
 induction a generalizing b with
 |nil=>rw[List.length_eq_zero_iff.mp (show b.length=0 by simpa using hl)]
 |cons x r ih=>
  have nd':=List.nodup_cons.mp na
  have hx:x∈b:=hs x List.mem_cons_self
  refine List.Perm.trans (List.Perm.cons x (ih (b:=b.erase x) nd'.2 (fun y hy=>?_) ?_)) (List.perm_cons_erase hx).symm
  ·exact(List.mem_erase_of_ne (fun z:y=x=>nd'.1 (by rw[←z];exact hy))).mpr (hs y (List.mem_cons_of_mem _ hy))
  ·rw[List.length_erase_of_mem hx]
   simp only[List.length_cons] at hl
   omega
section
variable {B W:Web} {fx m:List (Str×Str)} {ws:List Str}
structure a5g (B W:Web) (fx:List (Str×Str)):Prop where
 nk:(fx.map (·.1)).Nodup
 nv:(fx.map (·.2)).Nodup
 fin:∀n∈fx.map (·.1),n∈i8 B
 pt:∀x∈B.pts,x.1∈fx.map (·.1)→(i9 (pKV fx) x.1,x.2)∈W.pts
 ti:∀x∈B.ts,x.1∈fx.map (·.1)→x.2.2.1∈fx.map (·.1)∧x.2.2.2∈fx.map (·.1)∧(i9 (pKV fx) x.1,(x.2.1,i9 (pKV fx) x.2.2.1,i9 (pKV fx) x.2.2.2))∈W.ts
structure PG (B W:Web) (fx:List (Str×Str)) (ws:List Str) (m:List (Str×Str)):Prop where
 ks:m.map (·.1)=fx.map (·.1)++ws
 nk:(m.map (·.1)).Nodup
 pre:∀x∈fx,x∈m
 nv:(m.map (·.2)).Nodup
 pt:∀x∈B.pts,x.1∈ws→(i9 (pKV m) x.1,x.2)∈W.pts
 ti:∀x∈B.ts,x.1∈ws→(i9 (pKV m) x.1,(x.2.1,i9 (pKV m) x.2.2.1,i9 (pKV m) x.2.2.2))∈W.ts
theorem X8 {m:List (Str×Str)}{n:Str}(nk:(m.map (·.1)).Nodup)(h:n∈m.map (·.1)):(n,i9 (pKV m) n)∈m:=by
 obtain⟨x,hx,rfl⟩:=List.mem_map.mp h
 rw[B6 nk (show(x.1,x.2)∈m from hx)];exact hx
theorem a5r {m m':List (Str×Str)}{n:Str}(nk:(m.map (·.1)).Nodup)(nk':(m'.map (·.1)).Nodup)(hs:∀x∈m,x∈m')(h:n∈m.map (·.1)):i9 (pKV m') n=i9 (pKV m) n:=B6 nk' (hs _ (X8 nk h))
theorem PG.nil (h:a5g B W fx):PG B W fx [] fx:=⟨by rw[List.append_nil],h.nk,fun _ z=>z,h.nv,(fun _ _ z=>nomatch z),fun _ _ z=>nomatch z⟩
theorem PG.add (h:PG B W fx ws m){w n:Str}(hw:w∉m.map (·.1))(hn:n∉m.map (·.2))
  (hp:∀x∈B.pts,x.1=w→(n,x.2)∈W.pts) (ht:∀x∈B.ts,x.1=w→(n,(x.2.1,i9 (pKV m) x.2.2.1,i9 (pKV m) x.2.2.2))∈W.ts)
  (he:∀x∈B.ts,x.1∈ws++[w]→x.2.2.1∈m.map (·.1)∧x.2.2.2∈m.map (·.1)):PG B W fx (ws++[w]) (m++[(w,n)]):=by
 have nk':((m++[(w,n)]).map (·.1)).Nodup:=by rw[List.map_append];exact z0 h.nk hw
 have hs:∀x∈m,x∈m++[(w,n)]:=fun x z=>List.mem_append_left _ z
 have gw:i9 (pKV (m++[(w,n)])) w=n:=B6 nk' (by simp)
 have go:∀{y:Str},y∈m.map (·.1)→i9 (pKV (m++[(w,n)])) y=i9 (pKV m) y:=fun z=>a5r h.nk nk' hs z
 have inw:∀{y:Str},y∈ws→y∈m.map (·.1):=fun z=>by rw[h.ks];exact List.mem_append_right _ z
 refine⟨by rw[List.map_append,h.ks,List.append_assoc];rfl,nk',fun x z=>hs x (h.pre x z),by rw[List.map_append];exact z0 h.nv hn,fun x hx hxw=>?_,fun x hx hxw=>?_⟩
 ·rcases List.mem_append.mp hxw with z|z
  ·rw[go (inw z)];exact h.pt x hx z
  ·have e:x.1=w:=by simpa using z
   rw[e,gw];exact hp x hx e
 ·have hee:=he x hx hxw
  rw[go hee.1,go hee.2]
  rcases List.mem_append.mp hxw with z|z
  ·rw[go (inw z)];exact h.ti x hx z
  ·have e:x.1=w:=by simpa using z
   rw[e,gw];exact ht x hx e
def mOf (B:Web)(fx:List (Str×Str))(row ws:List Str):List (Str×Str):=fx++ws.map fun w=>(w,gv (nmC B) row w)
theorem a5A (B:Web)(fx:List (Str×Str))(row ws:List Str)(w:Str):mOf B fx row (ws++[w])=mOf B fx row ws++[(w,gv (nmC B) row w)]:=by
 unfold mOf;rw[List.map_append,←List.append_assoc];rfl
theorem a2G (row:List Str):(mOf B fx row ws).map (·.1)=fx.map (·.1)++ws:=by
 unfold mOf;rw[List.map_append,List.map_map];congr 1;exact List.map_id' ws
theorem a7f {row:List Str}(hd:a2h fx (nmC B) row){x:Str×Str}(h:x∈mOf B fx row ws):x.2=gv (nmC B) row x.1:=by
 rcases List.mem_append.mp h with z|z
 ·exact(hd x z).symm
 ·obtain⟨w,_,rfl⟩:=List.mem_map.mp z;rfl
theorem a4d {row:List Str}(hd:a2h fx (nmC B) row)(nk:(fx.map (·.1)++ws).Nodup){n:Str}(h:n∈fx.map (·.1)++ws):i9 (pKV (mOf B fx row ws)) n=gv (nmC B) row n:=by
 have nk':((mOf B fx row ws).map (·.1)).Nodup:=by rw[a2G];exact nk
 exact a7f hd (X8 nk' (by rw[a2G];exact h))
theorem b4R {row:List Str}(f:FitP B W (pKV ((nmC B).zip row))){a b:Str}(ha:a∈i8 B)(hb:b∈i8 B)(e:gv (nmC B) row a=gv (nmC B) row b):a=b:=b2U f.nd ha hb e
structure AI (B W:Web) (fx:List (Str×Str)) (ws:List Str) (D:List (List (Str×Str))):Prop where
 ok:∀m∈D,PG B W fx ws m
 all:∀row∈u5 B W fx,mOf B fx row ws∈D
theorem AI.nil (h:a5g B W fx):AI B W fx [] [fx]:=⟨fun m hm=>by rw[List.mem_singleton.mp hm];exact .nil h,fun row _=>by unfold mOf;simp⟩
def P7 (D:List (List (Str×Str)))(w:Str)(names:List Str):List (List (Str×Str)):=D.flatMap fun m=>(names.filter fun n=>!decide (n∈m.map (·.2))).map fun n=>m++[(w,n)]
theorem mem_more {D:List (List (Str×Str))}{w:Str}{names:List Str}{z:List (Str×Str)}:z∈P7 D w names↔∃m∈D,∃n∈names,n∉m.map (·.2)∧z=m++[(w,n)]:=by
 unfold P7
 rw[List.mem_flatMap]
 constructor
 ·rintro⟨m,hm,h⟩
  obtain⟨n,hn,e⟩:=List.mem_map.mp h
  have hn':=List.mem_filter.mp hn
  exact⟨m,hm,n,hn'.1,by simpa using hn'.2,e.symm⟩
 ·rintro⟨m,hm,n,hn,hno,e⟩
  exact⟨m,hm,List.mem_map.mpr ⟨n,List.mem_filter.mpr ⟨hn,by simpa using hno⟩,e.symm⟩⟩
theorem a0K {D:List (List (Str×Str))}{w:Str}{names:List Str}:(P7 D w names).length≤D.length*names.length:=by
 unfold P7
 rw[List.length_flatMap]
 exact a3R fun m _=>by rw[List.length_map];exact List.length_filter_le _ _
structure NewWd (B:Web) (fx:List (Str×Str)) (ws:List Str) (w:Str):Prop where
 nk:(fx.map (·.1)++ws++[w]).Nodup
 all:∀n∈fx.map (·.1)++ws++[w],n∈i8 B
theorem NewWd.no {w:Str}(h:NewWd B fx ws w):w∉fx.map (·.1)++ws:=fun z=>(List.nodup_append.mp h.nk).2.2 w z w (by simp) rfl
theorem a6A {row:List Str}{w:Str}(hr:row∈u5 B W fx)(h:NewWd B fx ws w):gv (nmC B) row w∉(mOf B fx row ws).map (·.2):=fun z=>by
 obtain⟨x,hx,e⟩:=List.mem_map.mp z
 obtain⟨_,f,d⟩:=mem_rows.mp hr
 have hk:x.1∈fx.map (·.1)++ws:=by rw[←a2G (B:=B) row];exact List.mem_map.mpr ⟨x,hx,rfl⟩
 rw[a7f d hx] at e
 have e2:=b4R f (h.all _ (List.mem_append_left _ hk)) (h.all w (by simp)) e
 exact h.no (e2▸hk)
theorem AI.point {D:List (List (Str×Str))}(h:AI B W fx ws D){w kd:Str}(ndB:(i8 B).Nodup)(hw:(w,kd)∈B.pts)(nw:NewWd B fx ws w)(he:∀x∈B.ts,x.1∈ws++[w]→False):AI B W fx (ws++[w]) (P7 D w ((W.pts.filter fun x=>decide (x.2=kd)).map (·.1))):=by
 refine⟨fun z hz=>?_,fun row hr=>?_⟩
 ·obtain⟨m,hm,n,hn,hno,rfl⟩:=mem_more.mp hz
  have g:=h.ok m hm
  obtain⟨x,hx,rfl⟩:=List.mem_map.mp hn
  have hx':=List.mem_filter.mp hx
  have hkd:x.2=kd:=of_decide_eq_true hx'.2
  refine g.add (by rw[g.ks];exact nw.no) hno (fun y hy e=>?_) (fun y hy e=>?_) fun y hy z=>(he y hy z).elim
  ·have e2:y.2=kd:=C1 (A6 ndB) (show(w,y.2)∈B.pts by rw[←e];exact hy) hw
   rw[e2,←hkd];exact hx'.1
  ·exact(he y hy (by rw[e];simp)).elim
 ·rw[a5A]
  obtain⟨_,f,d⟩:=mem_rows.mp hr
  refine mem_more.mpr ⟨_,h.all row hr,_,?_,a6A hr nw,rfl⟩
  exact List.mem_map.mpr ⟨(gv (nmC B) row w,kd),List.mem_filter.mpr ⟨f.pts _ hw,by simp⟩,rfl⟩
theorem AI.tie {D:List (List (Str×Str))}(h:AI B W fx ws D){w kd b e:Str}(ndB:(i8 B).Nodup)(hw:(w,(kd,b,e))∈B.ts)(nw:NewWd B fx ws w)(he:∀x∈B.ts,x.2.2.1∈fx.map (·.1)++ws∧x.2.2.2∈fx.map (·.1)++ws):
  AI B W fx (ws++[w]) (D.flatMap fun m=>P7 [m] w ((W.ts.filter fun x=>decide (x.2=(kd,i9 (pKV m) b,i9 (pKV m) e))).map (·.1))):=by
 have hwp:∀x∈B.pts,x.1=w→False:=fun x hx e9=>(List.nodup_append.mp ndB).2.2 w (List.mem_map.mpr ⟨x,hx,e9⟩) w (List.mem_map.mpr ⟨_,hw,rfl⟩) rfl
 refine⟨fun z hz=>?_,fun row hr=>?_⟩
 ·obtain⟨m,hm,hz'⟩:=List.mem_flatMap.mp hz
  obtain⟨m',hm',n,hn,hno,rfl⟩:=mem_more.mp hz'
  have em:m'=m:=List.mem_singleton.mp hm'
  subst em
  have g:=h.ok m' hm
  obtain⟨x,hx,rfl⟩:=List.mem_map.mp hn
  have hx':=List.mem_filter.mp hx
  have hkd:x.2=(kd,i9 (pKV m') b,i9 (pKV m') e):=of_decide_eq_true hx'.2
  refine g.add (by rw[g.ks];exact nw.no) hno (fun y hy e9=>(hwp y hy e9).elim) (fun y hy e9=>?_) fun y hy _=>by rw[g.ks];exact he y hy
  have e2:y.2=(kd,b,e):=C1 (N3 ndB) (show(w,y.2)∈B.ts by rw[←e9];exact hy) hw
  rw[e2,←hkd];exact hx'.1
 ·rw[a5A]
  obtain⟨_,f,d⟩:=mem_rows.mp hr
  have hen:=he _ hw
  have nk:(fx.map (·.1)++ws).Nodup:=(List.nodup_append.mp nw.nk).1
  refine List.mem_flatMap.mpr ⟨_,h.all row hr,mem_more.mpr ⟨_,List.mem_singleton.mpr rfl,_,?_,a6A hr nw,rfl⟩⟩
  rw[a4d d nk hen.1,a4d d nk hen.2]
  exact List.mem_map.mpr ⟨(gv (nmC B) row w,(kd,gv (nmC B) row b,gv (nmC B) row e)),List.mem_filter.mpr ⟨f.ts _ hw,by simp⟩,rfl⟩
theorem PG.row (h:PG B W fx ws m)(ho:a5g B W fx)(ndB:(i8 B).Nodup)(eB:∀x∈B.ts,x.2.2.1∈B.pts.map (·.1)∧x.2.2.2∈B.pts.map (·.1))(pm:(fx.map (·.1)++ws).Perm (i8 B)):FitP B W (pKV m)∧O9 B m∈u5 B W fx:=by
 have hin:∀n∈i8 B,n∈m.map (·.1):=fun n z=>by rw[h.ks];exact pm.mem_iff.mpr z
 have hg:∀{n:Str},n∈fx.map (·.1)→i9 (pKV m) n=i9 (pKV fx) n:=fun z=>a5r ho.nk h.nk h.pre z
 have f:FitP B W (pKV m):=by
  refine⟨?_,fun n hn=>⟨_,I9 h.nk (X8 h.nk (hin n hn))⟩,?_,fun x hx=>?_,fun x hx=>?_⟩
  ·have z:=pm.length_eq
   rw[←h.ks,List.length_map] at z
   rw[A3];exact z
  ·refine(pm.map (i9 (pKV m))).nodup_iff.mp ?_
   rw[←h.ks,List.map_map]
   rw[show m.map ((i9 (pKV m))∘(·.1))=m.map (·.2) from List.map_congr_left fun x hx=>B6 h.nk (show(x.1,x.2)∈m from hx)]
   exact h.nv
  ·have hm:x.1∈fx.map (·.1)++ws:=pm.mem_iff.mpr (List.mem_append_left _ (List.mem_map.mpr ⟨x,hx,rfl⟩))
   rcases List.mem_append.mp hm with z|z
   ·rw[hg z];exact ho.pt x hx z
   ·exact h.pt x hx z
  ·have hm:x.1∈fx.map (·.1)++ws:=pm.mem_iff.mpr (List.mem_append_right _ (List.mem_map.mpr ⟨x,hx,rfl⟩))
   rcases List.mem_append.mp hm with z|z
   ·obtain⟨z1,z2,z3⟩:=ho.ti x hx z
    rw[hg z,hg z1,hg z2];exact z3
   ·exact h.ti x hx z
 refine⟨f,mem_rows.mpr ⟨a8a ndB f,b0E ndB eB f,fun x hx=>?_⟩⟩
 rw[a7q ndB (ho.fin _ (List.mem_map.mpr ⟨x,hx,rfl⟩))]
 exact B6 h.nk (h.pre x hx)
theorem AI.row {D:List (List (Str×Str))}(h:AI B W fx ws D)(ho:a5g B W fx)(ndB:(i8 B).Nodup)(pm:(fx.map (·.1)++ws).Perm (i8 B)){row:List Str}(hr:row∈u5 B W fx):∃m∈D,O9 B m=row:=by
 refine⟨_,h.all row hr,?_⟩
 obtain⟨_,f,d⟩:=mem_rows.mp hr
 have hl:=a9n hr
 unfold O9
 rw[List.map_congr_left fun n hn=>a4d d (pm.nodup_iff.mpr ndB) (pm.mem_iff.mpr (nmC_mem.mp hn))]
 exact a6k (a3F ndB) hl
theorem b5D {a b c:Str}(h1:a.cps.toList<b.cps.toList)(h2:b.cps.toList<c.cps.toList):a.cps.toList<c.cps.toList:=List.lt_trans h1 h2
theorem LexLt.tr {a b c:List Str}(h1:LexLt a b)(h2:LexLt b c):LexLt a c:=by
 obtain⟨j,x,y,hx,hy,he,hlt⟩:=h1
 obtain⟨j',y',z,hy',hz,he',hlt'⟩:=h2
 rcases Nat.lt_trichotomy j j' with h|h|h
 ·exact⟨j,x,y,hx,by rw[←he' j h];exact hy,fun i hi=>(he i hi).trans (he' i (by omega)),hlt⟩
 ·subst h
  rw[hy] at hy'
  cases hy'
  exact⟨j,x,z,hx,hz,fun i hi=>(he i hi).trans (he' i hi),b5D hlt hlt'⟩
 ·exact⟨j',y',z,by rw[he j' h];exact hy',hz,fun i hi=>(he i (by omega)).trans (he' i hi),hlt'⟩
theorem a6C {a:List Str}(h:LexLt a a):False:=by
 obtain⟨j,x,y,hx,hy,_,hlt⟩:=h
 rw[hx] at hy
 cases hy
 exact List.lt_irrefl _ hlt
theorem a2O:∀{a b:List Str},a.length=b.length→a=b∨∃(j:Nat) (x y:Str),a[j]?=some x∧b[j]?=some y∧(∀i,i<j→a[i]?=b[i]?)∧x≠y
 |[],[],_=> .inl rfl
 |x::a,y::b,h=>by
  by_cases e:x=y
  ·subst e
   rcases a2O (a:=a) (b:=b) (by simpa using h) with z|⟨j,u,v,hu,hv,he,hne⟩
   ·exact .inl (by rw[z])
   ·refine .inr ⟨j+1,u,v,hu,hv,fun i hi=>?_,hne⟩
    cases i with
    |zero=>rfl
    |succ i=>exact he i (by omega)
  ·exact .inr ⟨0,x,y,rfl,rfl,fun i hi=>absurd hi (Nat.not_lt_zero _),e⟩
theorem a6v {rows:List (List Str)}{row0 l:List Str}{r:List (List Str)}(hp:rows.Pairwise LexLt)(e:rows=row0::r)(hl:l∈rows)(hn:¬LexLt row0 l):l=row0:=by
 subst e
 rcases List.mem_cons.mp hl with z|z
 ·exact z
 ·exact absurd ((List.pairwise_cons.mp hp).1 l z) hn
end
theorem b0P (ms:List (Str×Str)):(pKV ms).map (·.2)=(ms.map (·.2)).map V.str:=by unfold pKV;rw[List.map_map,List.map_map];rfl
def MsAt (H:Hp)(xs:List V)(D:List (List (Str×Str))):Prop:=Paired (fun v m=>∃d,v=V.ref d∧H d=some (.dK (pKV m))) xs D
theorem MsAt.same {H H':Hp}{xs:List V}{D:List (List (Str×Str))}(h:MsAt H xs D)(s:Same H H'):MsAt H' xs D:=Paired.imp' (fun _ _ ⟨d,e,z⟩=>⟨d,e,s _ _ z⟩) h
theorem MsAt.upd {H:Hp}{xs:List V}{D:List (List (Str×Str))}{l:Addr}{ys:List V}{u:HO}(h:MsAt H xs D)(hl:H l=some (.lst ys)):MsAt (upd H l u) xs D:=Paired.imp' (fun _ _ ⟨d,e,z⟩=>⟨d,e,by
 rw[b5 (fun q=>by rw[q,hl] at z;cases z)];exact z⟩) h
theorem MsAt.app {H:Hp}:∀{xs:List V} {D:List (List (Str×Str))} {ys:List V} {E:List (List (Str×Str))},MsAt H xs D→MsAt H ys E→MsAt H (xs++ys) (D++E)
 |_,_,_,_,.nil,h2=>h2
 |_,_,_,_,.cons a t,h2=> .cons a (MsAt.app t h2)
def Y8 (K:PySem.W.Frag):Sp:=fun vs H Q _=>∃(lf ln:Addr) (xs:List V) (D:List (List (Str×Str))) (w:Str) (names:List Str),vs=[.ref lf,.str w,.ref ln]∧SqL K H lf xs∧MsAt H xs D∧(∀m∈D,w∉m.map (·.1)∧m.length≤30)∧SqL K H ln (names.map V.str)∧D.length*names.length≤1000000∧
 ∀(l:Addr) (H':Hp) (ys:List V),H l=none→Same H H'→H' l=some (.lst ys)→MsAt H' ys (P7 D w names)→Q (.ref l) H'
theorem a8u {D:List (List (Str×Str))}{w:Str}{names:List Str}{i:Nat}{m:List (Str×Str)}(h:D[i]?=some m):P7 (D.take (i+1)) w names=P7 (D.take i) w names++(names.filter fun n=>!decide (n∈m.map (·.2))).map fun n=>m++[(w,n)]:=by
 unfold P7
 rw[List.take_succ,h,List.flatMap_append]
 simp
theorem b3G {D:List (List (Str×Str))}{w:Str}{names:List Str}{i j:Nat}{m:List (Str×Str)}(h:D[i]?=some m):(P7 (D.take i) w names++((names.take j).filter fun n=>!decide (n∈m.map (·.2))).map fun n=>m++[(w,n)]).length≤D.length*names.length:=by
 have hi:i<D.length:=by
  rcases Nat.lt_or_ge i D.length with z|z
  ·exact z
  ·rw[List.getElem?_eq_none z] at h;cases h
 have z1:(P7 (D.take i) w names).length≤i*names.length:=Nat.le_trans a0K (Nat.mul_le_mul_right _ (by rw[List.length_take];omega))
 have z2:=List.length_filter_le (fun n=>!decide (n∈m.map (·.2))) (names.take j)
 have z3:(names.take j).length≤names.length:=by rw[List.length_take];omega
 have z4:(i+1)*names.length≤D.length*names.length:=Nat.mul_le_mul_right _ hi
 rw[List.length_append,List.length_map]
 rw[Nat.add_mul,Nat.one_mul] at z4
 omega
theorem a4k {f:Addr}{fd:FuncData}(T:Txt K mg)(F:Fun K "_law_more" "_law_more" K9 f fd):FnOk P w K mg base CX0 1 f fd ["_law_found","_law_word","_law_names"] (Y8 K):=by
 refine F.ok sc__law_more (fun vs H Q E h=>?_) (fun cdv A outer s H vs Q E hr h=>?_)
 ·obtain⟨lf,ln,xs,D,w',names,rfl,_⟩:=h
  rfl
 ·obtain⟨lf,ln,xs,D,w',names,rfl,hF,hD,hok,hNm,hbig,k⟩:=h
  have hxl:=Paired.length hD
  have hN:=sc__law_more.nd
  have hu:=B9 hr
  refine⟨_,QSs.r (qsC (o0 (i:=3) hN rfl (by walk_at "l") (O7 qa0))
   (qsC (N5 PassesOwn.never rfl (V1 K (qV 0)) (qgN (i:=4) hN rfl (by walk_at "l"))
    (qs1 (N5 PassesOwn.never rfl (V1 K (qV 2)) (qgN (i:=5) hN rfl (by walk_at "l"))
    (qs1 (qIf (w5 (U7 K hu) (qV 5) (qBT (a5Q K rfl) T.b_list Boot.«list» (qa1 (qM0 PySem.F.plainAttrs_dict PySem.F.slot_dict_values PySem.F.type_dict_values P5 K (qV 4)) qa0)) (by rfl)) (qsC (o0 (i:=6) hN rfl (by walk_at "l") (qBT (a2A K rfl) T.b_dict Boot.«dict» (qa1 (qV 4) qa0)))
   (qsC (U3 (qV 5) (qgS (qV 6) (qV 1) (u4 P w hu)))
   (qs1 (qEx (qM PySem.F.plainAttrs_list PySem.F.slot_list_append PySem.F.type_list_append u0 K (qV 3) (qa1 (qV 6) qa0)))))) qs0)))))
   (qs1 (D5 (qV 3))))),?_⟩
  refine j9 fun nx1 hx=>?_
  walk_at "e"
  refine⟨i6 (by simp),fun lo no=>?_⟩
  obtain⟨H1,e1,f1,m1,_⟩:=b7 (o:= .lst []) no
  rw[e1]
  walk_at "e"
  refine hx [some (.ref lf),some (.str w'),some (.ref ln),some (.ref lo),none,none,none] _ ?_
  clear hx
  refine j9 fun nx2 hx=>?_
  walk_at "e"
  refine z8 (m1.seq hF) ?_
  refine K2 (n:=xs.length) (fun i σ H'=>Same H H'∧(∃v4 v5 v6,σ=[some (.ref lf),some (.str w'),some (.ref ln),some (.ref lo),v4,v5,v6])∧∃ys,H' lo=some (.lst ys)∧MsAt H' ys (P7 (D.take i) w' names)) ⟨m1,⟨_,_,_,rfl⟩,[],f1,by unfold P7;exact .nil⟩ (fun i σ H' hi hp=>⟨xs,xs[i],hp.1.seq hF,List.getElem?_eq_getElem hi⟩) ?_ ?_
  ·rintro bk i v σ G0' G0 hi ⟨s0,⟨v4,v5,v6,rfl⟩,ys,g0,ms0⟩ y
   obtain⟨rfl,hy⟩:=Itl.get y (s0.seq hF)
   obtain⟨m,hm,d,rfl,hd⟩:=w4 hD hy
   have hmm:=hok m (List.mem_of_getElem? hm)
   walk_at "e"
   refine z8 (s0.seq hNm) ?_
   refine K2 (n:=names.length) (fun j σ H'=>Same H H'∧(∃v5 v6,σ=[some (.ref lf),some (.str w'),some (.ref ln),some (.ref lo),some (.ref d),v5,v6])∧∃ys,H' lo=some (.lst ys)∧MsAt H' ys (P7 (D.take i) w' names++((names.take j).filter fun n=>!decide (n∈m.map (·.2))).map fun n=>m++[(w',n)])) ⟨s0,⟨_,_,rfl⟩,ys,g0,by simpa using ms0⟩ (fun j σ H' hj hp=>⟨_,.str (names[j]),hp.1.seq hNm,by rw[List.getElem?_map,List.getElem?_eq_getElem hj];rfl⟩) ?_ ?_
   ·rintro bk' j v σ G1' G1 hj ⟨s1,⟨v5,v6,rfl⟩,ys,g1,ms1⟩ y'
    obtain⟨rfl,hy'⟩:=Itl.get y' (s1.seq hNm)
    rw[List.getElem?_map,List.getElem?_eq_getElem hj] at hy'
    cases hy'
    have hjj:names[j]?=some names[j]:=List.getElem?_eq_getElem hj
    have d1:=s1 _ _ hd
    walk_at "r"
    refine⟨.inr (.inr (.inl ⟨rfl,.inl ⟨_,d1⟩⟩)),?_⟩
    refine⟨d,_,rfl,rfl,.inl d1,fun lv nv=>?_⟩
    obtain⟨G2,x2,f2,m2,_⟩:=b7 (o:= .ext (a4o lv d)) nv
    rw[x2]
    walk_at "r"
    refine a0f f2 (.inl (m2 _ _ d1)) (fun l3 n3=>?_)
    rw[b0P]
    obtain⟨G3,x3,f3,m3,_⟩:=b7 (o:= .lst ((m.map (·.2)).map V.str)) n3
    rw[x3]
    refine I0 (SqL.of f3) ?_
    have m13:=m2.trans m3
    walk_at "r"
    refine a0z (fun hb=>?_) (fun hb=>?_)
    ·walk_at "r"
     refine K4 (.inl (m13 _ _ d1)) (fun d4 n4=>?_)
     obtain⟨G4,x4,f4,m4,_⟩:=b7 (o:= .dK (pKV m)) n4
     rw[x4]
     walk_at "r"
     refine N6 (p8 (k:=Sum.inr w') f4 (i6 (by rw[A3];omega)) ?_)
     rw[Y0 hmm.1]
     have s5:=C3 (o:= .dK (pKV (m++[(w',names[j])]))) (m13.trans m4) (m13.free n4)
     have d5:upd G4 d4 (.dK (pKV (m++[(w',names[j])]))) d4=some (.dK (pKV (m++[(w',names[j])]))):=d7
     generalize upd G4 d4 (.dK (pKV (m++[(w',names[j])])))=G5 at s5 d5⊢
     have g5:=s5 _ _ g1
     have ms5:=ms1.same s5
     have hyl:=Paired.length ms5
     have hfl:=b3G (w:=w') (names:=names) (j:=j) hm
     walk_at "r"
     refine⟨.inl ⟨rfl,_,SqL.of g5⟩,?_⟩
     walk_at "r"
     refine⟨lo,_,_,rfl,rfl,g5,a1q (by omega),?_⟩
     refine⟨C3 (s1.trans s5) no,⟨_,_,rfl⟩,_,d7,?_⟩
     rw[a1K hjj (by simpa using hb),List.map_append,←List.append_assoc]
     exact A9 (ms5.upd g5) ⟨d4,rfl,by rw[b5 (fun q=>by rw[q,g5] at d5;cases d5)];exact d5⟩
    ·walk_at "r"
     refine⟨s1.trans m13,⟨_,_,rfl⟩,ys,m13 _ _ g1,?_⟩
     rw[a1F hjj (by simpa using hb)]
     exact ms1.same m13
   ·rintro σ G1 ⟨s1,⟨v5,v6,rfl⟩,ys,g1,ms1⟩
    refine⟨⟨_,s1.seq hNm,by rw[List.length_map];exact Nat.le_refl _⟩,?_⟩
    refine⟨s1,⟨_,_,_,rfl⟩,ys,g1,?_⟩
    rw[a8u hm]
    rw[List.take_of_length_le (Nat.le_refl _)] at ms1
    exact ms1
  ·rintro σ G0 ⟨s0,⟨v4,v5,v6,rfl⟩,ys,g0,ms0⟩
   refine⟨⟨xs,s0.seq hF,Nat.le_refl _⟩,?_⟩
   rw[hxl,List.take_of_length_le (Nat.le_refl _)] at ms0
   refine hx [some (.ref lf),some (.str w'),some (.ref ln),some (.ref lo),v4,v5,v6] G0 ?_
   walk_at "e"
   exact k lo G0 ys no s0 g0 ms0
theorem nwd {B:Web}{fx:List (Str×Str)}{s:List Str}{i:Nat}{w:Str}(nds:s.Nodup)(hs:∀n∈s,n∈i8 B)(nk:(fx.map (·.1)).Nodup)(fin:∀n∈fx.map (·.1),n∈i8 B)(hi:s[i]?=some w)(hu:A4 fx w=true):NewWd B fx ((s.take i).filter (A4 fx)) w:=by
 have hu':w∉fx.map (·.1):=by unfold A4 at hu;simpa using hu
 have hw:w∉s.take i:=fun z=>by
  have e7:s.take (i+1)=s.take i++[w]:=by rw[List.take_succ,hi];rfl
  have z2:(s.take (i+1)).Nodup:=nds.sublist (List.take_sublist _ _)
  rw[e7] at z2
  exact(List.nodup_append.mp z2).2.2 w z w (by simp) rfl
 have hf:∀n∈(s.take i).filter (A4 fx),n∈s.take i∧n∉fx.map (·.1):=fun n z=>⟨(List.mem_filter.mp z).1,by have q:=(List.mem_filter.mp z).2;unfold A4 at q;simpa using q⟩
 refine⟨z0 (List.nodup_append.mpr ⟨nk,(nds.sublist (List.take_sublist _ _)).sublist List.filter_sublist,fun a ha b hb e=>(hf b hb).2 (e▸ha)⟩) fun z=>?_,fun n hn=>?_⟩
 ·rcases List.mem_append.mp z with q|q
  ·exact hu' q
  ·exact hw (hf w q).1
 ·rcases List.mem_append.mp hn with q|q
  ·rcases List.mem_append.mp q with q|q
   ·exact fin n q
   ·exact hs n (List.mem_of_mem_take (hf n q).1)
  ·rw[show n=w by simpa using q];exact hs w (List.mem_of_getElem? hi)
theorem a1k {s1 s2:List Str}(i:Nat):(s1++s2).take (s1.length+i)=s1++s2.take i:=by
 rw[List.take_append,List.take_of_length_le (by omega)]
 congr 2
 omega
def a0a (K:PySem.W.Frag):Sp:=fun vs H Q _=>∃(B S:Sd) (m:Addr) (fx:List (Str×Str)),vs=[.ref B.a,.ref S.a,.ref m]∧SdIs K H B∧SdIs K H S∧H m=some (.dK (pKV fx))∧a5g B.W S.W fx∧((i8 B.W).filter (A4 fx)).length≤4∧(i8 S.W).length≤12∧
 ∀(l:Addr) (H':Hp) (ys:List V) (D:List (List (Str×Str))) (ws:List Str),H l=none→Same H H'→H' l=some (.lst ys)→MsAt H' ys D→AI B.W S.W fx ws D→(fx.map (·.1)++ws).Perm (i8 B.W)→D.length≤30000→Q (.ref l) H'
theorem a2t {a b:Nat}(h:a≤b):12 ^ a≤12 ^ b:=Nat.pow_le_pow_right (by decide) h
theorem a4R {f:Addr}{fd:FuncData}(T:Txt K mg)(T7:Cal P w K mg base CX0 1 "_law_more" ["_law_found","_law_word","_law_names"] [] (Y8 K))(F:Fun K "_law_all" "_law_all" N8 f fd):FnOk P w K mg base CX0 2 f fd ["_law_bar_here","_law_web_here","_law_match"] (a0a K):=by
 refine F.ok sc__law_all (fun vs H Q E h=>?_) (fun cdv A outer s H vs Q E hr h=>?_)
 ·obtain⟨B,S,m,fx,rfl,_⟩:=h
  rfl
 ·obtain⟨B,S,m,fx,rfl,hB,hS,hm,ho,hc4,h12,k⟩:=h
  have hBl:=hB.len
  rw[z7] at hBl
  have h12':=h12
  rw[z7] at h12'
  have hSk:=hS.at_.ts.length
  have hfl:fx.length≤24:=by
   have z:=Q1 ho.nk ho.fin
   rw[List.length_map] at z
   have:=hB.len
   omega
  have hN:=sc__law_all.nd
  have hu:=B9 hr
  refine⟨_,QSs.r (qsC (o0 (i:=3) hN rfl (by walk_at "l") (O7 (qa1 (qV 2) qa0)))
   (qsC (N5 PassesOwn.never rfl (V1 K (qB (J5 K rfl) T.b_sorted Boot.«sorted» (qa1 (qIx (kIx K hu) (qV 0) d9 (fun _ _=>rfl)) qa0))) (qgN (i:=4) hN rfl (by walk_at "l"))
    (qs1 (qIf (w5 (U7 K hu) (qV 4) (qV 2) (by rfl)) (qs1 (o0 (i:=3) hN rfl (by walk_at "l") (qC T7 (hr.mono (by decide)) r9 (qa1 (qV 3) (qa1 (qV 4) (qa1 (a0O (own:=["_law_name_here"]) (js:=[4,1,0]) (by kernel_rfl) rfl (V1 K (qIx (kIx K hu) (qV 1) d9 (fun _ _=>rfl))) (fun _ _ _ _=>(qgN (i:=0) (show List.Nodup (["_law_name_here","_law_word","_law_web_here","_law_bar_here"]:List Str) by decide+kernel) rfl (by walk_at "l"))) (fun _ _ _ _=>(a3S (w5 (Q8 K hr) (qIx (kIx K hu) (qIx (kIx K hu) (qV 2) d9 (fun _ _=>rfl)) (qV 0) (fun _ _=>rfl)) (qIx (kIx K hu) (qIx (kIx K hu) (qV 3) d9 (fun _ _=>rfl)) (qV 1) (fun _ _=>rfl)) (t5 _)))) (fun _ _ _ _=>(qV 0))) qa0)))))) qs0)))
   (qsC (N5 PassesOwn.never rfl (V1 K (qB (J5 K rfl) T.b_sorted Boot.«sorted» (qa1 (qIx (kIx K hu) (qV 0) d9 (fun _ _=>rfl)) qa0))) (qgN (i:=4) hN rfl (by walk_at "l"))
    (qs1 (qIf (w5 (U7 K hu) (qV 4) (qV 2) (by rfl)) (qsC (U3 (qIx (kIx K hu) (qIx (kIx K hu) (qV 0) d9 (fun _ _=>rfl)) (qV 4) (fun _ _=>rfl)) (qgT K rfl (qg1 (qgN (i:=5) hN rfl (by walk_at "l")) (qg1 (qgN (i:=6) hN rfl (by walk_at "l")) (qg1 (qgN (i:=7) hN rfl (by walk_at "l")) qg0)))))
   (qsC (o0 (i:=8) hN rfl (by walk_at "l") (O7 qa0))
   (qsC (N5 PassesOwn.never rfl (V1 K (qV 3)) (qgN (i:=9) hN rfl (by walk_at "l"))
    (qsC (V3 (i:=10) hN rfl (by walk_at "l") (own:=["_law_name_here"]) (js:=[5,1,9,6,7]) (by kernel_rfl) rfl (V1 K (qIx (kIx K hu) (qV 1) d9 (fun _ _=>rfl))) (fun _ _ _ _=>(qgN (i:=0) (show List.Nodup (["_law_name_here","_law_kind","_law_web_here","_law_one","_law_begin","_law_end"]:List Str) by decide+kernel) rfl (by walk_at "l"))) (fun _ _ _ _=>(a3S (w5 (Q8 K hr) (qIx (kIx K hu) (qIx (kIx K hu) (qV 2) d9 (fun _ _=>rfl)) (qV 0) (fun _ _=>rfl)) (X7 (qa1 (qV 1) (qa1 (qIx (kIx K hu) (qV 3) (qV 4) (fun _ _=>rfl)) (qa1 (qIx (kIx K hu) (qV 3) (qV 5) (fun _ _=>rfl)) qa0)))) (t5 _)))) (fun _ _ _ _=>(qV 0)))
   (qs1 (qEx (qM PySem.F.plainAttrs_list PySem.F.slot_list_extend PySem.F.type_list_extend a1P K (qV 8) (qa1 (qC T7 (hr.mono (by decide)) r9 (qa1 (O7 (qa1 (qV 9) qa0)) (qa1 (qV 4) (qa1 (qV 10) qa0)))) qa0))))))
   (qs1 (o0 (i:=3) hN rfl (by walk_at "l") (qV 8)))))) qs0)))
   (qs1 (D5 (qV 3)))))),?_⟩
  refine j9 fun nx1 hx=>?_
  walk_at "e"
  refine⟨i6 (by simp),fun l0 n0=>?_⟩
  obtain⟨H0,e0,f0,m0,_⟩:=b7 (o:= .lst [.ref m]) n0
  rw[e0]
  have B0:=hB.same m0
  walk_at "e"
  refine hx [some (.ref B.a),some (.ref S.a),some (.ref m),some (.ref l0),none,none,none,none,none,none,none] _ ?_
  clear hx
  refine j9 fun nx2 hx=>?_
  walk_at "e"
  refine d8 B0.at_.tup (h8 (j:=0) rfl) ?_
  walk_at "e"
  refine p0 (ss:=B.W.pts.map (·.1)) B0.at_.pts (by rw[B7,u9]) (by rw[List.length_map];omega) (fun s1 a1 a2 l1 n1=>?_)
  obtain⟨H1,e1,f1,m1,_⟩:=b7 (o:= .lst _) n1
  rw[e1]
  have m01:=m0.trans m1
  have nd1:s1.Nodup:=a1.nodup_iff.mpr (A6 hB.nd)
  have in1:∀n∈s1,n∈i8 B.W:=fun n z=>List.mem_append_left _ (a1.mem_iff.mp z)
  have hcnt:∀i,((s1.take i).filter (A4 fx)).length≤4:=fun i=>Nat.le_trans (Q1 ((nd1.sublist (List.take_sublist _ _)).sublist List.filter_sublist) fun n hn=>List.mem_filter.mpr ⟨in1 n (List.mem_of_mem_take (List.mem_filter.mp hn).1),(List.mem_filter.mp hn).2⟩) hc4
  refine z8 (SqL.of f1) ?_
  refine K2 (n:=s1.length) (fun i σ H'=>Same H H'∧H' l1=some (.lst (s1.map V.str))∧∃(lf:Addr) (ys:List V) (D:List (List (Str×Str))) (v4:Option V),σ=[some (.ref B.a),some (.ref S.a),some (.ref m),some (.ref lf),v4,none,none,none,none,none,none]∧H' lf=some (.lst ys)∧H lf=none∧MsAt H' ys D∧AI B.W S.W fx ((s1.take i).filter (A4 fx)) D∧D.length≤12 ^ ((s1.take i).filter (A4 fx)).length) ⟨m01,f1,l0,[.ref m],[fx],none,rfl,m1 _ _ f0,n0,.cons ⟨m,rfl,m01 _ _ hm⟩ .nil,AI.nil ho,Nat.le_refl _⟩ (fun i σ H' hi hp=>⟨_,.str (s1[i]),SqL.of hp.2.1,by rw[List.getElem?_map,List.getElem?_eq_getElem hi];rfl⟩) ?_ ?_
  ·rintro bk i v σ G1' G1 hi ⟨s1',l1',lf,ys,D,v4,rfl,g1,nlf,ms1,ai,dl⟩ y
   obtain⟨rfl,hy⟩:=Itl.get y (SqL.of l1')
   rw[List.getElem?_map,List.getElem?_eq_getElem hi] at hy
   cases hy
   have hii:s1[i]?=some s1[i]:=List.getElem?_eq_getElem hi
   have B1:=hB.same s1'
   have S1:=hS.same s1'
   have M1:=s1' _ _ hm
   walk_at "e"
   refine a1E (R0 (k:=Sum.inr s1[i]) (.inl M1)) ?_
   rw[Y7]
   walk_at "e"
   refine a0z (fun hb=>?_) (fun hb=>?_)
   ·have hu:A4 fx s1[i]=true:=by unfold A4;simpa using hb
    obtain⟨⟨w',kd⟩,hwk,ewk⟩:=List.mem_map.mp (a1.mem_iff.mp (List.getElem_mem hi))
    have ewk':w'=s1[i]:=ewk
    rw[ewk'] at hwk
    have nw:=nwd nd1 in1 ho.nk ho.fin hii hu
    walk_at "e"
    refine d8 S1.at_.tup (h8 (j:=0) rfl) ?_
    refine a2p S1.hp (fun ndp o2=>?_)
    refine D3 (n:=(pKV S.W.pts).length) (fun j out H'=>Same (C8 S.p o2 (pKV S.W.pts) G1) H'∧out=(((S.W.pts.take j).filter fun x=>decide (x.2=kd)).map (·.1)).map V.str) ⟨Same.refl _,rfl⟩ (fun j out H' hj hp=>⟨hp.1 _ _ d7,hj⟩) ?_ ?_
    ·rintro N j v out G2' G2 hj ⟨s2,rfl⟩ ⟨rfl,kv,hkv,rfl⟩ hN'
     obtain⟨x,hx9,rfl⟩:=a7s hkv
     have hxm:=List.mem_of_getElem? hx9
     have le2:=(a0E (o:=o2) S1.hp).trans s2.le
     have S2:=S1.at_.mono le2
     have B2:=B1.at_.mono le2
     rw[A3] at hj
     have hol:(((S.W.pts.take j).filter fun x=>decide (x.2=kd)).map (·.1)).length≤100:=by
      rw[List.length_map]
      exact Nat.le_trans (List.length_filter_le _ _) (by rw[List.length_take];omega)
     walk_at "e"
     refine⟨rfl,?_⟩
     walk_at "e"
     refine d8 S2.tup (h8 (j:=0) rfl) ?_
     walk_at "e"
     refine ixd S2.pts ⟨_,I9 (A6 hS.nd) hxm⟩ ?_
     rw[B6 (A6 hS.nd) (show(x.1,x.2)∈S.W.pts from hxm)]
     walk_at "e"
     refine d8 B2.tup (h8 (j:=0) rfl) ?_
     walk_at "e"
     refine ixd B2.pts ⟨_,I9 (A6 hB.nd) hwk⟩ ?_
     rw[B6 (A6 hB.nd) hwk]
     walk_at "e"
     refine M4 (fun b1=>?_) (fun b1=>?_)
     ·walk_at "e"
      refine⟨i6 (by rw[List.length_map];omega),hN' _ _ ⟨s2,?_⟩⟩
      rw[a1K hx9 (by simpa using b1),List.map_append,List.map_append];rfl
     ·refine hN' _ _ ⟨s2,?_⟩
      rw[a1F hx9 (by simpa using b1)]
    ·rintro out G2 ⟨s2,rfl⟩
     rw[A3,List.take_of_length_le (Nat.le_refl _)]
     have hol:((S.W.pts.filter fun x=>decide (x.2=kd)).map (·.1)).length≤12:=by
      rw[List.length_map]
      exact Nat.le_trans (List.length_filter_le _ _) (by omega)
     refine⟨⟨s2 _ _ d7,by rw[A3];exact Nat.le_refl _⟩,fun D2 hD2=>⟨i6 (by rw[List.length_map];omega),?_⟩⟩
     have sM:=a0Q S1.hp s2 hD2 (u:= .lst (((S.W.pts.filter fun x=>decide (x.2=kd)).map (·.1)).map V.str))
     have fM:=a4j s2 hD2 (u:= .lst (((S.W.pts.filter fun x=>decide (x.2=kd)).map (·.1)).map V.str))
     generalize thaw S.p (upd G2 D2 (.lst (((S.W.pts.filter fun x=>decide (x.2=kd)).map (·.1)).map V.str)))=G3 at sM fM⊢
     have hdl:D.length≤12 ^ 4:=Nat.le_trans dl (a2t (hcnt i))
     have hbb:D.length*((S.W.pts.filter fun x=>decide (x.2=kd)).map (·.1)).length≤12 ^ 4*12:=Nat.mul_le_mul hdl hol
     walk_at "e"
     refine⟨lf,D2,ys,D,s1[i],_,rfl,SqL.of (sM _ _ g1),ms1.same sM,fun mm hmm=>⟨?_,?_⟩,SqL.of fM,Nat.le_trans hbb (by decide),fun l4 G4 ys4 n4 m4 f4 ms4=>?_⟩
     ·rw[(ai.ok mm hmm).ks];exact nw.no
     ·have z:=congrArg List.length (ai.ok mm hmm).ks
      rw[List.length_map,List.length_append,List.length_map] at z
      have:=hcnt i
      omega
     ·have s4:=s1'.trans (sM.trans m4)
      walk_at "e"
      refine⟨s4,(sM.trans m4) _ _ l1',l4,ys4,_,_,rfl,f4,(s1'.trans sM).free n4,ms4,?_,?_⟩
      ·rw[a1K hii hu]
       refine ai.point hB.nd hwk nw fun x hx9 z=>?_
       have hxs:x.1∈s1:=by
        rcases List.mem_append.mp z with q|q
        ·exact List.mem_of_mem_take (List.mem_filter.mp q).1
        ·rw[show x.1=s1[i] by simpa using q];exact List.getElem_mem hi
       exact(List.nodup_append.mp hB.nd).2.2 x.1 (a1.mem_iff.mp hxs) x.1 (List.mem_map.mpr ⟨x,hx9,rfl⟩) rfl
      ·rw[a1K hii hu,List.length_append,List.length_singleton,Nat.pow_succ]
       exact Nat.le_trans a0K (Nat.mul_le_mul dl hol)
   ·walk_at "e"
    have hu:A4 fx s1[i]=false:=by unfold A4;simpa using hb
    refine⟨s1',l1',lf,ys,D,_,rfl,g1,nlf,ms1,?_,?_⟩
    ·rw[a1F hii hu];exact ai
    ·rw[a1F hii hu];exact dl
  rintro σ G1 ⟨s1',l1',lf,ys,D,v4,rfl,g1,nlf,ms1,ai,dl⟩
  refine⟨⟨_,SqL.of l1',by rw[List.length_map];exact Nat.le_refl _⟩,?_⟩
  rw[List.take_of_length_le (Nat.le_refl _)] at ai dl
  have B1:=hB.same s1'
  refine hx [some (.ref B.a),some (.ref S.a),some (.ref m),some (.ref lf),v4,none,none,none,none,none,none] G1 ?_
  clear hx l1' f1 f0 e0 e1
  refine j9 fun nx3 hx=>?_
  walk_at "e"
  refine d8 B1.at_.tup (h8 (j:=1) rfl) ?_
  walk_at "e"
  refine p0 (ss:=B.W.ts.map (·.1)) B1.at_.ties (by rw[B1.at_.ts.keys,u9]) (by rw[List.length_map];omega) (fun s2 b1 b2 l2 n2=>?_)
  obtain⟨G2,e2,f2,m2,_⟩:=b7 (o:= .lst _) n2
  rw[e2]
  have nds:(s1++s2).Nodup:=(a1.append b1).nodup_iff.mpr hB.nd
  have ins:∀n∈s1++s2,n∈i8 B.W:=fun n z=>(a1.append b1).mem_iff.mp z
  have hcnt2:∀i,(((s1++s2).take i).filter (A4 fx)).length≤4:=fun i=>Nat.le_trans (Q1 ((nds.sublist (List.take_sublist _ _)).sublist List.filter_sublist) fun n hn=>List.mem_filter.mpr ⟨ins n (List.mem_of_mem_take (List.mem_filter.mp hn).1),(List.mem_filter.mp hn).2⟩) hc4
  have e10:∀{s:List Str} {i:Nat},((s1++s2).take (s1.length+i)).filter (A4 fx)=s1.filter (A4 fx)++(s2.take i).filter (A4 fx):=fun{s i}=>by rw[a1k,List.filter_append]
  refine z8 (SqL.of f2) ?_
  refine K2 (n:=s2.length) (fun i σ H'=>Same H H'∧H' l2=some (.lst (s2.map V.str))∧∃(lf:Addr) (ys:List V) (D:List (List (Str×Str))) (v4 v5 v6 v7 v8 v9 v10:Option V),σ=[some (.ref B.a),some (.ref S.a),some (.ref m),some (.ref lf),v4,v5,v6,v7,v8,v9,v10]∧H' lf=some (.lst ys)∧H lf=none∧MsAt H' ys D∧AI B.W S.W fx (((s1++s2).take (s1.length+i)).filter (A4 fx)) D∧D.length≤12 ^ (((s1++s2).take (s1.length+i)).filter (A4 fx)).length) ⟨s1'.trans m2,f2,lf,ys,D,_,_,_,_,_,_,_,rfl,m2 _ _ g1,nlf,ms1.same m2,by rw[a1k,List.take_zero,List.append_nil];exact ai,by rw[a1k,List.take_zero,List.append_nil];exact dl⟩ (fun i σ H' hi hp=>⟨_,.str (s2[i]),SqL.of hp.2.1,by rw[List.getElem?_map,List.getElem?_eq_getElem hi];rfl⟩) ?_ ?_
  ·clear dl ai ms1 g1 nlf f2
   rintro bk i v σ G3' G3 hi ⟨s3,l3,lf,ys,D,v4,v5,v6,v7,v8,v9,v10,rfl,g3,nlf,ms3,ai,dl⟩ y
   obtain⟨rfl,hy⟩:=Itl.get y (SqL.of l3)
   rw[List.getElem?_map,List.getElem?_eq_getElem hi] at hy
   cases hy
   have hii:(s1++s2)[s1.length+i]?=some s2[i]:=by rw[List.getElem?_append_right (by omega),Nat.add_sub_cancel_left];exact List.getElem?_eq_getElem hi
   have B3:=hB.same s3
   have M3:=s3 _ _ hm
   walk_at "e"
   refine a1E (R0 (k:=Sum.inr s2[i]) (.inl M3)) ?_
   rw[Y7]
   walk_at "e"
   refine a0z (fun hb=>?_) (fun hb=>?_)
   ·have hu:A4 fx s2[i]=true:=by unfold A4;simpa using hb
    obtain⟨⟨w',kd,eb,ee⟩,hwk,ewk⟩:=List.mem_map.mp (b1.mem_iff.mp (List.getElem_mem hi))
    have ewk':w'=s2[i]:=ewk
    rw[ewk'] at hwk
    have nw:=nwd nds ins ho.nk ho.fin hii hu
    obtain⟨bt,hbt,sbt⟩:=a0L B3.at_.ts (N3 hB.nd) hwk
    have hends:∀x∈B.W.ts,x.2.2.1∈fx.map (·.1)++((s1++s2).take (s1.length+i)).filter (A4 fx)∧x.2.2.2∈fx.map (·.1)++((s1++s2).take (s1.length+i)).filter (A4 fx):=fun x hx9=>by
     have he:=hB.ends x hx9
     have hin:∀{n:Str},n∈B.W.pts.map (·.1)→n∈fx.map (·.1)++((s1++s2).take (s1.length+i)).filter (A4 fx):=fun{n} hn=>by
      by_cases hf:n∈fx.map (·.1)
      ·exact List.mem_append_left _ hf
      ·refine List.mem_append_right _ (List.mem_filter.mpr ⟨?_,by unfold A4;simpa using hf⟩)
       rw[a1k];exact List.mem_append_left _ (a1.mem_iff.mpr hn)
     exact⟨hin he.1,hin he.2⟩
    have hen:=hends _ hwk
    have hol:∀mm:List (Str×Str),((S.W.ts.filter fun x=>decide (x.2=(kd,i9 (pKV mm) eb,i9 (pKV mm) ee))).map (·.1)).length≤12:=fun mm=>by
     rw[List.length_map]
     exact Nat.le_trans (List.length_filter_le _ _) (by omega)
    have hdl:D.length≤12 ^ 4:=Nat.le_trans dl (a2t (hcnt2 _))
    refine j9 fun nx4 hx4=>?_
    walk_at "e"
    refine d8 B3.at_.tup (h8 (j:=1) rfl) ?_
    walk_at "e"
    refine v0 (v:= .ref bt) (by have z:=R0 (k:=Sum.inr s2[i]) B3.at_.ties;rw[hbt] at z;exact z) ?_
    refine K3 sbt rfl ?_
    show a2d (P6 5) (a2d (P6 6) (a2d (P6 7) b2f)) [V.str kd,.str eb,.str ee] _ _ _
    walk_at "e"
    refine hx4 [some (.ref B.a),some (.ref S.a),some (.ref m),some (.ref lf),some (.str s2[i]),some (.str kd),some (.str eb),some (.str ee),v8,v9,v10] _ ?_
    clear hx4
    refine j9 fun nx5 hx4=>?_
    walk_at "e"
    refine⟨i6 (by simp),fun lm nlm=>?_⟩
    obtain⟨G4,e4,f4,m4,_⟩:=b7 (o:= .lst []) nlm
    rw[e4]
    walk_at "e"
    refine hx4 [some (.ref B.a),some (.ref S.a),some (.ref m),some (.ref lf),some (.str s2[i]),some (.str kd),some (.str eb),some (.str ee),some (.ref lm),v9,v10] _ ?_
    clear hx4
    refine j9 fun nx6 hx4=>?_
    have hyl:=Paired.length ms3
    walk_at "e"
    refine z8 (SqL.of (m4 _ _ g3)) ?_
    refine K2 (n:=ys.length) (fun j σ H'=>Same G3 H'∧(∃v9 v10,σ=[some (.ref B.a),some (.ref S.a),some (.ref m),some (.ref lf),some (.str s2[i]),some (.str kd),some (.str eb),some (.str ee),some (.ref lm),v9,v10])∧∃zs,H' lm=some (.lst zs)∧MsAt H' zs ((D.take j).flatMap fun mm=>P7 [mm] s2[i] ((S.W.ts.filter fun x=>decide (x.2=(kd,i9 (pKV mm) eb,i9 (pKV mm) ee))).map (·.1)))∧zs.length≤j*12) ⟨m4,⟨_,_,rfl⟩,[],f4,.nil,Nat.zero_le _⟩ (fun j σ H' hj hp=>⟨ys,ys[j],SqL.of (hp.1 _ _ g3),List.getElem?_eq_getElem hj⟩) ?_ ?_
    ·rintro bk' j v σ G5' G5 hj ⟨s5,⟨v9,v10,rfl⟩,zs,g5,ms5,zl⟩ y'
     obtain⟨rfl,hy'⟩:=Itl.get y' (SqL.of (s5 _ _ g3))
     obtain⟨mm,hmm,d,rfl,hd⟩:=w4 ms3 hy'
     have g:=ai.ok mm (List.mem_of_getElem? hmm)
     have hk1:eb∈mm.map (·.1):=by rw[g.ks];exact hen.1
     have hk2:ee∈mm.map (·.1):=by rw[g.ks];exact hen.2
     have S5:=hS.same (s3.trans s5)
     have d5:=s5 _ _ hd
     refine j9 fun nx7 hx7=>?_
     walk_at "e"
     refine d8 S5.at_.tup (h8 (j:=1) rfl) ?_
     refine a2p S5.hq (fun ndq o6=>?_)
     refine D3 (n:=S.kvs.length) (fun j' out H'=>Same (C8 S.q o6 S.kvs G5) H'∧out=(((S.W.ts.take j').filter fun x=>decide (x.2=(kd,i9 (pKV mm) eb,i9 (pKV mm) ee))).map (·.1)).map V.str) ⟨Same.refl _,rfl⟩ (fun j' out H' hj' hp=>⟨hp.1 _ _ d7,hj'⟩) ?_ ?_
     ·rintro N j' v out G6' G6 hj' ⟨s6,rfl⟩ ⟨rfl,kv,hkv,rfl⟩ hN'
      have le6:=(a0E (o:=o6) S5.hq).trans s6.le
      have S6:=S5.at_.mono le6
      obtain⟨x,hx9,ex,bb,ebb,sb⟩:=S6.ts.get hkv
      have hkm:=List.mem_of_getElem? hkv
      obtain⟨kk,kvv⟩:=kv
      have ex':kk=Sum.inr x.1:=ex
      have eb':kvv= .ref bb:=ebb
      subst ex' eb'
      obtain⟨x0,x1,x2,x3⟩:=x
      have D6:Rd G6 d (.dK (pKV mm)):=le6.dic (.inl d5)
      have hol6:(((S.W.ts.take j').filter fun x=>decide (x.2=(kd,i9 (pKV mm) eb,i9 (pKV mm) ee))).map (·.1)).length≤100:=by
       rw[List.length_map]
       exact Nat.le_trans (List.length_filter_le _ _) (by rw[List.length_take];omega)
      walk_at "e"
      refine⟨rfl,?_⟩
      walk_at "e"
      refine d8 S6.tup (h8 (j:=1) rfl) ?_
      walk_at "e"
      refine v0 (v:= .ref bb) (by have z:=R0 (k:=Sum.inr x0) S6.ties;rw[a1Z (kv:=(Sum.inr x0,.ref bb)) ndq hkm] at z;exact z) ?_
      walk_at "e"
      refine ixd D6 ⟨_,I9 g.nk (X8 g.nk hk1)⟩ ?_
      walk_at "e"
      refine ixd D6 ⟨_,I9 g.nk (X8 g.nk hk2)⟩ ?_
      walk_at "e"
      refine⟨i6 (by simp),fun l7 n7=>?_⟩
      obtain⟨G7,e7,f7,m7,_⟩:=b7 (o:= .tup (Q9 (kd,i9 (pKV mm) eb,i9 (pKV mm) ee))) n7
      change a1G K _ _ (upd G6 l7 (.tup (Q9 (kd,i9 (pKV mm) eb,i9 (pKV mm) ee)))) _
      rw[e7]
      refine a8o (a9b (m7.tup sb) (SqT.of f7) (a4u _) (a4u _) ?_)
      rw[b0i]
      walk_at "e"
      refine M4 (fun b1=>?_) (fun b1=>?_)
      ·walk_at "e"
       refine⟨i6 (by rw[List.length_map];omega),hN' _ _ ⟨s6.trans m7,?_⟩⟩
       rw[a1K hx9 (by simpa using b1),List.map_append,List.map_append];rfl
      ·refine hN' _ _ ⟨s6.trans m7,?_⟩
       rw[a1F hx9 (by simpa using b1)]
     ·rintro out G6 ⟨s6,rfl⟩
      rw[hSk,List.take_of_length_le (Nat.le_refl _)]
      have ho6:=hol mm
      refine⟨⟨s6 _ _ d7,by rw[hSk];exact Nat.le_refl _⟩,fun D2 hD2=>⟨i6 (by rw[List.length_map];omega),?_⟩⟩
      have sM:=a0Q S5.hq s6 hD2 (u:= .lst (((S.W.ts.filter fun x=>decide (x.2=(kd,i9 (pKV mm) eb,i9 (pKV mm) ee))).map (·.1)).map V.str))
      have fM:=a4j s6 hD2 (u:= .lst (((S.W.ts.filter fun x=>decide (x.2=(kd,i9 (pKV mm) eb,i9 (pKV mm) ee))).map (·.1)).map V.str))
      generalize thaw S.q (upd G6 D2 (.lst (((S.W.ts.filter fun x=>decide (x.2=(kd,i9 (pKV mm) eb,i9 (pKV mm) ee))).map (·.1)).map V.str)))=G7 at sM fM⊢
      walk_at "e"
      refine hx7 [some (.ref B.a),some (.ref S.a),some (.ref m),some (.ref lf),some (.str s2[i]),some (.str kd),some (.str eb),some (.str ee),some (.ref lm),some (.ref d),some (.ref D2)] _ ?_
      clear hx7
      walk_at "e"
      refine⟨.inl ⟨rfl,_,SqL.of (sM _ _ g5)⟩,?_⟩
      walk_at "e"
      refine⟨i6 (by simp),fun l8 n8=>?_⟩
      obtain⟨G8,e8,f8,m8,_⟩:=b7 (o:= .lst [.ref d]) n8
      rw[e8]
      have s58:=sM.trans m8
      walk_at "e"
      refine⟨l8,D2,[.ref d],[mm],s2[i],_,rfl,SqL.of f8,.cons ⟨d,rfl,s58 _ _ d5⟩ .nil,fun mm' hmm'=>?_,SqL.of (m8 _ _ fM),by rw[List.length_singleton];omega,fun l9 G9 ys9 n9 m9 f9 ms9=>?_⟩
      ·rw[List.mem_singleton.mp hmm']
       refine⟨by rw[g.ks];exact nw.no,?_⟩
       have z:=congrArg List.length g.ks
       rw[List.length_map,List.length_append,List.length_map] at z
       have:=hcnt2 (s1.length+i)
       omega
      ·have s59:=s58.trans m9
       have g9:=s59 _ _ g5
       have hy9:=Paired.length ms9
       have hml:=a0K (D:=[mm]) (w:=s2[i]) (names:=(S.W.ts.filter fun x=>decide (x.2=(kd,i9 (pKV mm) eb,i9 (pKV mm) ee))).map (·.1))
       rw[List.length_singleton] at hml
       have hj':j<12 ^ 4:=by omega
       have h20:(12:Nat) ^ 4=20736:=by decide
       walk_at "e"
       refine⟨lm,l9,_,_,rfl,rfl,g9,f9,Nat.le_of_lt (a1q (by omega)),?_⟩
       refine⟨C3 (s5.trans s59) nlm,⟨_,_,rfl⟩,_,d7,?_,by rw[List.length_append];omega⟩
       rw[List.take_succ,hmm,List.flatMap_append]
       refine MsAt.app ((ms5.same s59).upd g9) ?_
       simpa using ms9.upd g9
    ·rintro σ G5 ⟨s5,⟨v9,v10,rfl⟩,zs,g5,ms5,zl⟩
     refine⟨⟨ys,SqL.of (s5 _ _ g3),Nat.le_refl _⟩,?_⟩
     rw[hyl,List.take_of_length_le (Nat.le_refl _)] at ms5
     refine hx4 [some (.ref B.a),some (.ref S.a),some (.ref m),some (.ref lf),some (.str s2[i]),some (.str kd),some (.str eb),some (.str ee),some (.ref lm),v9,v10] G5 ?_
     walk_at "e"
     refine⟨s3.trans s5,s5 _ _ l3,lm,zs,_,_,_,_,_,_,_,_,rfl,g5,s3.free nlm,ms5,?_,?_⟩
     ·rw[←Nat.add_assoc,a1K hii hu]
      exact ai.tie hB.nd hwk nw hends
     ·rw[←Nat.add_assoc,a1K hii hu,List.length_append,List.length_singleton,Nat.pow_succ,List.length_flatMap]
      refine Nat.le_trans (a3R (B:=12) fun mm _=>?_) (Nat.mul_le_mul_right _ dl)
      refine Nat.le_trans a0K ?_
      rw[List.length_singleton,Nat.one_mul];exact hol mm
   ·walk_at "e"
    have hu:A4 fx s2[i]=false:=by unfold A4;simpa using hb
    refine⟨s3,l3,lf,ys,D,_,_,_,_,_,_,_,rfl,g3,nlf,ms3,?_,?_⟩
    ·rw[←Nat.add_assoc,a1F hii hu];exact ai
    ·rw[←Nat.add_assoc,a1F hii hu];exact dl
  clear dl ai ms1 g1 nlf f2
  rintro σ G3 ⟨s3,l3,lf,ys,D,v4,v5,v6,v7,v8,v9,v10,rfl,g3,nlf,ms3,ai,dl⟩
  refine⟨⟨_,SqL.of l3,by rw[List.length_map];exact Nat.le_refl _⟩,?_⟩
  rw[List.take_of_length_le (by rw[List.length_append];omega)] at ai dl
  refine hx [some (.ref B.a),some (.ref S.a),some (.ref m),some (.ref lf),v4,v5,v6,v7,v8,v9,v10] G3 ?_
  walk_at "e"
  have hc9:=hcnt2 (s1++s2).length
  rw[List.take_of_length_le (Nat.le_refl _)] at hc9
  refine k lf G3 ys D _ nlf s3 g3 ms3 ai ?_ (Nat.le_trans dl (Nat.le_trans (a2t hc9) (by decide)))
  refine(List.perm_ext_iff_of_nodup ?_ hB.nd).mpr fun n=>?_
  ·exact List.nodup_append.mpr ⟨ho.nk,nds.sublist List.filter_sublist,fun a ha b hb e=>by
    have q:=(List.mem_filter.mp hb).2
    unfold A4 at q
    rw[←e] at q
    simp [ha] at q⟩
  ·constructor
   ·intro z
    rcases List.mem_append.mp z with q|q
    ·exact ho.fin n q
    ·exact ins n (List.mem_filter.mp q).1
   ·intro z
    by_cases hf:n∈fx.map (·.1)
    ·exact List.mem_append_left _ hf
    ·exact List.mem_append_right _ (List.mem_filter.mpr ⟨(a1.append b1).mem_iff.mpr z,by unfold A4;simpa using hf⟩)
def Y1 (K:PySem.W.Frag):Sp:=fun vs H Q _=>∃(B:Sd) (d:Addr) (m:List (Str×Str)),vs=[.ref B.a,.ref d]∧SdIs K H B∧H d=some (.dK (pKV m))∧(m.map (·.1)).Nodup∧(∀n∈i8 B.W,n∈m.map (·.1))∧∀(l:Addr) (H':Hp),H l=none→Same H H'→H' l=some (.lst ((O9 B.W m).map V.str))→Q (.ref l) H'
theorem a3X {f:Addr}{fd:FuncData}(T:Txt K mg)(F:Fun K "_law_line" "_law_line" L3 f fd):FnOk P w K mg base CX0 1 f fd ["_law_bar_here","_law_match"] (Y1 K):=by
 refine F.ok sc__law_line (fun vs H Q E h=>?_) (fun cdv A outer s H vs Q E hr h=>?_)
 ·obtain⟨B,d,m,rfl,_⟩:=h
  rfl
 ·obtain⟨B,d,m,rfl,hB,hd,nk,hin,k⟩:=h
  have hBl:=hB.len
  rw[z7] at hBl
  have hN:=sc__law_line.nd
  have hu:=B9 hr
  refine⟨_,QSs.r (qs1 (D5 (a0O (own:=["_law_word"]) (js:=[1]) (by kernel_rfl) rfl (V1 K (qOp (B4 K) (qB (J5 K rfl) T.b_sorted Boot.«sorted» (qa1 (qIx (kIx K hu) (qV 0) d9 (fun _ _=>rfl)) qa0)) (qB (J5 K rfl) T.b_sorted Boot.«sorted» (qa1 (qIx (kIx K hu) (qV 0) d9 (fun _ _=>rfl)) qa0)))) (fun _ _ _ _=>(qgN (i:=0) (show List.Nodup (["_law_word","_law_match"]:List Str) by decide+kernel) rfl (by walk_at "l"))) (fun _ _ _ _=>a7H) (fun _ _ _ _=>(qIx (kIx K hu) (qV 1) (qV 0) (fun _ _=>rfl)))))),?_⟩
  walk_at "r"
  refine d8 hB.at_.tup (h8 (j:=0) rfl) ?_
  walk_at "r"
  refine p0 (ss:=B.W.pts.map (·.1)) hB.at_.pts (by rw[B7,u9]) (by rw[List.length_map];omega) (fun s1 a1 a2 l1 n1=>?_)
  obtain⟨H1,e1,f1,m1,_⟩:=b7 (o:= .lst _) n1
  rw[e1]
  have B1:=hB.same m1
  walk_at "r"
  refine d8 B1.at_.tup (h8 (j:=1) rfl) ?_
  walk_at "r"
  refine p0 (ss:=B.W.ts.map (·.1)) B1.at_.ties (by rw[B1.at_.ts.keys,u9]) (by rw[List.length_map];omega) (fun s2 b1 b2 l2 n2=>?_)
  obtain⟨H2,e2,f2,m2,_⟩:=b7 (o:= .lst _) n2
  rw[e2]
  have g1:=a1.length_eq
  have g2:=b1.length_eq
  rw[List.length_map] at g1 g2
  have er1:s1=so1 B.W:=A8 a2 (D8 B.W).o1 (a1.nodup_iff.mpr (A6 hB.nd)) (a1.trans (D8 B.W).p1.symm)
  have er2:s2=so2 B.W:=A8 b2 (D8 B.W).o2 (b1.nodup_iff.mpr (N3 hB.nd)) (b1.trans (D8 B.W).p2.symm)
  refine a7g (m2 _ _ f1) f2 (i6 (by rw[List.length_map,List.length_map];omega)) (fun l3 n3=>?_)
  obtain⟨H3,e3,f3,m3,_⟩:=b7 (o:= .lst _) n3
  rw[e3]
  rw[←List.map_append] at f3
  have esn:s1++s2=nmC B.W:=by rw[er1,er2];rfl
  rw[esn] at f3
  have hnl:(nmC B.W).length≤100:=by rw[←esn,List.length_append];omega
  have m03:=m1.trans (m2.trans m3)
  refine z8 (SqL.of f3) ?_
  refine D3 (n:=(nmC B.W).length) (fun i out H'=>Same H3 H'∧out=((nmC B.W).take i).map fun n=>V.str (i9 (pKV m) n)) ⟨Same.refl _,rfl⟩ (fun i out H' hi hp=>⟨_,.str ((nmC B.W)[i]),SqL.of (hp.1 _ _ f3),by rw[List.getElem?_map,List.getElem?_eq_getElem hi];rfl⟩) ?_ ?_
  ·rintro N i v out H4' H4 hi ⟨s4,rfl⟩ y hN'
   obtain⟨rfl,hy⟩:=Itl.get y (SqL.of (s4 _ _ f3))
   rw[List.getElem?_map,List.getElem?_eq_getElem hi] at hy
   cases hy
   walk_at "r"
   refine⟨rfl,?_⟩
   walk_at "r"
   refine ixd (.inl (s4 _ _ (m03 _ _ hd))) ⟨_,I9 nk (X8 nk (hin _ (nmC_mem.mp (List.getElem_mem hi))))⟩ ?_
   refine⟨i6 (by rw[List.length_map,List.length_take];omega),hN' _ _ ⟨s4,?_⟩⟩
   exact a0t (fun n:Str=>V.str (i9 (pKV m) n)) (List.getElem?_eq_getElem hi)
  ·rintro out H4 ⟨s4,rfl⟩
   refine⟨⟨_,SqL.of (s4 _ _ f3),by rw[List.length_map];exact Nat.le_refl _⟩,fun D hD=>⟨i6 (by rw[List.length_map,List.length_take];omega),?_⟩⟩
   rw[List.take_of_length_le (Nat.le_refl _)]
   obtain⟨H5,e5,f5,m5,_⟩:=b7 (H:=H4) (o:= .lst ((nmC B.W).map fun n=>V.str (i9 (pKV m) n))) hD
   have m05:=m03.trans (s4.trans m5)
   refine k D _ (m03.free (s4.free hD)) ?_ ?_
   ·show Same H (upd H4 D _)
    rw[e5];exact m05
   ·show upd H4 D _ D=_
    rw[d7];unfold O9;rw[List.map_map];rfl
def b5O (H':Hp)(v:V)(bs:List Sd)(W:Web)(fx:List (Str×Str)):Prop:=
 ((∀b∈bs,u5 b.W W fx=[])∧v= .non)∨∃(i:Nat) (b:Sd) (row:List Str) (r:List (List Str)) (t d:Addr) (mm:List (Str×Str)),bs[i]?=some b∧(∀b'∈bs.take i,u5 b'.W W fx=[])∧u5 b.W W fx=row::r∧v= .ref t∧H' t=some (.tup [.int (i:Int),.ref d])∧H' d=some (.dK (pKV mm))∧(mm.map (·.1)).Nodup∧(mm.map (·.1)).Perm (i8 b.W)∧O9 b.W mm=row
def Z9 (K:PySem.W.Frag):Sp:=fun vs H Q _=>∃(S:Sd) (lb m:Addr) (bs:List Sd) (fx:List (Str×Str)),vs=[.ref S.a,.ref lb,.ref m]∧SdIs K H S∧(i8 S.W).length≤12∧SqL K H lb (bs.map fun s=>V.ref s.a)∧(∀b∈bs,SdIs K H b∧a5g b.W S.W fx∧((i8 b.W).filter (A4 fx)).length≤4)∧H m=some (.dK (pKV fx))∧∀(v:V) (H':Hp),Same H H'→b5O H' v bs S.W fx→Q v H'
theorem a5q {f:Addr}{fd:FuncData}(T:Txt K mg)(a0F:Cal P w K mg base CX0 2 "_law_all" ["_law_bar_here","_law_web_here","_law_match"] [] (a0a K))(T2:Cal P w K mg base CX0 1 "_law_line" ["_law_bar_here","_law_match"] [] (Y1 K))(F:Fun K "_law_due" "_law_due" O3 f fd):FnOk P w K mg base CX0 3 f fd ["_law_web_here","_law_bars","_law_match"] (Z9 K):=by
 refine F.ok sc__law_due (fun vs H Q E h=>?_) (fun cdv A outer s H vs Q E hr h=>?_)
 ·obtain⟨S,lb,m,bs,fx,rfl,_⟩:=h
  rfl
 ·obtain⟨S,lb,m,bs,fx,rfl,hS,h12,hb,hbs,hm,k⟩:=h
  have hN:=sc__law_due.nd
  have hu:=B9 hr
  refine⟨_,QSs.r (qsC (N5 PassesOwn.never rfl (Q6 K T.b_enumerate (qa1 (qV 1) qa0)) (qgT K rfl (qg1 (qgN (i:=3) hN rfl (by walk_at "l")) (qg1 (qgN (i:=4) hN rfl (by walk_at "l")) qg0)))
    (qsC (o0 (i:=5) hN rfl (by walk_at "l") (qC a0F (hr.mono (by decide)) r9 (qa1 (qV 4) (qa1 (qV 0) (qa1 (qV 2) qa0)))))
   (qs1 (qIf (w5 (b6V K hr) (qV 5) (O7 qa0) (t5 _)) (qsC (o0 (i:=6) hN rfl (by walk_at "l") (qIx (kIx K hu) (qV 5) d9 (fun _ _=>rfl)))
   (qsC (N5 PassesOwn.never rfl (V1 K (qV 5)) (qgN (i:=7) hN rfl (by walk_at "l"))
    (qs1 (qIf (w5 (b6c K hr) (qC T2 (hr.mono (by decide)) r9 (qa1 (qV 4) (qa1 (qV 7) qa0))) (qC T2 (hr.mono (by decide)) r9 (qa1 (qV 4) (qa1 (qV 6) qa0))) (t5 _)) (qs1 (o0 (i:=6) hN rfl (by walk_at "l") (qV 7))) qs0)))
   (qs1 (D5 (X7 (qa1 (qV 3) (qa1 (qV 6) qa0))))))) qs0))))
   (qs1 (D5 a5Z))),?_⟩
  refine j9 fun nx1 hx=>?_
  walk_at "e"
  refine⟨_,rfl,.inl ⟨lb,_,rfl,hb,?_⟩⟩
  refine K2 (n:=bs.length) (fun i σ H'=>Same H H'∧(∃v3 v4 v5 v6 v7,σ=[some (.ref S.a),some (.ref lb),some (.ref m),v3,v4,v5,v6,v7])∧∀b∈bs.take i,u5 b.W S.W fx=[]) ⟨Same.refl _,⟨_,_,_,_,_,rfl⟩,fun b h=>by simp at h⟩ (fun i σ H' hi hp=>⟨_,.ref (bs[i]).a,hp.1.seq hb,by rw[List.getElem?_map,List.getElem?_eq_getElem hi];rfl⟩) ?_ ?_
  ·rintro bk i v σ H1 H1' hi ⟨s1,⟨v3,v4,v5,v6,v7,rfl⟩,hno⟩ ⟨t,x,hx9,nt,rfl,rfl⟩
   have hx':=hx9 _ (s1.seq hb)
   rw[List.getElem?_map,List.getElem?_eq_getElem hi] at hx'
   cases hx'
   have hbm:=List.getElem_mem hi
   obtain⟨hB,ho,h4⟩:=hbs _ hbm
   generalize hbe:bs[i]=B at*
   have hbi:bs[i]?=some B:=by rw[List.getElem?_eq_getElem hi,hbe]
   obtain⟨H2,e2,f2,m2,_⟩:=b7 (o:= .tup _) nt
   rw[e2]
   have s2:=s1.trans m2
   refine K3 (SqT.of f2) rfl ?_
   walk_at "e"
   refine j9 fun nx2 hx2=>?_
   walk_at "e"
   refine⟨B,S,m,fx,rfl,hB.same s2,hS.same s2,s2 _ _ hm,ho,h4,h12,fun lf H3 ys D ws nlf m3 f3 ms ai pm dl=>?_⟩
   have s3:=s2.trans m3
   have B3:=hB.same s3
   have hyl:=Paired.length ms
   have rowOf:∀mm∈D,O9 B.W mm∈u5 B.W S.W fx:=fun mm hmm=>((ai.ok mm hmm).row ho hB.nd hB.ends pm).2
   walk_at "e"
   refine hx2 [some (.ref S.a),some (.ref lb),some (.ref m),some (.int (i:Int)),some (.ref B.a),some (.ref lf),v6,v7] _ ?_
   clear hx2
   walk_at "e"
   refine⟨i6 (by simp),fun l4 n4=>?_⟩
   obtain⟨H4,e4,f4,m4,_⟩:=b7 (o:= .lst []) n4
   rw[e4]
   have s4:=s3.trans m4
   refine⟨lf,l4,ys,rfl,rfl,SqL.of (m4 _ _ f3),SqL.of f4,?_⟩
   cases hys:ys with
   |nil=>
    rw[show(!([]:List V).isEmpty)=false from rfl]
    walk_at "e"
    refine⟨s4,⟨_,_,_,_,_,rfl⟩,fun b h=>?_⟩
    rw[List.take_succ,hbi] at h
    rcases List.mem_append.mp h with z|z
    ·exact hno b z
    ·rw[show b=B by simpa using z]
     have hD0:D=[]:=List.eq_nil_of_length_eq_zero (by rw[hys] at hyl;simpa using hyl.symm)
     cases hr:u5 B.W S.W fx with
     |nil=>rfl
     |cons row r=>
      obtain⟨mm,hmm,_⟩:=ai.row ho hB.nd pm (row:=row) (by rw[hr];exact List.mem_cons_self)
      rw[hD0] at hmm;cases hmm
   |cons y0 yr=>
    rw[show(!(y0::yr).isEmpty)=true from rfl]
    have hD1:0<D.length:=by rw[←hyl,hys];simp
    have hy0:ys[0]?=some y0:=by rw[hys];rfl
    obtain⟨m0,hm0,d0,rfl,hd0⟩:=w4 ms hy0
    walk_at "e"
    refine j9 fun nx3 hx2=>?_
    walk_at "e"
    refine i7 (SqL.of (m4 _ _ f3)) (h8 (j:=0) hy0) ?_
    walk_at "e"
    refine hx2 [some (.ref S.a),some (.ref lb),some (.ref m),some (.int (i:Int)),some (.ref B.a),some (.ref lf),some (.ref d0),v7] _ ?_
    clear hx2
    refine j9 fun nx4 hx2=>?_
    walk_at "e"
    refine z8 (SqL.of (m4 _ _ f3)) ?_
    have keysB:∀mm∈D,∀n∈i8 B.W,n∈mm.map (·.1):=fun mm hmm n hn=>by rw[(ai.ok mm hmm).ks];exact pm.mem_iff.mpr hn
    refine K2 (n:=ys.length) (fun j σ H'=>Same H4 H'∧∃(dl':Addr) (ml:List (Str×Str)) (v7:Option V),σ=[some (.ref S.a),some (.ref lb),some (.ref m),some (.int (i:Int)),some (.ref B.a),some (.ref lf),some (.ref dl'),v7]∧H4 dl'=some (.dK (pKV ml))∧ml∈D∧∀mm∈D.take j,¬LexLt (O9 B.W mm) (O9 B.W ml)) ⟨Same.refl _,d0,m0,_,rfl,m4 _ _ hd0,List.mem_of_getElem? hm0,fun mm z=>by simp at z⟩ (fun j σ H' hj hp=>⟨ys,ys[j],SqL.of (hp.1 _ _ (m4 _ _ f3)),List.getElem?_eq_getElem hj⟩) ?_ ?_
    ·rintro bk' j v σ G1' G1 hj ⟨g1,dl',ml,v7,rfl,hdl,hml,hmin⟩ y'
     obtain⟨rfl,hy'⟩:=Itl.get y' (SqL.of (g1 _ _ (m4 _ _ f3)))
     obtain⟨mj,hmj,dj,rfl,hdj⟩:=w4 ms hy'
     have hmjD:=List.mem_of_getElem? hmj
     have nkj:=(ai.ok mj hmjD).nk
     have nkl:=(ai.ok ml hml).nk
     have sG:=s4.trans g1
     have etk:D.take (j+1)=D.take j++[mj]:=by rw[List.take_succ,hmj];rfl
     walk_at "e"
     refine⟨B,dj,mj,rfl,hB.same sG,(m4.trans g1) _ _ hdj,nkj,keysB mj hmjD,fun l5 G2 n5 m5 f5=>?_⟩
     walk_at "e"
     refine⟨B,dl',ml,rfl,hB.same (sG.trans m5),(g1.trans m5) _ _ hdl,nkl,keysB ml hml,fun l6 G3 n6 m6 f6=>?_⟩
     have f5':=m6 _ _ f5
     have g3:=g1.trans (m5.trans m6)
     rcases a2O (a:=O9 B.W mj) (b:=O9 B.W ml) (by rw[a0c,a0c]) with e|⟨q,a,b,ha,hb',hq,hab⟩
     ·refine .inr ⟨l5,l6,O9 B.W mj,rfl,rfl,SqL.of f5',SqL.of (by rw[e];exact f6),?_⟩
      walk_at "e"
      refine⟨g3,dl',ml,_,rfl,hdl,hml,fun mm z=>?_⟩
      rw[etk] at z
      rcases List.mem_append.mp z with z|z
      ·exact hmin mm z
      ·rw[List.mem_singleton.mp z,e];exact fun w=>a6C w
     ·refine .inl ⟨l5,l6,O9 B.W mj,O9 B.W ml,q,a,b,rfl,rfl,SqL.of f5',SqL.of f6,ha,hb',hq,hab,?_⟩
      walk_at "e"
      refine M4 (fun hlt=>?_) (fun hlt=>?_)
      ·have hL:LexLt (O9 B.W mj) (O9 B.W ml):=⟨q,a,b,ha,hb',hq,hlt⟩
       walk_at "e"
       refine⟨g3,dj,mj,_,rfl,m4 _ _ hdj,hmjD,fun mm z=>?_⟩
       rw[etk] at z
       rcases List.mem_append.mp z with z|z
       ·exact fun w=>hmin mm z (w.tr hL)
       ·rw[List.mem_singleton.mp z];exact fun w=>a6C w
      ·walk_at "e"
       refine⟨g3,dl',ml,_,rfl,hdl,hml,fun mm z=>?_⟩
       rw[etk] at z
       rcases List.mem_append.mp z with z|z
       ·exact hmin mm z
       ·rw[List.mem_singleton.mp z]
        rintro⟨q',a',b',ha',hb'',hq',hlt'⟩
        rcases Nat.lt_trichotomy q q' with h|h|h
        ·have z1:=hq' q h
         rw[ha,hb'] at z1
         exact hab (Option.some.inj z1)
        ·subst h
         rw[ha] at ha'
         rw[hb'] at hb''
         cases ha'
         cases hb''
         exact hlt hlt'
        ·have z1:=hq q' h
         rw[ha',hb''] at z1
         rw[Option.some.inj z1] at hlt'
         exact List.lt_irrefl _ hlt'
    ·rintro σ G1 ⟨g1,dl',ml,v7,rfl,hdl,hml,hmin⟩
     refine⟨⟨ys,SqL.of (g1 _ _ (m4 _ _ f3)),Nat.le_refl _⟩,?_⟩
     rw[hyl,List.take_of_length_le (Nat.le_refl _)] at hmin
     refine hx2 [some (.ref S.a),some (.ref lb),some (.ref m),some (.int (i:Int)),some (.ref B.a),some (.ref lf),some (.ref dl'),v7] G1 ?_
     walk_at "e"
     refine⟨i6 (by simp),fun t9 n9=>?_⟩
     obtain⟨G2,e9,f9,m9,_⟩:=b7 (o:= .tup [.int (i:Int),.ref dl']) n9
     rw[e9]
     have hin:=rowOf ml hml
     cases hr:u5 B.W S.W fx with
     |nil=>rw[hr] at hin;cases hin
     |cons row r=>
      obtain⟨mm,hmm,emm⟩:=ai.row ho hB.nd pm (row:=row) (by rw[hr];exact List.mem_cons_self)
      have hle:=hmin mm hmm
      rw[emm] at hle
      have el:=a6v (a9d hS.nd) hr hin hle
      exact k _ _ (s4.trans (g1.trans m9)) (.inr ⟨i,B,row,r,t9,dl',ml,hbi,hno,hr,rfl,f9,(g1.trans m9) _ _ hdl,(ai.ok ml hml).nk,by rw[(ai.ok ml hml).ks];exact pm,el⟩)
  rintro σ H1 ⟨s1,⟨v3,v4,v5,v6,v7,rfl⟩,hno⟩
  refine⟨⟨_,s1.seq hb,by rw[List.length_map];exact Nat.le_refl _⟩,?_⟩
  rw[List.take_of_length_le (Nat.le_refl _)] at hno
  refine hx [some (.ref S.a),some (.ref lb),some (.ref m),v3,v4,v5,v6,v7] H1 ?_
  walk_at "e"
  exact k _ _ s1 (.inl ⟨hno,rfl⟩)
theorem a4L (f:Str→Str):∀l:List Str,l.zip (l.map f)=l.map fun n=>(n,f n)
 |[]=>rfl
 |x::l=>by rw[List.map_cons,List.zip_cons_cons,List.map_cons,a4L f l]
theorem b0R {B:Web}{mm:List (Str×Str)}(ndB:(i8 B).Nodup)(nk:(mm.map (·.1)).Nodup)(pm:(mm.map (·.1)).Perm (i8 B)):((nmC B).zip (O9 B mm)).Perm mm:=by
 unfold O9
 rw[a4L]
 refine b2g ?_ (fun x hx=>?_) ?_
 ·have z:(((nmC B).map fun n=>(n,i9 (pKV mm) n)).map (·.1)).Nodup:=by rw[List.map_map];exact(List.map_id' (nmC B)).symm▸a3F ndB
  exact List.Pairwise.imp (fun y e=>y (by rw[e])) (List.pairwise_map.mp z)
 ·obtain⟨n,hn,rfl⟩:=List.mem_map.mp hx
  exact X8 nk (pm.mem_iff.mpr (nmC_mem.mp hn))
 ·rw[List.length_map,a6z,←pm.length_eq,List.length_map];exact Nat.le_refl _
theorem a6K {bs:List Sd}{W:Web}{fx:List (Str×Str)}{i i':Nat}{b b':Sd}(h:bs[i]?=some b)(h':bs[i']?=some b')(e:∀c∈bs.take i,u5 c.W W fx=[])(e':∀c∈bs.take i',u5 c.W W fx=[])(hr:u5 b.W W fx≠[])(hr':u5 b'.W W fx≠[]):i=i'∧b=b':=by
 have in_:∀{j k:Nat} {c:Sd},bs[j]?=some c→j<k→c∈bs.take k:=fun{j k c} hj hk=>List.mem_of_getElem? (i:=j) (by rw[List.getElem?_take,if_pos hk];exact hj)
 rcases Nat.lt_trichotomy i i' with z|z|z
 ·exact absurd (e' b (in_ h z)) hr
 ·subst z
  rw[h] at h'
  exact⟨rfl,Option.some.inj h'⟩
 ·exact absurd (e b' (in_ h' z)) hr'
theorem a6T {H:Hp}{i:Nat}{t t' d d':Addr}{B:Sd}{mm:List (Str×Str)}(ndB:(i8 B.W).Nodup)(h:H t=some (.tup [.int (i:Int),.ref d]))(hd:H d=some (.dK (pKV ((nmC B.W).zip (O9 B.W mm)))))(h':H t'=some (.tup [.int (i:Int),.ref d']))(hd':H d'=some (.dK (pKV mm)))(nk:(mm.map (·.1)).Nodup)(pm:(mm.map (·.1)).Perm (i8 B.W)):SqN K H (.ref t) (.ref t') [true,true]:=by
 refine⟨t,t',_,_,rfl,rfl,.inl ⟨SqT.of h,SqT.of h'⟩,rfl,rfl,fun j x y bb hx hy hb=>?_⟩
 match j,hx,hy,hb with
 |0,hx,hy,hb=>
  cases hx;cases hy;cases hb
  have z:Eq1 K H (.int (i:Int)) (.int (i:Int)) (eqV (.int (i:Int)) (.int (i:Int))):= .flat rfl rfl
  rw[R7 rfl] at z
  exact EqN.of0 (.inl z) _
 |1,hx,hy,hb=>
  cases hx;cases hy;cases hb
  exact EqN.of0 (.inr ⟨d,d',rfl,rfl,a9P hd hd' (b0R ndB nk pm) nk⟩) _
 |j+2,hx,_,_=>cases hx
def U1 (K:PySem.W.Frag):Sp:=fun vs H Q _=>∃(S L R:Sd) (r bl m:Addr) (bs:List Sd) (fx:List (Str×Str)),vs=[.ref S.a,.ref r,.ref m]∧SdIs K H S∧(i8 S.W).length≤12∧RuleIs K H r bl L R bs∧bs.length≤10∧H m=some (.dK (pKV fx))∧(fx.map (·.1)).Nodup∧(∀b∈bs,a5g b.W S.W fx∧((i8 b.W).filter (A4 fx)).length≤4∧b3J b.W S.W fx)∧∀H',Same H H'→Q (.bl true) H'
theorem a3a {f:Addr}{fd:FuncData}(T:Txt K mg)(a0x:Cal P w K mg base CX0 3 "_law_due" ["_law_web_here","_law_bars","_law_match"] [] (Z9 K))(a0X:Cal P w K mg base CX0 9 "barred" ["web","rule","match"] [] (a1n K))(F:Fun K "_law_right" "_law_right" J0 f fd):FnOk P w K mg base CX0 10 f fd ["_law_web_here","_law_rule_here","_law_match"] (U1 K):=by
 refine F.ok sc__law_right (fun vs H Q E h=>?_) (fun cdv A outer s H vs Q E hr h=>?_)
 ·obtain⟨S,L,R,r,bl,m,bs,fx,rfl,_⟩:=h
  rfl
 ·obtain⟨S,L,R,r,bl,m,bs,fx,rfl,hS,h12,hR,hbl,hm,nkf,hb,k⟩:=h
  have hN:=sc__law_right.nd
  have hu:=B9 hr
  refine⟨_,QSs.r (qsC (o0 (i:=3) hN rfl (by walk_at "l") (qC a0x (hr.mono (by decide)) r9 (qa1 (qV 0) (qa1 (qIx (kIx K hu) (qV 1) d9 (fun _ _=>rfl)) (qa1 (qV 2) qa0)))))
   (qsC (o0 (i:=4) hN rfl (by walk_at "l") (qBT (a2A K rfl) T.b_dict Boot.«dict» (qa1 (qV 2) qa0)))
   (qsC (o0 (i:=5) hN rfl (by walk_at "l") (qC a0X (hr.mono (by decide)) r9 (qa1 (qV 0) (qa1 (qV 1) (qa1 (qV 4) qa0)))))
   (qsC (qIf (w5 a9J (qV 3) a5Z (t5 _)) (qs1 (D5 (a3d a9J (qV 5) a5Z (t5 _)))) qs0)
   (qsC (qIf (qtW (a4H (a6E (a0s K (qB (b0o K P w) T.b_isinstance Boot.«isinstance» (qa1 (qV 5) (qa1 (qTy "tuple" T.b_tuple Boot.«tuple») qa0))))) (a4H (w5 (a3C K hr) (qV 5) (qV 3) (t5 _)) (a4H (a0s K (qB (b0o K P w) T.b_isinstance Boot.«isinstance» (qa1 (qIx (kIx K hu) (qV 5) d9 (fun _ _=>rfl)) (qa1 (qTy "bool" T.b_bool Boot.«bool») qa0)))) (a4O (a6E (a0s K (qB (b0o K P w) T.b_isinstance Boot.«isinstance» (qa1 (qIx (kIx K hu) (qV 5) d9 (fun _ _=>rfl)) (qa1 (qTy "int" T.b_int Boot.«int») qa0)))))))))) (qs1 (D5 qBl)) qs0)
   (qsC (qEx (qM0 PySem.F.plainAttrs_dict PySem.F.slot_dict_clear PySem.F.type_dict_clear a2F K (qIx (kIx K hu) (qV 5) d9 (fun _ _=>rfl))))
   (qs1 (D5 (b6Y (a3d (Q8 K hr) (qV 4) (qV 2) (t5 _)) (b7g (a3d (Q8 K hr) (qC a0X (hr.mono (by decide)) r9 (qa1 (qV 0) (qa1 (qV 1) (qa1 (qV 4) qa0)))) (qV 3) (t5 _)))))))))))),?_⟩
  refine j9 fun nx1 hx=>?_
  walk_at "e"
  refine d8 hR.tup (h8 (j:=2) rfl) ?_
  walk_at "e"
  refine⟨S,bl,m,bs,fx,rfl,hS,h12,hR.bl,fun b hbm=>⟨hR.bars b hbm,(hb b hbm).1,(hb b hbm).2.1⟩,hm,fun vd H1 m1 due=>?_⟩
  refine hx [some (.ref S.a),some (.ref r),some (.ref m),some vd,none,none] _ ?_
  clear hx
  refine j9 fun nx2 hx=>?_
  walk_at "e"
  refine K4 (.inl (m1 _ _ hm)) (fun h2 n2=>?_)
  obtain⟨H2,e2,f2,m2,_⟩:=b7 (o:= .dK (pKV fx)) n2
  rw[e2]
  have s2:=m1.trans m2
  have R1:=hR.same m1
  have hnb:∀b∈bs,h2≠b.p∧h2≠b.q∧b3J b.W S.W fx:=fun b hbm=>⟨(b9 (R1.bars b hbm).hp n2).symm,(b9 (R1.bars b hbm).hq n2).symm,(hb b hbm).2.2⟩
  walk_at "e"
  refine hx [some (.ref S.a),some (.ref r),some (.ref m),some vd,some (.ref h2),none] _ ?_
  clear hx
  refine j9 fun nx3 hx=>?_
  walk_at "e"
  refine⟨S,L,R,r,bl,h2,bs,fx,rfl,hS.same s2,hR.same s2,hbl,f2,hnb,fun vf H3 m3 brd=>?_⟩
  have s3:=s2.trans m3
  refine hx [some (.ref S.a),some (.ref r),some (.ref m),some vd,some (.ref h2),some vf] _ ?_
  clear hx
  refine j9 fun nx4 hx=>?_
  walk_at "e"
  rcases due with⟨hall,rfl⟩|⟨i,b,row,rr,t,d,mm,hbi,hpre,hrow,rfl,ht,hd,nkm,pmm,erow⟩
  ·rcases brd with⟨_,rfl⟩|⟨i',b',row',rr',t',d',hbi',_,hrow',_⟩
   ·rw[if_pos (by simp)]
    walk_at "e"
    rw[show decide (V.non=V.non)=true by simp]
    exact k _ s3
   ·rw[hall b' (List.mem_of_getElem? hbi')] at hrow';cases hrow'
  ·have hbm:=List.mem_of_getElem? hbi
   have hB:=hR.bars b hbm
   rcases brd with⟨hall,rfl⟩|⟨i',b',row',rr',t',d',hbi',hpre',hrow',rfl,ht',hd',nd'⟩
   ·rw[hall b hbm] at hrow;cases hrow
   ·obtain⟨rfl,rfl⟩:=a6K hbi hbi' hpre hpre' (by rw[hrow];simp) (by rw[hrow'];simp)
    rw[hrow] at hrow'
    cases hrow'
    rw[←erow] at hd'
    have m13:=m2.trans m3
    rw[if_neg (by simp)]
    walk_at "e"
    refine hx [some (.ref S.a),some (.ref r),some (.ref m),some (.ref t),some (.ref h2),some (.ref t')] _ ?_
    clear hx
    refine j9 fun nx5 hx=>?_
    walk_at "e"
    refine b0p (a9y (t:="tuple") (.inr (.inl ⟨rfl,_,SqT.of ht'⟩)) (by simp) ?_)
    rw[show a5a "tuple" "tuple"=true from rfl]
    walk_at "e"
    refine .inr ⟨[true,true],a6T hB.nd ht' hd' (m13 _ _ ht) (m13 _ _ hd) nkm pmm,?_⟩
    rw[show(!List.all [true,true] id)=false from rfl]
    walk_at "e"
    refine d8 (SqT.of ht') (h8 (j:=0) rfl) ?_
    walk_at "e"
    refine b0p (a9y (t:="int") rfl (by simp) ?_)
    rw[show a5a "int" "bool"=false from rfl]
    walk_at "e"
    refine d8 (SqT.of ht') (h8 (j:=0) rfl) ?_
    walk_at "e"
    refine b0p (a9y (t:="int") rfl (by simp) ?_)
    rw[show a5a "int" "int"=true from rfl]
    walk_at "e"
    refine hx [some (.ref S.a),some (.ref r),some (.ref m),some (.ref t),some (.ref h2),some (.ref t')] _ ?_
    clear hx
    refine j9 fun nx6 hx=>?_
    walk_at "e"
    refine d8 (SqT.of ht') (h8 (j:=1) rfl) ?_
    walk_at "e"
    refine⟨.inr (.inr (.inl ⟨rfl,.inl ⟨_,hd'⟩⟩)),?_⟩
    walk_at "e"
    refine⟨d',_,rfl,rfl,hd',?_⟩
    have s4:=C3 (o:= .dK []) m3 nd'
    generalize upd H3 d' (.dK [])=H4 at s4⊢
    have s04:=s2.trans s4
    walk_at "e"
    refine hx [some (.ref S.a),some (.ref r),some (.ref m),some (.ref t),some (.ref h2),some (.ref t')] _ ?_
    clear hx
    walk_at "e"
    refine b2p (s4 _ _ f2) (s04 _ _ hm) nkf ?_
    walk_at "e"
    refine⟨S,L,R,r,bl,h2,bs,fx,rfl,hS.same s04,hR.same s04,hbl,s4 _ _ f2,hnb,fun vg H5 m5 brd2=>?_⟩
    rcases brd2 with⟨hall,rfl⟩|⟨i2,b2,row2,rr2,t2,d2,hbi2,hpre2,hrow2,rfl,ht2,hd2,nd2⟩
    ·rw[hall b hbm] at hrow;cases hrow
    ·obtain⟨rfl,rfl⟩:=a6K hbi hbi2 hpre hpre2 (by rw[hrow];simp) (by rw[hrow2];simp)
     rw[hrow] at hrow2
     cases hrow2
     rw[←erow] at hd2
     have m25:=m2.trans (s4.trans m5)
     walk_at "e"
     refine .inr ⟨[true,true],a6T hB.nd ht2 hd2 (m25 _ _ ht) (m25 _ _ hd) nkm pmm,?_⟩
     rw[show List.all [true,true] id=true from rfl]
     exact k _ (s04.trans m5)
theorem b2w {fr:List (Str×Str)}(nd:(fr.map (·.1)).Nodup){n s:Str}(h:(n,s)∈fr):TxtAt (pKV fr) n∧i9 (pKV fr) n=s:=⟨⟨s,I9 nd h⟩,a1c (I9 nd h)⟩
theorem a4b (pr:List (Str×Str)):(pr.map swp).map (·.1)=pr.map (·.2):=by rw[List.map_map];rfl
theorem b1F (pr:List (Str×Str)):(pr.map swp).map (·.2)=pr.map (·.1):=by rw[List.map_map];rfl
section
variable {W L R B:Web} {os:List Str} {pr:List (Str×Str)}
theorem MP.nds (h:MP W os pr L.pts L.ts (i8 R)):((pr.map swp).map (·.1)).Nodup:=by rw[a4b];exact h.n2
theorem MP.at_ (h:MP W os pr L.pts L.ts (i8 R)){n w:Str}(hx:(n,w)∈pr):i9 (pKV (pr.map swp)) w=n:=(b2w h.nds (List.mem_map.mpr ⟨(n,w),hx,rfl⟩)).2
theorem b6R (h:MP W os pr L.pts L.ts (i8 R))(b:a6V L B)(ndB:(i8 B).Nodup)(eL:∀x∈L.ts,x.2.2.1∈L.pts.map (·.1)∧x.2.2.2∈L.pts.map (·.1)):a5g B W (pr.map swp):=by
 have hk:(pr.map swp).map (·.1)=i8 L:=by rw[a4b,h.wd];rfl
 have inB:∀n∈i8 L,n∈i8 B:=fun n hn=>by
  rcases List.mem_append.mp hn with z|z
  ·obtain⟨x,hx,rfl⟩:=List.mem_map.mp z
   exact List.mem_append_left _ (List.mem_map.mpr ⟨x,b.p x hx,rfl⟩)
  ·obtain⟨x,hx,rfl⟩:=List.mem_map.mp z
   exact List.mem_append_right _ (List.mem_map.mpr ⟨x,b.t x hx,rfl⟩)
 refine⟨h.nds,by rw[b1F];exact h.n1,fun n hn=>inB n (by rw[←hk];exact hn),fun x hx hxk=>?_,fun x hx hxk=>?_⟩
 ·rw[hk] at hxk
  rcases List.mem_append.mp hxk with z|z
  ·obtain⟨y,hy,e⟩:=List.mem_map.mp z
   have e2:y=x:=by
    have e3:y.2=x.2:=C1 (A6 ndB) (show(x.1,y.2)∈B.pts by rw[←e];exact b.p y hy) hx
    exact Prod.ext e e3
   obtain⟨n,h1,h2⟩:=h.pt y hy
   rw[←e2,h.at_ h1];exact h2
  ·obtain⟨y,hy,e⟩:=List.mem_map.mp z
   exact((List.nodup_append.mp ndB).2.2 x.1 (List.mem_map.mpr ⟨x,hx,rfl⟩) x.1 (List.mem_map.mpr ⟨y,b.t y hy,e⟩) rfl).elim
 ·rw[hk] at hxk
  rcases List.mem_append.mp hxk with z|z
  ·obtain⟨y,hy,e⟩:=List.mem_map.mp z
   exact((List.nodup_append.mp ndB).2.2 x.1 (List.mem_map.mpr ⟨y,b.p y hy,e⟩) x.1 (List.mem_map.mpr ⟨x,hx,rfl⟩) rfl).elim
  ·obtain⟨y,hy,e⟩:=List.mem_map.mp z
   have e2:y=x:=by
    have e3:y.2=x.2:=C1 (N3 ndB) (show(x.1,y.2)∈B.ts by rw[←e];exact b.t y hy) hx
    exact Prod.ext e e3
   obtain⟨n,s,t,h1,h2,h3,h4⟩:=h.ti y hy
   rw[←e2,hk,h.at_ h1,h.at_ h2,h.at_ h3]
   exact⟨List.mem_append_left _ (eL y hy).1,List.mem_append_left _ (eL y hy).2,h4⟩
theorem a5l {α:Type}(p:α→Bool):∀l:List α,l.length=(l.filter p).length+(l.filter fun x=>!p x).length
 |[]=>rfl
 |x::l=>by
  have z:=a5l p l
  rw[List.filter_cons,List.filter_cons]
  cases h:p x<;>simp<;>omega
theorem b4G (h:MP W os pr L.pts L.ts (i8 R))(b:a6V L B)(ndB:(i8 B).Nodup)(ndL:(i8 L).Nodup):((i8 B).filter (A4 (pr.map swp))).length≤4:=by
 have hk:(pr.map swp).map (·.1)=i8 L:=by rw[a4b,h.wd];rfl
 have z:=a5l (A4 (pr.map swp)) (i8 B)
 have hin:(i8 L).length≤((i8 B).filter fun n=>!A4 (pr.map swp) n).length:=Q1 ndL fun n hn=>List.mem_filter.mpr ⟨by
  rcases List.mem_append.mp hn with z|z
  ·obtain⟨x,hx,rfl⟩:=List.mem_map.mp z
   exact List.mem_append_left _ (List.mem_map.mpr ⟨x,b.p x hx,rfl⟩)
  ·obtain⟨x,hx,rfl⟩:=List.mem_map.mp z
   exact List.mem_append_right _ (List.mem_map.mpr ⟨x,b.t x hx,rfl⟩),by unfold A4;rw[hk];simpa using hn⟩
 have l1:=b.l1
 have l2:=b.l2
 have e1:=z7 B
 have e2:=z7 L
 omega
theorem b1e (h4:((i8 B).filter (A4 (pr.map swp))).length≤4)(hB:(i8 B).length≤24)(hW:(i8 W).length≤12):((i8 B).length+1)*(max W.pts.length W.ts.length+1) ^ ((i8 B).filter (A4 (pr.map swp))).length≤1000000:=by
 have e:=z7 W
 have h1:max W.pts.length W.ts.length+1≤13:=by omega
 have h2:=Nat.pow_le_pow_left h1 ((i8 B).filter (A4 (pr.map swp))).length
 have h3:(13:Nat) ^ ((i8 B).filter (A4 (pr.map swp))).length≤13 ^ 4:=Nat.pow_le_pow_right (by decide) h4
 exact Nat.le_trans (Nat.mul_le_mul (show(i8 B).length+1≤25 by omega) (Nat.le_trans h2 h3)) (by decide)
end
theorem a4M (ns:List Int)(a b:Option Int):∃cs:List Int,a1i (ns.map V.int) a b=cs.map V.int∧cs.length≤ns.length:=by
 unfold a1i
 rw[←List.map_drop,←List.map_take]
 exact⟨_,rfl,by rw[List.length_take,List.length_drop];omega⟩
def a4q (K:PySem.W.Frag):Sp:=fun vs H Q _=>∃(a:Addr) (ns:List Int),vs=[.ref a]∧SqL K H a (ns.map V.int)∧ns.length≤63∧∀H',Q (.bl true) H'
set_option maxHeartbeats 8000000 in
theorem b4Q {f:Addr}{fd:FuncData}(T:Txt K mg)(D1:Cal P w K mg base CX0 1 "_law_mixed" ["_law_cell","_law_k"] [] (O6 K))(B5:Cal P w K mg base CX0 1 "_law_cell_at" ["_law_script","_law_k"] [] (K1 K))(P9:Cal P w K mg base CX0 1 "_law_words" ["_law_number","_law_many"] [] (U0 K))(a0B:Cal P w K mg base CX0 2 "_law_web" ["_law_script","_law_number","_law_kinds"] [] (Z7 K))(U9:Cal P w K mg base CX0 1 "_law_stream" ["_law_cell","_law_many"] [] (S7 K))(a0d:Cal P w K mg base CX0 2 "_law_rule" ["_law_web_here","_law_xs","_law_words_here","_law_kinds"] [] (Y5 K))(a0A:Cal P w K mg base CX0 1 "_law_bar" ["_law_left","_law_xs","_law_words_here","_law_kinds","_law_k"] [] (Z4 K))(X6:Cal P w K mg base CX0 10 "_law_right" ["_law_web_here","_law_rule_here","_law_match"] [] (U1 K))(F:Fun K "law" "law" a0S f fd):FnOk P w K mg base CX0 11 f fd ["_law_script"] (a4q K):=by
 refine F.ok sc_law (fun vs H Q E h=>?_) (fun cdv A outer s H vs Q E hr h=>?_)
 ·obtain⟨a,ns,rfl,_⟩:=h
  rfl
 ·obtain⟨a,ns,rfl,hA,hl,k⟩:=h
  have hN:=sc_law.nd
  have hu:=B9 hr
  refine⟨_,QSs.r (qsC (o0 (i:=1) hN rfl (by walk_at "l") (qC D1 (hr.mono (by decide)) r9 (qa1 (qC B5 (hr.mono (by decide)) r9 (qa1 (qV 0) (qa1 d9 qa0))) (qa1 d9 qa0))))
   (qsC (o0 (i:=2) hN rfl (by walk_at "l") (qC D1 (hr.mono (by decide)) r9 (qa1 (qC B5 (hr.mono (by decide)) r9 (qa1 (qV 0) (qa1 d9 qa0))) (qa1 d9 qa0))))
   (qsC (o0 (i:=3) hN rfl (by walk_at "l") (qC P9 (hr.mono (by decide)) r9 (qa1 (qOp u7 (qV 2) d9) (qa1 (qOp (B4 K) d9 (qOp j7 (qV 2) d9)) qa0))))
   (qsC (o0 (i:=4) hN rfl (by walk_at "l") (qC a0B (hr.mono (by decide)) r9 (qa1 (qV 0) (qa1 (qOp (B4 K) (qOp K0 (qOp u7 (qV 1) d9) d9) (qOp j7 (qV 1) d9)) (qa1 (qV 3) qa0)))))
   (qsC (o0 (i:=5) hN rfl (by walk_at "l") (X7 (qa1 (qBT (a2A K rfl) T.b_dict Boot.«dict» (qa1 (qIx (kIx K hu) (qV 4) d9 (fun _ _=>rfl)) qa0)) (qa1 (qBT (a2A K rfl) T.b_dict Boot.«dict» (qa1 (qIx (kIx K hu) (qV 4) d9 (fun _ _=>rfl)) qa0)) qa0))))
   (qsC (N5 PassesOwn.never rfl (V1 K (qSl (kSl K) (qOp (B4 K) (qSl (kSl K) (qV 0) (qoS d9) (qoS d9)) (O7 (qa1 (qV 1) qa0))) qoN (qoS d9))) (qgN (i:=6) hN rfl (by walk_at "l"))
    (qsC (o0 (i:=7) hN rfl (by walk_at "l") (qC U9 (hr.mono (by decide)) r9 (qa1 (qV 6) (qa1 d9 qa0))))
   (qsC (o0 (i:=8) hN rfl (by walk_at "l") (qC P9 (hr.mono (by decide)) r9 (qa1 (qOp u7 (qIx (kIx K hu) (qV 7) d9 (fun _ _=>rfl)) d9) (qa1 d9 qa0))))
   (qsC (U3 (qC a0d (hr.mono (by decide)) r9 (qa1 (qV 4) (qa1 (qV 7) (qa1 (qV 8) (qa1 (qV 3) qa0))))) (qgT K rfl (qg1 (qgN (i:=9) hN rfl (by walk_at "l")) (qg1 (qgN (i:=10) hN rfl (by walk_at "l")) qg0))))
   (qsC (V3 (i:=11) hN rfl (by walk_at "l") (own:=["_law_k"]) (js:=[7,8,3,9]) (by kernel_rfl) rfl (a2f T.b_range (qa1 (qOp j7 (qOp u7 (qIx (kIx K hu) (qV 7) d9 (fun _ _=>rfl)) d9) d9) qa0)) (fun _ _ _ _=>(qgN (i:=0) (show List.Nodup (["_law_k","_law_xs","_law_words_here","_law_kinds","_law_rule_here"]:List Str) by decide+kernel) rfl (by walk_at "l"))) (fun _ _ _ _=>a7H) (fun _ _ _ _=>(qC a0A (hr.mono (by decide)) r9 (qa1 (qIx (kIx K hu) (qV 4) d9 (fun _ _=>rfl)) (qa1 (qV 1) (qa1 (qV 2) (qa1 (qV 3) (qa1 (qV 0) qa0))))))))
   (qs1 (qIf (qtW (a4H (a6E (a0s K (qC X6 (hr.mono (by decide)) r9 (qa1 (qV 4) (qa1 (X7 (qa1 (qIx (kIx K hu) (qV 9) d9 (fun _ _=>rfl)) (qa1 (qIx (kIx K hu) (qV 9) d9 (fun _ _=>rfl)) (qa1 (qV 11) qa0)))) (qa1 (qV 10) qa0)))))) (a4O (w5 (a3C K hr) (qV 4) (qV 5) (t5 _))))) (qs1 (D5 qBl)) qs0)))))))
   (qs1 (D5 qBl)))))))),?_⟩
  refine j9 fun nx1 hx=>?_
  walk_at "e"
  refine⟨a,ns,0,rfl,hA,hl,by omega,fun c0=>?_⟩
  walk_at "e"
  refine⟨c0,20,rfl,by omega,by omega,fun c hc=>?_⟩
  walk_at "e"
  refine hx [some (.ref a),some (.int c),none,none,none,none,none,none,none,none,none,none] _ ?_
  clear hx
  refine j9 fun nx2 hx=>?_
  walk_at "e"
  refine⟨a,ns,1,rfl,hA,hl,by omega,fun c1=>?_⟩
  walk_at "e"
  refine⟨c1,21,rfl,by omega,by omega,fun c2 hc2=>?_⟩
  walk_at "e"
  refine hx [some (.ref a),some (.int c),some (.int c2),none,none,none,none,none,none,none,none,none] _ ?_
  clear hx
  refine j9 fun nx3 hx=>?_
  walk_at "e"
  refine⟨_,_,rfl,by omega,by omega,fun lk H1 ks n1 m1 f1 ⟨h1,h2,h3⟩=>?_⟩
  walk_at "e"
  refine hx [some (.ref a),some (.int c),some (.int c2),some (.ref lk),none,none,none,none,none,none,none,none] _ ?_
  clear hx
  refine j9 fun nx4 hx=>?_
  walk_at "e"
  refine⟨a,lk,_,ns,ks,rfl,m1.seq hA,hl,SqL.of f1,by omega,by omega,h3,fun b p q kvs W H2 m2 hW hG hz hnm=>?_⟩
  have hWl:(i8 W).length≤12:=by rw[z7];omega
  walk_at "e"
  refine hx [some (.ref a),some (.int c),some (.int c2),some (.ref lk),some (.ref b),none,none,none,none,none,none,none] _ ?_
  clear hx
  refine j9 fun nx5 hx=>?_
  walk_at "e"
  refine d8 hW.at_.tup (h8 (j:=0) rfl) ?_
  walk_at "e"
  refine K4 hW.at_.pts (fun hp nhp=>?_)
  obtain⟨H3,x3,fhp,m3,_⟩:=b7 (o:= .dK _) nhp
  rw[x3]
  have W3:=hW.same m3
  walk_at "e"
  refine d8 W3.at_.tup (h8 (j:=1) rfl) ?_
  walk_at "e"
  refine K4 W3.at_.ties (fun hq nhq=>?_)
  obtain⟨H4,x4,fhq,m4,_⟩:=b7 (o:= .dK _) nhq
  rw[x4]
  walk_at "e"
  refine⟨i6 (by simp),fun ha nha=>?_⟩
  obtain⟨H5,x5,fha,m5,_⟩:=b7 (o:= .tup _) nha
  rw[x5]
  have m25:=m3.trans (m4.trans m5)
  have W5:=hW.same m25
  have A5:WebAt K H5 ha hp hq kvs W:=⟨SqT.of fha,.inl (m5 _ _ (m4 _ _ fhp)),.inl (m5 _ _ fhq),W5.at_.ts⟩
  have nhp1:p≠hp:=b9 hW.hp nhp
  have nhq1:q≠hq:=b9 W3.hq nhq
  have K5:=(m2.trans m25) _ _ f1
  have m05:=m1.trans (m2.trans m25)
  walk_at "e"
  refine hx [some (.ref a),some (.int c),some (.int c2),some (.ref lk),some (.ref b),some (.ref ha),none,none,none,none,none,none] _ ?_
  clear hx
  refine j9 fun nx6 hx=>?_
  walk_at "e"
  refine a5B (m05.seq hA) (fun l6 n6=>?_)
  obtain⟨cs,hcs,hcl⟩:=a4M ns (some 12) (some 28)
  rw[hcs]
  obtain⟨H6,x6,f6,m6,_⟩:=b7 (o:= .lst _) n6
  rw[x6]
  walk_at "e"
  refine⟨i6 (by simp),fun l7 n7=>?_⟩
  obtain⟨H7,x7,f7,m7,_⟩:=b7 (o:= .lst _) n7
  rw[x7]
  walk_at "e"
  refine a7g (m7 _ _ f6) f7 (i6 (by rw[List.length_map];simp;omega)) (fun l8 n8=>?_)
  rw[show cs.map V.int++[V.int c]=(cs++[c]).map V.int by rw[List.map_append];rfl]
  obtain⟨H8,x8,f8,m8,_⟩:=b7 (o:= .lst _) n8
  rw[x8]
  walk_at "e"
  refine a5B (SqL.of f8) (fun lz n9=>?_)
  obtain⟨ds,hds,hdl⟩:=a4M (cs++[c]) none (some 16)
  rw[hds]
  obtain⟨B0,x9,f9,m9,_⟩:=b7 (o:= .lst _) n9
  rw[x9]
  have mB:=m6.trans (m7.trans (m8.trans m9))
  have WB:=W5.same mB
  have AB:=A5.mono mB.le
  have KB:=mB _ _ K5
  refine z8 (SqL.of f9) ?_
  refine K2 (n:=ds.length) (fun i σ H'=>(∃v6 v7 v8 v9 v10 v11,σ=[some (.ref a),some (.int c),some (.int c2),some (.ref lk),some (.ref b),some (.ref ha),v6,v7,v8,v9,v10,v11])∧Same B0 H') ⟨⟨_,_,_,_,_,_,rfl⟩,Same.refl _⟩ (fun i σ H' hi hp=>⟨_,.int (ds[i]),SqL.of (hp.2 _ _ f9),by rw[List.getElem?_map,List.getElem?_eq_getElem hi];rfl⟩) ?_ ?_
  ·rintro bk i v σ G0' G0 hi ⟨⟨v6,v7,v8,v9,v10,v11,rfl⟩,sG⟩ y
   obtain⟨rfl,hy⟩:=Itl.get y (SqL.of (sG _ _ f9))
   rw[List.getElem?_map,List.getElem?_eq_getElem hi] at hy
   cases hy
   walk_at "e"
   refine j9 fun nx7 hx7=>?_
   walk_at "e"
   refine⟨_,rfl,fun lx G1 xs n10 m10 f10 hxl hx0=>?_⟩
   obtain⟨x11,hx11,hx11'⟩:=P8 hxl hx0 11 (by omega)
   obtain⟨xx6,hxx6,hxx6'⟩:=P8 hxl hx0 6 (by omega)
   walk_at "e"
   refine hx7 [some (.ref a),some (.int c),some (.int c2),some (.ref lk),some (.ref b),some (.ref ha),some (.int ds[i]),some (.ref lx),v8,v9,v10,v11] _ ?_
   clear hx7
   refine j9 fun nx8 hx7=>?_
   walk_at "e"
   refine i7 (SqL.of f10) hx11 ?_
   walk_at "e"
   refine⟨_,16,rfl,by omega,by omega,fun lw G2 ws n11 m11 f11 hws=>?_⟩
   have hws':b3N ws:=⟨hws.1,hws.2.1,hws.2.2⟩
   have sG2:=sG.trans (m10.trans m11)
   walk_at "e"
   refine hx7 [some (.ref a),some (.int c),some (.int c2),some (.ref lk),some (.ref b),some (.ref ha),some (.int ds[i]),some (.ref lx),some (.ref lw),v9,v10,v11] _ ?_
   clear hx7
   refine j9 fun nx9 hx7=>?_
   walk_at "e"
   refine⟨⟨b,p,q,kvs,W⟩,lx,lw,lk,xs,ws,ks,rfl,WB.same sG2,hG,SqL.of (m11 _ _ f10),hxl,hx0,SqL.of f11,hws',SqL.of (sG2 _ _ KB),⟨by omega,by omega,h3⟩,fun t r m bl L R pr os G3 m12 ft fm fbl hR rok mp hLw=>?_⟩
   have sG3:=sG2.trans m12
   refine K3 (SqT.of ft) rfl ?_
   walk_at "e"
   refine hx7 [some (.ref a),some (.int c),some (.int c2),some (.ref lk),some (.ref b),some (.ref ha),some (.int ds[i]),some (.ref lx),some (.ref lw),some (.ref r),some (.ref m),v11] _ ?_
   clear hx7
   have hL8:(i8 L.W).length≤8:=by
    have z1:=rok.l.l1
    have z2:=rok.l.l2
    rw[z7];omega
   refine j9 fun nx10 hx7=>?_
   walk_at "e"
   refine i7 (SqL.of ((m11.trans m12) _ _ f10)) hxx6 ?_
   walk_at "e"
   have hcb:0≤xx6/16 % 4∧xx6/16 % 4≤3:=by omega
   generalize xx6/16 % 4=cb at hcb⊢
   refine N0 (by omega) (by omega) ?_
   refine D3 (n:=cb.toNat) (fun j out H'=>Same G3 H'∧∃bs:List Sd,out=(bs.map fun s=>V.ref s.a)∧bs.length=j∧∀s∈bs,SdIs K H' s∧a6V L.W s.W) ⟨Same.refl _,[],rfl,rfl,fun _ h=>nomatch h⟩ (fun j out H' hj _=>by exact hj) ?_ ?_
   ·rintro N j v out G4' G4 hj ⟨s4,bs,rfl,hbl,hbs⟩ ⟨rfl,rfl⟩ hN'
    walk_at "e"
    refine⟨rfl,?_⟩
    walk_at "e"
    refine d8 (s4.tup hR.tup) (h8 (j:=0) rfl) ?_
    walk_at "e"
    refine⟨L,lx,lw,lk,xs,ws,ks,_,rfl,by omega,by omega,hR.l.same s4,hL8,hLw,SqL.of (s4 _ _ ((m11.trans m12) _ _ f10)),hxl,hx0,SqL.of (s4 _ _ (m12 _ _ f11)),hws',SqL.of (s4 _ _ (sG3 _ _ KB)),⟨by omega,by omega,h3⟩,fun B G5 m13 hB hbo=>?_⟩
    refine⟨i6 (by rw[List.length_map];omega),hN' _ _ ⟨s4.trans m13,bs++[B],by rw[List.map_append];rfl,by rw[List.length_append,hbl];rfl,fun s hs=>?_⟩⟩
    rcases List.mem_append.mp hs with z|z
    ·exact⟨(hbs s z).1.same m13,(hbs s z).2⟩
    ·rw[List.mem_singleton.mp z];exact⟨hB,hbo⟩
   ·rintro out G4 ⟨s4,bs,rfl,hbl,hbs⟩
    refine⟨Nat.le_refl _,fun lb nlb=>⟨i6 (by rw[List.length_map];omega),?_⟩⟩
    obtain⟨G5,e14,f14,m14,_⟩:=b7 (H:=G4) (o:= .lst (bs.map fun s=>V.ref s.a)) nlb
    change P6 _ _ _ (upd G4 lb _) _
    rw[e14]
    have s35:=s4.trans m14
    have R5:=hR.same s35
    walk_at "e"
    refine hx7 [some (.ref a),some (.int c),some (.int c2),some (.ref lk),some (.ref b),some (.ref ha),some (.int ds[i]),some (.ref lx),some (.ref lw),some (.ref r),some (.ref m),some (.ref lb)] _ ?_
    clear hx7
    walk_at "e"
    refine d8 R5.tup (h8 (j:=0) rfl) ?_
    walk_at "e"
    refine d8 R5.tup (h8 (j:=1) rfl) ?_
    walk_at "e"
    refine⟨i6 (by simp),fun r6 n15=>?_⟩
    obtain⟨G6,e15,f15,m15,_⟩:=b7 (o:= .tup [.ref L.a,.ref R.a,.ref lb]) n15
    rw[e15]
    have s36:=s35.trans m15
    have sG6:=sG3.trans s36
    have R6:RuleIs K G6 r6 lb L R bs:=⟨SqT.of f15,(hR.l.same s36),(hR.r.same s36),SqL.of (m15 _ _ f14),fun s hs=>(hbs s hs).1.same (m14.trans m15)⟩
    walk_at "e"
    refine⟨⟨b,p,q,kvs,W⟩,L,R,r6,lb,m,bs,pr.map swp,rfl,WB.same sG6,hWl,R6,by omega,s36 _ _ fm,mp.nds,fun s hs=>?_,fun G7 m16=>?_⟩
    ·have hB:=(hbs s hs).1
     have hbo:=(hbs s hs).2
     have ho:=b6R mp hbo hB.nd hR.l.ends
     have h4:=b4G mp hbo hB.nd hR.l.nd
     exact⟨ho,h4,b1e h4 hB.len hWl,ho.nk,fun x hx=>ho.fin x.1 (List.mem_map.mpr ⟨x,hx,rfl⟩)⟩
    have sG7:=sG6.trans m16
    have W7:=WB.same sG7
    have A7:=AB.mono sG7.le
    walk_at "e"
    refine b1Y (a9a W7.at_.tup A7.tup (a7j nhp1 W7.at_.pts A7.pts (List.Perm.refl _) (A6 hW.nd)) (a9q nhq1 W7.at_.ties A7.ties W7.at_.ts A7.ts (List.Perm.refl _) (N3 hW.nd)) ?_)
    rw[show(!(true&&true))=false from rfl]
    walk_at "e"
    exact⟨⟨_,_,_,_,_,_,rfl⟩,sG7⟩
  ·rintro σ G0 ⟨⟨v6,v7,v8,v9,v10,v11,rfl⟩,sG⟩
   refine⟨⟨_,SqL.of (sG _ _ f9),by rw[List.length_map];exact Nat.le_refl _⟩,?_⟩
   refine hx [some (.ref a),some (.int c),some (.int c2),some (.ref lk),some (.ref b),some (.ref ha),v6,v7,v8,v9,v10,v11] G0 ?_
   walk_at "e"
   exact k _
end
theorem all_mk {l:PySem.W.OpenLaw}{w:World}{K:PySem.W.Frag}{h:Heap}{mg:Str→Option Value}{fa f0 f1 f2 f3 f4 f5 f6 f7 f8 f9 f10 f11 f12 f13 f14 f15 f16 f17 f18 f19 f20 f21 f22 f23 f24 f25 f26 f27 f28 f29:Addr}{od0 an0 od1 an1 od2 an2 od3 an3 od4 an4 od5 an5 od6 an6 od7 an7 od8 an8 od9 an9 od10 an10 od11 an11 od12 an12 od13 an13 od14 an14 od15 an15 od16 an16 od17 an17 od18 an18 od19 an19 od20 an20 od21 an21 od22 an22 od23 an23 od24 an24 od25 an25 od26 an26 od27 an27 od28 an28 od29 an29:Option Addr}{sl0 sl1 sl2 sl3 sl4 sl5 sl6 sl7 sl8 sl9 sl10 sl11 sl12 sl13 sl14 sl15 sl16 sl17 sl18 sl19 sl20 sl21 sl22 sl23 sl24 sl25 sl26 sl27 sl28 sl29:Array (Option Value)}{oc0 kV0 dc0 pm0 cd0 ct0 oc1 kV1 dc1 pm1 cd1 ct1 oc2 kV2 dc2 pm2 cd2 ct2 oc3 kV3 dc3 pm3 cd3 ct3 oc4 kV4 dc4 pm4 cd4 ct4 oc5 kV5 dc5 pm5 cd5 ct5 oc6 kV6 dc6 pm6 cd6 ct6 oc7 kV7 dc7 pm7 cd7 ct7 oc8 kV8 dc8 pm8 cd8 ct8 oc9 kV9 dc9 pm9 cd9 ct9 oc10 kV10 dc10 pm10 cd10 ct10 oc11 kV11 dc11 pm11 cd11 ct11 oc12 kV12 dc12 pm12 cd12 ct12 oc13 kV13 dc13 pm13 cd13 ct13 oc14 kV14 dc14 pm14 cd14 ct14 oc15 kV15 dc15 pm15 cd15 ct15 oc16 kV16 dc16 pm16 cd16 ct16 oc17 kV17 dc17 pm17 cd17 ct17 oc18 kV18 dc18 pm18 cd18 ct18 oc19 kV19 dc19 pm19 cd19 ct19 oc20 kV20 dc20 pm20 cd20 ct20 oc21 kV21 dc21 pm21 cd21 ct21 oc22 kV22 dc22 pm22 cd22 ct22 oc23 kV23 dc23 pm23 cd23 ct23 oc24 kV24 dc24 pm24 cd24 ct24 oc25 kV25 dc25 pm25 cd25 ct25 oc26 kV26 dc26 pm26 cd26 ct26 oc27 kV27 dc27 pm27 cd27 ct27 oc28 kV28 dc28 pm28 cd28 ct28 oc29 kV29 dc29 pm29 cd29 ct29:Value}(X:K.In h)(G:h.Ns mainGlobals mg)(hfa:mg "law"=some (.ref fa))
  (a0:PySem.W.nsIn K mainGlobals "things"=some (some (.ref f0))) (l0:K.lookup f0=some ⟨oc0,od0,.func (PySem.W.fnOf "things" "things" (j5 W9) (j4 W9) (d6 W9) .none kV0 dc0 pm0 an0 cd0 ct0),sl0⟩) (c0:PySem.W.codeIn K cd0 "things"=true) (k0:PySem.W.keepIn K (.ref f0)=true)
  (a1:PySem.W.nsIn K mainGlobals "tie_renamed"=some (some (.ref f1))) (l1:K.lookup f1=some ⟨oc1,od1,.func (PySem.W.fnOf "tie_renamed" "tie_renamed" (j5 E9) (j4 E9) (d6 E9) .none kV1 dc1 pm1 an1 cd1 ct1),sl1⟩) (c1:PySem.W.codeIn K cd1 "tie_renamed"=true) (k1:PySem.W.keepIn K (.ref f1)=true)
  (a2:PySem.W.nsIn K mainGlobals "first_match"=some (some (.ref f2))) (l2:K.lookup f2=some ⟨oc2,od2,.func (PySem.W.fnOf "first_match" "first_match" (j5 E6) (j4 E6) (d6 E6) .none kV2 dc2 pm2 an2 cd2 ct2),sl2⟩) (c2:PySem.W.codeIn K cd2 "first_match"=true) (k2:PySem.W.keepIn K (.ref f2)=true)
  (a3:PySem.W.nsIn K mainGlobals "first_found"=some (some (.ref f3))) (l3:K.lookup f3=some ⟨oc3,od3,.func (PySem.W.fnOf "first_found" "first_found" (j5 E4) (j4 E4) (d6 E4) .none kV3 dc3 pm3 an3 cd3 ct3),sl3⟩) (c3:PySem.W.codeIn K cd3 "first_found"=true) (k3:PySem.W.keepIn K (.ref f3)=true)
  (a4:PySem.W.nsIn K mainGlobals "found"=some (some (.ref f4))) (l4:K.lookup f4=some ⟨oc4,od4,.func (PySem.W.fnOf "found" "found" (j5 a0m) (j4 a0m) (d6 a0m) .none kV4 dc4 pm4 an4 cd4 ct4),sl4⟩) (c4:PySem.W.codeIn K cd4 "found"=true) (k4:PySem.W.keepIn K (.ref f4)=true)
  (a5:PySem.W.nsIn K mainGlobals "may_be"=some (some (.ref f5))) (l5:K.lookup f5=some ⟨oc5,od5,.func (PySem.W.fnOf "may_be" "may_be" (j5 V6) (j4 V6) (d6 V6) .none kV5 dc5 pm5 an5 cd5 ct5),sl5⟩) (c5:PySem.W.codeIn K cd5 "may_be"=true) (k5:PySem.W.keepIn K (.ref f5)=true)
  (a6:PySem.W.nsIn K mainGlobals "point_choices"=some (some (.ref f6))) (l6:K.lookup f6=some ⟨oc6,od6,.func (PySem.W.fnOf "point_choices" "point_choices" (j5 C0) (j4 C0) (d6 C0) .none kV6 dc6 pm6 an6 cd6 ct6),sl6⟩) (c6:PySem.W.codeIn K cd6 "point_choices"=true) (k6:PySem.W.keepIn K (.ref f6)=true)
  (a7:PySem.W.nsIn K mainGlobals "tie_places"=some (some (.ref f7))) (l7:K.lookup f7=some ⟨oc7,od7,.func (PySem.W.fnOf "tie_places" "tie_places" (j5 J3) (j4 J3) (d6 J3) .none kV7 dc7 pm7 an7 cd7 ct7),sl7⟩) (c7:PySem.W.codeIn K cd7 "tie_places"=true) (k7:PySem.W.keepIn K (.ref f7)=true)
  (a8:PySem.W.nsIn K mainGlobals "enough"=some (some (.ref f8))) (l8:K.lookup f8=some ⟨oc8,od8,.func (PySem.W.fnOf "enough" "enough" (j5 W8) (j4 W8) (d6 W8) .none kV8 dc8 pm8 an8 cd8 ct8),sl8⟩) (c8:PySem.W.codeIn K cd8 "enough"=true) (k8:PySem.W.keepIn K (.ref f8)=true)
  (a9:PySem.W.nsIn K mainGlobals "lines"=some (some (.ref f9))) (l9:K.lookup f9=some ⟨oc9,od9,.func (PySem.W.fnOf "lines" "lines" (j5 a0h) (j4 a0h) (d6 a0h) .none kV9 dc9 pm9 an9 cd9 ct9),sl9⟩) (c9:PySem.W.codeIn K cd9 "lines"=true) (k9:PySem.W.keepIn K (.ref f9)=true)
  (a10:PySem.W.nsIn K mainGlobals "images"=some (some (.ref f10))) (l10:K.lookup f10=some ⟨oc10,od10,.func (PySem.W.fnOf "images" "images" (j5 X1) (j4 X1) (d6 X1) .none kV10 dc10 pm10 an10 cd10 ct10),sl10⟩) (c10:PySem.W.codeIn K cd10 "images"=true) (k10:PySem.W.keepIn K (.ref f10)=true)
  (a11:PySem.W.nsIn K mainGlobals "tie_choices"=some (some (.ref f11))) (l11:K.lookup f11=some ⟨oc11,od11,.func (PySem.W.fnOf "tie_choices" "tie_choices" (j5 E3) (j4 E3) (d6 E3) .none kV11 dc11 pm11 an11 cd11 ct11),sl11⟩) (c11:PySem.W.codeIn K cd11 "tie_choices"=true) (k11:PySem.W.keepIn K (.ref f11)=true)
  (a12:PySem.W.nsIn K mainGlobals "has_room"=some (some (.ref f12))) (l12:K.lookup f12=some ⟨oc12,od12,.func (PySem.W.fnOf "has_room" "has_room" (j5 O0) (j4 O0) (d6 O0) .none kV12 dc12 pm12 an12 cd12 ct12),sl12⟩) (c12:PySem.W.codeIn K cd12 "has_room"=true) (k12:PySem.W.keepIn K (.ref f12)=true)
  (a13:PySem.W.nsIn K mainGlobals "barred"=some (some (.ref f13))) (l13:K.lookup f13=some ⟨oc13,od13,.func (PySem.W.fnOf "barred" "barred" (j5 W0) (j4 W0) (d6 W0) .none kV13 dc13 pm13 an13 cd13 ct13),sl13⟩) (c13:PySem.W.codeIn K cd13 "barred"=true) (k13:PySem.W.keepIn K (.ref f13)=true)
  (a14:PySem.W.nsIn K mainGlobals "_law_cell_at"=some (some (.ref f14))) (l14:K.lookup f14=some ⟨oc14,od14,.func (PySem.W.fnOf "_law_cell_at" "_law_cell_at" (j5 C9) (j4 C9) (d6 C9) .none kV14 dc14 pm14 an14 cd14 ct14),sl14⟩) (c14:PySem.W.codeIn K cd14 "_law_cell_at"=true) (k14:PySem.W.keepIn K (.ref f14)=true)
  (a15:PySem.W.nsIn K mainGlobals "_law_mixed"=some (some (.ref f15))) (l15:K.lookup f15=some ⟨oc15,od15,.func (PySem.W.fnOf "_law_mixed" "_law_mixed" (j5 J2) (j4 J2) (d6 J2) .none kV15 dc15 pm15 an15 cd15 ct15),sl15⟩) (c15:PySem.W.codeIn K cd15 "_law_mixed"=true) (k15:PySem.W.keepIn K (.ref f15)=true)
  (a16:PySem.W.nsIn K mainGlobals "_law_stream"=some (some (.ref f16))) (l16:K.lookup f16=some ⟨oc16,od16,.func (PySem.W.fnOf "_law_stream" "_law_stream" (j5 E7) (j4 E7) (d6 E7) .none kV16 dc16 pm16 an16 cd16 ct16),sl16⟩) (c16:PySem.W.codeIn K cd16 "_law_stream"=true) (k16:PySem.W.keepIn K (.ref f16)=true)
  (a17:PySem.W.nsIn K mainGlobals "_law_name"=some (some (.ref f17))) (l17:K.lookup f17=some ⟨oc17,od17,.func (PySem.W.fnOf "_law_name" "_law_name" (j5 K7) (j4 K7) (d6 K7) .none kV17 dc17 pm17 an17 cd17 ct17),sl17⟩) (c17:PySem.W.codeIn K cd17 "_law_name"=true) (k17:PySem.W.keepIn K (.ref f17)=true)
  (a18:PySem.W.nsIn K mainGlobals "_law_words"=some (some (.ref f18))) (l18:K.lookup f18=some ⟨oc18,od18,.func (PySem.W.fnOf "_law_words" "_law_words" (j5 J1) (j4 J1) (d6 J1) .none kV18 dc18 pm18 an18 cd18 ct18),sl18⟩) (c18:PySem.W.codeIn K cd18 "_law_words"=true) (k18:PySem.W.keepIn K (.ref f18)=true)
  (a19:PySem.W.nsIn K mainGlobals "_law_web"=some (some (.ref f19))) (l19:K.lookup f19=some ⟨oc19,od19,.func (PySem.W.fnOf "_law_web" "_law_web" (j5 O2) (j4 O2) (d6 O2) .none kV19 dc19 pm19 an19 cd19 ct19),sl19⟩) (c19:PySem.W.codeIn K cd19 "_law_web"=true) (k19:PySem.W.keepIn K (.ref f19)=true)
  (a20:PySem.W.nsIn K mainGlobals "_law_picked"=some (some (.ref f20))) (l20:K.lookup f20=some ⟨oc20,od20,.func (PySem.W.fnOf "_law_picked" "_law_picked" (j5 E5) (j4 E5) (d6 E5) .none kV20 dc20 pm20 an20 cd20 ct20),sl20⟩) (c20:PySem.W.codeIn K cd20 "_law_picked"=true) (k20:PySem.W.keepIn K (.ref f20)=true)
  (a21:PySem.W.nsIn K mainGlobals "_law_out"=some (some (.ref f21))) (l21:K.lookup f21=some ⟨oc21,od21,.func (PySem.W.fnOf "_law_out" "_law_out" (j5 O1) (j4 O1) (d6 O1) .none kV21 dc21 pm21 an21 cd21 ct21),sl21⟩) (c21:PySem.W.codeIn K cd21 "_law_out"=true) (k21:PySem.W.keepIn K (.ref f21)=true)
  (a22:PySem.W.nsIn K mainGlobals "_law_rule"=some (some (.ref f22))) (l22:K.lookup f22=some ⟨oc22,od22,.func (PySem.W.fnOf "_law_rule" "_law_rule" (j5 K8) (j4 K8) (d6 K8) .none kV22 dc22 pm22 an22 cd22 ct22),sl22⟩) (c22:PySem.W.codeIn K cd22 "_law_rule"=true) (k22:PySem.W.keepIn K (.ref f22)=true)
  (a23:PySem.W.nsIn K mainGlobals "_law_bar"=some (some (.ref f23))) (l23:K.lookup f23=some ⟨oc23,od23,.func (PySem.W.fnOf "_law_bar" "_law_bar" (j5 N9) (j4 N9) (d6 N9) .none kV23 dc23 pm23 an23 cd23 ct23),sl23⟩) (c23:PySem.W.codeIn K cd23 "_law_bar"=true) (k23:PySem.W.keepIn K (.ref f23)=true)
  (a24:PySem.W.nsIn K mainGlobals "_law_more"=some (some (.ref f24))) (l24:K.lookup f24=some ⟨oc24,od24,.func (PySem.W.fnOf "_law_more" "_law_more" (j5 K9) (j4 K9) (d6 K9) .none kV24 dc24 pm24 an24 cd24 ct24),sl24⟩) (c24:PySem.W.codeIn K cd24 "_law_more"=true) (k24:PySem.W.keepIn K (.ref f24)=true)
  (a25:PySem.W.nsIn K mainGlobals "_law_all"=some (some (.ref f25))) (l25:K.lookup f25=some ⟨oc25,od25,.func (PySem.W.fnOf "_law_all" "_law_all" (j5 N8) (j4 N8) (d6 N8) .none kV25 dc25 pm25 an25 cd25 ct25),sl25⟩) (c25:PySem.W.codeIn K cd25 "_law_all"=true) (k25:PySem.W.keepIn K (.ref f25)=true)
  (a26:PySem.W.nsIn K mainGlobals "_law_line"=some (some (.ref f26))) (l26:K.lookup f26=some ⟨oc26,od26,.func (PySem.W.fnOf "_law_line" "_law_line" (j5 L3) (j4 L3) (d6 L3) .none kV26 dc26 pm26 an26 cd26 ct26),sl26⟩) (c26:PySem.W.codeIn K cd26 "_law_line"=true) (k26:PySem.W.keepIn K (.ref f26)=true)
  (a27:PySem.W.nsIn K mainGlobals "_law_due"=some (some (.ref f27))) (l27:K.lookup f27=some ⟨oc27,od27,.func (PySem.W.fnOf "_law_due" "_law_due" (j5 O3) (j4 O3) (d6 O3) .none kV27 dc27 pm27 an27 cd27 ct27),sl27⟩) (c27:PySem.W.codeIn K cd27 "_law_due"=true) (k27:PySem.W.keepIn K (.ref f27)=true)
  (a28:PySem.W.nsIn K mainGlobals "_law_right"=some (some (.ref f28))) (l28:K.lookup f28=some ⟨oc28,od28,.func (PySem.W.fnOf "_law_right" "_law_right" (j5 J0) (j4 J0) (d6 J0) .none kV28 dc28 pm28 an28 cd28 ct28),sl28⟩) (c28:PySem.W.codeIn K cd28 "_law_right"=true) (k28:PySem.W.keepIn K (.ref f28)=true)
  (a29:PySem.W.nsIn K mainGlobals "law"=some (some (.ref f29))) (l29:K.lookup f29=some ⟨oc29,od29,.func (PySem.W.fnOf "law" "law" (j5 a0S) (j4 a0S) (d6 a0S) .none kV29 dc29 pm29 an29 cd29 ct29),sl29⟩) (c29:PySem.W.codeIn K cd29 "law"=true) (k29:PySem.W.keepIn K (.ref f29)=true)
  (z_all:PySem.W.nsIn K mainGlobals "all"=some none)
  (z_bool:PySem.W.nsIn K mainGlobals "bool"=some none)
  (z_dict:PySem.W.nsIn K mainGlobals "dict"=some none)
  (z_enumerate:PySem.W.nsIn K mainGlobals "enumerate"=some none)
  (z_int:PySem.W.nsIn K mainGlobals "int"=some none)
  (z_isinstance:PySem.W.nsIn K mainGlobals "isinstance"=some none)
  (z_len:PySem.W.nsIn K mainGlobals "len"=some none)
  (z_list:PySem.W.nsIn K mainGlobals "list"=some none)
  (z_max:PySem.W.nsIn K mainGlobals "max"=some none)
  (z_min:PySem.W.nsIn K mainGlobals "min"=some none)
  (z_range:PySem.W.nsIn K mainGlobals "range"=some none)
  (z_reversed:PySem.W.nsIn K mainGlobals "reversed"=some none)
  (z_sorted:PySem.W.nsIn K mainGlobals "sorted"=some none)
  (z_tuple:PySem.W.nsIn K mainGlobals "tuple"=some none)
  (z_zip:PySem.W.nsIn K mainGlobals "zip"=some none)
  :
  ∃fd:FuncData,(∀(s:Shared) (v:Value),BindsTo s fd ⟨[v],[]⟩ [("_law_script",v)])∧∀base:Heap,K.In base→base.Ns mainGlobals mg→FnOk l.prog w K mg base CX0 11 fa fd ["_law_script"] (a4q K):=by
 have e:=hfa.symm.trans (PySem.W.mg_of X G a29)
 cases e
 have T:Txt K mg:=⟨PySem.W.mg_none_of X G z_all,PySem.W.mg_none_of X G z_bool,PySem.W.mg_none_of X G z_dict,PySem.W.mg_none_of X G z_enumerate,PySem.W.mg_none_of X G z_int,PySem.W.mg_none_of X G z_isinstance,PySem.W.mg_none_of X G z_len,PySem.W.mg_none_of X G z_list,PySem.W.mg_none_of X G z_max,PySem.W.mg_none_of X G z_min,PySem.W.mg_none_of X G z_range,PySem.W.mg_none_of X G z_reversed,PySem.W.mg_none_of X G z_sorted,PySem.W.mg_none_of X G z_tuple,PySem.W.mg_none_of X G z_zip⟩
 have F0:=u8 (st:=W9) l0 c0 k0
 have F1:=u8 (st:=E9) l1 c1 k1
 have F2:=u8 (st:=E6) l2 c2 k2
 have F3:=u8 (st:=E4) l3 c3 k3
 have F4:=u8 (st:=a0m) l4 c4 k4
 have F5:=u8 (st:=V6) l5 c5 k5
 have F6:=u8 (st:=C0) l6 c6 k6
 have F7:=u8 (st:=J3) l7 c7 k7
 have F8:=u8 (st:=W8) l8 c8 k8
 have F9:=u8 (st:=a0h) l9 c9 k9
 have F10:=u8 (st:=X1) l10 c10 k10
 have F11:=u8 (st:=E3) l11 c11 k11
 have F12:=u8 (st:=O0) l12 c12 k12
 have F13:=u8 (st:=W0) l13 c13 k13
 have F14:=u8 (st:=C9) l14 c14 k14
 have F15:=u8 (st:=J2) l15 c15 k15
 have F16:=u8 (st:=E7) l16 c16 k16
 have F17:=u8 (st:=K7) l17 c17 k17
 have F18:=u8 (st:=J1) l18 c18 k18
 have F19:=u8 (st:=O2) l19 c19 k19
 have F20:=u8 (st:=E5) l20 c20 k20
 have F21:=u8 (st:=O1) l21 c21 k21
 have F22:=u8 (st:=K8) l22 c22 k22
 have F23:=u8 (st:=N9) l23 c23 k23
 have F24:=u8 (st:=K9) l24 c24 k24
 have F25:=u8 (st:=N8) l25 c25 k25
 have F26:=u8 (st:=L3) l26 c26 k26
 have F27:=u8 (st:=O3) l27 c27 k27
 have F28:=u8 (st:=J0) l28 c28 k28
 have F29:=u8 (st:=a0S) l29 c29 k29
 refine⟨PySem.W.fnOf "law" "law" (j5 a0S) (j4 a0S) (d6 a0S) .none kV29 dc29 pm29 an29 cd29 ct29,fun s v=> .of_eq rfl,fun base _ _=>?_⟩
 have L8:Cal l.prog w K mg base CX0 1 "things" ["web"] [] (V8 K):=⟨f0,_,[],a7y T F0,PySem.W.mg_of X G a0,k0,F0.binds (ps:=["web"]) fun _ _ _ _ _ _ us hl=>b5R hl fun _=>rfl,.nil⟩
 have U2:Cal l.prog w K mg base CX0 1 "tie_renamed" ["tie","names"] [] (Q2 K):=⟨f1,_,[],a2M T F1,PySem.W.mg_of X G a1,k1,F1.binds (ps:=["tie","names"]) fun _ _ _ _ _ _ us hl=>a4Z hl fun _ _=>rfl,.nil⟩
 have V9:Cal l.prog w K mg base CX0 1 "may_be" ["name","image","fixed"] [] (a0k K):=⟨f5,_,[],a7x T F5,PySem.W.mg_of X G a5,k5,F5.binds (ps:=["name","image","fixed"]) fun _ _ _ _ _ _ us hl=>a2U hl fun _ _ _=>rfl,.nil⟩
 have V4:Cal l.prog w K mg base CX0 1 "enough" ["lists"] [] (a0o K):=⟨f8,_,[],a8n T F8,PySem.W.mg_of X G a8,k8,F8.binds (ps:=["lists"]) fun _ _ _ _ _ _ us hl=>b5R hl fun _=>rfl,.nil⟩
 have B5:Cal l.prog w K mg base CX0 1 "_law_cell_at" ["_law_script","_law_k"] [] (K1 K):=⟨f14,_,[],a1N T F14,PySem.W.mg_of X G a14,k14,F14.binds (ps:=["_law_script","_law_k"]) fun _ _ _ _ _ _ us hl=>a4Z hl fun _ _=>rfl,.nil⟩
 have D1:Cal l.prog w K mg base CX0 1 "_law_mixed" ["_law_cell","_law_k"] [] (O6 K):=⟨f15,_,[],a2T T F15,PySem.W.mg_of X G a15,k15,F15.binds (ps:=["_law_cell","_law_k"]) fun _ _ _ _ _ _ us hl=>a4Z hl fun _ _=>rfl,.nil⟩
 have U9:Cal l.prog w K mg base CX0 1 "_law_stream" ["_law_cell","_law_many"] [] (S7 K):=⟨f16,_,[],a2q T F16,PySem.W.mg_of X G a16,k16,F16.binds (ps:=["_law_cell","_law_many"]) fun _ _ _ _ _ _ us hl=>a4Z hl fun _ _=>rfl,.nil⟩
 have T3:Cal l.prog w K mg base CX0 1 "_law_name" ["_law_number","_law_k"] [] (X9 K):=⟨f17,_,[],a4m T F17,PySem.W.mg_of X G a17,k17,F17.binds (ps:=["_law_number","_law_k"]) fun _ _ _ _ _ _ us hl=>a4Z hl fun _ _=>rfl,.nil⟩
 have P9:Cal l.prog w K mg base CX0 1 "_law_words" ["_law_number","_law_many"] [] (U0 K):=⟨f18,_,[],a3c T F18,PySem.W.mg_of X G a18,k18,F18.binds (ps:=["_law_number","_law_many"]) fun _ _ _ _ _ _ us hl=>a4Z hl fun _ _=>rfl,.nil⟩
 have U6:Cal l.prog w K mg base CX0 1 "_law_picked" ["_law_web_here","_law_xs"] [] (S0 K):=⟨f20,_,[],a2Q T F20,PySem.W.mg_of X G a20,k20,F20.binds (ps:=["_law_web_here","_law_xs"]) fun _ _ _ _ _ _ us hl=>a4Z hl fun _ _=>rfl,.nil⟩
 have a0y:Cal l.prog w K mg base CX0 1 "_law_out" ["_law_web_here","_law_points","_law_ties","_law_xs"] [] (a0e K):=⟨f21,_,[],a4I T F21,PySem.W.mg_of X G a21,k21,F21.binds (ps:=["_law_web_here","_law_points","_law_ties","_law_xs"]) fun _ _ _ _ _ _ us hl=>b0f hl fun _ _ _ _=>rfl,.nil⟩
 have a0A:Cal l.prog w K mg base CX0 1 "_law_bar" ["_law_left","_law_xs","_law_words_here","_law_kinds","_law_k"] [] (Z4 K):=⟨f23,_,[],a5z T F23,PySem.W.mg_of X G a23,k23,F23.binds (ps:=["_law_left","_law_xs","_law_words_here","_law_kinds","_law_k"]) fun _ _ _ _ _ _ us hl=>b3r hl fun _ _ _ _ _=>rfl,.nil⟩
 have T7:Cal l.prog w K mg base CX0 1 "_law_more" ["_law_found","_law_word","_law_names"] [] (Y8 K):=⟨f24,_,[],a4k T F24,PySem.W.mg_of X G a24,k24,F24.binds (ps:=["_law_found","_law_word","_law_names"]) fun _ _ _ _ _ _ us hl=>a2U hl fun _ _ _=>rfl,.nil⟩
 have T2:Cal l.prog w K mg base CX0 1 "_law_line" ["_law_bar_here","_law_match"] [] (Y1 K):=⟨f26,_,[],a3X T F26,PySem.W.mg_of X G a26,k26,F26.binds (ps:=["_law_bar_here","_law_match"]) fun _ _ _ _ _ _ us hl=>a4Z hl fun _ _=>rfl,.nil⟩
 have P2:Cal l.prog w K mg base CX0 2 "point_choices" ["piece_looks","web_looks","fixed"] [] (N7 K):=⟨f6,_,[],a1w T V9 F6,PySem.W.mg_of X G a6,k6,F6.binds (ps:=["piece_looks","web_looks","fixed"]) fun _ _ _ _ _ _ us hl=>a2U hl fun _ _ _=>rfl,.nil⟩
 have X3:Cal l.prog w K mg base CX0 2 "tie_places" ["piece","web","fixed"] [] (U8 K):=⟨f7,_,[],a2W T V9 F7,PySem.W.mg_of X G a7,k7,F7.binds (ps:=["piece","web","fixed"]) fun _ _ _ _ _ _ us hl=>a2U hl fun _ _ _=>rfl,.nil⟩
 have E8:Cal l.prog w K mg base CX0 2 "tie_choices" ["piece","places","put","name"] [] (M9 K):=⟨f11,_,[],a2w T U2 F11,PySem.W.mg_of X G a11,k11,F11.binds (ps:=["piece","places","put","name"]) fun _ _ _ _ _ _ us hl=>b0f hl fun _ _ _ _=>rfl,.nil⟩
 have a0B:Cal l.prog w K mg base CX0 2 "_law_web" ["_law_script","_law_number","_law_kinds"] [] (Z7 K):=⟨f19,_,[],a4Q T D1 B5 T3 F19,PySem.W.mg_of X G a19,k19,F19.binds (ps:=["_law_script","_law_number","_law_kinds"]) fun _ _ _ _ _ _ us hl=>a2U hl fun _ _ _=>rfl,.nil⟩
 have a0d:Cal l.prog w K mg base CX0 2 "_law_rule" ["_law_web_here","_law_xs","_law_words_here","_law_kinds"] [] (Y5 K):=⟨f22,_,[],a4a T U6 a0y F22,PySem.W.mg_of X G a22,k22,F22.binds (ps:=["_law_web_here","_law_xs","_law_words_here","_law_kinds"]) fun _ _ _ _ _ _ us hl=>b0f hl fun _ _ _ _=>rfl,.nil⟩
 have a0F:Cal l.prog w K mg base CX0 2 "_law_all" ["_law_bar_here","_law_web_here","_law_match"] [] (a0a K):=⟨f25,_,[],a4R T T7 F25,PySem.W.mg_of X G a25,k25,F25.binds (ps:=["_law_bar_here","_law_web_here","_law_match"]) fun _ _ _ _ _ _ us hl=>a2U hl fun _ _ _=>rfl,.nil⟩
 have a0G:Cal l.prog w K mg base CX0 3 "has_room" ["piece","places","put","name","image"] [] (a0g K):=⟨f12,_,[],a4W T V4 E8 F12,PySem.W.mg_of X G a12,k12,F12.binds (ps:=["piece","places","put","name","image"]) fun _ _ _ _ _ _ us hl=>b3r hl fun _ _ _ _ _=>rfl,.nil⟩
 have a0x:Cal l.prog w K mg base CX0 3 "_law_due" ["_law_web_here","_law_bars","_law_match"] [] (Z9 K):=⟨f27,_,[],a5q T a0F T2 F27,PySem.W.mg_of X G a27,k27,F27.binds (ps:=["_law_web_here","_law_bars","_law_match"]) fun _ _ _ _ _ _ us hl=>a2U hl fun _ _ _=>rfl,.nil⟩
 have a2o:Cal l.prog w K mg base CX0 4 "images" ["piece","choices","places","begun"] [] (a1p K):=⟨f10,_,[],a7K T L8 E8 a0G F10,PySem.W.mg_of X G a10,k10,F10.binds (ps:=["piece","choices","places","begun"]) fun _ _ _ _ _ _ us hl=>b0f hl fun _ _ _ _=>rfl,.nil⟩
 have a3P:Cal l.prog w K mg base CX0 5 "lines" ["piece","choices","places","most"] [] (a2C K):=⟨f9,_,[],b0s T L8 a2o F9,PySem.W.mg_of X G a9,k9,F9.binds (ps:=["piece","choices","places","most"]) fun _ _ _ _ _ _ us hl=>b0f hl fun _ _ _ _=>rfl,.nil⟩
 have a3Y:Cal l.prog w K mg base CX0 6 "found" ["piece","web","piece_looks","web_looks","fixed","most"] [] (a2j K):=⟨f4,_,[],b0U T P2 V4 X3 L8 a3P F4,PySem.W.mg_of X G a4,k4,F4.binds (ps:=["piece","web","piece_looks","web_looks","fixed","most"]) fun _ _ _ _ _ _ us hl=>b7r hl fun _ _ _ _ _ _=>rfl,.nil⟩
 have T9:Cal l.prog w K mg base CX0 7 "first_found" ["piece","web","piece_looks","web_looks","fixed"] [] (Q3 K):=⟨f3,_,[],a2g T a3Y F3,PySem.W.mg_of X G a3,k3,F3.binds (ps:=["piece","web","piece_looks","web_looks","fixed"]) fun _ _ _ _ _ _ us hl=>b3r hl fun _ _ _ _ _=>rfl,.nil⟩
 have U5:Cal l.prog w K mg base CX0 8 "first_match" ["piece","web","fixed"] [] (R8 K):=⟨f2,_,[],a2u T T9 F2,PySem.W.mg_of X G a2,k2,F2.binds (ps:=["piece","web","fixed"]) fun _ _ _ _ _ _ us hl=>a2U hl fun _ _ _=>rfl,.nil⟩
 have a0X:Cal l.prog w K mg base CX0 9 "barred" ["web","rule","match"] [] (a1n K):=⟨f13,_,[],a7B T U5 F13,PySem.W.mg_of X G a13,k13,F13.binds (ps:=["web","rule","match"]) fun _ _ _ _ _ _ us hl=>a2U hl fun _ _ _=>rfl,.nil⟩
 have X6:Cal l.prog w K mg base CX0 10 "_law_right" ["_law_web_here","_law_rule_here","_law_match"] [] (U1 K):=⟨f28,_,[],a3a T a0x a0X F28,PySem.W.mg_of X G a28,k28,F28.binds (ps:=["_law_web_here","_law_rule_here","_law_match"]) fun _ _ _ _ _ _ us hl=>a2U hl fun _ _ _=>rfl,.nil⟩
 exact b4Q T D1 B5 P9 a0B U9 a0d a0A X6 F29
theorem walk {l:PySem.W.OpenLaw}{q:Program}{loose:List Str}{XP:(Str→Option Value)→Heap→Prop}{YP:World→Heap→Prop}{d:DefRec}{K:Params→PySem.W.Frag}(hn:l.most=some 63)(hdf:d.params.defaults=[])
  (hY:∀(w:World) (h:Heap),YP w h→(K w.params).In h)
  (F:∀(w:World) (mg:Str→Option Value) (fa:Addr) (h:Heap),(K w.params).In h→h.Ns mainGlobals mg→mg d.name=some (.ref fa)→
   ∃fd:FuncData,(∀(s:Shared) (u:Value),BindsTo s fd ⟨[u],[]⟩ [("_law_script",u)])∧∀base:Heap,(K w.params).In base→base.Ns mainGlobals mg→FnOk l.prog w (K w.params) mg base CX0 11 fa fd ["_law_script"] (a4q (K w.params))):
  PySem.W.WalkO q loose XP YP l.row.toRowW d [] (fun f vs=>PySem.call f vs):=
 L2.walk_of (n:=63) (k:=11) (x:="_law_script") (CX:=fun _=>CX0) (sp:=fun w=>a4q (K w.params)) hn (by decide) hdf ⟨rfl,by decide,by decide⟩ hY F (fun _ _ a ns hl _ hS=>⟨a,ns,rfl,hS,hl,fun _=>rfl⟩) fun _ _ _ _ _ z=>z
end K25
theorem PySem.W.Fast.tw3559299122487572824:True:=⟨⟩
theorem PySem.W.Fast.tw10440813451069632991:True:=⟨⟩
theorem PySem.W.Fast.tw6222214273400666109:True:=⟨⟩
theorem PySem.W.Fast.tw14247420558535865160:True:=⟨⟩
theorem PySem.W.Fast.tw9809603974916561255:True:=⟨⟩
theorem PySem.W.Fast.tw4587752690722866596:True:=⟨⟩
theorem PySem.W.Fast.tw6366119715994700121:True:=⟨⟩
theorem PySem.W.Fast.tw13849899675900508225:True:=⟨⟩
theorem PySem.W.Fast.tw5167481342723821046:True:=⟨⟩
theorem PySem.W.Fast.tw17103541365628243408:True:=⟨⟩
theorem PySem.W.Fast.tw14740268203140686816:True:=⟨⟩
theorem PySem.W.Fast.tw2813766573304158860:True:=⟨⟩
theorem PySem.W.Fast.tw7555849479702683034:True:=⟨⟩
theorem PySem.W.Fast.tw17067567686044179551:True:=⟨⟩
theorem PySem.W.Fast.tw5650281489092762081:True:=⟨⟩
theorem PySem.W.Fast.tw16654723534765572575:True:=⟨⟩
theorem PySem.W.Fast.tw854460297862202941:True:=⟨⟩
theorem PySem.W.Fast.tw8275378482467494950:True:=⟨⟩
theorem PySem.W.Fast.tw12468832689247293445:True:=⟨⟩
theorem PySem.W.Fast.tw17378787356039135843:True:=⟨⟩
theorem PySem.W.Fast.tw13406229648130724617:True:=⟨⟩
theorem PySem.W.Fast.tw6825365678293553409:True:=⟨⟩
theorem PySem.W.Fast.tw14977685210942567077:True:=⟨⟩
theorem PySem.W.Fast.tw14240763777125057066:True:=⟨⟩
theorem PySem.W.Fast.tw14166154407528841494:True:=⟨⟩
theorem PySem.W.Fast.tw6228378277927704430:True:=⟨⟩
theorem PySem.W.Fast.tw16922523397494769358:True:=⟨⟩
theorem PySem.W.Fast.tw965137744759744788:True:=⟨⟩
theorem PySem.W.Fast.tw11147803842475165523:True:=⟨⟩
theorem PySem.W.Fast.tw16216079173426183703:True:=⟨⟩
theorem PySem.W.Fast.tw11737817662122316557:True:=⟨⟩
theorem PySem.W.Fast.tw3733921039105855278:True:=⟨⟩
theorem PySem.W.Fast.tw17881696592068891068:True:=⟨⟩
theorem PySem.W.Fast.tw15981793879070422513:True:=⟨⟩
theorem PySem.W.Fast.tw10059689203108985459:True:=⟨⟩
theorem PySem.W.Fast.tw12473193764049694351:True:=⟨⟩
theorem PySem.W.Fast.tw12075868453644523337:True:=⟨⟩
theorem PySem.W.Fast.tw16847673644316028163:True:=⟨⟩
theorem PySem.W.Fast.tw17533176799002842596:True:=⟨⟩
theorem PySem.W.Fast.tw17817546887323686379:True:=⟨⟩
theorem PySem.W.Fast.tw14169851079532228413:True:=⟨⟩
theorem PySem.W.Fast.tw6189807374587925275:True:=⟨⟩
theorem PySem.W.Fast.tw14700242528999421921:True:=⟨⟩
theorem PySem.W.Fast.tw15622540342508718540:True:=⟨⟩
theorem PySem.W.Fast.tw8599644815781087452:True:=⟨⟩
theorem PySem.W.Fast.tw2987435023907627740:True:=⟨⟩
theorem PySem.W.Fast.tw18098616361837955338:True:=⟨⟩
theorem PySem.W.Fast.tw8814225608924949224:True:=⟨⟩
theorem PySem.W.Fast.tw16679032578396610511:True:=⟨⟩
theorem PySem.W.Fast.tw12151346689147433540:True:=⟨⟩
theorem PySem.W.Fast.tw11416908962138093029:True:=⟨⟩
theorem PySem.W.Fast.tw1423543343958207143:True:=⟨⟩
theorem PySem.W.Fast.tw634346377342433685:True:=⟨⟩
theorem PySem.W.Fast.tw10816802907980056170:True:=⟨⟩
theorem PySem.W.Fast.tw8009087032569817304:True:=⟨⟩
theorem PySem.W.Fast.tw9391754814053560795:True:=⟨⟩
theorem PySem.W.Fast.tw9218589552145339234:True:=⟨⟩
theorem PySem.W.Fast.tw239941489804883604:True:=⟨⟩
theorem PySem.W.Fast.tw8961815878090171893:True:=⟨⟩
theorem PySem.W.Fast.tw6473112991443886321:True:=⟨⟩
theorem PySem.W.Fast.tw8814712704766574212:True:=⟨⟩
theorem PySem.W.Fast.tw12695718168006844827:True:=⟨⟩
theorem PySem.W.Fast.tw16598445317839403314:True:=⟨⟩
theorem PySem.W.Fast.tw7260170657236487066:True:=⟨⟩
theorem PySem.W.Fast.tw355434387406780909:True:=⟨⟩
theorem PySem.W.Fast.tw10170249758746043053:True:=⟨⟩
theorem PySem.W.Fast.tw8385808568317046848:True:=⟨⟩
theorem PySem.W.Fast.tw9873687526101361824:True:=⟨⟩
theorem PySem.W.Fast.tw10393379695964401310:True:=⟨⟩
theorem PySem.W.Fast.tw10833362075743711599:True:=⟨⟩
theorem PySem.W.Fast.tw7354079547806099035:True:=⟨⟩
theorem PySem.W.Fast.tw8477473932920248241:True:=⟨⟩
theorem PySem.W.Fast.tw7515515416350772049:True:=⟨⟩
theorem PySem.W.Fast.tw5798988444849356520:True:=⟨⟩
theorem PySem.W.Fast.tw5804034165812819253:True:=⟨⟩
theorem PySem.W.Fast.tw16758355635875956084:True:=⟨⟩
theorem PySem.W.Fast.tw12402766371067730124:True:=⟨⟩
theorem PySem.W.Fast.tw11071688188515480031:True:=⟨⟩
theorem PySem.W.Fast.tw5250341119547851448:True:=⟨⟩
theorem PySem.W.Fast.tw7535180418825086970:True:=⟨⟩
theorem PySem.W.Fast.tw17692469649836661465:True:=⟨⟩
theorem PySem.W.Fast.tw14837200721969850992:True:=⟨⟩
theorem PySem.W.Fast.tw15373415124262301543:True:=⟨⟩
theorem PySem.W.Fast.tw16173756286196402197:True:=⟨⟩
theorem PySem.W.Fast.tw4835119790568425485:True:=⟨⟩
open PySem PySem.W PyProof.Rows
set_option maxRecDepth 100000 in
set_option maxHeartbeats 0 in
theorem PySem.Challenge.cw_gluework_k25_least_bar_holds : PySem.Challenge.rw_gluework_k25_least_bar.Holds := by
 w_on;o_law;k_head;(case hw=>w_witness2)
 k_fill
 refine K25.walk (l:=PySem.Challenge.rw_gluework_k25_least_bar) rfl rfl (fun w h Y=>PySem.W.kIn_of Y) ?F
 case F=>
  intro w mg fa h KX G hmg
  refine' K25.all_mk KX G hmg ?a0 ?l0 ?c0 ?k0 ?a1 ?l1 ?c1 ?k1 ?a2 ?l2 ?c2 ?k2 ?a3 ?l3 ?c3 ?k3 ?a4 ?l4 ?c4 ?k4 ?a5 ?l5 ?c5 ?k5 ?a6 ?l6 ?c6 ?k6 ?a7 ?l7 ?c7 ?k7 ?a8 ?l8 ?c8 ?k8 ?a9 ?l9 ?c9 ?k9 ?a10 ?l10 ?c10 ?k10 ?a11 ?l11 ?c11 ?k11 ?a12 ?l12 ?c12 ?k12 ?a13 ?l13 ?c13 ?k13 ?a14 ?l14 ?c14 ?k14 ?a15 ?l15 ?c15 ?k15 ?a16 ?l16 ?c16 ?k16 ?a17 ?l17 ?c17 ?k17 ?a18 ?l18 ?c18 ?k18 ?a19 ?l19 ?c19 ?k19 ?a20 ?l20 ?c20 ?k20 ?a21 ?l21 ?c21 ?k21 ?a22 ?l22 ?c22 ?k22 ?a23 ?l23 ?c23 ?k23 ?a24 ?l24 ?c24 ?k24 ?a25 ?l25 ?c25 ?k25 ?a26 ?l26 ?c26 ?k26 ?a27 ?l27 ?c27 ?k27 ?a28 ?l28 ?c28 ?k28 ?a29 ?l29 ?c29 ?k29 ?z_all ?z_bool ?z_dict ?z_enumerate ?z_int ?z_isinstance ?z_len ?z_list ?z_max ?z_min ?z_range ?z_reversed ?z_sorted ?z_tuple ?z_zip
  (case a0|l0|c0|k0|a1|l1|c1|k1|a2|l2|c2|k2|a3|l3|c3|k3|a4|l4|c4|k4|a5|l5|c5|k5|a6|l6|c6|k6|a7|l7|c7|k7|a8|l8|c8|k8|a9|l9|c9|k9|a10|l10|c10|k10|a11|l11|c11|k11|a12|l12|c12|k12|a13|l13|c13|k13|a14|l14|c14|k14|a15|l15|c15|k15|a16|l16|c16|k16|a17|l17|c17|k17|a18|l18|c18|k18|a19|l19|c19|k19|a20|l20|c20|k20|a21|l21|c21|k21|a22|l22|c22|k22|a23|l23|c23|k23|a24|l24|c24|k24|a25|l25|c25|k25|a26|l26|c26|k26|a27|l27|c27|k27|a28|l28|c28|k28|a29|l29|c29|k29|z_all|z_bool|z_dict|z_enumerate|z_int|z_isinstance|z_len|z_list|z_max|z_min|z_range|z_reversed|z_sorted|z_tuple|z_zip=>k_is)
