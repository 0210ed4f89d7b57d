import PyProof.Rows.All
import Wide.All
import OpenK.AllK
import Wide.FinOn
import PyProof.EqAt
import PyProof.EqKinds
import PyProof.TupleCall
import PyProof.NeKinds
import PyProof.AttrMissHeap
import PyProof.ExcClass3
import PyProof.RulesAs
import PyProof.Rows.FStr
import OpenK.KOwn
import PyProof.NsDelKeeps
import PyProof.Rows.Catch
import PyProof.Rows.SetFrom
import PyProof.SetRoads
import PyProof.FactsAll.NoneType
import PyProof.Rows.StrNews2
import PyProof.StrLawsTight
import PyProof.StrLawsNeg
import KE.KRevIter
import PyProof.ZipIter
import KE.KItemsList
import PyProof.MinMaxWalk
import PyProof.WalksMore
import PyProof.FString5
import PyProof.Rows.SortShellK
import PySem.Challenge.RW_gluework_k15_likeness_found
set_option Elab.async false
set_option linter.all false
set_option maxRecDepth 100000
namespace L2
open PySem PySem.Spec PyProof.Rows
abbrev d7:=Sum Int Str
def V5:d7→Value→Bool
 | .inl k,v=>Value.isInt k v
 | .inr x,v=>Value.isStrOf x v
def zC (w:World):d7→Int
 | .inl k=>hashInt k
 | .inr x=>hashStr w x
theorem n0:∀{k:d7} {v:Value},V5 k v=true→(∃i t,k=Sum.inl i∧v=Value.int i t)∨(∃x t,k=Sum.inr x∧v=Value.str x t)
 | .inl i,v,h=>by
  obtain⟨t,e⟩:=Value.isInt_shape (k:=i) (v:=v) h
  exact .inl ⟨i,t,rfl,e⟩
 | .inr x,v,h=>by
  obtain⟨t,e⟩:=Value.isStrOf_shape (x:=x) (v:=v) h
  exact .inr ⟨x,t,rfl,e⟩
theorem nu (i:Int)(t:Tok):V5 (.inl i) (.int i t)=true:=by simp [V5,Value.isInt]
theorem lM (x:Str)(t:Tok):V5 (.inr x) (.str x t)=true:=by simp [V5,Value.isStrOf]
theorem pH (a b:Int):decide ((Sum.inl a:d7)=Sum.inl b)=(a==b):=by
 by_cases e:a=b
 ·subst e;simp
 ·have h:¬(Sum.inl a:d7)=Sum.inl b:=fun q=>e (Sum.inl.inj q)
  rw[decide_eq_false h]
  exact(beq_eq_false_iff_ne.mpr e).symm
theorem qP (a b:Str):decide ((Sum.inr a:d7)=Sum.inr b)=decide (a=b):=by
 by_cases e:a=b
 ·subst e;simp
 ·have h:¬(Sum.inr a:d7)=Sum.inr b:=fun q=>e (Sum.inr.inj q)
  rw[decide_eq_false h,decide_eq_false e]
theorem qE (a:Int)(b:Str):decide ((Sum.inl a:d7)=Sum.inr b)=false:=decide_eq_false (fun q=>nomatch q)
theorem qm (a:Str)(b:Int):decide ((Sum.inr a:d7)=Sum.inl b)=false:=decide_eq_false (fun q=>nomatch q)
def h8 (prog:Program)(w:World):PySem.KeyKind prog w d7 where
 is:=V5
 hash:=zC w
 inj:=fun v a b ha hb=>by
  rcases n0 ha with⟨i,t,rfl,rfl⟩|⟨x,t,rfl,rfl⟩
  ·rcases n0 hb with⟨j,u,rfl,e⟩|⟨y,u,rfl,e⟩
   ·injection e with e1 _;rw[e1]
   ·exact nomatch e
  ·rcases n0 hb with⟨j,u,rfl,e⟩|⟨y,u,rfl,e⟩
   ·exact nomatch e
   ·injection e with e1 _;rw[e1]
 byValue:=fun k v h=>by
  rcases n0 h with⟨i,t,rfl,rfl⟩|⟨x,t,rfl,rfl⟩<;>rfl
 pyHash:=fun hv h=>by
  rcases n0 hv with⟨i,t,rfl,rfl⟩|⟨x,t,rfl,rfl⟩
  ·exact wpAny_pyHash_int h
  ·exact wpAny_pyHash_str h
 eqBool:=fun hu hv h=>by
  rcases n0 hu with⟨i,t,rfl,rfl⟩|⟨x,t,rfl,rfl⟩
  ·rcases n0 hv with⟨j,u,rfl,rfl⟩|⟨y,u,rfl,rfl⟩
   ·rw[pH] at h;exact wpAny_eqBool_int h
   ·rw[qE] at h;exact SeqAt.EqAt.int_str i t y u _ _ _ _ h
  ·rcases n0 hv with⟨j,u,rfl,rfl⟩|⟨y,u,rfl,rfl⟩
   ·rw[qm] at h;exact SeqAt.EqAt.str_int x t j u _ _ _ _ h
   ·rw[qP] at h;exact wpAny_eqBool_str h
 «strs»:=fun k x t v h=>by
  rcases n0 h with⟨i,u,rfl,e⟩|⟨y,u,rfl,e⟩
  ·exact nomatch e
  ·injection e with e1 _
   subst e1
   cases v<;>rfl
theorem gN (prog:Program)(w:World)(i:Int)(t:Tok):(h8 prog w).is (.inl i) (.int i t)=true:=nu i t
theorem gi (prog:Program)(w:World)(x:Str)(t:Tok):(h8 prog w).is (.inr x) (.str x t)=true:=lM x t
end L2
namespace L2
open PySem PySem.Spec PyProof.Rows
inductive V where
 |non|bl (b:Bool)|int (i:Int)|str (x:Str)|byt (b:Array UInt8)|flt (b:UInt64)|ref (a:Addr)|ty (n:String)
 deriving DecidableEq
def RelV:V→Value→Prop
 | .non,u=>u=Value.none
 | .bl b,u=>u=Value.bool b
 | .int i,u=>∃t,u=Value.int i t
 | .str x,u=>∃t,u=Value.str x t
 | .byt b,u=>∃t,u=Value.bytes b t
 | .flt b,u=>∃t,u=Value.float b t
 | .ref a,u=>u=Value.ref a
 | .ty n,u=>u=Value.type n
abbrev Vals:List V→List Value→Prop:=Paired RelV
theorem Vals.length {xs:List V}{us:List Value}(r:Vals xs us):xs.length=us.length:=Paired.length r
theorem Vals.get:∀{xs:List V} {us:List Value} {i:Nat} {x:V},Vals xs us→xs[i]?=some x→∃u,us[i]?=some u∧RelV x u
 |_,_,_,_,.nil,e=>by simp at e
 |_,_,0,_,.cons r _,e=>by simp at e;subst e;exact⟨_,rfl,r⟩
 |_,_,i+1,x,.cons _ t,e=>by
  obtain⟨u,h1,h2⟩:=Vals.get (i:=i) (x:=x) t (by simpa using e)
  exact⟨u,by simpa using h1,h2⟩
theorem Vals.set {x:V}{u:Value}(r:RelV x u):∀{xs:List V} {us:List Value} (i:Nat),Vals xs us→Vals (xs.set i x) (us.set i u)
 |_,_,_,.nil=> .nil
 |_,_,0,.cons _ t=> .cons r t
 |_,_,i+1,.cons q t=> .cons q (Vals.set r i t)
theorem Vals.append:∀{xs ys:List V} {us ws:List Value},Vals xs us→Vals ys ws→Vals (xs++ys) (us++ws)
 |_,_,_,_,.nil,s=>s
 |_,_,_,_,.cons r t,s=> .cons r (Vals.append t s)
theorem Vals.take:∀{xs:List V} {us:List Value} (n:Nat),Vals xs us→Vals (xs.take n) (us.take n)
 |_,_,0,_=> .nil
 |_,_,_+1,.nil=> .nil
 |_,_,n+1,.cons r t=> .cons r (Vals.take n t)
theorem Vals.drop:∀{xs:List V} {us:List Value} (n:Nat),Vals xs us→Vals (xs.drop n) (us.drop n)
 |_,_,0,r=>r
 |_,_,_+1,.nil=> .nil
 |_,_,n+1,.cons _ t=>Vals.drop n t
def RelO:Option V→Option Value→Prop
 |some v,some u=>RelV v u
 |none,none=>True
 |_,_=>False
def KV {κ:Type}:List (κ×V)→List (κ×Value)→Prop:=Paired fun(p:κ×V) (q:κ×Value)=>p.1=q.1∧RelV p.2 q.2
def kV:d7→V
 | .inl i=> .int i
 | .inr x=> .str x
inductive HO where
 |lst (xs:List V)
 |tup (xs:List V)
 |dK (kvs:List (d7×V))|dT (kvs:List (List d7×V))
 |set (S:Int→Bool) (n:Nat)
 |ins (C dx:Addr) (fs:List (Str×V))
 |own (x:Addr)
 |xd (fs:List (Str×V))
 |met (f x:Addr)
 |rng (lo hi:Int)
 |frz (o:Obj) (u:HO)
 |tbl (ps:Array Value)
 |ext (φ:Heap→Prop)
abbrev Hp:=Addr→Option HO
def i7 (H:Hp)(a:Addr)(o:HO):Hp:=fun b=>if b=a then some o else H b
theorem c9 {H:Hp}{a:Addr}{o:HO}:i7 H a o a=some o:=by unfold i7;rw[if_pos rfl]
theorem b0 {H:Hp}{a b:Addr}{o:HO}(h:b≠a):i7 H a o b=H b:=by unfold i7;rw[if_neg h]
theorem ud {H:Hp}{a b:Addr}{o u:HO}(h:H a=some o)(h':H b=some u)(d:o≠u):a≠b:=by
 intro e;subst e;rw[h] at h';exact d (Option.some.inj h')
theorem d0 {H:Hp}{a b:Addr}{o:HO}(h:H a=some o)(h':H b=none):a≠b:=by
 intro e;subst e;rw[h] at h';cases h'
section
variable (P:Program) (w:World)
def ObjOk (H:Hp)(h:Heap)(a:Addr):HO→Prop
 | .lst xs=>xs.length≤sizeLine∧∃(its:List Value) (n:Nat),Vals xs its∧h.get? a=some {cls:= .type "list",data:= .seq its.toArray n}
 | .tup xs=>xs.length≤sizeLine∧∃its:List Value,Vals xs its∧IsTup h a its.toArray
 | .dK kvs=>kvs.length≤sizeLine∧(a==sysModules)=false∧∃vs,KV kvs vs∧h.DictOf (h8 P w) a vs
 | .dT kvs=>kvs.length≤sizeLine∧(a==sysModules)=false∧∃xs:List (List d7×Addr×Value),
   Paired (fun(p:List d7×V) (q:List d7×Addr×Value)=>p.1=q.1∧H q.2.1=some (.tup (p.1.map kV))∧RelV p.2 q.2.2) kvs xs∧
   ∃o es ep,h.get? a=some o∧o.ExactDict∧o.data= .dict es ep∧es.toList=xs.map (entryOfKey (tupleKind (h8 P w)))∧(xs.map (·.1)).Nodup
 | .set S n=>h.SetOf (intKind P w) a S n
 | .ins C dx fs=>H dx=some (.own a)∧fs.length≤1000∧dx≠a∧h.get? a=some (PySem.W.instObj C dx)∧
   ∃mA,h.Ns1 dx mA∧(∀f,RelO (fs.lookup f) (mA f))∧PySem.Within mA (fs.map (·.1))
 | .own _=>∃o,h.get? a=some o
 | .xd fs=>∃mA,h.Ns1 a mA∧∀f,RelO (fs.lookup f) (mA f)
 | .rng lo hi=>∃t u v,h.get? a=some {cls:= .type "range",data:= .fields #[.int lo t,.int hi u,.int 1 v]}
 | .frz o u=>h.get? a=some o∧ObjOk H h a u
 | .tbl ps=>h.get? a=some {cls:= .none,data:= .fields ps}
 | .met f x=>h.get? a=some (PySem.W.methodObj (.ref f) (.ref x))
 | .ext φ=>φ h∧(∃o,h.get? a=some o)∧∀h1 h2:Heap,φ h1→(∀o,h1.get? a=some o→h2.get? a=some o)→φ h2
def HOk (H:Hp)(h:Heap):Prop:=∀a o,H a=some o→ObjOk P w H h a o
end
section
variable {P:Program} {w:World} {H H':Hp} {h h':Heap} {a:Addr} {o:HO}
theorem ObjOk.lt (x:ObjOk P w H h a o):a<h.objs.size:=by
 cases o with
 |lst xs=>obtain⟨_,_,_,_,e⟩:=x;exact Heap.lt_size e
 |tup xs=>obtain⟨_,_,_,p⟩:=x;exact p.lt
 |dK kvs=>obtain⟨_,_,_,_,o,_,_,e,_⟩:=x;exact Heap.lt_size e
 |dT kvs=>obtain⟨_,_,_,_,o,_,_,e,_⟩:=x;exact Heap.lt_size e
 |set S n=>obtain⟨o,_,_,_,e,_⟩:=x;exact Heap.lt_size e
 |ins C dx fs=>obtain⟨_,_,_,e,_⟩:=x;exact Heap.lt_size e
 |own y=>obtain⟨_,e⟩:=x;exact Heap.lt_size e
 |xd fs=>obtain⟨_,⟨_,_,_,e,_⟩,_⟩:=x;exact Heap.lt_size e
 |rng lo hi=>obtain⟨_,_,_,e⟩:=x;exact Heap.lt_size e
 |frz ob u=>obtain⟨e,_⟩:=x;exact Heap.lt_size e
 |tbl ps=>exact Heap.lt_size (show h.get? a=some _ from x)
 |met f y=>exact Heap.lt_size (show h.get? a=some _ from x)
 |ext φ=>obtain⟨_,⟨_,e⟩,_⟩:=x;exact Heap.lt_size e
theorem Paired.mapP {α β:Type}{F G:α→β→Prop}:∀{l₁:List α} {l₂:List β},Paired F l₁ l₂→(∀a b,F a b→G a b)→Paired G l₁ l₂
 |_,_,.nil,_=> .nil
 |_,_,.cons r t,f=> .cons (f _ _ r) (Paired.mapP t f)
theorem Paired.imp' {α β:Type}{F G:α→β→Prop}(f:∀a b,F a b→G a b){l₁:List α}{l₂:List β}(r:Paired F l₁ l₂):Paired G l₁ l₂:=Paired.mapP r f
theorem ObjOk.stay (x:ObjOk P w H h a o)(k:∀b u,(b=a∨H b=some (.own a))→h.get? b=some u→h'.get? b=some u)
  (ho:∀b,H b=some (.own a)→H' b=some (.own a)) (ht:∀b xs,H b=some (.tup xs)→H' b=some (.tup xs)):ObjOk P w H' h' a o:=by
 induction o with
 |lst xs=>obtain⟨z,its,n,r,e⟩:=x;exact⟨z,its,n,r,k _ _ (.inl rfl) e⟩
 |tup xs=>obtain⟨z,its,r,ob,e,c⟩:=x;exact⟨z,its,r,ob,k _ _ (.inl rfl) e,c⟩
 |dK kvs=>obtain⟨z,y,vs,r,ob,es,ep,e,c⟩:=x;exact⟨z,y,vs,r,ob,es,ep,k _ _ (.inl rfl) e,c⟩
 |dT kvs=>
  obtain⟨z,y,xs,r,ob,es,ep,e,c⟩:=x
  exact⟨z,y,xs,Paired.mapP r fun p q z=>⟨z.1,ht _ _ z.2.1,z.2.2⟩,ob,es,ep,k _ _ (.inl rfl) e,c⟩
 |set S n=>obtain⟨ob,es,ep,t,e,c⟩:=x;exact⟨ob,es,ep,t,k _ _ (.inl rfl) e,c⟩
 |ins C dx fs=>
  obtain⟨d,z,ne,e,mA,⟨od,es,ep,e2,c⟩,r⟩:=x
  exact⟨ho _ d,z,ne,k _ _ (.inl rfl) e,mA,⟨od,es,ep,k _ _ (.inr d) e2,c⟩,r⟩
 |own y=>obtain⟨ob,e⟩:=x;exact⟨ob,k _ _ (.inl rfl) e⟩
 |xd fs=>obtain⟨mA,⟨od,es,ep,e,c⟩,r⟩:=x;exact⟨mA,⟨od,es,ep,k _ _ (.inl rfl) e,c⟩,r⟩
 |rng lo hi=>obtain⟨t,u,v,e⟩:=x;exact⟨t,u,v,k _ _ (.inl rfl) e⟩
 |frz ob u ih=>obtain⟨e,q⟩:=x;exact⟨k _ _ (.inl rfl) e,ih q⟩
 |tbl ps=>
  have e:h.get? a=some {cls:= .none,data:= .fields ps}:=x
  show h'.get? a=some {cls:= .none,data:= .fields ps}
  exact k a _ (.inl rfl) e
 |met f y=>
  have e:h.get? a=some (PySem.W.methodObj (.ref f) (.ref y)):=x
  show h'.get? a=some (PySem.W.methodObj (.ref f) (.ref y))
  exact k a _ (.inl rfl) e
 |ext φ=>obtain⟨p,⟨o,e⟩,st⟩:=x;exact⟨st _ _ p fun o q=>k _ _ (.inl rfl) q,⟨o,k _ _ (.inl rfl) e⟩,st⟩
theorem HOk.lt (x:HOk P w H h)(e:H a=some o):a<h.objs.size:=(x a o e).lt
theorem HOk.fresh (x:HOk P w H h)(e:h.objs.size≤a):H a=none:=by
 cases q:H a with
 |none=>rfl
 |some u=>exact absurd (Nat.lt_of_lt_of_le (x.lt q) e) (Nat.lt_irrefl _)
theorem HOk.kept (x:HOk P w H h)(k:∀b u,h.get? b=some u→h'.get? b=some u):HOk P w H h':=fun a o e=>
 (x a o e).stay (fun b u _ q=>k b u q) (fun _ q=>q) fun _ _ q=>q
theorem HOk.laid (x:HOk P w H h)(k:∀b u,h.get? b=some u→h'.get? b=some u)(hp:h.objs.size≤a)(new:ObjOk P w (i7 H a o) h' a o):HOk P w (i7 H a o) h':=fun b u e=>by
 have hn:=x.fresh hp
 by_cases hb:b=a
 ·subst hb;rw[c9] at e;cases e;exact new
 ·rw[b0 hb] at e
  exact(x b u e).stay (fun c v _ q=>k c v q) (fun c q=>by rw[b0 (d0 q hn)];exact q) fun c xs q=>by rw[b0 (d0 q hn)];exact q
end
def Rd (H:Hp)(a:Addr)(u:HO):Prop:=H a=some u∨∃o,H a=some (.frz o u)
theorem Rd.ok {P:Program}{w:World}{H:Hp}{h:Heap}{a:Addr}{u:HO}(r:Rd H a u)(x:HOk P w H h):ObjOk P w H h a u:=by
 rcases r with r|⟨o,r⟩
 ·exact x a u r
 ·obtain⟨_,q⟩:=x a _ r
  exact q
def yi:Option HO→Prop
 |some (.lst _)=>True
 |some (.dK _)=>True
 |some (.dT _)=>True
 |some (.set _ _)=>True
 |some (.ins _ _ _)=>True
 |some (.ext _)=>True
 |_=>False
section
variable {P:Program} {w:World} {H:Hp} {h h':Heap} {x e:Addr} {o':HO}
theorem HOk.write (ok:HOk P w H h)(mu:yi (H x))(he:e=x∨H e=some (.own x))(k:∀b u,b≠e→h.get? b=some u→h'.get? b=some u)(heo:∃u,h'.get? e=some u)
  (new:ObjOk P w (i7 H x o') h' x o'):HOk P w (i7 H x o') h':=fun b u q=>by
 have nown:∀c y,H c=some (.own y)→c≠x:=fun c y r z=>by subst z;rw[r] at mu;exact mu
 have ntup:∀c xs,H c=some (.tup xs)→c≠x:=fun c xs r z=>by subst z;rw[r] at mu;exact mu
 by_cases hb:b=x
 ·subst hb;rw[c9] at q;cases q;exact new
 ·rw[b0 hb] at q
  by_cases hbe:b=e
  ·have q':H b=some (.own x):=by
    rcases he with z|z
    ·exact absurd (hbe.trans z) hb
    ·rw[hbe];exact z
   rw[q] at q';cases q'
   obtain⟨v,hv⟩:=heo
   exact⟨v,by rw[hbe];exact hv⟩
  ·refine(ok b u q).stay (fun c v hc r=>k c v ?_ r) (fun c r=>by rw[b0 (nown c b r)];exact r) fun c xs r=>by rw[b0 (ntup c xs r)];exact r
   rcases hc with rfl|hc
   ·exact hbe
   ·rintro rfl
    rcases he with z|z
    ·exact nown c b hc z
    ·rw[hc] at z;cases z;exact hb rfl
end
structure Un (fs ex:List Addr) (H H':Hp) (h h':Heap):Prop where
 keep:∀b o,h.get? b=some o→H b=none→b∉fs→b∉ex→h'.get? b=some o
 slot:∀b o,h.get? b=some o→H b=none→b∈fs→b∉ex→∃sl,h'.get? b=some {o with slots:=sl}
 free:∀b o,h.get? b=some o→H b=none→b∉ex→H' b=none
 there:∀b o,h.get? b=some o→b∉ex→∃o',h'.get? b=some o'
 tups:∀b xs,H b=some (.tup xs)→H' b=some (.tup xs)
 frzs:∀b o u,H b=some (.frz o u)→H' b=some (.frz o u)
 tbls:∀b ps,H b=some (.tbl ps)→∃more,H' b=some (.tbl (ps++more))
section
variable {fs fs' ex ex':List Addr} {H H1 H2:Hp} {h h1 h2 h':Heap} {a x e:Addr} {o:HO}
theorem Un.any (u:Un fs ex H H1 h h1){b:Addr}{ob:Obj}(q:h.get? b=some ob)(n:H b=none)(hx:b∉ex):∃sl,h1.get? b=some {ob with slots:=sl}:=by
 by_cases hb:b∈fs
 ·exact u.slot b ob q n hb hx
 ·exact⟨ob.slots,u.keep b ob q n hb hx⟩
theorem Un.kept (k:∀b u,h.get? b=some u→h'.get? b=some u):Un fs ex H H h h':=
 ⟨fun b ob q _ _ _=>k b ob q,fun b ob q _ _ _=>⟨ob.slots,k b ob q⟩,fun _ _ _ n _=>n,fun b ob q _=>⟨ob,k b ob q⟩,fun _ _ q=>q,fun _ _ _ q=>q,fun _ ps q=>⟨#[],by rw[q];simp⟩⟩
theorem Un.refl:Un fs ex H H h h:=Un.kept fun _ _ q=>q
theorem Un.laid (k:∀b u,h.get? b=some u→h'.get? b=some u)(hp:h.objs.size≤a)(hn:H a=none):Un fs ex H (i7 H a o) h h' where
 keep:=fun b u q _ _ _=>k b u q
 slot:=fun b u q _ _ _=>⟨u.slots,k b u q⟩
 free:=fun b u q n _=>by rw[b0 (Nat.ne_of_lt (Nat.lt_of_lt_of_le (Heap.lt_size q) hp))];exact n
 there:=fun b u q _=>⟨u,k b u q⟩
 tups:=fun b xs q=>by rw[b0 (d0 q hn)];exact q
 frzs:=fun b u xs q=>by rw[b0 (d0 q hn)];exact q
 tbls:=fun b ps q=>⟨#[],by rw[b0 (d0 q hn),q];simp⟩
theorem Un.write (mu:yi (H x))(he:e=x∨H e=some (.own x))(k:∀b u,b≠e→h.get? b=some u→h'.get? b=some u)(heo:∃u,h'.get? e=some u):Un fs ex H (i7 H x o) h h':=by
 have hx:∀b,H b=none→b≠x:=fun b n z=>by subst z;rw[n] at mu;exact mu
 have hb:∀b,H b=none→b≠e:=fun b n z=>by
  subst z
  rcases he with r|r
  ·exact hx b n r
  ·rw[n] at r;cases r
 have hm:∀b u,H b=some u→¬yi (some u)→b≠x:=fun b u q nm z=>by subst z;rw[q] at mu;exact nm mu
 refine⟨fun b u q n _ _=>k b u (hb b n) q,fun b u q n _ _=>⟨u.slots,k b u (hb b n) q⟩,fun b u q n _=>by rw[b0 (hx b n)];exact n,fun b u q _=>?_,
  fun b xs q=>by rw[b0 (hm b _ q fun z=>z)];exact q,fun b u xs q=>by rw[b0 (hm b _ q fun z=>z)];exact q,fun b ps q=>⟨#[],by rw[b0 (hm b _ q fun z=>z),q];simp⟩⟩
 by_cases hbe:b=e
 ·subst hbe;exact heo
 ·exact⟨u,k b u hbe q⟩
end
def zX (h:Heap)(H:Hp):List Addr:=(List.range h.objs.size).filter fun a=>(H a).isSome
def eW (h:Heap)(H:Hp):Heap:=PySem.W.hideAll h (zX h H)
theorem mE (h:Heap)(H:Hp):(eW h H).objs.size=h.objs.size:=PySem.W.hideAll_size _ _
theorem pL {h:Heap}{H:Hp}{b:Addr}{o:Obj}(e:h.get? b=some o)(n:H b=none):(eW h H).get? b=some o:=
 PySem.W.hideAll_get _ e fun hm=>by
  have q:(H b).isSome=true:=(List.mem_filter.mp hm).2
  rw[n] at q;simp at q
theorem tM {h:Heap}{H:Hp}{b:Addr}{o:Obj}(e:(eW h H).get? b=some o):h.get? b=some o∧H b=none:=by
 have e':h.get? b=some o:=PySem.W.of_hideAll (zX h H) e
 refine⟨e',?_⟩
 cases q:H b with
 |none=>rfl
 |some x=>
  have hm:b∈zX h H:=List.mem_filter.mpr ⟨List.mem_range.mpr (Heap.lt_size e'),by simp [q]⟩
  have z:(eW h H).get? b=none:=PySem.W.hideAll_none (zX h H) hm
  rw[z] at e;cases e
def sx (g h:Heap)(L:Addr):List (Addr×Obj):=(List.range h.objs.size).filterMap fun a=>if a=L∨(g.get? a).isSome=true then none else(h.get? a).map fun o=>(a,o)
def Q5 (g h:Heap)(L d:Addr):List (Addr×Obj):=(sx g h L).filter fun p=>decide (p.1≠d)
end L2
namespace L2
open PySem PySem.Spec PyProof.Rows
structure Mod (K:PySem.W.Frag) (mg:Str→Option Value) (base:Heap):Prop where
 kin:K.In base
 glob:base.Ns mainGlobals mg
 blt:∃mb,base.Ns builtinsNs mb∧∀x:Str,x≠"__name__"→mb x=bootBuiltins x
 nolimit:base.NoLimit
structure Cx where
 prog:Program
 w:World
 K:PySem.W.Frag
 mg:Str→Option Value
 base:Heap
 A:Around
 N:List Str
 s₀:Shared
 H₀:Hp
 env:Env
 outer:List Env
 stack:List Env
 ex:List Addr
 fn:Str→Bool
 calm:Bool
 pn:List (Addr×Obj)
 xe:Value→Shared→Prop
def iC (l:List Env):List Addr:=l.filterMap (·.frame)
abbrev Cx.fs (X:Cx):List Addr:=iC X.outer
def AG (sc:Scope)(x:Str):Prop:=sc.names.lookup x=some .local∨sc.names.lookup x=some .cell∨sc.names.lookup x=some .free
def uv (sc:Scope)(x:Str):Prop:=sc.names.lookup x=some .local∨sc.names.lookup x=some .cell
def AL (env:Env)(h:Heap)(m:Str→Option Value)(x:Str)(u:Value):Prop:=
 (env.kindOf x=some .local∧m x=some u)∨((env.kindOf x=some .cell∨env.kindOf x=some .free)∧∃c,env.cells.lookup x=some c∧h.IsCell c (some u))
structure Cx.Ok (X:Cx):Prop where
 mod:Mod X.K X.mg X.base
 kind:X.env.scope.kind= .function
 glob:X.env.globals=mainGlobals
 blt:X.env.builtins=builtinsNs
 above:X.s₀.heap.objs.size≤X.env.locals
 inj:∀x y c,X.env.cells.lookup x=some c→X.env.cells.lookup y=some c→x=y
 has:∀x,(X.env.kindOf x=some .cell∨X.env.kindOf x=some .free)→∃c,X.env.cells.lookup x=some c
 cab:∀x c,X.fn x=true→X.env.cells.lookup x=some c→X.s₀.heap.objs.size≤c
 hd:X.calm=true→X.A.handled=none
 frames:X.A.frames=some X.stack
 stk:X.stack=X.outer∨(X.stack=X.env::X.outer∧X.env.frame=some X.env.locals)
 exf:∀b∈X.ex,b≠X.env.locals∧∀x c,X.env.cells.lookup x=some c→c≠b
 bs:∀b o,X.base.get? b=some o→X.s₀.heap.get? b=some o∧X.H₀ b=none
 bsz:X.base.objs.size≤X.s₀.heap.objs.size
 noex:∀b o,X.base.get? b=some o→b∉X.ex
 exfs:∀b∈X.ex,b∉X.fs
 funs:X.s₀.heap.FunFrames X.base X.outer
 frf:∀b∈X.fs,X.H₀ b=none
structure Inv (X:Cx) (pins:List (Addr×Obj)) (σ:List (Option V)) (H:Hp) (s:Shared):Prop where
 ok:X.Ok
 os:s.os=X.s₀.os
 bare:AllBare s.gens
 base:Un X.fs X.ex X.H₀ H X.s₀.heap s.heap
 loc:∃m,s.heap.Ns X.env.locals m∧∀(i:Nat) (x:Str) (v:V),X.N[i]?=some x→σ[i]?=some (some v)→AG X.env.scope x→∃u,RelV v u∧AL X.env s.heap m x u
 cell:∀x c,X.env.cells.lookup x=some c→∃v,s.heap.IsCell c v
 free:H X.env.locals=none
 freeC:∀x c,X.env.cells.lookup x=some c→H c=none
 pin:∀p∈X.pn++pins,s.heap.get? p.1=some p.2∧H p.1=none∧p.1≠X.env.locals∧p.1∉X.fs∧∀v,p.2.data≠ .cell v
 hok:HOk X.prog X.w H s.heap
 len:σ.length=X.N.length
section
variable {X:Cx} {pins:List (Addr×Obj)} {σ:List (Option V)} {H H':Hp} {s:Shared} {h':Heap}
theorem Cx.Ok.nofr (ok:X.Ok){b:Addr}{o:Obj}(e:X.base.get? b=some o):b∉X.fs:=fun hb=>by
 have:=(ok.funs.mem hb).1
 rw[e] at this;cases this
theorem Inv.bs (I:Inv X pins σ H s):∀b o,X.base.get? b=some o→s.heap.get? b=some o∧H b=none:=fun b o e=>
 ⟨I.base.keep b o (I.ok.bs b o e).1 (I.ok.bs b o e).2 (I.ok.nofr e) (I.ok.noex b o e),I.base.free b o (I.ok.bs b o e).1 (I.ok.bs b o e).2 (I.ok.noex b o e)⟩
theorem Inv.bk (I:Inv X pins σ H s):∀b o,X.base.get? b=some o→s.heap.get? b=some o:=fun b o e=>(I.bs b o e).1
theorem Inv.mod (I:Inv X pins σ H s):Mod X.K X.mg X.base:=I.ok.mod
theorem Inv.kIn (I:Inv X pins σ H s):X.K.In s.heap:=I.ok.mod.kin.keeps I.bk
theorem Inv.lt (I:Inv X pins σ H s):X.env.locals<s.heap.objs.size:=let ⟨_,hn,_⟩:=I.loc;hn.lt
theorem Inv.sz (I:Inv X pins σ H s):X.s₀.heap.objs.size≤s.heap.objs.size:=Nat.le_trans I.ok.above (Nat.le_of_lt I.lt)
theorem Inv.nofs (I:Inv X pins σ H s){a:Addr}(h:s.heap.objs.size≤a):a∉X.fs:=fun hb=>by
 obtain⟨_,o,ho,_⟩:=I.ok.funs.mem hb
 exact absurd (Nat.lt_of_lt_of_le (Heap.lt_size ho) (Nat.le_trans I.sz h)) (Nat.lt_irrefl _)
theorem Inv.cne (I:Inv X pins σ H s):∀x c,X.env.cells.lookup x=some c→c≠X.env.locals:=fun x c e z=>by
 obtain⟨v,o,ho,hd⟩:=I.cell x c e
 obtain⟨m,⟨o',es,ep,ho',hd',_⟩,_⟩:=I.loc
 rw[z,ho'] at ho;cases ho;rw[hd'] at hd;cases hd
theorem Inv.funs (I:Inv X pins σ H s):s.heap.FunFrames X.base X.outer:=by
 have all:∀(l:List Env),(∀b∈iC l,b∈X.fs)→X.s₀.heap.FunFrames X.base l→s.heap.FunFrames X.base l:=by
  intro l
  induction l with
  |nil=>intro _ _;trivial
  |cons env r ih=>
   intro hs hl
   obtain⟨hk,⟨L,o,hf,hn,ho,hd⟩,hr⟩:=hl
   have hL:L∈X.fs:=hs L (by unfold iC;rw[List.filterMap_cons,hf];exact List.mem_cons_self)
   obtain⟨sl,e⟩:=I.base.slot L o ho (I.ok.frf L hL) hL fun z=>I.ok.exfs L z hL
   exact⟨hk,⟨L,_,hf,hn,e,hd⟩,ih (fun b hb=>hs b (by unfold iC;rw[List.filterMap_cons,hf];exact List.mem_cons_of_mem _ hb)) hr⟩
 exact all X.outer (fun _ hb=>hb) I.ok.funs
theorem Inv.stack (I:Inv X pins σ H s):s.heap.FunFrames X.base X.stack:=by
 rcases I.ok.stk with e|⟨e,hf⟩
 ·rw[e];exact I.funs
 ·rw[e]
  obtain⟨m,hn,_⟩:=I.loc
  refine .cons (by rw[I.ok.kind];decide) hf hn ?_ I.funs
  exact Heap.get?_none_of_le (Nat.le_trans I.ok.bsz I.ok.above)
theorem Inv.stkSub (I:Inv X pins σ H s):∀b∈iC X.stack,b∈X.env.locals::X.fs:=fun b hb=>by
 rcases I.ok.stk with e|⟨e,hf⟩
 ·rw[e] at hb;exact List.mem_cons_of_mem _ hb
 ·rw[e] at hb
  unfold iC at hb
  rw[List.filterMap_cons,hf] at hb
  exact hb
theorem Inv.stkFree (I:Inv X pins σ H s):∀b∈iC X.stack,H b=none:=fun b hb=>by
 rcases List.mem_cons.mp (I.stkSub b hb) with e|hb
 ·rw[e];exact I.free
 ·obtain⟨_,o,ho,_⟩:=I.ok.funs.mem hb
  exact I.base.free b o ho (I.ok.frf b hb) fun z=>I.ok.exfs b z hb
theorem Inv.step {g':Array GenState}{t':Nat}{d':Drawn}{ch:List Addr}(I:Inv X pins σ H s)
  (hch:∀b∈ch,(b∈X.ex∨X.s₀.heap.objs.size≤b)∧b≠X.env.locals∧(∀x c,X.env.cells.lookup x=some c→c≠b)∧∀p∈X.pn++pins,p.1≠b)
  (keep:∀b o,b≠X.env.locals→b∉X.fs→b∉ch→s.heap.get? b=some o→H b=none→h'.get? b=some o)
  (slot:∀b o,b≠X.env.locals→b∈X.fs→b∉ch→s.heap.get? b=some o→H b=none→∃sl,h'.get? b=some {o with slots:=sl}) (free:∀b o,b∉ch→s.heap.get? b=some o→H b=none→H' b=none)
  (there:∀b o,b∉ch→s.heap.get? b=some o→∃o',h'.get? b=some o')
  (tups:∀b xs,H b=some (.tup xs)→H' b=some (.tup xs)) (frzs:∀b o u,H b=some (.frz o u)→H' b=some (.frz o u)) (tbls:∀b ps,H b=some (.tbl ps)→∃more,H' b=some (.tbl (ps++more)))
  (ns:∀m,s.heap.Ns X.env.locals m→h'.Ns X.env.locals m) (hok:HOk X.prog X.w H' h') (hg:AllBare g'):
  Inv X pins σ H' {s with heap:=h',gens:=g',drawn:=d',toks:=t'}:=by
 have neL:∀b o,X.s₀.heap.get? b=some o→b≠X.env.locals:=fun b o e=>Nat.ne_of_lt (Nat.lt_of_lt_of_le (Heap.lt_size e) I.ok.above)
 have neC:∀b o,X.s₀.heap.get? b=some o→b∉X.ex→b∉ch:=fun b o e hx hb=>by
  rcases(hch b hb).1 with z|z
  ·exact hx z
  ·exact absurd (Nat.lt_of_lt_of_le (Heap.lt_size e) z) (Nat.lt_irrefl _)
 have cellK:∀x c,X.env.cells.lookup x=some c→∀v,s.heap.IsCell c v→h'.IsCell c v:=fun x c e v ⟨o,ho,hd⟩=>by
  have nch:c∉ch:=fun z=>(hch c z).2.2.1 x c e rfl
  by_cases hc:c∈X.fs
  ·obtain⟨sl,q⟩:=slot c o (I.cne x c e) hc nch ho (I.freeC x c e)
   exact⟨_,q,hd⟩
  ·exact⟨o,keep c o (I.cne x c e) hc nch ho (I.freeC x c e),hd⟩
 refine⟨I.ok,I.os,hg,⟨fun b o e n hb hx=>?_,fun b o e n hb hx=>?_,fun b o e n hx=>?_,fun b o e hx=>?_,fun b xs e=>tups b xs (I.base.tups b xs e),fun b o xs e=>frzs b o xs (I.base.frzs b o xs e),fun b ps e=>?_⟩,?_,fun x c e=>?_,?_,fun x c e=>?_,fun p hp=>?_,hok,I.len⟩
 ·exact keep b o (neL b o e) hb (neC b o e hx) (I.base.keep b o e n hb hx) (I.base.free b o e n hx)
 ·obtain⟨sl,e1⟩:=I.base.slot b o e n hb hx
  obtain⟨sl',e2⟩:=slot b _ (neL b o e) hb (neC b o e hx) e1 (I.base.free b o e n hx)
  exact⟨sl',e2⟩
 ·obtain⟨o',e1⟩:=I.base.there b o e hx
  exact free b o' (neC b o e hx) e1 (I.base.free b o e n hx)
 ·obtain⟨o',e1⟩:=I.base.there b o e hx
  exact there b o' (neC b o e hx) e1
 ·obtain⟨m1,e1⟩:=I.base.tbls b ps e
  obtain⟨m2,e2⟩:=tbls b _ e1
  exact⟨m1++m2,by rw[e2,Array.append_assoc]⟩
 ·obtain⟨m,hn,hl⟩:=I.loc
  refine⟨m,ns m hn,fun i x v e1 e2 e3=>?_⟩
  obtain⟨u,r,l⟩:=hl i x v e1 e2 e3
  refine⟨u,r,?_⟩
  rcases l with l|⟨k,c,e,z⟩
  ·exact .inl l
  ·exact .inr ⟨k,c,e,cellK x c e _ z⟩
 ·obtain⟨v,z⟩:=I.cell x c e
  exact⟨v,cellK x c e v z⟩
 ·obtain⟨m,⟨o,_,_,ho,_⟩,_⟩:=I.loc
  exact free _ o (fun z=>(hch _ z).2.1 rfl) ho I.free
 ·obtain⟨v,o,ho,hd⟩:=I.cell x c e
  exact free c o (fun z=>(hch c z).2.2.1 x c e rfl) ho (I.freeC x c e)
 ·obtain⟨e,n,ne,nf,d⟩:=I.pin p hp
  have nch:p.1∉ch:=fun z=>(hch p.1 z).2.2.2 p hp rfl
  exact⟨keep p.1 p.2 ne nf nch e n,free p.1 p.2 nch e n,ne,nf,d⟩
theorem Inv.un {t':Nat}(I:Inv X pins σ H s)(u:Un X.fs [] H H' s.heap h')(hok:HOk X.prog X.w H' h'):Inv X pins σ H' {s with heap:=h',toks:=t'}:=by
 obtain⟨m,⟨o,es,ep,ho,r⟩,_⟩:=id I.loc
 obtain⟨sl,hL⟩:=u.any ho I.free (by simp)
 exact I.step (g':=s.gens) (d':=s.drawn) (ch:=[]) (fun _ z=>nomatch z) (fun b o _ hb _ e n=>u.keep b o e n hb (by simp)) (fun b o _ hb _ e n=>u.slot b o e n hb (by simp)) (fun b o _ e n=>u.free b o e n (by simp)) (fun b o _ e=>u.there b o e (by simp)) u.tups u.frzs u.tbls (fun m' hm=>by
  obtain⟨o',es',ep',ho',r'⟩:=hm
  rw[ho] at ho';cases ho'
  exact⟨_,es',ep',hL,r'⟩) hok I.bare
theorem Inv.call {g':Array GenState}{t':Nat}{d':Drawn}{ch:List Addr}(I:Inv X pins σ H s)(u:Un (iC X.stack) ch H H' s.heap h')(hok:HOk X.prog X.w H' h')(hg:AllBare g')
  (hch:∀b∈ch,(b∈X.ex∨X.s₀.heap.objs.size≤b)∧b≠X.env.locals∧(∀x c,X.env.cells.lookup x=some c→c≠b)∧∀p∈X.pn++pins,p.1≠b):
  Inv X pins σ H' {s with heap:=h',gens:=g',drawn:=d',toks:=t'}:=by
 obtain⟨m,⟨o,es,ep,ho,r⟩,_⟩:=id I.loc
 obtain⟨sl,hL⟩:=u.any ho I.free fun z=>(hch _ z).2.1 rfl
 exact I.step (ch:=ch) hch (fun b o hL hb hc e n=>u.keep b o e n (fun z=>(List.mem_cons.mp (I.stkSub b z)).elim hL hb) hc) (fun b o _ _ hc e n=>u.any e n hc) (fun b o hc e n=>u.free b o e n hc) (fun b o hc e=>u.there b o e hc) u.tups u.frzs u.tbls (fun m' hm=>by
  obtain⟨o',es',ep',ho',r'⟩:=hm
  rw[ho] at ho';cases ho'
  exact⟨_,es',ep',hL,r'⟩) hok hg
theorem Inv.turned {t':Nat}{it:Addr}(I:Inv X pins σ H s)(k:∀b o,b≠it→s.heap.get? b=some o→h'.get? b=some o)(hn:H it=none)(hL:it≠X.env.locals)
  (h1:it∈X.ex∨X.s₀.heap.objs.size≤it) (h2:∀x c,X.env.cells.lookup x=some c→c≠it) (h3:∀p∈X.pn++pins,p.1≠it):Inv X pins σ H {s with heap:=h',toks:=t'}:=by
 have nit:∀b u,H b=some u→b≠it:=fun b u e z=>by rw[z,hn] at e;cases e
 refine I.step (g':=s.gens) (d':=s.drawn) (ch:=[it]) (fun b hb=>?_) (fun b o _ _ hc e _=>k b o (fun z=>hc (by simp [z])) e) (fun b o _ _ hc e _=>⟨o.slots,k b o (fun z=>hc (by simp [z])) e⟩) (fun _ _ _ _ n=>n)
  (fun b o hc e=>⟨o,k b o (fun z=>hc (by simp [z])) e⟩) (fun _ _ e=>e) (fun _ _ _ e=>e) (fun b ps e=>⟨#[],by rw[e];simp⟩) (fun m hm=>?_) (fun b u e=>?_) I.bare
 ·have e:b=it:=by simpa using hb
  subst e
  exact⟨h1,hL,h2,h3⟩
 ·obtain⟨o,es,ep,ho,r⟩:=hm
  exact⟨o,es,ep,k _ o (Ne.symm hL) ho,r⟩
 ·refine(I.hok b u e).stay (fun c v hc q=>k c v ?_ q) (fun _ q=>q) fun _ _ q=>q
  rcases hc with z|z
  ·rw[z];exact nit b u e
  ·exact nit c _ z
theorem Inv.tok (I:Inv X pins σ H s)(t:Nat):Inv X pins σ H {s with toks:=t}:=I.un (h':=s.heap) (t':=t) Un.refl I.hok
theorem Inv.kept {t':Nat}(I:Inv X pins σ H s)(k:∀b u,s.heap.get? b=some u→h'.get? b=some u):Inv X pins σ H {s with heap:=h',toks:=t'}:=I.un (Un.kept k) (I.hok.kept k)
theorem Inv.laid {a:Addr}{o:HO}{t':Nat}(I:Inv X pins σ H s)(k:∀b u,s.heap.get? b=some u→h'.get? b=some u)(hp:s.heap.objs.size≤a)(new:ObjOk X.prog X.w (i7 H a o) h' a o):
  Inv X pins σ (i7 H a o) {s with heap:=h',toks:=t'}:=I.un (Un.laid k hp (I.hok.fresh hp)) (I.hok.laid k hp new)
theorem Inv.write {x e:Addr}{o:HO}{t':Nat}(I:Inv X pins σ H s)(mu:yi (H x))(he:e=x∨H e=some (.own x))(k:∀b u,b≠e→s.heap.get? b=some u→h'.get? b=some u)(heo:∃u,h'.get? e=some u)
  (new:ObjOk X.prog X.w (i7 H x o) h' x o):Inv X pins σ (i7 H x o) {s with heap:=h',toks:=t'}:=I.un (Un.write mu he k heo) (I.hok.write mu he k heo new)
theorem Inv.weak {σ':List (Option V)}(I:Inv X pins σ H s)(hl:σ'.length=σ.length)(w:∀(i:Nat) v,σ'[i]?=some (some v)→σ[i]?=some (some v)):Inv X pins σ' H s:=
 ⟨I.ok,I.os,I.bare,I.base,let ⟨m,hn,hl'⟩:=I.loc;⟨m,hn,fun i x v e1 e2 e3=>hl' i x v e1 (w i v e2) e3⟩,I.cell,I.free,I.freeC,I.pin,I.hok,hl.trans I.len⟩
theorem Inv.pins_of {pins':List (Addr×Obj)}(I:Inv X pins σ H s)(h:∀p∈pins',s.heap.get? p.1=some p.2∧H p.1=none∧p.1≠X.env.locals∧p.1∉X.fs∧∀v,p.2.data≠ .cell v):Inv X pins' σ H s:=
 ⟨I.ok,I.os,I.bare,I.base,I.loc,I.cell,I.free,I.freeC,fun p hp=>(List.mem_append.mp hp).elim (fun z=>I.pin p (List.mem_append_left _ z)) (h p),I.hok,I.len⟩
theorem gS {N:List Str}(hN:N.Nodup){i j:Nat}{x:Str}(a:N[i]?=some x)(b:N[j]?=some x):i=j:=by
 obtain⟨h1,e1⟩:=List.getElem?_eq_some_iff.mp a
 obtain⟨h2,e2⟩:=List.getElem?_eq_some_iff.mp b
 exact(List.getElem_inj hN).mp (e1.trans e2.symm)
theorem dy {M:Model}{A:Around}{E:Value→Shared→Prop}{i:Nat}{x:Str}{v:V}{u:Value}{Q:Unit→Shared→Prop}(I:Inv X pins σ H s)(hN:X.N.Nodup)(hi:X.N[i]?=some x)(hx:uv X.env.scope x)(r:RelV v u)
  (h:∀s',Inv X pins (σ.set i (some v)) H s'→(∃a,Heap.SameBut a s.heap s'.heap∧(a=X.env.locals∨X.env.cells.lookup x=some a))→Q () s') (hf:X.fn x=true∨X.env.scope.names.lookup x=some .local:=by first|exact .inl rfl|exact .inr rfl|assumption):wpAny M A (storeName X.env x u) Q E s:=by
 obtain⟨m,hn,hl⟩:=id I.loc
 have hcls:(X.env.scope.kind== .class||(X.env.scope.kind== .module&&X.env.locals !=X.env.globals))=false:=by rw[I.ok.kind];rfl
 have hiσ:i<σ.length:=by rw[I.len];exact(List.getElem?_eq_some_iff.mp hi).1
 have cne:=I.cne
 have tracked:∀{a:Addr} {h':Heap},(∃o,s.heap.get? a=some o∧H a=none)→Heap.SameBut a s.heap h'→HOk X.prog X.w H h':=fun{a h'} ha hs b ob e=>by
  obtain⟨_,_,hfree⟩:=ha
  refine(I.hok b ob e).stay (fun c w' hc q=>(hs.2 c ?_).trans q) (fun _ q=>q) fun _ _ q=>q
  rintro rfl
  rcases hc with rfl|hc
  ·rw[hfree] at e;cases e
  ·rw[hfree] at hc;cases hc
 rcases hx with hk|hk
 ·refine wpAny_storeName_local hk hn (fun h' hn' hs=>?_) hcls
  obtain⟨oL,_,_,hoL,_⟩:=id hn
  refine h _ ⟨I.ok,I.os,I.bare,⟨fun b o e n hb hx=>?_,fun b o e n hb hx=>?_,I.base.free,fun b o e hx=>?_,I.base.tups,I.base.frzs,I.base.tbls⟩,⟨_,hn',fun j y v' e1 e2 e3=>?_⟩,fun y c e=>?_,I.free,I.freeC,fun p hp=>?_,tracked ⟨oL,hoL,I.free⟩ hs,by simpa using I.len⟩ ⟨_,hs,.inl rfl⟩
  ·exact(hs.2 b (Nat.ne_of_lt (Nat.lt_of_lt_of_le (Heap.lt_size e) I.ok.above))).trans (I.base.keep b o e n hb hx)
  ·obtain⟨sl,e1⟩:=I.base.slot b o e n hb hx
   exact⟨sl,(hs.2 b (Nat.ne_of_lt (Nat.lt_of_lt_of_le (Heap.lt_size e) I.ok.above))).trans e1⟩
  ·obtain⟨o',e1⟩:=I.base.there b o e hx
   exact⟨o',(hs.2 b (Nat.ne_of_lt (Nat.lt_of_lt_of_le (Heap.lt_size e) I.ok.above))).trans e1⟩
  ·by_cases hj:j=i
   ·subst hj
    rw[hi] at e1;cases e1
    rw[List.getElem?_set_self hiσ] at e2
    cases e2
    exact⟨u,r,.inl ⟨hk,by simp⟩⟩
   ·rw[List.getElem?_set_ne (Ne.symm hj)] at e2
    obtain⟨u',r',q⟩:=hl j y v' e1 e2 e3
    refine⟨u',r',?_⟩
    rcases q with⟨k,e⟩|⟨k,c,e,z⟩
    ·refine .inl ⟨k,?_⟩
     have:y≠x:=fun e=>hj (gS hN e1 (e▸hi))
     simp [this,e]
    ·exact .inr ⟨k,c,e,z.sameBut hs (cne y c e)⟩
  ·obtain⟨w',z⟩:=I.cell y c e
   exact⟨w',z.sameBut hs (cne y c e)⟩
  ·obtain⟨e,n,ne,nf,d⟩:=I.pin p hp
   exact⟨(hs.2 p.1 ne).trans e,n,ne,nf,d⟩
 ·have hfn:X.fn x=true:=by
   rcases hf with z|z
   ·exact z
   ·rw[z] at hk;cases hk
  obtain⟨c,hc⟩:=I.ok.has x (.inl hk)
  obtain⟨w',z⟩:=I.cell x c hc
  refine wpAny_storeName_cell I.ok.kind hk hc z (fun h' hc' hs=>?_)
  obtain⟨oc,hoc,hocd⟩:=id z
  refine h {s with heap:=h'} ⟨I.ok,I.os,I.bare,⟨fun b o e n hb hx=>?_,fun b o e n hb hx=>?_,I.base.free,fun b o e hx=>?_,I.base.tups,I.base.frzs,I.base.tbls⟩,⟨m,hn.sameBut hs (Ne.symm (cne x c hc)),fun j y v' e1 e2 e3=>?_⟩,fun y c' e=>?_,I.free,I.freeC,fun p hp=>?_,tracked ⟨oc,hoc,I.freeC x c hc⟩ hs,by simpa using I.len⟩ ⟨c,hs,.inr hc⟩
  ·exact(hs.2 b (Nat.ne_of_lt (Nat.lt_of_lt_of_le (Heap.lt_size e) (I.ok.cab x c hfn hc)))).trans (I.base.keep b o e n hb hx)
  ·obtain⟨sl,e1⟩:=I.base.slot b o e n hb hx
   exact⟨sl,(hs.2 b (Nat.ne_of_lt (Nat.lt_of_lt_of_le (Heap.lt_size e) (I.ok.cab x c hfn hc)))).trans e1⟩
  ·obtain⟨o',e1⟩:=I.base.there b o e hx
   exact⟨o',(hs.2 b (Nat.ne_of_lt (Nat.lt_of_lt_of_le (Heap.lt_size e) (I.ok.cab x c hfn hc)))).trans e1⟩
  ·by_cases hj:j=i
   ·subst hj
    rw[hi] at e1;cases e1
    rw[List.getElem?_set_self hiσ] at e2
    cases e2
    exact⟨u,r,.inr ⟨.inl hk,c,hc,hc'⟩⟩
   ·rw[List.getElem?_set_ne (Ne.symm hj)] at e2
    obtain⟨u',r',q⟩:=hl j y v' e1 e2 e3
    refine⟨u',r',?_⟩
    rcases q with q|⟨k,c',e,z'⟩
    ·exact .inl q
    ·refine .inr ⟨k,c',e,z'.sameBut hs ?_⟩
     rintro rfl
     exact hj (gS hN e1 (I.ok.inj _ _ _ e hc▸hi))
  ·by_cases hcc:c'=c
   ·subst hcc;exact⟨_,hc'⟩
   ·obtain⟨w2,z2⟩:=I.cell y c' e
    exact⟨w2,z2.sameBut hs hcc⟩
  ·obtain⟨e,n,ne,nf,d⟩:=I.pin p hp
   refine⟨(hs.2 p.1 ?_).trans e,n,ne,nf,d⟩
   intro q
   rw[q,hoc] at e
   have q':oc=p.2:=Option.some.inj e
   exact d w' (by rw[←q'];exact hocd)
theorem fW {M:Model}{A:Around}{E:Value→Shared→Prop}{i:Nat}{x:Str}{v:V}{u:Value}{Q:Unit→Shared→Prop}(I:Inv X pins σ H s)(hN:X.N.Nodup)(hi:X.N[i]?=some x)(hx:uv X.env.scope x)(r:RelV v u)
  (h:∀s',Inv X pins (σ.set i (some v)) H s'→Q () s') (hf:X.fn x=true∨X.env.scope.names.lookup x=some .local:=by first|exact .inl rfl|exact .inr rfl|assumption):wpAny M A (storeName X.env x u) Q E s:=
 dy I hN hi hx r (fun s' I' _=>h s' I') hf
theorem Inv.call' {s':Shared}{ch:List Addr}(I:Inv X pins σ H s)(ho:s'.os=s.os)(u:Un (iC X.stack) ch H H' s.heap s'.heap)(hok:HOk X.prog X.w H' s'.heap)(hg:AllBare s'.gens)
  (hch:∀b∈ch,(b∈X.ex∨X.s₀.heap.objs.size≤b)∧b≠X.env.locals∧(∀x c,X.env.cells.lookup x=some c→c≠b)∧∀p∈X.pn++pins,p.1≠b):Inv X pins σ H' s':=by
 obtain⟨h',g',d',t',o'⟩:=s'
 have e:o'=s.os:=ho
 subst e
 exact I.call (g':=g') (t':=t') (d':=d') u hok hg hch
end
abbrev XK:=Value→Option Addr→Hp→Prop
abbrev St:=List (Option V)
abbrev VK:=V→Hp→Prop
abbrev TE:=St→Hp→VK→Prop
abbrev TT:=St→Hp→(Bool→Hp→Prop)→Prop
abbrev TA:=St→Hp→(List V→Hp→Prop)→Prop
structure iS where
 nx:St→Hp→Prop
 rt:VK
 bk:St→Hp→Prop:=fun _ _=>False
 ct:St→Hp→Prop:=fun _ _=>False
abbrev TS:=iS→St→Hp→Prop
def EP (X:Cx)(pins:List (Addr×Obj))(σ:St)(Q:VK)(u:Value)(s':Shared):Prop:=∃v H',Inv X pins σ H' s'∧RelV v u∧Q v H'
def TP (X:Cx)(pins:List (Addr×Obj))(σ:St)(Q:Bool→Hp→Prop)(b:Bool)(s':Shared):Prop:=∃H',Inv X pins σ H' s'∧Q b H'
def AP (X:Cx)(pins:List (Addr×Obj))(σ:St)(Q:List V→Hp→Prop)(us:List Value)(s':Shared):Prop:=∃vs H',Inv X pins σ H' s'∧Vals vs us∧Q vs H'
def SP (X:Cx)(pins:List (Addr×Obj))(D:iS)(f:Flow)(s':Shared):Prop:=
 match f with
 | .next=>∃σ' H',Inv X pins σ' H' s'∧D.nx σ' H'
 | .brk=>∃σ' H',Inv X pins σ' H' s'∧D.bk σ' H'
 | .cont=>∃σ' H',Inv X pins σ' H' s'∧D.ct σ' H'
 | .ret u=>∃v σ' H',Inv X pins σ' H' s'∧RelV v u∧D.rt v H'
def PE (X:Cx)(e:Expr)(t:TE):Prop:=
 ∀(pins:List (Addr×Obj)) (s:Shared) (σ:St) (H:Hp) (Q:VK),Inv X pins σ H s→t σ H Q→wpAny (model X.prog X.w) X.A (eval e X.env) (EP X pins σ Q) X.xe s
def PT (X:Cx)(e:Expr)(t:TT):Prop:=
 ∀(pins:List (Addr×Obj)) (s:Shared) (σ:St) (H:Hp) (Q:Bool→Hp→Prop),Inv X pins σ H s→t σ H Q→wpAny (model X.prog X.w) X.A (isTrue e X.env (eval e X.env)) (TP X pins σ Q) X.xe s
def PW (X:Cx)(e:Expr)(t:TT):Prop:=
 ∀(whole:Sem Value) (pins:List (Addr×Obj)) (s:Shared) (σ:St) (H:Hp) (Q:Bool→Hp→Prop),Inv X pins σ H s→t σ H Q→wpAny (model X.prog X.w) X.A (isTrue e X.env whole) (TP X pins σ Q) X.xe s
theorem PW.pt {X:Cx}{e:Expr}{t:TT}(h:PW X e t):PT X e t:=h _
def PA (X:Cx)(es:List Expr)(t:TA):Prop:=
 ∀(pos:Pos) (pins:List (Addr×Obj)) (s:Shared) (σ:St) (H:Hp) (Q:List V→Hp→Prop),Inv X pins σ H s→t σ H Q→wpAny (model X.prog X.w) X.A (spliced (backTo pos (starEach es X.env))) (AP X pins σ Q) X.xe s
def PS (X:Cx)(st:Stmt)(t:TS):Prop:=
 ∀(pins:List (Addr×Obj)) (s:Shared) (σ:St) (H:Hp) (D:iS),Inv X pins σ H s→t D σ H→wpAny (model X.prog X.w) X.A (exec st X.env) (SP X pins D) X.xe s
def PSs (X:Cx)(st:List Stmt)(t:TS):Prop:=
 ∀(pins:List (Addr×Obj)) (s:Shared) (σ:St) (H:Hp) (D:iS),Inv X pins σ H s→t D σ H→wpAny (model X.prog X.w) X.A (execs st X.env) (SP X pins D) X.xe s
theorem B5 {α:Type}{t:Sem α}{Q Q':α→Shared→Prop}{M:Model}{A:Around}{E:Value→Shared→Prop}{s:Shared}(h:wpAny M A t Q E s)(hQ:∀a s,Q a s→Q' a s):wpAny M A t Q' E s:=wpAny_mono h hQ fun _ _ x=>x
end L2
namespace L2
open PySem PySem.Spec PyProof.Rows
section
variable {X:Cx}
def tq (i:Nat):TE:=fun σ H Q=>∃v,σ[i]?=some (some v)∧Q v H
def tC (v:V):TE:=fun _ H Q=>Q v H
theorem uY {i:Nat}{x:Str}{pos:Pos}(hN:X.N[i]?=some x)(hv:AG X.env.scope x)(hd:(x==("__debug__":Str))=false:=by decide)(hcd:(x==("__classdict__":Str))=false:=by decide):PE X (.Name x pos) (tq i):=by
 intro pins s σ H Q I h
 obtain⟨v,e,h⟩:=h
 obtain⟨m,hn,hl⟩:=I.loc
 obtain⟨u,r,l⟩:=hl i x v hN e hv
 have fin:EP X pins σ Q u s:=⟨v,H,I,r,h⟩
 rcases l with⟨hk,hm⟩|⟨hk,c,hc,hcell⟩
 ·exact wpAny_Name (wpAny_loadName_local I.ok.kind hk hn hm fin) hd
 ·rcases hk with hk|hk
  ·exact wpAny_Name (wpAny_loadName_cell I.ok.kind hk hc hcell fin) hd
  ·exact wpAny_Name (wpAny_loadName_free I.ok.kind hk hc hcell fin hcd) hd
theorem oa {i j pos}:PE X (.Constant (.int i) j pos) (tC (.int i)):=fun _ _ _ H _ I h=>wpAny_Constant_int ⟨.int i,H,I.tok _,⟨_,rfl⟩,h⟩
theorem zo {b j pos}:PE X (.Constant (.bool b) j pos) (tC (.bl b)):=fun _ _ _ H _ I h=>Constant_bool ⟨.bl b,H,I,rfl,h⟩
theorem vD {j pos}:PE X (.Constant .none j pos) (tC .non):=fun _ _ _ H _ I h=>Constant_none ⟨.non,H,I,rfl,h⟩
theorem vV {x j pos}:PE X (.Constant (.str x) j pos) (tC (.str x)):=fun _ _ _ H _ I h=>Calls.Constant_str ⟨.str x,H,I.tok _,⟨_,rfl⟩,h⟩
def Gl (X:Cx)(x:Str):Prop:=X.env.kindOf x=some .globalImplicit
theorem tR {E:Value→Shared→Prop}{pins:List (Addr×Obj)}{s:Shared}{σ:St}{H:Hp}{x:Str}{u:Value}{pos:Pos}{Q:Value→Shared→Prop}(I:Inv X pins σ H s)(hg:Gl X x)(hm:X.mg x=some u)(h:Q u s)
  (hd:(x==("__debug__":Str))=false:=by decide):wpAny (model X.prog X.w) X.A (eval (.Name x pos) X.env) Q E s:=
 Calls.Name_function_global I.ok.kind hg (Calls.loadGlobal_global (by rw[I.ok.glob];exact I.mod.glob.keeps I.bk) hm h) hd
theorem R8 {E:Value→Shared→Prop}{pins:List (Addr×Obj)}{s:Shared}{σ:St}{H:Hp}{x:Str}{u:Value}{pos:Pos}{Q:Value→Shared→Prop}(I:Inv X pins σ H s)(hg:Gl X x)(hm:X.mg x=none)(hv:bootBuiltins x=some u)(h:Q u s)
  (hn:x≠"__name__":=by decide) (hd:(x==("__debug__":Str))=false:=by decide):wpAny (model X.prog X.w) X.A (eval (.Name x pos) X.env) Q E s:=by
 obtain⟨mb,h1,h2⟩:=I.mod.blt
 exact Calls.Name_function_global I.ok.kind hg (Calls.loadGlobal_builtin (by rw[I.ok.glob];exact I.mod.glob.keeps I.bk) hm (by rw[I.ok.blt];exact h1.keeps I.bk) ((h2 x hn).trans hv) h) hd
theorem rO {x:Str}{v:V}{u:Value}{pos:Pos}(hg:Gl X x)(hm:X.mg x=none)(hv:bootBuiltins x=some u)(r:RelV v u)(hn:x≠"__name__":=by decide)(hd:(x==("__debug__":Str))=false:=by decide):PE X (.Name x pos) (tC v):=
 fun _ _ _ H _ I h=>R8 I hg hm hv ⟨v,H,I,r,h⟩ hn hd
variable {a b:Expr} {ta tb:TE} {pos:Pos}
def PC (X:Cx)(op:CmpOp)(a b:Expr)(t:TE):Prop:=
 ∀(pins:List (Addr×Obj)) (s:Shared) (σ:St) (H:Hp) (Q:VK),Inv X pins σ H s→t σ H Q→
  wpAny (model X.prog X.w) X.A (eval a X.env) (fun v s₁=>wpAny (model X.prog X.w) X.A (eval b X.env) (fun u s₂=>wpAny (model X.prog X.w) X.A (compareOp op v u) (EP X pins σ Q) X.xe s₂) X.xe s₁) X.xe s
theorem RelV.none_iff {x:V}{v:Value}(r:RelV x v):(v==Value.none)=decide (x= .non):=by
 cases x with
 |non=>cases r;rfl
 |bl _=>cases r;rfl
 |int _=>obtain⟨t,rfl⟩:=r;rfl
 |str _=>obtain⟨t,rfl⟩:=r;rfl
 |byt _=>obtain⟨t,rfl⟩:=r;rfl
 |flt _=>obtain⟨t,rfl⟩:=r;rfl
 |ref _=>cases r;rfl
 |ty _=>cases r;rfl
def tB (t:TE):TT:=fun σ H Q=>t σ H fun x H1=>∃c,x= .bl c∧Q c H1
variable {tA tB':TT} {Q5:List Expr}
def vC (t u:TT):TT:=fun σ H Q=>t σ H fun c H1=>if c=true then u σ H1 Q else Q false H1
def Ae (t u:TT):TT:=fun σ H Q=>t σ H fun c H1=>if c=true then Q true H1 else u σ H1 Q
def wV (t:TT):TT:=fun σ H Q=>t σ H fun c H1=>Q (!c) H1
theorem sI (ha:PT X a tA):PW X (.BoolOp .And [a] pos) tA:=by
 intro wh pins s σ H Q I h
 refine isTrue_and (B5 (ha pins s σ H Q I h) fun c s1 e=>?_)
 cases c with
 |true=>exact isTrue_and_nil e
 |false=>exact e
theorem wZ (ha:PT X a tA):PW X (.BoolOp .Or [a] pos) tA:=by
 intro wh pins s σ H Q I h
 refine isTrue_or (B5 (ha pins s σ H Q I h) fun c s1 e=>?_)
 cases c with
 |false=>exact isTrue_or_nil e
 |true=>exact e
theorem xq (ha:PT X a tA)(hb:PW X (.BoolOp .And (b::Q5) pos) tB'):PW X (.BoolOp .And (a::b::Q5) pos) (vC tA tB'):=by
 intro wh pins s σ H Q I h
 refine isTrue_and (B5 (ha pins s σ H _ I h) fun c s1 ⟨H1,I1,q1⟩=>?_)
 cases c with
 |true=>exact hb wh pins s1 σ H1 Q I1 q1
 |false=>exact⟨H1,I1,q1⟩
theorem yA (ha:PT X a tA)(hb:PW X (.BoolOp .Or (b::Q5) pos) tB'):PW X (.BoolOp .Or (a::b::Q5) pos) (Ae tA tB'):=by
 intro wh pins s σ H Q I h
 refine isTrue_or (B5 (ha pins s σ H _ I h) fun c s1 ⟨H1,I1,q1⟩=>?_)
 cases c with
 |true=>exact⟨H1,I1,q1⟩
 |false=>exact hb wh pins s1 σ H1 Q I1 q1
theorem vJ (ha:PT X a tA):PT X (.UnaryOp .Not a pos) (wV tA):=by
 intro pins s σ H Q I h
 exact isTrue_not (ha pins s σ H (fun c H1=>Q (!c) H1) I h)
def pG (ta tb:TE):TE:=fun σ H Q=>ta σ H fun x H1=>∃c,x= .bl c∧if c=true then tb σ H1 Q else Q (.bl false) H1
theorem xl {op}{t:TE}(h:PE X a t):PE X (.BoolOp op [a] pos) t:=fun pins s σ H Q I hw=>BoolOp_one (h pins s σ H Q I hw)
theorem xH (ha:PE X a ta)(hb:PE X (.BoolOp .And (b::Q5) pos) tb):PE X (.BoolOp .And (a::b::Q5) pos) (pG ta tb):=by
 intro pins s σ H Q I h
 refine BoolOp_and (B5 (ha pins s σ H _ I h) fun v s1 ⟨x,H1,I1,r1,q1⟩=>?_)
 obtain⟨c,rfl,q1⟩:=q1
 cases r1
 refine wpAny_truthy_bool ?_
 cases c with
 |true=>exact hb pins s1 σ H1 Q I1 q1
 |false=>exact⟨.bl false,H1,I1,rfl,q1⟩
def AW (t:TT)(ta tb:TE):TE:=fun σ H Q=>t σ H fun c H1=>if c=true then ta σ H1 Q else tb σ H1 Q
theorem rg {c:Expr}(hc:PT X c tA)(ha:PE X a ta)(hb:PE X b tb):PE X (.IfExp c a b pos) (AW tA ta tb):=by
 intro pins s σ H Q I h
 refine wpAny_IfExp (B5 (hc pins s σ H _ I h) fun d s1 ⟨H1,I1,q1⟩=>?_)
 cases d with
 |true=>exact ha pins s1 σ H1 Q I1 q1
 |false=>exact hb pins s1 σ H1 Q I1 q1
end
end L2
namespace L2
open PySem PySem.Spec PyProof.Rows
def SqL (K:PySem.W.Frag)(H:Hp)(a:Addr)(xs:List V):Prop:=
 Rd H a (.lst xs)∨
  ∃(o:Obj) (its:Array Value) (n:Nat),K.lookup a=some o∧o.cls= .type "list"∧o.dict=none∧o.data= .seq its n∧its.size≤sizeLine∧Vals xs its.toList
def SqT (K:PySem.W.Frag)(H:Hp)(a:Addr)(xs:List V):Prop:=
 Rd H a (.tup xs)∨
  ∃(o:Obj) (its:Array Value) (n:Nat),K.lookup a=some o∧o.cls= .type "tuple"∧o.data= .seq its n∧its.size≤sizeLine∧Vals xs its.toList
def AJ:Value→Option V
 | .none=>some .non
 | .bool b=>some (.bl b)
 | .int i _=>some (.int i)
 | .str x _=>some (.str x)
 | .bytes b _=>some (.byt b)
 | .float b _=>some (.flt b)
 | .ref a=>some (.ref a)
 | .type n=>some (.ty n)
 |_=>none
theorem RelV.abs {x:V}{u:Value}(r:RelV x u):AJ u=some x:=by
 cases x with
 |non=>cases r;rfl
 |bl _=>cases r;rfl
 |int _=>obtain⟨t,rfl⟩:=r;rfl
 |str _=>obtain⟨t,rfl⟩:=r;rfl
 |byt _=>obtain⟨t,rfl⟩:=r;rfl
 |flt _=>obtain⟨t,rfl⟩:=r;rfl
 |ref _=>cases r;rfl
 |ty _=>cases r;rfl
theorem RelV.inj {x y:V}{u:Value}(r:RelV x u)(q:RelV y u):x=y:=Option.some.inj (r.abs.symm.trans q.abs)
theorem Vals.inj:∀{xs ys:List V} {us:List Value},Vals xs us→Vals ys us→xs=ys
 |_,_,_,.nil,.nil=>rfl
 |_,_,_,.cons r t,.cons r' t'=>by rw[r.inj r',Vals.inj t t']
section
variable {X:Cx} {pins:List (Addr×Obj)} {σ:St} {H:Hp} {s:Shared} {a:Addr} {xs ys:List V}
theorem SqL.of {K:PySem.W.Frag}(h:H a=some (.lst xs)):SqL K H a xs:= .inl (.inl h)
theorem SqT.of {K:PySem.W.Frag}(h:H a=some (.tup xs)):SqT K H a xs:= .inl (.inl h)
theorem Inv.list (I:Inv X pins σ H s)(h:SqL X.K H a xs):∃its:List Value,Vals xs its∧PlainL s.heap a its.toArray∧xs.length≤sizeLine:=by
 rcases h with h|⟨o,its,n,hk,hc,hd,hs,hz,r⟩
 ·obtain⟨z,its,n,r,e⟩:=h.ok I.hok
  exact⟨its,r,⟨_,n,e,rfl,rfl,rfl⟩,z⟩
 ·refine⟨its.toList,r,⟨o,n,I.kIn a o hk,hc,hd,by simpa using hs⟩,?_⟩
  have e:=r.length
  simp only[Array.length_toList] at e
  omega
theorem Inv.tuple (I:Inv X pins σ H s)(h:SqT X.K H a xs):∃its:List Value,Vals xs its∧IsTup s.heap a its.toArray∧xs.length≤sizeLine:=by
 rcases h with h|⟨o,its,n,hk,hc,hs,hz,r⟩
 ·obtain⟨z,its,r,p⟩:=h.ok I.hok
  exact⟨its,r,p,z⟩
 ·refine⟨its.toList,r,⟨o,I.kIn a o hk,hc,n,by simpa using hs⟩,?_⟩
  have e:=r.length
  simp only[Array.length_toList] at e
  omega
theorem Inv.list_inj (I:Inv X pins σ H s)(h:SqL X.K H a xs)(h':SqL X.K H a ys):xs=ys:=by
 obtain⟨its,r,⟨o,n,e,_,_,d⟩,_⟩:=I.list h
 obtain⟨its',r',⟨o',n',e',_,_,d'⟩,_⟩:=I.list h'
 rw[e] at e';cases e'
 rw[d] at d'
 injection d' with d1 _
 have:its=its':=by simpa using congrArg Array.toList d1
 subst this
 exact r.inj r'
theorem Inv.tuple_inj (I:Inv X pins σ H s)(h:SqT X.K H a xs)(h':SqT X.K H a ys):xs=ys:=by
 obtain⟨its,r,⟨o,e,_,n,d⟩,_⟩:=I.tuple h
 obtain⟨its',r',⟨o',e',_,n',d'⟩,_⟩:=I.tuple h'
 rw[e] at e';cases e'
 rw[d] at d'
 injection d' with d1 _
 have:its=its':=by simpa using congrArg Array.toList d1
 subst this
 exact r.inj r'
end
abbrev Cx.wish (X:Cx)(E:Value→Shared→Prop):Cx:={X with xe:=E}
abbrev Cx.nox (X:Cx):Cx:=X.wish fun _ _=>False
theorem Cx.Ok.wish {X:Cx}(ok:X.Ok)(E:Value→Shared→Prop):(X.wish E).Ok:=
 ⟨ok.mod,ok.kind,ok.glob,ok.blt,ok.above,ok.inj,ok.has,ok.cab,ok.hd,ok.frames,ok.stk,ok.exf,ok.bs,ok.bsz,ok.noex,ok.exfs,ok.funs,ok.frf⟩
theorem Cx.Ok.unwish {X:Cx}{E:Value→Shared→Prop}(ok:(X.wish E).Ok):X.Ok:=
 ⟨ok.mod,ok.kind,ok.glob,ok.blt,ok.above,ok.inj,ok.has,ok.cab,ok.hd,ok.frames,ok.stk,ok.exf,ok.bs,ok.bsz,ok.noex,ok.exfs,ok.funs,ok.frf⟩
section
variable {X:Cx} {pins:List (Addr×Obj)} {σ:St} {H:Hp} {s:Shared} {E:Value→Shared→Prop}
theorem Inv.wish (I:Inv X pins σ H s)(E:Value→Shared→Prop):Inv (X.wish E) pins σ H s:=⟨I.ok.wish E,I.os,I.bare,I.base,I.loc,I.cell,I.free,I.freeC,I.pin,I.hok,I.len⟩
theorem Inv.unwish (I:Inv (X.wish E) pins σ H s):Inv X pins σ H s:=⟨I.ok.unwish,I.os,I.bare,I.base,I.loc,I.cell,I.free,I.freeC,I.pin,I.hok,I.len⟩
theorem SP.unwish {D:iS}{f:Flow}{s':Shared}(h:SP (X.wish E) pins D f s'):SP X pins D f s':=by
 cases f with
 |next=>obtain⟨σ',H',I,q⟩:=h;exact⟨σ',H',I.unwish,q⟩
 |brk=>obtain⟨σ',H',I,q⟩:=h;exact⟨σ',H',I.unwish,q⟩
 |cont=>obtain⟨σ',H',I,q⟩:=h;exact⟨σ',H',I.unwish,q⟩
 |ret u=>obtain⟨v,σ',H',I,r,q⟩:=h;exact⟨v,σ',H',I.unwish,r,q⟩
theorem PSs.nox {st:List Stmt}{t:TS}(h:PSs X.nox st t):PSs X st t:=fun pins s σ H D I hw=>
 wpAny_mono (h pins s σ H D (I.wish _) hw) (fun _ _ q=>q.unwish) fun _ _ z=>False.elim z
end
section
variable {X:Cx} {st:Stmt} {Q5:List Stmt} {t u:TS} {e:Expr} {te:TE} {pos:Pos}
def qS:TS:=fun D σ H=>D.nx σ H
def ox (t u:TS):TS:=fun D σ H=>t {D with nx:=u D} σ H
theorem tT:PSs X [] qS:=fun _ _ σ H _ I h=>wpAny_execs_nil ⟨σ,H,I,h⟩
theorem rl (h1:PS X st t)(h2:PSs X Q5 u):PSs X (st::Q5) (ox t u):=by
 intro pins s σ H D I h
 refine wpAny_execs_cons (B5 (h1 pins s σ H {D with nx:=u D} I h) fun f s1 q=>?_)
 cases f with
 |next=>
  obtain⟨σ',H',I',q⟩:=q
  exact h2 pins s1 σ' H' D I' q
 |ret v=>exact q
 |brk=>exact q
 |cont=>exact q
theorem tQ (h1:PS X st t):PSs X [st] t:=by
 intro pins s σ H D I h
 refine wpAny_execs_cons (B5 (h1 pins s σ H D I h) fun f s1 q=>?_)
 cases f with
 |next=>exact wpAny_execs_nil q
 |ret v=>exact q
 |brk=>exact q
 |cont=>exact q
theorem Inv.quiet {pins:List (Addr×Obj)}{σ:St}{H:Hp}{s:Shared}(I:Inv X pins σ H s):interactive X.env=false:=by simp [interactive,I.ok.kind]
def qK (te:TE):TS:=fun D σ H=>te σ H fun _ H1=>D.nx σ H1
theorem tH (he:PE X e te)(hs:swapsWith e none pos.line X.env=pure false:=by rfl):PS X (.Expr e pos) (qK te):=by
 intro pins s σ H D I h
 exact wpAny_Expr_any (B5 (he pins s σ H _ I h) fun v s1 ⟨x,H1,I1,r1,q1⟩=>⟨σ,H1,I1,q1⟩) I.quiet hs
def vg (te:TE):TS:=fun D σ H=>te σ H D.rt
theorem wY (he:PE X e te):PS X (.Return (some e) pos) (vg te):=by
 intro pins s σ H D I h
 exact wpAny_Return_some (B5 (he pins s σ H _ I h) fun v s1 ⟨x,H1,I1,r1,q1⟩=>⟨x,σ,H1,I1,r1,q1⟩)
def vZ (c:TT)(t u:TS):TS:=fun D σ H=>c σ H fun b H1=>if b=true then t D σ H1 else u D σ H1
theorem yr {c:Expr}{a b:List Stmt}{tc:TT}(hc:PT X c tc)(ha:PSs X a t)(hb:PSs X b u):PS X (.If c a b pos) (vZ tc t u):=by
 intro pins s σ H D I h
 refine wpAny_If (B5 (hc pins s σ H _ I h) fun d s1 ⟨H1,I1,q1⟩=>?_)
 cases d with
 |true=>exact ha pins s1 σ H1 D I1 q1
 |false=>exact hb pins s1 σ H1 D I1 q1
end
abbrev TG:=V→St→Hp→(St→Hp→Prop)→Prop
abbrev je:=List V→St→Hp→(St→Hp→Prop)→Prop
def PG (X:Cx)(target:Expr)(t:TG):Prop:=
 ∀(pins:List (Addr×Obj)) (s:Shared) (σ:St) (H:Hp) (v:V) (u:Value) (Q:St→Hp→Prop),Inv X pins σ H s→RelV v u→t v σ H Q→
  wpAny (model X.prog X.w) X.A (assign target X.env u) (fun _ s'=>∃σ' H',Inv X pins σ' H' s'∧Q σ' H') X.xe s
def ub (X:Cx)(ts:List Expr)(t:je):Prop:=
 ∀(pins:List (Addr×Obj)) (s:Shared) (σ:St) (H:Hp) (vs:List V) (us:List Value) (Q:St→Hp→Prop),Inv X pins σ H s→Vals vs us→t vs σ H Q→
  wpAny (model X.prog X.w) X.A (assignInOrder ((assignEach ts X.env).map (·.2)) us) (fun _ s'=>∃σ' H',Inv X pins σ' H' s'∧Q σ' H') X.xe s
abbrev jC:=V→V→V→Hp→(Hp→Prop)→Prop
def nr (X:Cx)(t:jC):Prop:=
 ∀(pins:List (Addr×Obj)) (s:Shared) (σ:St) (H:Hp) (o i v:V) (ov iv u:Value) (Q:Hp→Prop),Inv X pins σ H s→RelV o ov→RelV i iv→RelV v u→t o i v H Q→
  wpAny (model X.prog X.w) X.A (setItem ov iv u) (fun _ s'=>∃H',Inv X pins σ H' s'∧Q H') X.xe s
section
variable {X:Cx} {pos:Pos}
def K6 (i:Nat):TG:=fun v σ H Q=>Q (σ.set i (some v)) H
theorem rP {i:Nat}{x:Str}(hN:X.N.Nodup)(hi:X.N[i]?=some x)(hx:uv X.env.scope x)(hf:X.fn x=true∨X.env.scope.names.lookup x=some .local:=by first|exact .inl rfl|exact .inr rfl|assumption):PG X (.Name x pos) (K6 i):=by
 intro pins s σ H v u Q I r h
 exact wpAny_assign_Name (fW I hN hi hx r (fun s' I'=>⟨_,H,I',h⟩) hf)
def xm:je:=fun vs σ H Q=>vs=[]∧Q σ H
def gZ (t:TG)(u:je):je:=fun vs σ H Q=>∃v r,vs=v::r∧t v σ H fun σ' H'=>u r σ' H' Q
theorem rT:ub X [] xm:=by
 intro pins s σ H vs us Q I r h
 obtain⟨e,h⟩:=h
 subst e
 cases r
 exact assignInOrder_nil ⟨σ,H,I,h⟩
theorem pd {e:Expr}{es:List Expr}{t:TG}{u:je}(h1:PG X e t)(h2:ub X es u)
  (hs:(assignEach (e::es) X.env).map (·.2)=assign e X.env::(assignEach es X.env).map (·.2):=by rfl):ub X (e::es) (gZ t u):=by
 intro pins s σ H vs us Q I r h
 obtain⟨v,vr,e1,h⟩:=h
 subst e1
 cases r with
 |cons r rr=>
  rw[hs]
  refine assignInOrder_cons (B5 (h1 pins s σ H _ _ _ I r h) fun _ s1 ⟨σ1,H1,I1,q1⟩=>?_)
  exact h2 pins s1 σ1 H1 _ _ Q I1 rr q1
def rj (K:PySem.W.Frag)(n:Nat)(t:je):TG:=fun v σ H Q=>∃a xs,v= .ref a∧SqT K H a xs∧xs.length=n∧t xs σ H Q
theorem wW {es:List Expr}{k:Nat}{t:je}{n:Nat}(hc:X.calm=true)(h:ub X es t)
  (hn:(assignEach es X.env).length=n:=by rfl) (hst:(assignEach es X.env).findIdx? (·.1)=none:=by rfl):PG X (.Tuple es k pos) (rj X.K n t):=by
 intro pins s σ H v u Q I r hw
 obtain⟨a,xs,e1,hq,hl,hw⟩:=hw
 subst e1
 cases r
 obtain⟨its,rv,ht,hz⟩:=I.tuple hq
 refine assign_Tuple_tuple (I.ok.hd hc) ht (by simp [hn,←hl,rv.length]) hst fun h' hx=>?_
 have I1:Inv X pins σ H {s with heap:=h'}:=I.kept (t':=s.toks) fun b o e=>hx b o (Nat.ne_of_lt (Heap.lt_size e)) e
 exact h pins _ σ H xs _ Q I1 (by simpa using rv) hw
def iW (to ti:TE)(t:jC):TG:=fun v σ H Q=>to σ H fun o H1=>ti σ H1 fun i H2=>t o i v H2 fun H3=>Q σ H3
theorem vK {o i:Expr}{to ti:TE}{t:jC}(ho:PE X o to)(hi:PE X i ti)(hs:nr X t)
  (ha:∀v,assign (.Subscript o i pos) X.env v=(do
   let ov←holding [v] (eval o X.env)
   let iv←holding [v,ov] (eval i X.env)
   standAt pos
   holding [v,ov,iv] (setItem ov iv v)
   release [v,ov,iv] []):=by intro _;rfl):PG X (.Subscript o i pos) (iW to ti t):=by
 intro pins s σ H v u Q I r h
 rw[ha]
 refine wpAny_bind (wpAny_holding (B5 (ho pins s σ H _ I h) fun ov s1 ⟨x,H1,I1,r1,q1⟩=>?_))
 refine wpAny_bind (wpAny_holding (B5 (hi pins s1 σ H1 _ I1 q1) fun iv s2 ⟨y,H2,I2,r2,q2⟩=>?_))
 refine wpAny_bind (wpAny_standAt (wpAny_bind (wpAny_holding (B5 (hs pins s2 σ H2 x y v ov iv u _ I2 r1 r2 r q2) fun _ s3 ⟨H3,I3,q3⟩=>?_))))
 exact wpAny_release ⟨σ,H3,I3,q3⟩
def jF (te:TE)(g:TG):TS:=fun D σ H=>te σ H fun x H1=>g x σ H1 D.nx
theorem vq {tg e:Expr}{te:TE}{g:TG}(he:PE X e te)(hg:PG X tg g)(hs:swapsWithSole [tg] e pos.line X.env=pure false:=by rfl)(hw:swappedStores [tg] e X.env=pure none:=by rfl)
  (h1:(assignEach [tg] X.env).map (·.2)=[assign tg X.env]:=by rfl):PS X (.Assign [tg] e pos) (jF te g):=by
 intro pins s σ H D I h
 refine wpAny_Assign_stores (B5 (he pins s σ H _ I h) fun v s1 ⟨x,H1,I1,r1,q1⟩=>?_) hs hw
 rw[h1]
 exact B5 (hg pins s1 σ H1 x v _ I1 r1 q1) fun _ s2 q=>q
theorem uX {i:Nat}{x:Str}{e:Expr}{te:TE}{pos':Pos}(hN:X.N.Nodup)(hi:X.N[i]?=some x)(hx:uv X.env.scope x)(he:PE X e te)(hs:swapsWith e (some (.Name x pos')) pos.line X.env=pure false:=by rfl)(hf:X.fn x=true∨X.env.scope.names.lookup x=some .local:=by first|exact .inl rfl|exact .inr rfl|assumption):
  PS X (.Assign [.Name x pos'] e pos) (jF te (K6 i)):=by
 intro pins s σ H D I h
 refine wpAny_Assign_Name (B5 (he pins s σ H _ I h) fun v s1 ⟨y,H1,I1,r1,q1⟩=>?_) hs
 exact fW I1 hN hi hx r1 (fun s2 I2=>⟨_,H1,I2,q1⟩) hf
end
section
variable {X:Cx} {pos:Pos}
def rn (c:TT)(tb:TS):TS:=fun D σ H=>∃W:Nat→St→Hp→Prop,(∃m,W m σ H)∧∀m σ H,W m σ H→
 c σ H fun b H1=>if b=true then ∃N:St→Hp→Prop,(∀σ' H',N σ' H'→∃m',m'<m∧W m' σ' H')∧tb {D with nx:=N,ct:=N,bk:=D.nx} σ H1 else D.nx σ H1
theorem pf {c:Expr}{body:List Stmt}{tc:TT}{tb:TS}(hp:PassesOwn (model X.prog X.w) X.A X.env X.xe)(hc:PT X c tc)(hb:PSs X body tb):PS X (.While c body [] pos) (rn tc tb):=by
 intro pins s σ H D I h
 obtain⟨W,⟨m0,w0⟩,turn⟩:=h
 refine wpAny_While (codeAny_whileLoop (fun n s'=>∃σ' H',Inv X pins σ' H' s'∧W n σ' H') ?_ m0 ⟨σ,H,I,w0⟩)
 rintro n s1 ⟨σ1,H1,I1,w1⟩
 refine wpAny_passesOwn hp (B5 (hc pins s1 σ1 H1 _ I1 (turn n σ1 H1 w1)) fun b s2 ⟨H2,I2,q2⟩=>?_)
 cases b with
 |true=>
  obtain⟨N,hN,q2⟩:=q2
  rw[if_pos rfl]
  refine wpAny_passesOwn hp (B5 (hb pins s2 σ1 H2 _ I2 q2) fun f s3 q3=>?_)
  cases f with
  |next=>
   obtain⟨σ3,H3,I3,n3⟩:=q3
   obtain⟨m',hm,w3⟩:=hN σ3 H3 n3
   exact⟨m',hm,σ3,H3,I3,w3⟩
  |cont=>
   obtain⟨σ3,H3,I3,n3⟩:=q3
   obtain⟨m',hm,w3⟩:=hN σ3 H3 n3
   exact⟨m',hm,σ3,H3,I3,w3⟩
  |brk=>exact q3
  |ret v=>exact q3
 |false=>
  rw[if_neg Bool.false_ne_true]
  exact wpAny_execs_nil ⟨σ1,H2,I2,q2⟩
end
structure It where
 go:Nat→Hp→Prop
 yld:Nat→Hp→V→Hp→Prop
 stop:Nat→Hp→Prop
def ak (X:Cx)(pins:List (Addr×Obj))(H:Hp)(b:Addr):Prop:=
 H b=none∧b≠X.env.locals∧b∉X.fs∧(b∈X.ex∨X.s₀.heap.objs.size≤b)∧(∀x c,X.env.cells.lookup x=some c→c≠b)∧∀p∈X.pn++pins,p.1≠b
theorem Inv.fpOk {X:Cx}{pins:List (Addr×Obj)}{σ:St}{H H':Hp}{s:Shared}{b:Addr}(I:Inv X pins σ H s)(hb:s.heap.objs.size≤b)(hn:H' b=none):ak X pins H' b:=by
 refine⟨hn,Nat.ne_of_gt (Nat.lt_of_lt_of_le I.lt hb),I.nofs hb,.inr (Nat.le_trans I.sz hb),fun x c e z=>?_,fun p hp z=>?_⟩
 ·obtain⟨v,q⟩:=I.cell x c e
  exact absurd (Nat.lt_of_lt_of_le q.lt (by rw[z];exact hb)) (Nat.lt_irrefl _)
 ·exact absurd (Nat.lt_of_lt_of_le (Heap.lt_size (I.pin p hp).1) (by rw[z];exact hb)) (Nat.lt_irrefl _)
structure ax (P:Program) (w:World) (K:PySem.W.Frag) (tg:Expr) (J:It) (fp:List Addr) (it:Addr) (tn:Nat→Heap→Prop):Prop where
 mem:it∈fp
 obj:∀i h,tn i h→∀b∈fp,∃o,h.get? b=some o∧∀v,o.data≠ .cell v
 keep:∀i h h',tn i h→(∀b∈fp,∀o,h.get? b=some o→h'.get? b=some o)→tn i h'
 item:∀(X:Cx),X.prog=P→X.w=w→X.K=K→X.calm=true→∀(i:Nat) (pins:List (Addr×Obj)) (s:Shared) (σ:St) (H:Hp) (E:Value→Shared→Prop),Inv X pins σ H s→(∀b∈fp,ak X pins H b)→tn i s.heap→J.go i H→
  wpAny (model P w) X.A (pyNext (.ref it)) (fun r s1=>∃u,r=some u∧
   wpAny (model P w) X.A (letOwnedTupleGo tg (.ref it) u) (fun _ s2=>∃x H',Inv X pins σ H' s2∧RelV x u∧J.yld i H x H'∧tn (i+1) s2.heap∧∀b∈fp,H' b=none) E s1) E s
 done:∀(X:Cx),X.prog=P→X.w=w→X.K=K→X.calm=true→∀(i:Nat) (pins:List (Addr×Obj)) (s:Shared) (σ:St) (H:Hp) (E:Value→Shared→Prop),Inv X pins σ H s→(∀b∈fp,ak X pins H b)→tn i s.heap→J.stop i H→
  wpAny (model P w) X.A (pyNext (.ref it)) (fun r s1=>r=none∧Inv X pins σ H s1) E s
 self:∀(A:Around) (i:Nat) (s:Shared) (Q:Value→Shared→Prop) (E:Value→Shared→Prop),tn i s.heap→Q (.ref it) s→wpAny (model P w) A (pyIter (.ref it)) Q E s
abbrev TI:=St→Hp→(It→Hp→Prop)→Prop
def Ac (X:Cx)(pins:List (Addr×Obj))(σ:St)(tg:Expr)(R:It→Hp→Prop)(itv:Value)(s2:Shared):Prop:=
 ∃(it:Addr) (fp:List Addr) (tn:Nat→Heap→Prop) (J:It) (H':Hp),itv= .ref it∧Inv X pins σ H' s2∧ax X.prog X.w X.K tg J fp it tn∧tn 0 s2.heap∧(∀b∈fp,ak X pins H' b)∧R J H'
def PI (X:Cx)(tg iter:Expr)(wi:TI):Prop:=
 ∀(pins:List (Addr×Obj)) (s:Shared) (σ:St) (H:Hp) (R:It→Hp→Prop),Inv X pins σ H s→wi σ H R→
  wpAny (model X.prog X.w) X.A (eval iter X.env) (fun v s1=>wpAny (model X.prog X.w) X.A (pyIter v) (Ac X pins σ tg R) X.xe s1) X.xe s
theorem ix {M : Model} {A : Around} {E : Value → Shared → Prop} {s : Shared} {tg : Expr} {it : Addr} {u : Value} {o : Obj} {n : String} {vs : Array Value} {Q : Unit → Shared → Prop} (ho : s.heap.get? it = some o) (hc : o.cls = .type n) (hd : o.data = .fields vs)
    (hn : ["enumerate", "zip", "dict_itemiterator", "dict_reverseitemiterator", "odict_iterator", "itertools.zip_longest", "itertools.pairwise"].contains n = false) (hQ : Q () s) : wpAny M A (letOwnedTupleGo tg (.ref it) u) Q E s := by
  unfold letOwnedTupleGo
  cases tg <;> first
    | exact wpAny_pure hQ
    | (cases u <;> first
        | exact wpAny_pure hQ
        | (refine wpAny_bind (wpAny_load ho ?_)
           rw [hc, hd]
           show wpAny M A (if (["enumerate", "zip", "dict_itemiterator", "dict_reverseitemiterator", "odict_iterator", "itertools.zip_longest", "itertools.pairwise"].contains n && vs[0]? == some (rawInt _)) = true then _ else _) Q E s
           rw [if_neg (by intro h; rw [hn, Bool.false_and] at h; cases h)]
           exact wpAny_pure hQ))
def Itl (K:PySem.W.Frag)(a:Addr):It:=
 ⟨fun i H=>∃xs x,SqL K H a xs∧xs[i]?=some x,fun i H x H'=>H'=H∧∀xs,SqL K H a xs→xs[i]?=some x,fun i H=>∃xs,SqL K H a xs∧xs.length≤i⟩
def Bi (K:PySem.W.Frag)(a:Addr):It:=
 ⟨fun i H=>∃xs x,SqT K H a xs∧xs[i]?=some x,fun i H x H'=>H'=H∧∀xs,SqT K H a xs→xs[i]?=some x,fun i H=>∃xs,SqT K H a xs∧xs.length≤i⟩
def zS (lo:Int)(n:Nat):It:=⟨fun i _=>i<n,fun i H x H'=>H'=H∧x= .int (lo+i),fun i _=>n≤i⟩
theorem mw {P:Program}{w:World}{K:PySem.W.Frag}{tg:Expr}(a it:Addr):ax P w K tg (Itl K a) [it] it (fun i h=>h.IsListIter it a i) where
 mem:=by simp
 obj:=fun i h st b hb=>by
  have e:b=it:=by simpa using hb
  subst e
  obtain⟨o,e,c,d⟩:=st
  exact⟨o,e,fun v z=>by rw[d] at z;cases z⟩
 keep:=fun i h h' st k=>st.at fun o e=>k it (by simp) o e
 item:=by
  intro X hP hw hK hc i pins s σ H E I hf st hg
  subst hP hw hK
  obtain⟨xs,x,hq,hx⟩:=hg
  obtain⟨its,rv,p,hz⟩:=I.list hq
  obtain⟨u,hu,ru⟩:=rv.get hx
  obtain⟨f0,f1,f2,f3,f4,f5⟩:=hf it (by simp)
  refine wpAny_pyNext_list_item st p.isList (x:=u) (by simpa using hu) fun h' st' sb=>?_
  have I1:Inv X pins σ H {s with heap:=h'}:=I.turned (t':=s.toks) (fun b o hb e=>(sb.2 b hb).trans e) f0 f1 f3 f4 f5
  obtain⟨o,e,c,d⟩:=id st'
  exact⟨u,rfl,ix (s:={s with heap:=h'}) e c d (by decide) ⟨x,H,I1,ru,⟨rfl,fun ys hy=>by rw[I.list_inj hy hq];exact hx⟩,st',fun b hb=>(hf b hb).1⟩⟩
 done:=by
  intro X hP hw hK hc i pins s σ H E I hf st hg
  subst hP hw hK
  obtain⟨xs,hq,hx⟩:=hg
  obtain⟨its,rv,p,hz⟩:=I.list hq
  obtain⟨f0,f1,f2,f3,f4,f5⟩:=hf it (by simp)
  have hl:=rv.length
  exact wpAny_pyNext_list_end (I.ok.hd hc) st p.isList (by simp;omega) fun h' eb=>⟨rfl,I.turned (t':=s.toks) (fun b o hb e=>eb b o hb e) f0 f1 f3 f4 f5⟩
 self:=fun _ _ _ _ _ st h=>wpAny_pyIter_listiter st h
theorem jD {P:Program}{w:World}{K:PySem.W.Frag}{tg:Expr}(a it:Addr):ax P w K tg (Bi K a) [it] it (fun i h=>h.IsTupleIter it a i) where
 mem:=by simp
 obj:=fun i h st b hb=>by
  have e:b=it:=by simpa using hb
  subst e
  obtain⟨o,e,c,d⟩:=st
  exact⟨o,e,fun v z=>by rw[d] at z;cases z⟩
 keep:=fun i h h' st k=>st.at fun o e=>k it (by simp) o e
 item:=by
  intro X hP hw hK hc i pins s σ H E I hf st hg
  subst hP hw hK
  obtain⟨xs,x,hq,hx⟩:=hg
  obtain⟨its,rv,p,hz⟩:=I.tuple hq
  obtain⟨u,hu,ru⟩:=rv.get hx
  obtain⟨f0,f1,f2,f3,f4,f5⟩:=hf it (by simp)
  refine wpAny_pyNext_tuple_item st (show s.heap.IsTuple a its.toArray from p) (x:=u) (by simpa using hu) fun h' st' sb=>?_
  have I1:Inv X pins σ H {s with heap:=h'}:=I.turned (t':=s.toks) (fun b o hb e=>(sb.2 b hb).trans e) f0 f1 f3 f4 f5
  obtain⟨o,e,c,d⟩:=id st'
  exact⟨u,rfl,ix (s:={s with heap:=h'}) e c d (by decide) ⟨x,H,I1,ru,⟨rfl,fun ys hy=>by rw[I.tuple_inj hy hq];exact hx⟩,st',fun b hb=>(hf b hb).1⟩⟩
 done:=by
  intro X hP hw hK hc i pins s σ H E I hf st hg
  subst hP hw hK
  obtain⟨xs,hq,hx⟩:=hg
  obtain⟨its,rv,p,hz⟩:=I.tuple hq
  obtain⟨f0,f1,f2,f3,f4,f5⟩:=hf it (by simp)
  have hl:=rv.length
  exact wpAny_pyNext_tuple_end (I.ok.hd hc) st (show s.heap.IsTuple a its.toArray from p) (by simp;omega) fun h' eb=>⟨rfl,I.turned (t':=s.toks) (fun b o hb e=>eb b o hb e) f0 f1 f3 f4 f5⟩
 self:=fun _ _ _ _ _ st h=>wpAny_pyIter_tupleiter st h
theorem iP {P:Program}{w:World}{K:PySem.W.Frag}{tg:Expr}(it:Addr)(lo:Int)(n:Nat):ax P w K tg (zS lo n) [it] it (fun i h=>IsRangeIter h it (lo+(i:Nat)*1) ((n:Int) -(i:Nat)) 1) where
 mem:=by simp
 obj:=fun i h st b hb=>by
  have e:b=it:=by simpa using hb
  subst e
  exact⟨_,st,fun v z=>by
   have z':Data.fields _=Data.cell v:=z
   cases z'⟩
 keep:=fun i h h' st k=>k it (by simp) _ st
 item:=by
  intro X hP hw hK hc i pins s σ H E I hf st hg
  subst hP hw hK
  obtain⟨f0,f1,f2,f3,f4,f5⟩:=hf it (by simp)
  have W:=Walks.range (prog:=X.prog) (w:=X.w) (I.ok.hd hc) it lo 1 n
  refine W.item i s _ _ hg st fun v h' tk hv st' kk=>?_
  obtain⟨t,rfl⟩:=hv
  have I1:Inv X pins σ H {s with heap:=h',toks:=tk}:=I.turned (fun b o hb e=>kk b o (by simpa using hb) e) f0 f1 f3 f4 f5
  refine⟨_,rfl,ix (s:={s with heap:=h',toks:=tk}) (n:="range_iterator") st' rfl rfl (by decide) ⟨.int (lo+i),H,I1,⟨t,?_⟩,⟨rfl,rfl⟩,st',fun b hb=>(hf b hb).1⟩⟩
  rw[Int.mul_one]
 done:=by
  intro X hP hw hK hc i pins s σ H E I hf st hg
  subst hP hw hK
  obtain⟨f0,f1,f2,f3,f4,f5⟩:=hf it (by simp)
  exact wpAny_pyNext_range_end (I.ok.hd hc) st (by have:n≤i:=hg;omega) fun h' eb=>⟨rfl,I.turned (t':=s.toks) (fun b o hb e=>eb b o hb e) f0 f1 f3 f4 f5⟩
 self:=fun _ _ _ _ _ st h=>wpAny_pyIter_rangeiter st h
end L2
namespace L2
open PySem PySem.Spec PyProof.Rows
section
variable {X:Cx} {tg:Expr}
theorem qj {pins:List (Addr×Obj)}{σ:St}{H:Hp}{s:Shared}{R:It→Hp→Prop}{E:Value→Shared→Prop}{lo hi:Int}{t u v:Tok}{tk:Nat}(I:Inv X pins σ H s)(h1: -(2 ^ 62)≤lo)(h2:lo<2 ^ 62)(h3: -(2 ^ 62)≤hi)(h4:hi<2 ^ 62)
  (q:R (zS lo (hi -lo).toNat) H):wpAny (model X.prog X.w) X.A (pyIter (.ref s.heap.objs.size)) (Ac X pins σ tg R) E {s with heap:=s.heap.push {cls:= .type "range",data:= .fields #[.int lo t,.int hi u,.int 1 v]},toks:=tk}:=by
 refine wpAny_pyIter_range (IsRange.new ..) (small_one h1 h2 h3 h4) ?_
 have I1:Inv X pins σ H {s with heap:=s.heap.push {cls:= .type "range",data:= .fields #[.int lo t,.int hi u,.int 1 v]},toks:=tk}:=I.kept fun b o e=>Heap.get?_push_of_some _ e
 refine⟨(s.heap.push {cls:= .type "range",data:= .fields #[.int lo t,.int hi u,.int 1 v]}).objs.size,[(s.heap.push {cls:= .type "range",data:= .fields #[.int lo t,.int hi u,.int 1 v]}).objs.size],_,_,H,rfl,
  I1.kept (t':=tk) fun b o e=>Heap.get?_push_of_some _ e,iP _ lo (hi -lo).toNat,?_,fun b hb=>?_,q⟩
 ·have e1:lo+((0:Nat):Int)*1=lo:=by simp
  have e2:(((hi -lo).toNat:Nat):Int) -((0:Nat):Int)=Builtin.Range.rangeSize lo hi 1:=by rw[rangeSize_one];split<;>omega
  show IsRangeIter _ _ (lo+((0:Nat):Int)*1) ((((hi -lo).toNat:Nat):Int) -((0:Nat):Int)) 1
  rw[e1,e2]
  exact Heap.get?_push_size _ rfl
 ·have e:b=(s.heap.push {cls:= .type "range",data:= .fields #[.int lo t,.int hi u,.int 1 v]}).objs.size:=by simpa using hb
  subst e
  exact I1.fpOk (Nat.le_refl _) (I1.hok.fresh (Nat.le_refl _))
def pb (ta:TA):TI:=fun σ H R=>ta σ H fun vs H1=>∃j:Int,vs=[.int j]∧-(2 ^ 62)≤j∧j<2 ^ 62∧R (zS 0 j.toNat) H1
theorem ng {a:Expr}{ta:TA}{p pos:Pos}(hg:Gl X "range")(hm:X.mg "range"=none)(ha:PA X [a] ta)(hs:starEach [a] X.env=[(false,eval a X.env)]:=by rfl):PI X tg (.Call (.Name "range" p) [a] [] pos) (pb ta):=by
 intro pins s σ H R I h
 refine Call_ (R8 I hg hm boot_range (PyProof.Rows.callWith_type1 (B5 (ha pos pins s σ H _ I h) fun us s1 ⟨vs,H1,I1,r1,q1⟩=>?_) hs rfl))
 obtain⟨j,e,q1,q2,q⟩:=q1
 subst e
 cases r1 with
 |cons r rr=>
  cases rr
  obtain⟨t,rfl⟩:=r
  exact call_range_1 (qj I1 (by omega) (by omega) q1 q2 (by simpa using q))
def bM (fp:List Addr)(h:Heap):List (Addr×Obj):=fp.filterMap fun b=>(h.get? b).map fun o=>(b,o)
theorem O9 {fp:List Addr}{h:Heap}{b:Addr}{o:Obj}(hb:b∈fp)(e:h.get? b=some o):(b,o)∈bM fp h:=List.mem_filterMap.mpr ⟨b,hb,by rw[e];rfl⟩
theorem lB {fp:List Addr}{h:Heap}{p:Addr×Obj}(hp:p∈bM fp h):p.1∈fp∧h.get? p.1=some p.2:=by
 obtain⟨b,hb,e⟩:=List.mem_filterMap.mp hp
 cases q:h.get? b with
 |none=>rw[q] at e;cases e
 |some o=>
  rw[q] at e
  have e':(b,o)=p:=Option.some.inj e
  subst e'
  exact⟨hb,q⟩
theorem Inv.pinned {pins:List (Addr×Obj)}{σ:St}{H:Hp}{s:Shared}{fp:List Addr}(I:Inv X pins σ H s)(hf:∀b∈fp,ak X pins H b)(ho:∀b∈fp,∃o,s.heap.get? b=some o∧∀v,o.data≠ .cell v):Inv X (pins++bM fp s.heap) σ H s:=
 I.pins_of fun p hp=>(List.mem_append.mp hp).elim (fun z=>I.pin p (List.mem_append_right _ z)) fun z=>by
  obtain⟨hb,e⟩:=lB z
  obtain⟨f0,f1,f2,_⟩:=hf p.1 hb
  obtain⟨o,e',d⟩:=ho p.1 hb
  rw[e] at e';cases e'
  exact⟨e,f0,f1,f2,d⟩
theorem Inv.unpinned {pins pl:List (Addr×Obj)}{σ:St}{H:Hp}{s:Shared}(I:Inv X (pins++pl) σ H s):Inv X pins σ H s:=I.pins_of fun p hp=>I.pin p (List.mem_append_right _ (List.mem_append_left _ hp))
end
end L2
namespace L2
open PySem PySem.Spec PyProof.Rows
abbrev R2:=V→V→Hp→VK→Prop
def OpR (X:Cx)(f:Value→Value→Sem Value)(r:R2):Prop:=
 ∀(pins:List (Addr×Obj)) (s:Shared) (σ:St) (H:Hp) (x y:V) (v u:Value) (Q:VK),Inv X pins σ H s→RelV x v→RelV y u→r x y H Q→
  wpAny (model X.prog X.w) X.A (f v u) (EP X pins σ Q) X.xe s
def Ao (X:Cx)(f:Value→Sem Value)(r:V→Hp→VK→Prop):Prop:=
 ∀(pins:List (Addr×Obj)) (s:Shared) (σ:St) (H:Hp) (x:V) (v:Value) (Q:VK),Inv X pins σ H s→RelV x v→r x H Q→
  wpAny (model X.prog X.w) X.A (f v) (EP X pins σ Q) X.xe s
def CallR (X:Cx)(f:Value)(r:List V→Hp→VK→Prop):Prop:=
 ∀(pins:List (Addr×Obj)) (s:Shared) (σ:St) (H:Hp) (xs:List V) (us:List Value) (Q:VK),Inv X pins σ H s→Vals xs us→r xs H Q→
  wpAny (model X.prog X.w) X.A (call f us) (EP X pins σ Q) X.xe s
def AD (X:Cx)(r:V→Hp→(Bool→Hp→Prop)→Prop):Prop:=
 ∀(pins:List (Addr×Obj)) (s:Shared) (σ:St) (H:Hp) (x:V) (v:Value) (Q:Bool→Hp→Prop),Inv X pins σ H s→RelV x v→r x H Q→
  wpAny (model X.prog X.w) X.A (truthy v) (TP X pins σ Q) X.xe s
def rQ (r:R2)(ta tb:TE):TE:=fun σ H Q=>ta σ H fun x H1=>tb σ H1 fun y H2=>r x y H2 Q
def Bu (r:V→Hp→VK→Prop)(ta:TE):TE:=fun σ H Q=>ta σ H fun x H1=>r x H1 Q
def rI (C:Int→Int→Prop)(g:Int→Int→V):R2:=fun x y H Q=>∃i j,x= .int i∧y= .int j∧C i j∧Q (g i j) H
def sH (g:Int→Int→V):R2:=fun x y H Q=>∃i j,x= .int i∧y= .int j∧Q (g i j) H
def rU (g:Int→V):V→Hp→VK→Prop:=fun x H Q=>∃i,x= .int i∧Q (g i) H
section
variable {X:Cx} {a b c:Expr} {ta tb tc:TE} {pos:Pos}
theorem xI (ha:PE X a ta)(hb:PE X b tb){pins:List (Addr×Obj)}{s:Shared}{σ:St}{H:Hp}{R:V→V→Hp→Prop}(I:Inv X pins σ H s)
  (h:ta σ H fun x H1=>tb σ H1 fun y H2=>R x y H2) {Q:Value→Shared→Prop} {f:Value→Value→Sem Value}
  (hf:∀v u s2 x y H2,Inv X pins σ H2 s2→RelV x v→RelV y u→R x y H2→wpAny (model X.prog X.w) X.A (f v u) Q X.xe s2):
  wpAny (model X.prog X.w) X.A (eval a X.env) (fun v s₁=>wpAny (model X.prog X.w) X.A (eval b X.env) (fun u s₂=>wpAny (model X.prog X.w) X.A (f v u) Q X.xe s₂) X.xe s₁) X.xe s:=by
 refine B5 (ha pins s σ H _ I h) fun v s1 ⟨x,H1,I1,r1,q1⟩=>?_
 refine B5 (hb pins s1 σ H1 _ I1 q1) fun u s2 ⟨y,H2,I2,r2,q2⟩=>?_
 exact hf v u s2 x y H2 I2 r1 r2 q2
theorem yW {op:Operator}{r:R2}(ho:OpR X (binaryOp op) r)(ha:PE X a ta)(hb:PE X b tb):PE X (.BinOp a op b pos) (rQ r ta tb):=by
 intro pins s σ H Q I h
 exact wpAny_BinOp (xI ha hb I h fun v u s2 x y H2 I2 rx ry q=>ho pins s2 σ H2 x y v u Q I2 rx ry q)
theorem zj {op:UnaryOp}{r:V→Hp→VK→Prop}(ho:Ao X (unaryOp op) r)(ha:PE X a ta):PE X (.UnaryOp op a pos) (Bu r ta):=by
 intro pins s σ H Q I h
 exact UnaryOp_ (B5 (ha pins s σ H _ I h) fun v s1 ⟨x,H1,I1,r1,q1⟩=>ho pins s1 σ H1 x v Q I1 r1 q1)
theorem Aa {f:Value→Value→Sem Value}{C:Int→Int→Prop}{g:Int→Int→Int}
  (rule:∀(i j:Int) (t u:Tok) (s:Shared) (Q:Value→Shared→Prop) (E:Value→Shared→Prop),C i j→Q (.int (g i j) s.toks) {s with toks:=s.toks+1}→wpAny (model X.prog X.w) X.A (f (.int i t) (.int j u)) Q E s):
  OpR X f (rI C fun i j=> .int (g i j)):=by
 intro pins s σ H x y v u Q I rx ry h
 obtain⟨i,j,rfl,rfl,hc,q⟩:=h
 obtain⟨t,rfl⟩:=rx
 obtain⟨t',rfl⟩:=ry
 exact rule i j t t' s _ _ hc ⟨.int (g i j),H,I.tok _,⟨_,rfl⟩,q⟩
theorem AA {f:Value→Value→Sem Value}{g:Int→Int→Int}
  (rule:∀(i j:Int) (t u:Tok) (s:Shared) (Q:Value→Shared→Prop) (E:Value→Shared→Prop),Q (.int (g i j) s.toks) {s with toks:=s.toks+1}→wpAny (model X.prog X.w) X.A (f (.int i t) (.int j u)) Q E s):
  OpR X f (sH fun i j=> .int (g i j)):=by
 intro pins s σ H x y v u Q I rx ry h
 obtain⟨i,j,rfl,rfl,q⟩:=h
 obtain⟨t,rfl⟩:=rx
 obtain⟨t',rfl⟩:=ry
 exact rule i j t t' s _ _ ⟨.int (g i j),H,I.tok _,⟨_,rfl⟩,q⟩
theorem vo {f:Value→Value→Sem Value}{g:Int→Int→Bool}
  (rule:∀(i j:Int) (t u:Tok) (s:Shared) (Q:Value→Shared→Prop) (E:Value→Shared→Prop),Q (.bool (g i j)) s→wpAny (model X.prog X.w) X.A (f (.int i t) (.int j u)) Q E s):
  OpR X f (sH fun i j=> .bl (g i j)):=by
 intro pins s σ H x y v u Q I rx ry h
 obtain⟨i,j,rfl,rfl,q⟩:=h
 obtain⟨t,rfl⟩:=rx
 obtain⟨t',rfl⟩:=ry
 exact rule i j t t' s _ _ ⟨.bl (g i j),H,I,rfl,q⟩
def yZ (i j:Int):Prop:=0<j∧j<1073741824
def xZ (i j:Int):Prop:=0≤j∧j≤1000000∧i.natAbs<2 ^ 64
def CMul (i j:Int):Prop:=(-(2 ^ 64)<i∧i<2 ^ 64)∨(-(2 ^ 64)<j∧j<2 ^ 64)
theorem CMul.ok {i j:Int}(h:CMul i j):IntMulOk i j:=by
 rcases h with⟨h1,h2⟩|⟨h1,h2⟩
 ·exact .of_left (intBits_le_64 h1 h2)
 ·exact .of_right (intBits_le_64 h1 h2)
theorem op_add:OpR X (binaryOp .Add) (sH fun i j=> .int (i+j)):=AA fun _ _ _ _ _ _ _ q=>add_int q
theorem op_mul:OpR X (binaryOp .Mult) (rI CMul fun i j=> .int (i*j)):=Aa fun _ _ _ _ _ _ _ hc q=>mul_int q hc.ok
theorem z7:OpR X (binaryOp .FloorDiv) (rI yZ fun i j=> .int (i/j)):=Aa fun i j _ _ _ _ _ hc q=>by
 have h1:(0:Int)<j:=hc.1
 have h2:j<1073741824:=hc.2
 exact floordiv_int (by omega) (by rw[Int.fdiv_eq_ediv_of_nonneg i (by omega)];exact q) (.inl (PyProof.noPylong_small (by omega)))
theorem z8:OpR X (binaryOp .Mod) (rI (fun _ j=>0<j) fun i j=> .int (i % j)):=Aa fun i j _ _ _ _ _ hc q=>by
 have h1:(0:Int)<j:=hc
 exact mod_int' (by omega) (by rw[Int.fmod_eq_emod_of_nonneg i (by omega)];exact q)
theorem nP:OpR X (binaryOp .Pow) (rI xZ fun i j=> .int (i ^ j.toNat)):=Aa fun _ _ _ _ _ _ _ hc q=>pow_int_small hc.1 hc.2.1 hc.2.2 q
theorem By {f:Value→Sem Value}{g:Int→Int}
  (rule:∀(i:Int) (t:Tok) (s:Shared) (Q:Value→Shared→Prop) (E:Value→Shared→Prop),Q (.int (g i) s.toks) {s with toks:=s.toks+1}→wpAny (model X.prog X.w) X.A (f (.int i t)) Q E s):
  Ao X f (rU fun i=> .int (g i)):=by
 intro pins s σ H x v Q I rx h
 obtain⟨i,rfl,q⟩:=h
 obtain⟨t,rfl⟩:=rx
 exact rule i t s _ _ ⟨.int (g i),H,I.tok _,⟨_,rfl⟩,q⟩
theorem vA:Ao X (unaryOp .USub) (rU fun i=> .int (-i)):=By fun _ _ _ _ _ q=>neg_int q
end
def zH:V→V→Bool
 | .non,.non=>true| .non,.int _=>true| .int _,.non=>true| .non,.bl _=>true| .bl _,.non=>true| .non,.str _=>true| .str _,.non=>true
 | .int _,.int _=>true| .bl _,.bl _=>true| .str _,.str _=>true| .byt _,.byt _=>true
 | .int _,.str _=>true| .str _,.int _=>true| .bl _,.str _=>true| .str _,.bl _=>true
 |_,_=>false
def Ab:R2:=fun x y H Q=>zH x y=true∧Q (.bl (decide (x=y))) H
def AF:R2:=fun x y H Q=>zH x y=true∧Q (.bl (!decide (x=y))) H
theorem bF {i j:Int}:decide (V.int i=V.int j)=(i==j):=by
 rw[Bool.eq_iff_iff]
 simp
theorem jn {i j:Bool}:decide (V.bl i=V.bl j)=(i==j):=by
 rw[Bool.eq_iff_iff]
 simp
theorem eh {i j:Str}:decide (V.str i=V.str j)=(i==j):=by
 rw[Bool.eq_iff_iff]
 simp
theorem jR {i j:Array UInt8}:decide (V.byt i=V.byt j)=(i.toList==j.toList):=by
 rw[Bool.eq_iff_iff]
 cases i
 cases j
 simp
section
variable {X:Cx} {a b c:Expr} {ta tb tc:TE} {pos:Pos}
theorem k8 {pins:List (Addr×Obj)}{σ:St}{H:Hp}{s:Shared}{Q:VK}{k k':Bool}(I:Inv X pins σ H s)(q:Q (.bl k) H)(e:k=k'):EP X pins σ Q (.bool k') s:=by
 subst e
 exact⟨.bl k,H,I,rfl,q⟩
theorem op_eq:OpR X (compareOp .Eq) Ab:=by
 intro pins s σ H x y v u Q I rx ry h
 obtain⟨hs,q⟩:=h
 cases x with
 |non=>
  cases rx
  cases y with
  |non=>cases ry;exact PySem.EqNone.eq_none_none (k8 I q (by simp))
  |bl j=>cases ry;exact PySem.EqNone.eq_none_bool (k8 I q (by simp))
  |int j=>obtain⟨t',rfl⟩:=ry;exact PySem.EqNone.eq_none_int (k8 I q (by simp))
  |str j=>obtain⟨t',rfl⟩:=ry;exact PySem.EqNone.eq_none_str (k8 I q (by simp))
  |_=>exact absurd (show false=true from hs) Bool.false_ne_true
 |bl i=>
  cases rx
  cases y with
  |non=>cases ry;exact PySem.EqNone.eq_bool_none (k8 I q (by simp))
  |bl j=>cases ry;exact eq_bool (k8 I q jn)
  |str j=>obtain⟨t',rfl⟩:=ry;exact PySem.EqMixed.eq_bool_str (k8 I q (by simp))
  |_=>exact absurd (show false=true from hs) Bool.false_ne_true
 |int i=>
  obtain⟨t,rfl⟩:=rx
  cases y with
  |non=>cases ry;exact PySem.EqNone.eq_int_none (k8 I q (by simp))
  |int j=>obtain⟨t',rfl⟩:=ry;exact eq_int (k8 I q bF)
  |str j=>obtain⟨t',rfl⟩:=ry;exact PySem.EqMixed.eq_int_str (k8 I q (by simp))
  |_=>exact absurd (show false=true from hs) Bool.false_ne_true
 |str i=>
  obtain⟨t,rfl⟩:=rx
  cases y with
  |non=>cases ry;exact PySem.EqNone.eq_str_none (k8 I q (by simp))
  |bl j=>cases ry;exact PySem.EqMixed.eq_str_bool (k8 I q (by simp))
  |int j=>obtain⟨t',rfl⟩:=ry;exact PySem.EqMixed.eq_str_int (k8 I q (by simp))
  |str j=>obtain⟨t',rfl⟩:=ry;exact eq_str (k8 I q eh)
  |_=>exact absurd (show false=true from hs) Bool.false_ne_true
 |byt i=>
  obtain⟨t,rfl⟩:=rx
  cases y with
  |byt j=>obtain⟨t',rfl⟩:=ry;exact PySem.W.eq_bytes (k8 I q jR)
  |_=>exact absurd (show false=true from hs) Bool.false_ne_true
 |_=>cases y<;>exact absurd (show false=true from hs) Bool.false_ne_true
theorem op_ne:OpR X (compareOp .NotEq) AF:=by
 intro pins s σ H x y v u Q I rx ry h
 obtain⟨hs,q⟩:=h
 cases x with
 |non=>
  cases rx
  cases y with
  |non=>cases ry;exact PySem.EqNone.ne_none_none (k8 I q (by simp))
  |bl j=>cases ry;exact PySem.EqNone.ne_none_bool (k8 I q (by simp))
  |int j=>obtain⟨t',rfl⟩:=ry;exact PySem.EqNone.ne_none_int (k8 I q (by simp))
  |str j=>obtain⟨t',rfl⟩:=ry;exact PySem.EqNone.ne_none_str (k8 I q (by simp))
  |_=>exact absurd (show false=true from hs) Bool.false_ne_true
 |bl i=>
  cases rx
  cases y with
  |non=>cases ry;exact PySem.EqNone.ne_bool_none (k8 I q (by simp))
  |bl j=>cases ry;exact ne_bool (k8 I q (congrArg not jn))
  |str j=>obtain⟨t',rfl⟩:=ry;exact PySem.EqMixed.ne_bool_str (k8 I q (by simp))
  |_=>exact absurd (show false=true from hs) Bool.false_ne_true
 |int i=>
  obtain⟨t,rfl⟩:=rx
  cases y with
  |non=>cases ry;exact PySem.EqNone.ne_int_none (k8 I q (by simp))
  |int j=>obtain⟨t',rfl⟩:=ry;exact ne_int (k8 I q (congrArg not bF))
  |str j=>obtain⟨t',rfl⟩:=ry;exact PySem.EqMixed.ne_int_str (k8 I q (by simp))
  |_=>exact absurd (show false=true from hs) Bool.false_ne_true
 |str i=>
  obtain⟨t,rfl⟩:=rx
  cases y with
  |non=>cases ry;exact PySem.EqNone.ne_str_none (k8 I q (by simp))
  |bl j=>cases ry;exact PySem.EqMixed.ne_str_bool (k8 I q (by simp))
  |int j=>obtain⟨t',rfl⟩:=ry;exact PySem.EqMixed.ne_str_int (k8 I q (by simp))
  |str j=>obtain⟨t',rfl⟩:=ry;exact ne_str (k8 I q (congrArg not eh))
  |_=>exact absurd (show false=true from hs) Bool.false_ne_true
 |byt i=>
  obtain⟨t,rfl⟩:=rx
  cases y with
  |byt j=>obtain⟨t',rfl⟩:=ry;exact PySem.W.ne_bytes (k8 I q (congrArg not jR))
  |_=>exact absurd (show false=true from hs) Bool.false_ne_true
 |_=>cases y<;>exact absurd (show false=true from hs) Bool.false_ne_true
theorem op_lt:OpR X (compareOp .Lt) (sH fun i j=> .bl (decide (i<j))):=vo fun _ _ _ _ _ _ _ q=>lt_int q
theorem yx:OpR X (compareOp .LtE) (sH fun i j=> .bl (decide (i≤j))):=vo fun _ _ _ _ _ _ _ q=>le_int q
theorem yU:OpR X (compareOp .Gt) (sH fun i j=> .bl (decide (j<i))):=vo fun _ _ _ _ _ _ _ q=>gt_int q
theorem ny:OpR X (compareOp .Lt) (fun x y H Q=>∃i j,x= .str i∧y= .str j∧Q (.bl (decide (i.cps.toList<j.cps.toList))) H):=by
 intro pins s σ H x y v u Q I rx ry h
 obtain⟨i,j,rfl,rfl,q⟩:=h
 obtain⟨t,rfl⟩:=rx
 obtain⟨t',rfl⟩:=ry
 exact lt_str (k8 I q rfl)
theorem lJ:OpR X (compareOp .In) (fun x y H Q=>∃i j,x= .str i∧y= .str j∧Q (.bl (!(Builtin.Str.occurrences j i 0 j.length 1).isEmpty)) H):=by
 intro pins s σ H x y v u Q I rx ry h
 obtain⟨i,j,rfl,rfl,q⟩:=h
 obtain⟨t,rfl⟩:=rx
 obtain⟨t',rfl⟩:=ry
 exact in_str (k8 I q rfl)
theorem OpR.or {f:Value→Value→Sem Value}{r r':R2}(h:OpR X f r)(h':OpR X f r'):OpR X f (fun x y H Q=>r x y H Q∨r' x y H Q):=by
 intro pins s σ H x y v u Q I rx ry q
 rcases q with q|q
 ·exact h pins s σ H x y v u Q I rx ry q
 ·exact h' pins s σ H x y v u Q I rx ry q
theorem i3 (b:Expr){op:CmpOp}(h:op≠ .In:=by decide)(h2:op≠ .NotIn:=by decide):behindInMarks op b=false:=by
 have e1:(op==CmpOp.In)=false:=by cases op<;>first|rfl|exact absurd rfl h
 have e2:(op==CmpOp.NotIn)=false:=by cases op<;>first|rfl|exact absurd rfl h2
 cases b<;>simp [behindInMarks,e1,e2]
theorem tV {op:CmpOp}{r:R2}(ho:OpR X (compareOp op) r)(ha:PE X a ta)(hb:PE X b tb)(hm:behindInMarks op b=false):PE X (.Compare a [op] [b] pos) (rQ r ta tb):=by
 intro pins s σ H Q I h
 exact wpAny_Compare1 (xI ha hb I h fun v u s2 x y H2 I2 rx ry q=>ho pins s2 σ H2 x y v u Q I2 rx ry q) hm
def oT (t:TE):TT:=fun σ H Q=>t σ H fun x H'=>∃k,x= .bl k∧Q k H'
theorem tK {op:CmpOp}{r:R2}(ho:OpR X (compareOp op) r)(ha:PE X a ta)(hb:PE X b tb)(hm:behindInMarks op b=false):PT X (.Compare a [op] [b] pos) (oT (rQ r ta tb)):=by
 intro pins s σ H Q I h
 refine wpAny_isTrue_Compare1 (B5 (ha pins s σ H _ I h) fun v s1 ⟨x,H1,I1,r1,q1⟩=>B5 (hb pins s1 σ H1 _ I1 q1) fun u s2 ⟨y,H2,I2,r2,q2⟩=>
  B5 (ho pins s2 σ H2 x y v u _ I2 r1 r2 q2) fun c s3 ⟨z,H3,I3,r3,k,e,q3⟩=>?_) hm
 subst e
 cases r3
 exact wpAny_truthy_bool ⟨H3,I3,q3⟩
def pz (K:PySem.W.Frag)(x:V)(H:Hp)(k:Bool):Prop:=
 match x with
 | .non=>k=false
 | .bl b=>k=b
 | .int i=>k=(i !=0)
 | .str y=>y.length≤sizeLine∧k=((y.length:Int) !=0)
 | .byt y=>y.size≤sizeLine∧k=((y.size:Int) !=0)
 | .ref p=>(∃xs,SqL K H p xs∧k=!xs.isEmpty)∨(∃xs,SqT K H p xs∧k=!xs.isEmpty)∨∃kvs,H p=some (.dK kvs)∧k=!kvs.isEmpty
 |_=>False
theorem iX {κ:Type}{kvs:List (κ×V)}{vs:List (κ×Value)}(r:KV kvs vs):(!vs.isEmpty)=!kvs.isEmpty:=by
 cases r<;>rfl
theorem bH {xs:List V}{its:List Value}(r:Vals xs its):(!its.toArray.isEmpty)=!xs.isEmpty:=by
 cases r<;>simp
theorem az:(sizeLine:Nat)<2 ^ 63:=by rw[sizeLine_eq];decide
theorem vh:AD X (fun x H Q=>∃k,pz X.K x H k∧Q k H):=by
 intro pins s σ H x v Q I rx h
 obtain⟨k,e,q⟩:=h
 have hl:=az
 have hs:sizeLine=16777216:=sizeLine_eq
 cases x with
 |non=>
  cases rx
  have e':k=false:=e
  subst e'
  exact truthy_none ⟨H,I,q⟩
 |bl b=>
  cases rx
  have e':k=b:=e
  subst e'
  exact wpAny_truthy_bool ⟨H,I,q⟩
 |int i=>
  obtain⟨t,rfl⟩:=rx
  have e':k=(i !=0):=e
  subst e'
  exact PySem.P.truthy_int ⟨H,I,q⟩
 |str y=>
  obtain⟨t,rfl⟩:=rx
  obtain⟨hy,e'⟩:y.length≤sizeLine∧k=((y.length:Int) !=0):=e
  subst e'
  exact PySem.P.truthy_str (by omega) ⟨H,I.tok _,q⟩
 |byt y=>
  obtain⟨t,rfl⟩:=rx
  obtain⟨hy,e'⟩:y.size≤sizeLine∧k=((y.size:Int) !=0):=e
  subst e'
  exact PySem.W.truthy_bytes (by omega) ⟨H,I.tok _,q⟩
 |ref p=>
  cases rx
  have e':(∃xs,SqL X.K H p xs∧k=!xs.isEmpty)∨(∃xs,SqT X.K H p xs∧k=!xs.isEmpty)∨∃kvs,H p=some (.dK kvs)∧k=!kvs.isEmpty:=e
  rcases e' with⟨xs,hx,e'⟩|⟨xs,hx,e'⟩|⟨kvs,hx,e'⟩
  ·subst e'
   obtain⟨its,r,pl,hz⟩:=I.list hx
   have hlen:=r.length
   exact wpAny_truthy_list pl.isList (by simp only[List.size_toArray];omega) ⟨H,I.tok _,by rw[bH r];exact q⟩
  ·subst e'
   obtain⟨its,r,pl,hz⟩:=I.tuple hx
   have hlen:=r.length
   exact truthy_tuple pl (by simp only[List.size_toArray];omega) ⟨H,I.tok _,by rw[bH r];exact q⟩
  ·subst e'
   obtain⟨hz,hS,vs,r,m⟩:kvs.length≤sizeLine∧(p==sysModules)=false∧∃vs,KV kvs vs∧s.heap.DictOf (h8 X.prog X.w) p vs:=I.hok p _ hx
   have hlen:kvs.length=vs.length:=Paired.length r
   exact wpAny_truthy_dict hS m (by omega) ⟨H,I.tok _,by rw[iX r];exact q⟩
 |_=>exact(show False from e).elim
theorem qW (ha:PE X a ta)(he:∀whole,isTrue a X.env whole=(do let v←whole;standAt a.pos;holding [v] (truthy v))):
  PT X a (fun σ H Q=>ta σ H fun x H'=>∃k,pz X.K x H' k∧Q k H'):=by
 intro pins s σ H Q I h
 exact isTrue_plain (B5 (ha pins s σ H _ I h) fun v s1 ⟨x,H1,I1,r1,q1⟩=>vh pins s1 σ H1 x v Q I1 r1 q1) (he _)
theorem op_add_str:OpR X (binaryOp .Add) (fun x y H Q=>∃i j,x= .str i∧y= .str j∧i.length+j.length≤sizeLine∧Q (.str (i++j)) H):=by
 intro pins s σ H x y v u Q I rx ry h
 obtain⟨i,j,rfl,rfl,hz,q⟩:=h
 obtain⟨t,rfl⟩:=rx
 obtain⟨t',rfl⟩:=ry
 exact add_str (fun t' tk=>⟨.str (i++j),H,I.tok _,⟨_,rfl⟩,q⟩) hz
theorem D4 {x:V}{us:List Value}(r:Vals [x] us):∃u,us=[u]∧RelV x u:=by
 cases r with
 |cons r1 r2=>cases r2;exact⟨_,rfl,r1⟩
theorem M9 {x y:V}{us:List Value}(r:Vals [x,y] us):∃u w',us=[u,w']∧RelV x u∧RelV y w':=by
 cases r with
 |cons r1 r2=>
  cases r2 with
  |cons r3 r4=>cases r4;exact⟨_,_,rfl,r1,r3⟩
theorem ml:CallR X (.type "int") (fun xs H Q=>(∃i,xs=[.int i]∧Q (.int i) H)∨∃k,xs=[.bl k]∧Q (.int (if k then 1 else 0)) H):=by
 intro pins s σ H xs us Q I r h
 rcases h with⟨i,rfl,q⟩|⟨k,rfl,q⟩
 ·obtain⟨u,rfl,t,rfl⟩:=D4 r
  exact call_int_int ⟨.int i,H,I,⟨_,rfl⟩,q⟩
 ·obtain⟨u,rfl,r1⟩:=D4 r
  cases r1
  exact call_int_bool ⟨.int (if k then 1 else 0),H,I.tok _,⟨_,rfl⟩,q⟩
def zG (K:PySem.W.Frag)(x:V)(H:Hp)(n:Nat):Prop:=
 match x with
 | .str y=>y.length≤sizeLine∧n=y.length
 | .byt y=>y.size≤sizeLine∧n=y.size
 | .ref p=>(∃xs,SqL K H p xs∧n=xs.length)∨∃xs,SqT K H p xs∧n=xs.length
 |_=>False
theorem call_len:CallR X (.builtin "len") (fun xs H Q=>∃x n,xs=[x]∧zG X.K x H n∧Q (.int n) H):=by
 intro pins s σ H xs us Q I r h
 obtain⟨x,n,rfl,e,q⟩:=h
 obtain⟨u,rfl,rx⟩:=D4 r
 have hl:=az
 have hs:sizeLine=16777216:=sizeLine_eq
 cases x with
 |str y=>
  obtain⟨t,rfl⟩:=rx
  obtain⟨hy,e'⟩:y.length≤sizeLine∧n=y.length:=e
  subst e'
  exact len_str (by omega) ⟨.int _,H,I.tok _,⟨_,rfl⟩,q⟩
 |byt y=>
  obtain⟨t,rfl⟩:=rx
  obtain⟨hy,e'⟩:y.size≤sizeLine∧n=y.size:=e
  subst e'
  exact PySem.W.len_bytes (by omega) ⟨.int _,H,I.tok _,⟨_,rfl⟩,q⟩
 |ref p=>
  cases rx
  have e':(∃xs,SqL X.K H p xs∧n=xs.length)∨∃xs,SqT X.K H p xs∧n=xs.length:=e
  rcases e' with⟨xs,hx,e'⟩|⟨xs,hx,e'⟩
  ·subst e'
   obtain⟨its,r',pl,hz⟩:=I.list hx
   have hlen:=r'.length
   exact Calls.call_len_list pl.isList (by simp only[List.size_toArray];omega) ⟨.int xs.length,H,I.tok _,⟨_,by simp only[List.size_toArray];rw[hlen]⟩,q⟩
  ·subst e'
   obtain⟨its,r',pl,hz⟩:=I.tuple hx
   have hlen:=r'.length
   exact len_tuple pl (by simp only[List.size_toArray];omega) ⟨.int xs.length,H,I.tok _,⟨_,by simp only[List.size_toArray];rw[hlen]⟩,q⟩
 |_=>exact(show False from e).elim
end
end L2
namespace L2
open PySem PySem.Spec PyProof.Rows
structure BG (h:Heap) (x dx C:Addr) (mA:Str→Option Value):Prop where
 obj:h.get? x=some (PySem.W.instObj C dx)
 ns:h.Ns1 dx mA
 ne:dx≠x
section
variable {prog:Program} {w:World} {A:Around} {E:Value→Shared→Prop} {s:Shared} {K:PySem.W.Frag} {x dx C f:Addr} {mA:Str→Option Value} {name:Str} {v:Value}
end
theorem RelO.some_of {v:V}{o:Option Value}(r:RelO (some v) o):∃u,o=some u∧RelV v u:=by
 cases o with
 |none=>exact(show False from r).elim
 |some u=>exact⟨u,rfl,r⟩
section
variable {P:Program} {w:World} {H H':Hp} {h h':Heap} {a C dx:Addr} {fs fs':List (Str×V)}
end
structure Bn (K:PySem.W.Frag) (C:Addr):Prop where
 pg:PySem.W.plainGet K C Str.empty=true
 hd:PySem.W.hasDictIn K C=true
 po:PySem.W.plainOver K C=true
 sa:PySem.W.findIn K (.ref C) "__setattr__"=some (some (.builtin "object.__setattr__"))
structure BK (K:PySem.W.Frag) (C:Addr) (f:Str) (v:V) (u:Value):Prop where
 at_:PySem.W.findIn K (.ref C) f=some (some u)
 rel:RelV v u
 get:PySem.W.specialIn K u "__get__"=some none
 cp:PySem.W.copiedNames.contains f=false
structure Bv (K:PySem.W.Frag) (C:Addr) (m:Str) (f:Addr):Prop where
 at_:PySem.W.findIn K (.ref C) m=some (some (.ref f))
 fn:PySem.W.isFn K (.ref f)=true
 kp:PySem.W.keepIn K (.ref f)=true
section
variable {X:Cx} {pins:List (Addr×Obj)} {σ:St} {H:Hp} {s:Shared} {a C dx:Addr} {fs:List (Str×V)} {f:Str} {v:V} {A:Around} {E:Value→Shared→Prop}
end
section
variable {X:Cx} {o e value:Expr} {f:Str} {pos pos' tpos:Pos} {ta tv:TE}
end
section
variable {X:Cx} {pins:List (Addr×Obj)} {σ:St} {H:Hp} {s:Shared} {A:Around} {E:Value→Shared→Prop} {Q:Value→Shared→Prop} {c:Value} {b:Bool}
inductive bL (K:PySem.W.Frag) (H:Hp):V→Value→Prop where
 |non:bL K H .non (.type "NoneType")
 |bl (x:Bool):bL K H (.bl x) (.type "bool")
 |int (i:Int):bL K H (.int i) (.type "int")
 |str (x:Str):bL K H (.str x) (.type "str")
 |flt (x:UInt64):bL K H (.flt x) (.type "float")
 |lst {a:Addr} {xs:List V} (e:H a=some (.lst xs)):bL K H (.ref a) (.type "list")
 |frz {a:Addr} {o:Obj} {xs:List V} (e:H a=some (.frz o (.lst xs))):bL K H (.ref a) (.type "list")
 |tup {a:Addr} {xs:List V} (e:H a=some (.tup xs)):bL K H (.ref a) (.type "tuple")
 |dK {a:Addr} {kvs:List (d7×V)} (e:H a=some (.dK kvs)):bL K H (.ref a) (.type "dict")
 |dT {a:Addr} {kvs:List (List d7×V)} (e:H a=some (.dT kvs)):bL K H (.ref a) (.type "dict")
 |ins {a C dx:Addr} {fs:List (Str×V)} (e:H a=some (.ins C dx fs)) (cl:Bn K C) (ha:PySem.W.findIn K (.ref C) "__class__"=some (some (.builtin "object.__class__")))
   (hn:PySem.W.specialIn K (.builtin "object.__class__") "__get__"=some (some (.builtin "getset_descriptor.__get__"))) (htk:PySem.W.takesIn K (.builtin "object.__class__")=some true)
   (hm:PySem.W.mroIn K C (.type "object")=some true):bL K H (.ref a) (.ref C)
end
end L2
namespace L2
open PySem PySem.Spec PyProof.Rows
structure Room (k:Nat) (A:Around):Prop where
 hd:A.handled=none
 dp:A.depth+3*k+5<recursionLimit
 un:A.units+16*k+200<cLine
theorem Room.mono {j k:Nat}{A:Around}(r:Room k A)(h:j≤k):Room j A:=⟨r.hd,by have:=r.dp;omega,by have:=r.un;omega⟩
theorem Room.deeper {k:Nat}{A:Around}(r:Room (k+1) A)(env:Env):Room k (A.deeper env):=
 ⟨r.hd,by have:=r.dp;show A.depth+1+3*k+5<_;omega,by have:=r.un;show A.units+3+16*k+200<_;omega⟩
theorem Room.depth {k:Nat}{A:Around}(r:Room k A):A.depth<recursionLimit:=by have:=r.dp;omega
theorem Room.units {k:Nat}{A:Around}(r:Room k A):A.units+64<cLine:=by have:=r.un;omega
def sS:TA:=fun _ H Q=>Q [] H
def jL (ta:TE)(tr:TA):TA:=fun σ H Q=>ta σ H fun x H1=>tr σ H1 fun xs H2=>Q (x::xs) H2
section
variable {X:Cx} {e:Expr} {es:List Expr} {te:TE} {t:TA} {pos:Pos}
theorem vx:PA X [] sS:=fun _ _ _ _ H Q I h=>Calls.spliced_nil ⟨[],H,I,.nil,h⟩
theorem tW (ha:PE X e te)(hr:PA X es t)(hs:starEach (e::es) X.env=(false,eval e X.env)::starEach es X.env:=by rfl):PA X (e::es) (jL te t):=by
 intro pos pins s σ H Q I h
 rw[hs]
 show wpAny _ _ (spliced ((false,eval e X.env)::backTo pos (starEach es X.env))) _ _ s
 refine Calls.spliced_cons (B5 (ha pins s σ H _ I h) fun u s1 ⟨x,H1,I1,r1,q1⟩=>?_)
 exact B5 (hr pos pins s1 σ H1 _ I1 q1) fun us s2 ⟨xs,H2,I2,r2,q2⟩=>⟨x::xs,H2,I2,.cons r1 r2,q2⟩
def wI (t:TA):TE:=fun σ H Q=>t σ H fun xs H1=>xs.length≤sizeLine∧∀p,H1 p=none→Q (.ref p) (i7 H1 p (.tup xs))
def vw (t:TA):TE:=fun σ H Q=>t σ H fun xs H1=>xs.length≤sizeLine∧∀p,H1 p=none→Q (.ref p) (i7 H1 p (.lst xs))
theorem vH {x1}(h:PA X es t):PE X (.Tuple es x1 pos) (wI t):=by
 intro pins s σ H Q I hq
 refine wpAny_Tuple_spliced (B5 (h pos pins s σ H _ I hq) fun us s1 ⟨xs,H1,I1,r,z,q⟩=>⟨by rw[←r.length];exact z,?_⟩)
 have hf:H1 s1.heap.objs.size=none:=I1.hok.fresh (Nat.le_refl _)
 refine⟨.ref s1.heap.objs.size,i7 H1 s1.heap.objs.size (.tup xs),I1.laid (t':=s1.toks) (fun b u e=>Heap.get?_push_of_some _ e) (Nat.le_refl _) ?_,rfl,q _ hf⟩
 exact⟨z,us,r,⟨_,Heap.get?_push_size _ rfl,rfl,_,rfl⟩⟩
theorem vN (h:PA X es t):PE X (.List es pos) (vw t):=by
 intro pins s σ H Q I hq
 refine wpAny_List_spliced (B5 (h pos pins s σ H _ I hq) fun us s1 ⟨xs,H1,I1,r,z,q⟩=>⟨by rw[←r.length];exact z,?_⟩)
 have hf:H1 s1.heap.objs.size=none:=I1.hok.fresh (Nat.le_refl _)
 refine⟨.ref s1.heap.objs.size,i7 H1 s1.heap.objs.size (.lst xs),I1.laid (t':=s1.toks) (fun b u e=>Heap.get?_push_of_some _ e) (Nat.le_refl _) ?_,rfl,q _ hf⟩
 exact⟨z,us,0,r,Heap.get?_push_size _ rfl⟩
end
abbrev Sp:=List V→Hp→VK→XK→Prop
abbrev ig:=List Env→Hp→Shared→XK→Value→Shared→Prop
structure sr (P:Program) (w:World) (K:PySem.W.Frag) (mg:Str→Option Value) (base:Heap) (A:Around) (outer:List Env) (s:Shared) (H:Hp):Prop where
 frames:A.frames=some outer
 mod:Mod K mg base
 bs:∀b o,base.get? b=some o→s.heap.get? b=some o∧H b=none
 bsz:base.objs.size≤s.heap.objs.size
 funs:s.heap.FunFrames base outer
 frf:∀b∈iC outer,H b=none
 hok:HOk P w H s.heap
 bare:AllBare s.gens
def CE (outer:List Env)(P:Program)(w:World)(H:Hp)(s:Shared)(Q:VK)(u:Value)(s':Shared):Prop:=
 ∃v H',s'.os=s.os∧AllBare s'.gens∧Un (iC outer) [] H H' s.heap s'.heap∧HOk P w H' s'.heap∧RelV v u∧Q v H'
def CR (CX:ig)(outer:List Env)(P:Program)(w:World)(H:Hp)(s:Shared)(Q:VK)(E:XK)(r:Result)(s':Shared):Prop:=
 match r with
 | .ok (.ret u)=>CE outer P w H s Q u s'
 | .ok _=>False
 | .error e=>CX outer H s E e s'
structure A6 (P:Program) (w:World) (K:PySem.W.Frag) (mg:Str→Option Value) (base:Heap) (CX:ig) (k:Nat) (f:Addr) (fd:FuncData) (ps:List Str) (sp:Sp):Prop where
 len:∀vs H Q E,sp vs H Q E→vs.length=ps.length
 run:∀(A:Around) (outer:List Env) (s:Shared) (H:Hp) (args:Args) (us:List Value) (vs:List V) (Q:VK) (E:XK),Room k A→sr P w K mg base A outer s H→BindsTo s fd args (ps.zip us)→Vals vs us→sp vs H Q E→
  codeAny (model P w) A (.call (.ref f) args) (CR CX outer P w H s Q E) s
section
variable {X:Cx} {pins:List (Addr×Obj)} {σ:St} {H:Hp} {s s':Shared}
theorem Inv.env0 (I:Inv X pins σ H s):sr X.prog X.w X.K X.mg X.base X.A X.stack s H:=
 ⟨I.ok.frames,I.ok.mod,I.bs,Nat.le_trans I.ok.bsz I.sz,I.stack,I.stkFree,I.hok,I.bare⟩
theorem Inv.after {Q:VK}{u:Value}(I:Inv X pins σ H s)(h:CE X.stack X.prog X.w H s Q u s'):EP X pins σ Q u s':=by
 obtain⟨v,H',os,bare,un,hok,r,q⟩:=h
 obtain⟨hh,g,d,t,os'⟩:=s'
 obtain rfl:os'=s.os:=os
 exact⟨v,H',I.call (h':=hh) (g':=g) (d':=d) (t':=t) (ch:=[]) un hok bare (fun b z=>absurd z (by simp)),r,q⟩
end
def gF (sp:Sp)(dvs:List V)(E:XK)(t:TA):TE:=fun σ H Q=>t σ H fun vs H1=>sp (vs++dvs) H1 Q E
def Binds (K:PySem.W.Frag)(fd:FuncData)(ps:List Str)(ds:List Value):Prop:=
 ∀(s:Shared) (us:List Value),K.In s.heap→(us++ds).length=ps.length→BindsTo s fd ⟨us,[]⟩ (ps.zip (us++ds))
theorem Binds.all {K:PySem.W.Frag}{fd:FuncData}{ps:List Str}(h:∀us:List Value,us.length=ps.length→bindArgs fd ⟨us,[]⟩=pure (ps.zip us)):Binds K fd ps []:=fun s us _ hl=>by
 rw[List.append_nil] at hl⊢
 exact .of_eq (h us hl)
def aA (CX:ig)(X:Cx)(E:XK):Prop:=∀(pins:List (Addr×Obj)) (σ:St) (H:Hp) (s:Shared) (e:Value) (s':Shared),Inv X pins σ H s→CX X.stack H s E e s'→X.xe e s'
section
variable {X:Cx} {CX:ig} {k:Nat} {f C:Addr} {fd:FuncData} {ps:List Str} {sp:Sp} {dvs:List V} {ds:List Value} {E:XK} {x m:Str} {p pos apos:Pos} {e o:Expr} {es:List Expr} {ta:TE} {t:TA}
theorem vp {pins:List (Addr×Obj)}{σ:St}{H:Hp}{s:Shared}{Q:VK}{us:List Value}{vs:List V}(F:A6 X.prog X.w X.K X.mg X.base CX k f fd ps sp)(hr:Room k X.A)(hb:Binds X.K fd ps ds)(hd:Vals dvs ds)(hx:aA CX X E)
  (I:Inv X pins σ H s) (r:Vals vs us) (h:sp (vs++dvs) H Q E):wpAny (model X.prog X.w) X.A (call (.ref f) us) (EP X pins σ Q) X.xe s:=by
 have r2:Vals (vs++dvs) (us++ds):=r.append hd
 have hl:(us++ds).length=ps.length:=by rw[←r2.length];exact F.len _ _ _ _ h
 refine wpAny_call (codeAny_mono (F.run X.A X.stack s H ⟨us,[]⟩ (us++ds) (vs++dvs) Q E hr I.env0 (hb s us I.kIn hl) r2 h) fun r s' hq=>?_)
 cases r with
 |error e=>exact hx pins σ H s e s' I hq
 |ok fl=>
  cases fl with
  |ret u=>exact I.after hq
  |next=>exact False.elim hq
  |brk=>exact False.elim hq
  |cont=>exact False.elim hq
theorem sf (F:A6 X.prog X.w X.K X.mg X.base CX k f fd ps sp)(hr:Room k X.A)(hg:Gl X x)(hm:X.mg x=some (.ref f))(hk:PySem.W.keepIn X.K (.ref f)=true)(hb:Binds X.K fd ps ds)(hd:Vals dvs ds)(hx:aA CX X E)
  (ha:PA X (e::es) t) (hdb:(x==("__debug__":Str))=false:=by decide) (he:starEach (e::es) X.env=(false,eval e X.env)::starEach es X.env:=by rfl) (hpl:(backTo pos (starEach es X.env)).any (·.1)=false:=by rfl):
  PE X (.Call (.Name x p) (e::es) [] pos) (gF sp dvs E t):=by
 intro pins s σ H Q I h
 refine wpAny_Call_Name_kw (tR I hg hm ?_ hdb)
 refine PySem.W.callWith_K (h₀:=X.base) I.ok.mod.kin hk (B5 (ha pos pins s σ H _ I h) fun us s1 ⟨vs,H1,I1,r,q⟩=>⟨I1.kIn,?_⟩) he hpl
 exact vp F hr hb hd hx I1 r q
structure Mk (K:PySem.W.Frag) (C f:Addr):Prop where
 makes:PySem.W.makesIn K C=true
 init:PySem.W.findIn K (.ref C) "__init__"=some (some (.ref f))
 fn:PySem.W.isFn K (.ref f)=true
 kp:PySem.W.keepIn K (.ref C)=true
end
section
variable {X:Cx} {CX:ig} {k:Nat} {f C:Addr} {fd:FuncData} {ps ks:List Str} {sp:Sp} {E:XK} {x m:Str} {p pos apos kpos:Pos} {e o:Expr} {es:List Expr} {kws:List Keyword} {te ta:TE} {t tk:TA} {nm:Option Str}
structure Aq (K:PySem.W.Frag) (fd:FuncData) (ps ks:List Str) (g:List Value→List Value→List Value) (gV:List V→List V→List V):Prop where
 to:∀(s:Shared) (us ws:List Value),K.In s.heap→(g us ws).length=ps.length→BindsTo s fd ⟨us,ks.zip ws⟩ (ps.zip (g us ws))
 rel:∀{vs:List V} {us:List Value} {zs:List V} {ws:List Value},Vals vs us→Vals zs ws→Vals (gV vs zs) (g us ws)
variable {g:List Value→List Value→List Value} {gV:List V→List V→List V}
end
structure i6 (N P:List Str) (sc:Scope):Prop where
 kind:sc.kind= .function
 co:sc.isCoroutine=false
 gen:sc.isGenerator=false
 nd:N.Nodup
 pre:N.take P.length=P
 par:∀x∈P,sc.names.lookup x=some .local∨sc.names.lookup x=some .cell
 nofree:∀y∈sc.names,y.2≠ .free
theorem dw {kindOf:Str→Option NameKind}{x:Str}:∀{binds:List (Str×Value)} {m:Str→Option Value},(∀v,(x,v)∉binds)→bindL kindOf binds m x=m x
 |[],_,_=>rfl
 |(n,v)::r,m,h=>by
  unfold bindL
  rw[dw fun w hw=>h w (List.mem_cons_of_mem _ hw)]
  split
  ·have:x≠n:=by rintro rfl;exact h v List.mem_cons_self
   simp [this]
  ·rfl
theorem dW {kindOf:Str→Option NameKind}{x:Str}:∀{binds:List (Str×Value)} {m:Str→Option Value},(∀v,(x,v)∉binds)→bindC kindOf binds m x=m x
 |[],_,_=>rfl
 |(n,v)::r,m,h=>by
  unfold bindC
  rw[dW fun w hw=>h w (List.mem_cons_of_mem _ hw)]
  split
  ·rfl
  ·have:x≠n:=by rintro rfl;exact h v List.mem_cons_self
   simp [this]
theorem dm {kindOf:Str→Option NameKind}{x:Str}{v:Value}:∀{P:List Str} {vs:List Value} {i:Nat} {m:Str→Option Value},P.Nodup→P[i]?=some x→vs[i]?=some v→kindOf x=some .local→
  bindL kindOf (P.zip vs) m x=some v
 |[],_,_,_,_,h,_,_=>by simp at h
 |_::_,[],_,_,_,_,h,_=>by simp at h
 |p::P,w::vs,0,m,nd,h1,h2,hk=>by
  simp at h1 h2;subst h1;subst h2
  show bindL kindOf ((p,w)::P.zip vs) m p=_
  unfold bindL
  rw[dw fun v hv=>(List.nodup_cons.mp nd).1 (List.of_mem_zip hv).1,if_pos hk]
  simp
 |p::P,w::vs,i+1,m,nd,h1,h2,hk=>by
  show bindL kindOf ((p,w)::P.zip vs) m x=_
  unfold bindL
  exact dm (i:=i) (List.nodup_cons.mp nd).2 (by simpa using h1) (by simpa using h2) hk
theorem dH {kindOf:Str→Option NameKind}{x:Str}{v:Value}:∀{P:List Str} {vs:List Value} {i:Nat} {m:Str→Option Value},P.Nodup→P[i]?=some x→vs[i]?=some v→kindOf x≠some .local→
  bindC kindOf (P.zip vs) m x=some v
 |[],_,_,_,_,h,_,_=>by simp at h
 |_::_,[],_,_,_,_,h,_=>by simp at h
 |p::P,w::vs,0,m,nd,h1,h2,hk=>by
  simp at h1 h2;subst h1;subst h2
  show bindC kindOf ((p,w)::P.zip vs) m p=_
  unfold bindC
  rw[dW fun v hv=>(List.nodup_cons.mp nd).1 (List.of_mem_zip hv).1,if_neg hk]
  simp
 |p::P,w::vs,i+1,m,nd,h1,h2,hk=>by
  show bindC kindOf ((p,w)::P.zip vs) m x=_
  unfold bindC
  exact dH (i:=i) (List.nodup_cons.mp nd).2 (by simpa using h1) (by simpa using h2) hk
def ae (N:List Str)(vs:List V):St:=vs.map some++List.replicate (N.length -vs.length) none
def jd (CX:ig)(P:Program)(w:World)(K:PySem.W.Frag)(mg:Str→Option Value)(base:Heap)(N:List Str)(qual:Str)(scope:Scope)(f:Addr)(cd:Value)(A:Around)(outer:List Env)(s:Shared)(H:Hp)(E:XK):Cx where
 prog:=P
 w:=w
 K:=K
 mg:=mg
 base:=base
 A:=A.deeper (envOfC qual scope s.heap.objs.size f cd)
 N:=N
 s₀:=s
 H₀:=H
 env:=envOfC qual scope s.heap.objs.size f cd
 outer:=outer
 stack:=envOfC qual scope s.heap.objs.size f cd::outer
 ex:=[]
 calm:=true
 fn:=fun _=>true
 pn:=[]
 xe:=fun e s'=>wpAny (model P w) (A.deeper (envOfC qual scope s.heap.objs.size f cd)) («leaving» (envOfC qual scope s.heap.objs.size f cd) e) (fun _ s''=>CX outer H s E e s'') (fun e' s''=>CX outer H s E e' s'') s'
theorem gm {sc:Scope}{n:Nat}{x:Str}(h:sc.names.lookup x=some .cell):∃c,(cellsFrom n sc.names []).lookup x=some c:=by
 have q:=PySem.W.cellsFrom_some sc.names n [] (.inl h)
 exact Option.isSome_iff_exists.mp q
theorem nA {CX:ig}{P:Program}{w:World}{K:PySem.W.Frag}{mg:Str→Option Value}{base:Heap}{N ps:List Str}{qual:Str}{scope:Scope}{f:Addr}{cd:Value}{A:Around}{outer:List Env}{s s1:Shared}{H:Hp}{E:XK}{us:List Value}{vs:List V}
  (S:i6 N ps scope) (hd:A.handled=none) (e0:sr P w K mg base A outer s H) (hl:vs.length=ps.length) (r:Vals vs us)
  (x:InCallC s s.heap.objs.size (bindL (envOfC qual scope s.heap.objs.size f cd).kindOf (ps.zip us) fun _=>none) (cellsFrom (s.heap.objs.size+1) scope.names []) (bindC (envOfC qual scope s.heap.objs.size f cd).kindOf (ps.zip us) fun _=>none) s1):
  Inv (jd CX P w K mg base N qual scope f cd A outer s H E) [] (ae N vs) H s1:=by
 have hpl:ps.length≤N.length:=by have:=congrArg List.length S.pre;rw[List.length_take] at this;omega
 obtain⟨h1,tk,rfl,hk⟩:=x.done
 have noA:∀b:Addr,b∉(jd CX P w K mg base N qual scope f cd A outer s H E).ex:=fun b z=>absurd (show b∈([]:List Addr) from z) (by simp)
 refine⟨⟨e0.mod,S.kind,rfl,rfl,Nat.le_refl _,fun y z c h1 h2=>?_,fun y hy=>?_,fun y c _ h=>?_,fun _=>hd,Around.frames_deeper e0.frames,.inr ⟨rfl,rfl⟩,fun b z=>absurd z (noA b),e0.bs,e0.bsz,fun b _ _=>noA b,fun b z=>absurd z (noA b),e0.funs,e0.frf⟩,
  rfl,e0.bare,Un.kept hk,⟨_,x.toInCall.ns,fun i y v h1 h2 h3=>?_⟩,fun y c h=>⟨_,x.cell y c h⟩,e0.hok.fresh (Nat.le_refl _),fun y c h=>?_,fun p hp=>absurd (show p∈([]:List (Addr×Obj)) from hp) (by simp),e0.hok.kept hk,?_⟩
 ·exact name_of_addr x.apart (PySem.mem_of_lookup h1) (PySem.mem_of_lookup h2)
 ·have hy:scope.names.lookup y=some .cell∨scope.names.lookup y=some .free:=hy
  rcases hy with hy|hy
  ·exact gm hy
  ·exact absurd rfl (S.nofree _ (PySem.mem_of_lookup hy))
 ·exact Nat.le_of_lt (x.above y c (PySem.mem_of_lookup h))
 ·have hi:i<vs.length:=by
   unfold ae at h2
   by_cases hi:i<vs.length
   ·exact hi
   ·rw[List.getElem?_append_right (by simpa using hi)] at h2
    rw[List.getElem?_replicate] at h2
    split at h2<;>cases h2
  have ha:vs[i]?=some v:=by
   unfold ae at h2
   rw[List.getElem?_append_left (by simpa using hi),List.getElem?_map] at h2
   cases e:vs[i]? with
   |none=>rw[e] at h2;cases h2
   |some a=>rw[e] at h2;cases h2;rfl
  obtain⟨u,hu,rv⟩:=r.get ha
  have hp:ps[i]?=some y:=by
   rw[←S.pre,List.getElem?_take_of_lt (by omega)];exact h1
  have ndP:ps.Nodup:=by rw[←S.pre];exact S.nd.sublist (List.take_sublist _ _)
  refine⟨u,rv,?_⟩
  rcases S.par y (List.mem_of_getElem? hp) with k|k
  ·exact .inl ⟨k,dm ndP hp hu k⟩
  ·obtain⟨c,e⟩:=gm (n:=s.heap.objs.size+1) k
   refine .inr ⟨.inl k,c,e,?_⟩
   have q:=x.cell y c e
   rw[dH ndP hp hu (by show scope.names.lookup y≠_;rw[k];decide)] at q
   exact q
 ·exact e0.hok.fresh (Nat.le_of_lt (x.above y c (PySem.mem_of_lookup h)))
 ·unfold ae
  show _=N.length
  rw[List.length_append,List.length_map,List.length_replicate]
  omega
theorem uj {CX:ig}{P:Program}{w:World}{K:PySem.W.Frag}{mg:Str→Option Value}{base:Heap}{k:Nat}{f:Addr}{name qual:Str}{params:Arguments}{body:List Stmt}{scope:Scope}{dV kV doc pm cdv ct oc:Value}{an od:Option Addr}
  {osl:Array (Option Value)} {N ps:List Str} {sp:Sp} (lk:K.lookup f=some ⟨oc,od,.func (PySem.W.fnOf name qual params body scope dV kV doc pm an cdv ct),osl⟩) (hcd:PySem.W.codeIn K cdv qual=true) (S:i6 N ps scope)
  (len:∀vs H Q E,sp vs H Q E→vs.length=ps.length)
  (hbody:∀(A:Around) (outer:List Env) (s:Shared) (H:Hp) (vs:List V) (Q:VK) (E:XK),Room k (A.deeper (envOfC qual scope s.heap.objs.size f cdv))→sp vs H Q E→
   ∃t,PSs (jd CX P w K mg base N qual scope f cdv A outer s H E) body t∧t {nx:=fun _ H'=>Q .non H',rt:=Q} (ae N vs) H):
  A6 P w K mg base CX (k+1) f (PySem.W.fnOf name qual params body scope dV kV doc pm an cdv ct) ps sp:=by
 refine⟨len,fun A outer s H args us vs Q E hr e0 hb r hsp=>?_⟩
 have hl:=len _ _ _ _ hsp
 have KX:K.In s.heap:=e0.mod.kin.keeps fun b o e=>(e0.bs b o e).1
 have lim:s.heap.NoLimit:=e0.mod.nolimit.keeps fun b o e=>(e0.bs b o e).1
 have hkind:∀y∈ps.zip us,scope.names.lookup y.1=some .local∨(scope.names.lookup y.1=some .cell∧((cellsFrom (s.heap.objs.size+1) scope.names []).lookup y.1).isSome=true):=fun⟨n,v⟩ hy=>by
  rcases S.par n (List.of_mem_zip hy).1 with q|q
  ·exact .inl q
  ·exact .inr ⟨q,PySem.W.cellsFrom_some _ _ _ (.inl q)⟩
 refine codeAny_call_function hr.depth (KX _ _ lk) rfl S.co S.gen rfl (PySem.W.codeRec_of KX hcd) (hb _ _ _ _ ?_)
 refine wpAny_newFunctionEnv_cells S.kind hkind fun env he s1 x=>?_
 subst he
 refine⟨lim.keeps x.toInCall.keep,codeAny_func ?_⟩
 obtain⟨t,ht,hq⟩:=hbody A outer s H vs Q E (hr.deeper _) hsp
 have I:Inv (jd CX P w K mg base N qual scope f cdv A outer s H E) [] (ae N vs) H s1:=nA S hr.hd e0 hl r x
 refine wpAny_mono (ht [] s1 (ae N vs) H _ I hq) (fun fl s' hs=>?_) fun e s' hs=>hs
 have fin:∀{σ':St} {H':Hp} {v:V} {u:Value},Inv (jd CX P w K mg base N qual scope f cdv A outer s H E) [] σ' H' s'→RelV v u→Q v H'→CE outer P w H s Q u s':=
  fun{σ' H' v u} J rv q=>⟨v,H',J.os,J.bare,J.base,J.hok,rv,q⟩
 cases fl with
 |ret u=>
  obtain⟨v,σ',H',J,rv,q⟩:=hs
  exact fin J rv q
 |next=>
  obtain⟨σ',H',J,q⟩:=hs
  exact fin (v:=V.non) (u:=Value.none) J rfl q
 |brk=>
  obtain⟨_,_,_,q⟩:=hs
  exact False.elim q
 |cont=>
  obtain⟨_,_,_,q⟩:=hs
  exact False.elim q
end L2
namespace L2
open PySem PySem.Spec PyProof.Rows
section
variable {X:Cx} {x:Str} {p pos:Pos} {e:Expr} {es:List Expr} {t:TA} {id T:String} {r:List V→Hp→VK→Prop}
def wQ (r:List V→Hp→VK→Prop)(t:TA):TE:=fun σ H Q=>t σ H fun vs H1=>r vs H1 Q
theorem oD (hc:CallR X (.builtin id) r)(hg:Gl X x)(hm:X.mg x=none)(hv:bootBuiltins x=some (.builtin id))(ha:PA X (e::es) t)(hn:x≠"__name__":=by decide)(hdb:(x==("__debug__":Str))=false:=by decide)
  (he:starEach (e::es) X.env=(false,eval e X.env)::starEach es X.env:=by rfl) (hpl:(backTo pos (starEach es X.env)).any (·.1)=false:=by rfl):PE X (.Call (.Name x p) (e::es) [] pos) (wQ r t):=by
 intro pins s σ H Q I h
 refine wpAny_Call_Name_kw (R8 I hg hm hv ?_ hn hdb)
 exact PyProof.Rows.callWith_builtin1 (B5 (ha pos pins s σ H _ I h) fun us s1 ⟨vs,H1,I1,r1,q1⟩=>hc pins s1 σ H1 vs us Q I1 r1 q1) he hpl
theorem mr (hc:CallR X (.type T) r)(hg:Gl X x)(hm:X.mg x=none)(hv:bootBuiltins x=some (.type T))(ha:PA X (e::es) t)(hn:x≠"__name__":=by decide)(hdb:(x==("__debug__":Str))=false:=by decide)
  (he:starEach (e::es) X.env=(false,eval e X.env)::starEach es X.env:=by rfl) (hpl:(backTo pos (starEach es X.env)).any (·.1)=false:=by rfl):PE X (.Call (.Name x p) (e::es) [] pos) (wQ r t):=by
 intro pins s σ H Q I h
 refine wpAny_Call_Name_kw (R8 I hg hm hv ?_ hn hdb)
 exact PyProof.Rows.callWith_type1 (B5 (ha pos pins s σ H _ I h) fun us s1 ⟨vs,H1,I1,r1,q1⟩=>hc pins s1 σ H1 vs us Q I1 r1 q1) he hpl
end
end L2
namespace HT
open PySem PyProof.Rows
section
open PySem.SeqAt
open PySem.AutoSeq1 (wpAny_loadPart')
open PySem.MeetsSeq PySem.MeetsSeq2 PySem.MeetsSeq3
end
section
variable {prog:Program} {w:World} {A:Around} {E:Value→Shared→Prop} {s:Shared}
theorem cat_tup {t b:Addr}{vs ws:List Value}{Q:Value→Shared→Prop}(ht:IsTup s.heap t vs.toArray)(hb:IsTup s.heap b ws.toArray)(hv:vs≠[])
  (h1:ws=[]→Q (.ref t) s) (h2:ws≠[]→Q (.ref s.heap.objs.size) {s with heap:=s.heap.push {cls:= .type "tuple",data:= .seq (vs++ws).toArray}})
  (hsz:vs.length+ws.length≤sizeLine):wpAny (model prog w) A (binaryOp .Add (.ref t) (.ref b)) Q E s:=by
 obtain⟨⟨cls,dd,data,sl⟩,ho,hc,n,hd⟩:=id ht
 obtain⟨⟨cls2,dd2,data2,sl2⟩,ho2,hc2,n2,hd2⟩:=id hb
 simp only at hc hd hc2 hd2
 subst hc hd hc2 hd2
 have e:vs.toArray++ws.toArray=(vs++ws).toArray:=by simp
 by_cases hw:ws=[]
 ·exact concat_meets ⟨_,ho,rfl⟩ ⟨_,ho2,rfl⟩ noFill_tuple_add seq_tuple_add PySem.F.slot_tuple_add PySem.F.entry_tuple_add (PySem.F.args_tuple_add_2 _ _)
   (tuple_addW1 t b vs.toArray ws.toArray n n2 dd dd2 sl sl2 (by simpa using hv) (by simp [hw])) ⟨ho,ho2,h1 hw⟩
 ·refine concat_meets ⟨_,ho,rfl⟩ ⟨_,ho2,rfl⟩ noFill_tuple_add seq_tuple_add PySem.F.slot_tuple_add PySem.F.entry_tuple_add (PySem.F.args_tuple_add_2 _ _)
   (tuple_addW2 t b vs.toArray ws.toArray n n2 dd dd2 sl sl2 (by simpa using hv) (by simpa using hw) (by rw[List.size_toArray,List.size_toArray];exact hsz)) ⟨ho,ho2,?_⟩
  rw[e]
  exact h2 hw
def sIx (n d:Nat):Option Int→Nat
 |none=>d
 |some v=>if v<0 then(v+(n:Int)).toNat else min v.toNat n
theorem sIx_nat (n d k:Nat):sIx n d (some (k:Int))=min k n:=by
 show(if(k:Int)<0 then((k:Int)+(n:Int)).toNat else min (k:Int).toNat n)=min k n
 rw[if_neg (by omega),Int.toNat_natCast]
theorem xy (n d:Nat)(hd:d≤n)(o:Option Int):sIx n d o≤n:=by
 cases o with
 |none=>exact hd
 |some v=>
  show(if v<0 then(v+(n:Int)).toNat else min v.toNat n)≤n
  by_cases hv:v<0
  ·rw[if_pos hv];omega
  ·rw[if_neg hv];exact Nat.min_le_right _ _
theorem jW (v:Int)(n d:Nat):(if v<0 then max (v+(n:Int)) 0 else min v (n:Int))=((sIx n d (some v):Nat):Int):=by
 show(if v<0 then max (v+(n:Int)) 0 else min v (n:Int))=(((if v<0 then(v+(n:Int)).toNat else min v.toNat n):Nat):Int)
 by_cases hv:v<0
 ·simp only[if_pos hv];omega
 ·simp only[if_neg hv];omega
theorem iV (lo hi:Option Int)(n:Nat):Builtin.Slice.sliceAdjust lo hi 1 (n:Int)=(((sIx n 0 lo:Nat):Int),((sIx n n hi:Nat):Int)):=by
 have h1:¬((1:Int)<0):=by omega
 unfold Builtin.Slice.sliceAdjust
 simp only[h1,if_false]
 refine Prod.ext ?_ ?_
 ·cases lo with
  |none=>rfl
  |some v=>exact jW v n 0
 ·cases hi with
  |none=>rfl
  |some v=>exact jW v n n
theorem jx (i j:Nat):Builtin.Slice.slicePlaces (i:Int) (j:Int) 1=j -i:=by
 unfold Builtin.Slice.slicePlaces
 have h1:(1:Int)>0:=by omega
 simp only[h1,if_true,Int.ediv_one]
 split<;>omega
theorem bJ {v:Value}{o:Option Int}{Q:Option Int→Shared→Prop}(p:IsPart v o)(h:Q o s):wpAny (model prog w) A (Builtin.Slice.slicePartIndex v) Q E s:=by
 cases p with
 |none=>exact slicePart_none h
 |int i t=>exact slicePart_int h
theorem aE {sl:Addr}{vl vu:Value}{lo hi:Option Int}{n:Nat}{Q:Int×Int×Nat→Shared→Prop}(hs:s.heap.IsSliceOf sl vl vu .none)(pl:IsPart vl lo)(pu:IsPart vu hi)
  (h:Q (((sIx n 0 lo:Nat):Int),1,sIx n n hi -sIx n 0 lo) s):wpAny (model prog w) A (Builtin.Slice.sliceApplied (.ref sl) (pure (n:Int))) Q E s:=by
 obtain⟨os,hos,hcs,hds⟩:=id hs
 unfold Builtin.Slice.sliceApplied Builtin.Slice.sliceFields
 refine wpAny_bind (wpAny_bind (wpAny_field hos hds (x:=vl) rfl (wpAny_bind (wpAny_field hos hds (x:=vu) rfl (wpAny_bind (wpAny_field hos hds (x:= .none) rfl (wpAny_pure ?_)))))))
 refine wpAny_bind (slicePart_none ?_)
 show wpAny _ _ (if((1:Int)==0)=true then _ else _) _ _ s
 rw[if_neg (by decide)]
 refine wpAny_bind (bJ pl (wpAny_bind (bJ pu (wpAny_bind (wpAny_pure ?_)))))
 show wpAny _ _ (match Builtin.Slice.sliceAdjust lo hi 1 (n:Int) with|(lo,hi)=>pure (lo,(1:Int),Builtin.Slice.slicePlaces lo hi 1)) _ _ s
 rw[iV lo hi n]
 show wpAny _ _ (pure (((sIx n 0 lo:Nat):Int),(1:Int),Builtin.Slice.slicePlaces ((sIx n 0 lo:Nat):Int) ((sIx n n hi:Nat):Int) 1)) _ _ s
 rw[jx]
 exact wpAny_pure h
theorem qO (xs:Array Value)(i k:Nat):((List.range k).filterMap fun(m:Nat)=>xs[((i:Int)+(m:Int)*1).toNat]?).toArray=((xs.toList.drop i).take k).toArray:=by
 have e:(fun(m:Nat)=>xs[((i:Int)+(m:Int)*1).toNat]?)=fun m=>xs[i+m]?:=by
  funext m
  have:((i:Int)+(m:Int)*1).toNat=i+m:=by omega
  rw[this]
 rw[e]
 have:=pick_run xs i k
 rw[List.filterMap_map] at this
 have e2:((fun x=>xs[x]?)∘fun x=>i+x)=fun m=>xs[i+m]?:=rfl
 rw[e2] at this
 rw[this]
theorem getItem_tuple_cut {t sl:Addr}{items:Array Value}{vl vu:Value}{lo hi:Option Int}{Q:Value→Shared→Prop}(ht:IsTup s.heap t items)(hs:s.heap.IsSliceOf sl vl vu .none)(pl:IsPart vl lo)(pu:IsPart vu hi)
  (hw:¬(sIx items.size 0 lo=0∧sIx items.size items.size hi=items.size))
  (h:Q (.ref s.heap.objs.size) {s with heap:=s.heap.push {cls:= .type "tuple",data:= .seq ((items.toList.drop (sIx items.size 0 lo)).take (sIx items.size items.size hi -sIx items.size 0 lo)).toArray}})
  (hsz:items.size≤sizeLine):wpAny (model prog w) A (getItem (.ref t) (.ref sl)) Q E s:=by
 have htake:sizeOk (.seq ((items.toList.drop (sIx items.size 0 lo)).take (sIx items.size items.size hi -sIx items.size 0 lo)).toArray):=by
  show((items.toList.drop (sIx items.size 0 lo)).take (sIx items.size items.size hi -sIx items.size 0 lo)).toArray.size≤sizeLine
  rw[List.size_toArray,List.length_take,List.length_drop,Array.length_toList]
  omega
 have hj:sIx items.size items.size hi≤items.size:=xy _ _ (Nat.le_refl _) hi
 obtain⟨os,hos,hcs,hds⟩:=id hs
 have hTs:s.TypeIs (.ref sl) "slice":=⟨os,hos,hcs⟩
 unfold getItem
 try with_reducible refine wpAny_holding ?_
 first|refine wpAny_bind (wpAny_pure ?_)|skip
 refine wpAny_bind (wpAny_sequenceKey ht.typeIs (by decide) ?_)
 refine wpAny_bind (wpAny_callSpecial?_slot (name:=Str.ofString "__getitem__") ht.typeIs PyProof.Rows.slot_tuple_getitem
  (wpAny_call_entry PyProof.Rows.slot_tuple_getitem ht.typeIs entry_tuple_getitem ?_ (args_tuple_getitem _ _)))
 show wpAny _ _ (Builtin.Tuple.tupleItemsOf (.ref t)>>=_) _ _ s
 refine wpAny_bind (tupleItemsOf_ ht ?_)
 refine wpAny_bind (wpAny_typeOf hTs ?_)
 rw[if_pos (by decide)]
 refine wpAny_bind (aE hs pl pu ?_)
 have hno:¬((((sIx items.size 0 lo:Nat):Int)==0&&(1:Int)==1&&(sIx items.size items.size hi -sIx items.size 0 lo)==items.size)=true):=by
  intro q
  rw[Bool.and_eq_true,Bool.and_eq_true] at q
  have q1:((sIx items.size 0 lo:Nat):Int)=0:=eq_of_beq q.1.1
  have q2:sIx items.size items.size hi -sIx items.size 0 lo=items.size:=eq_of_beq q.2
  exact hw ⟨by omega,by omega⟩
 show wpAny _ _ (if(((sIx items.size 0 lo:Nat):Int)==0&&(1:Int)==1&&(sIx items.size items.size hi -sIx items.size 0 lo)==items.size)=true then _ else _) _ _ s
 rw[if_neg hno,qO]
 first
  |exact wpAny_bind (m:=Builtin.Tuple.tupleExact _) (wpAny_newObj_type (wpAny_pure ⟨_,rfl,wpAny_pure h⟩) htake)
  |exact wpAny_bind (m:=Builtin.Tuple.tupleExact _) (wpAny_newObj_type (wpAny_bind (wpAny_pure (wpAny_pure ⟨_,rfl,wpAny_pure h⟩))) htake)
  |exact wpAny_bind (wpAny_bind (m:=Builtin.Tuple.tupleExact _) (wpAny_newObj_type (wpAny_pure (wpAny_pure ⟨_,rfl,wpAny_pure h⟩)) htake))
  |exact wpAny_bind (wpAny_bind (m:=Builtin.Tuple.tupleExact _) (wpAny_newObj_type (wpAny_pure ⟨_,rfl,wpAny_pure h⟩) htake))
end
end HT
namespace L2
open PySem PySem.Spec PyProof.Rows
abbrev TO:=St→Hp→(Option Int→Hp→Prop)→Prop
def PO (X:Cx)(e:Option Expr)(t:TO):Prop:=
 ∀(pins:List (Addr×Obj)) (s:Shared) (σ:St) (H:Hp) (Q:Option Int→Hp→Prop),Inv X pins σ H s→t σ H Q→
  wpAny (model X.prog X.w) X.A (evalPart e X.env) (fun u s'=>∃o H',Inv X pins σ H' s'∧IsPart u o∧Q o H') X.xe s
def fK:TO:=fun _ H Q=>Q none H
def nW (t:TE):TO:=fun σ H Q=>t σ H fun x H1=>∃i,x= .int i∧Q (some i) H1
section
variable {X:Cx} {e:Expr} {te:TE} {lo hi:Option Expr} {tl th:TO} {pos p2:Pos}
theorem sX:PO X none fK:=by
 intro pins s σ H Q I h
 rw[evalPart_none]
 exact wpAny_pure ⟨none,H,I,.none,h⟩
theorem rN (h:PE X e te):PO X (some e) (nW te):=by
 intro pins s σ H Q I hw
 rw[evalPart_some]
 refine B5 (h pins s σ H _ I hw) fun u s1 ⟨x,H1,I1,r1,q1⟩=>?_
 obtain⟨i,rfl,q⟩:=q1
 obtain⟨t,rfl⟩:=r1
 exact⟨some i,H1,I1,.int i t,q⟩
def SlR (X:Cx)(r:V→Option Int→Option Int→Hp→VK→Prop):Prop:=
 ∀(pins:List (Addr×Obj)) (s:Shared) (σ:St) (H:Hp) (x:V) (v vl vu:Value) (lo hi:Option Int) (sl:Addr) (Q:VK),Inv X pins σ H s→RelV x v→s.heap.IsSliceOf sl vl vu .none→IsPart vl lo→IsPart vu hi→r x lo hi H Q→
  ∃T id,typeLookup (.type T) "__getitem__"=pure (some (.builtin id))∧s.TypeIs v T∧wpAny (model X.prog X.w) X.A (getItem v (.ref sl)) (EP X pins σ Q) X.xe s
theorem SlR.or {r r':V→Option Int→Option Int→Hp→VK→Prop}(h:SlR X r)(h':SlR X r'):SlR X (fun x lo hi H Q=>r x lo hi H Q∨r' x lo hi H Q):=by
 intro pins s σ H x v vl vu lo hi sl Q I rx hs pl pu q
 rcases q with q|q
 ·exact h pins s σ H x v vl vu lo hi sl Q I rx hs pl pu q
 ·exact h' pins s σ H x v vl vu lo hi sl Q I rx hs pl pu q
def AI (r:V→Option Int→Option Int→Hp→VK→Prop)(te:TE)(tl th:TO):TE:=fun σ H Q=>te σ H fun x H1=>tl σ H1 fun l H2=>th σ H2 fun u H3=>r x l u H3 Q
theorem qZ {r:V→Option Int→Option Int→Hp→VK→Prop}(hr:SlR X r)(he:PE X e te)(hl:PO X lo tl)(hu:PO X hi th):PE X (.Subscript e (.Slice lo hi none p2) pos) (AI r te tl th):=by
 intro pins s σ H Q I h
 refine Subscript_ (B5 (he pins s σ H _ I h) fun v s1 ⟨x,H1,I1,r1,q1⟩=>?_)
 refine wpAny_Slice (B5 (hl pins s1 σ H1 _ I1 q1) fun vl s2 ⟨l,H2,I2,pl,q2⟩=>B5 (hu pins s2 σ H2 _ I2 q2) fun vu s3 ⟨u,H3,I3,pu,q3⟩=>?_)
 rw[evalPart_none]
 refine wpAny_pure ?_
 have I4:Inv X pins σ H3 {s3 with heap:=s3.heap.push {cls:= .type "slice",data:= .fields #[vl,vu,.none]}}:=I3.kept (t':=s3.toks) fun b ob q=>Heap.get?_push_of_some _ q
 obtain⟨T,id,hT,ht,hg⟩:=hr pins {s3 with heap:=s3.heap.push {cls:= .type "slice",data:= .fields #[vl,vu,.none]}} σ H3 x v vl vu l u s3.heap.objs.size Q I4 r1 (Heap.IsSliceOf.new ..) pl pu q3
 show wpAny (model X.prog X.w) X.A (subscriptTail e (.Slice lo hi none p2) v (.ref s3.heap.objs.size)) (EP X pins σ Q) X.xe {s3 with heap:=s3.heap.push {cls:= .type "slice",data:= .fields #[vl,vu,.none]}}
 exact tail_any (ops:=[.ref s3.heap.objs.size,v]) ht hT hg (by with_unfolding_all rfl)
def W4 (xs:List V)(lo hi:Option Int):List V:=(xs.drop (HT.sIx xs.length 0 lo)).take (HT.sIx xs.length xs.length hi -HT.sIx xs.length 0 lo)
theorem aR (xs:List V)(lo hi:Option Int):(W4 xs lo hi).length≤xs.length:=by
 unfold W4
 rw[List.length_take,List.length_drop]
 omega
def yT (K:PySem.W.Frag):V→Option Int→Option Int→Hp→VK→Prop:=fun x lo hi H Q=>∃a xs,x= .ref a∧SqT K H a xs∧
 ¬(HT.sIx xs.length 0 lo=0∧HT.sIx xs.length xs.length hi=xs.length)∧∀p,H p=none→Q (.ref p) (i7 H p (.tup (W4 xs lo hi)))
theorem sl_tup:SlR X (yT X.K):=by
 intro pins s σ H x v vl vu lo hi sl Q I rx hs pl pu h
 obtain⟨a,xs,rfl,hx,hw,q⟩:=h
 cases rx
 obtain⟨its,r,ht,hz⟩:=I.tuple hx
 have hlen:its.toArray.size=xs.length:=by rw[List.size_toArray];exact r.length.symm
 refine⟨"tuple",_,PyProof.Rows.slot_tuple_getitem.lookup,ht.typeIs,?_⟩
 refine HT.getItem_tuple_cut ht hs pl pu (by rw[hlen];exact hw) ?_ (by rw[hlen];exact hz)
 rw[hlen]
 refine⟨.ref s.heap.objs.size,_,I.laid (t':=s.toks) (o:= .tup (W4 xs lo hi)) (fun b ob q=>Heap.get?_push_of_some _ q) (Nat.le_refl _) ?_,rfl,q _ (I.hok.fresh (Nat.le_refl _))⟩
 exact⟨Nat.le_trans (aR xs lo hi) hz,_,(r.drop (HT.sIx xs.length 0 lo)).take (HT.sIx xs.length xs.length hi -HT.sIx xs.length 0 lo),IsTup.new _ _⟩
def uu (K:PySem.W.Frag):R2:=fun x y H Q=>∃a b xs ys,x= .ref a∧y= .ref b∧SqT K H a xs∧SqT K H b ys∧xs≠[]∧xs.length+ys.length≤sizeLine∧
 (ys=[]→Q (.ref a) H)∧(ys≠[]→∀p,H p=none→Q (.ref p) (i7 H p (.tup (xs++ys))))
theorem Vals.nil_iff {xs:List V}{us:List Value}(r:Vals xs us):us=[]↔xs=[]:=by
 cases r with
 |nil=>simp
 |cons _ _=>simp
theorem tX:OpR X (binaryOp .Add) (uu X.K):=by
 intro pins s σ H x y v u Q I rx ry h
 obtain⟨a,b,xs,ys,rfl,rfl,ha,hb,hx,hz,q1,q2⟩:=h
 cases rx
 cases ry
 obtain⟨its,r1,p1,_⟩:=I.tuple ha
 obtain⟨its2,r2,p2,_⟩:=I.tuple hb
 refine HT.cat_tup p1 p2 (fun z=>hx (r1.nil_iff.mp z)) (fun z=>⟨.ref a,H,I,rfl,q1 (r2.nil_iff.mp z)⟩) (fun z=>?_) (by rw[←r1.length,←r2.length];exact hz)
 refine⟨.ref s.heap.objs.size,_,I.laid (t':=s.toks) (o:= .tup (xs++ys)) (fun b ob q=>Heap.get?_push_of_some _ q) (Nat.le_refl _) ?_,rfl,q2 (fun w=>z (r2.nil_iff.mpr w)) _ (I.hok.fresh (Nat.le_refl _))⟩
 exact⟨by rw[List.length_append];exact hz,_,r1.append r2,IsTup.new _ _⟩
end
end L2
namespace L2
open PySem PySem.Spec PyProof.Rows
def we (n:Nat)(i:Int):Option Nat:=if 0≤i then(if i<n then some i.toNat else none) else if -(n:Int)≤i then some (i+n).toNat else none
def kl {α:Type}(xs:List α)(i:Int):Option α:=(we xs.length i).bind fun j=>xs[j]?
theorem jX {n:Nat}{i:Int}{j:Nat}(h:we n i=some j):seqIndex? i n=some j∧j<n∧-(n:Int)≤i∧i<n:=by
 unfold we at h
 by_cases h0:0≤i
 ·rw[if_pos h0] at h
  by_cases h1:i<n
  ·rw[if_pos h1] at h
   have e:i.toNat=j:=Option.some.inj h
   exact⟨by rw[seqIndex_of h0 h1,e],by omega,by omega,h1⟩
  ·rw[if_neg h1] at h;cases h
 ·rw[if_neg h0] at h
  by_cases h1: -(n:Int)≤i
  ·rw[if_pos h1] at h
   have e:(i+n).toNat=j:=Option.some.inj h
   exact⟨by rw[seqIndex_neg (by omega) h1,e],by omega,h1,by omega⟩
  ·rw[if_neg h1] at h;cases h
theorem ej {α:Type}{xs:List α}{i:Int}{v:α}(h:kl xs i=some v):∃j,seqIndex? i xs.length=some j∧xs[j]?=some v∧j<xs.length∧-(xs.length:Int)≤i∧i<xs.length:=by
 unfold kl at h
 cases e:we xs.length i with
 |none=>rw[e] at h;cases h
 |some j=>
  rw[e] at h
  obtain⟨h1,h2,h3,h4⟩:=jX e
  exact⟨j,h1,h,h2,h3,h4⟩
theorem b9 {α:Type}{xs:List α}{j:Nat}{v:α}(h:xs[j]?=some v):kl xs (j:Int)=some v:=by
 have hj:j<xs.length:=(List.getElem?_eq_some_iff.mp h).1
 have e:we xs.length (j:Int)=some j:=by
  unfold we
  rw[if_pos (by omega),if_pos (by omega)];simp
 unfold kl;rw[e];exact h
def kz (b:Expr):Prop:=∀o i,subscripted b false o i=operate [o,i] (getItem o i)
def IxR (X:Cx)(r:R2):Prop:=
 ∀(value slice:Expr) (pins:List (Addr×Obj)) (s:Shared) (σ:St) (H:Hp) (x y:V) (v u:Value) (Q:VK),Inv X pins σ H s→RelV x v→RelV y u→r x y H Q→
  subscripted slice false v u=operate [v,u] (getItem v u)→wpAny (model X.prog X.w) X.A (subscriptTail value slice v u) (EP X pins σ Q) X.xe s
def rp (X:Cx)(id:String)(r:V→List V→Hp→VK→Prop):Prop:=
 ∀(pins:List (Addr×Obj)) (s:Shared) (σ:St) (H:Hp) (x:V) (xs:List V) (v:Value) (us:List Value) (Q:VK),Inv X pins σ H s→RelV x v→Vals xs us→r x xs H Q→
  wpAny (model X.prog X.w) X.A (call (.builtin id) (v::us)) (EP X pins σ Q) X.xe s
section
variable {X:Cx} {a b:Expr} {ta tb:TE} {pos:Pos}
theorem IxR.or {r r':R2}(h:IxR X r)(h':IxR X r'):IxR X (fun x y H Q=>r x y H Q∨r' x y H Q):=by
 intro value slice pins s σ H x y v u Q I rx ry q hs
 rcases q with q|q
 ·exact h value slice pins s σ H x y v u Q I rx ry q hs
 ·exact h' value slice pins s σ H x y v u Q I rx ry q hs
theorem yQ {r:R2}(hr:IxR X r)(ha:PE X a ta)(hb:PE X b tb)(hs:kz b):PE X (.Subscript a b pos) (rQ r ta tb):=by
 intro pins s σ H Q I h
 exact Subscript_ (xI ha hb I h fun v u s2 x y H2 I2 rx ry q=>hr a b pins s2 σ H2 x y v u Q I2 rx ry q (hs _ _))
def yM (K:PySem.W.Frag):R2:=fun x y H Q=>∃p xs i v,x= .ref p∧y= .int i∧SqL K H p xs∧kl xs i=some v∧Q v H
def yN (K:PySem.W.Frag):R2:=fun x y H Q=>∃p xs i v,x= .ref p∧y= .int i∧SqT K H p xs∧kl xs i=some v∧Q v H
def yd:R2:=fun x y H Q=>∃z i c,x= .str z∧y= .int i∧z.length≤sizeLine∧kl z.cps.toList i=some c∧Q (.str ⟨#[c]⟩) H
theorem ix_list:IxR X (yM X.K):=by
 intro value slice pins s σ H x y v u Q I rx ry h hs
 obtain⟨p,xs,i,z,rfl,rfl,hq,he,q⟩:=h
 cases rx
 obtain⟨t,rfl⟩:=ry
 obtain⟨its,r,pl,hz⟩:=I.list hq
 obtain⟨j,h1,h2,h3,h4,h5⟩:=ej he
 obtain⟨w,ew,rw'⟩:=r.get h2
 have hl:=r.length
 have hn:=az
 have fin:EP X pins σ Q w s:=⟨z,H,I,rw',q⟩
 by_cases h0:0≤i
 ·have hj:i.toNat=j:=by
   rw[seqIndex_of h0 h5] at h1
   exact Option.some.inj h1
  exact item_listR pl.isList h0 (by omega) (by rw[hj];simpa using ew) fin hs
 ·have hj:(i+(its.toArray.size:Int)).toNat=j:=by
   rw[seqIndex_neg (by omega) h4] at h1
   rw[List.size_toArray,←hl]
   exact Option.some.inj h1
  exact subscriptTail_builtinR (x:=w) pl.isList.typeIs slot_list_getitem.lookup
   (wpAny_getItem_list_neg (Q:=fun r s'=>r=w∧EP X pins σ Q r s') pl.isList (by omega) (by rw[List.size_toArray]<;>omega) (by omega) (by rw[hj];simpa using ew) ⟨rfl,fin⟩) hs
theorem ix_tup:IxR X (yN X.K):=by
 intro value slice pins s σ H x y v u Q I rx ry h hs
 obtain⟨p,xs,i,z,rfl,rfl,hq,he,q⟩:=h
 cases rx
 obtain⟨t,rfl⟩:=ry
 obtain⟨its,r,pl,hz⟩:=I.tuple hq
 obtain⟨j,h1,h2,h3,h4,h5⟩:=ej he
 obtain⟨w,ew,rw'⟩:=r.get h2
 have hl:=r.length
 have hn:=az
 have fin:EP X pins σ Q w s:=⟨z,H,I,rw',q⟩
 exact subscriptTail_builtinR (x:=w) pl.typeIs slot_tuple_getitem.lookup
  (getItem_tuple (j:=j) (Q:=fun r s'=>r=w∧EP X pins σ Q r s') pl (by omega) (by omega) (by rw[List.size_toArray,←hl];exact h1) (by simpa using ew) ⟨rfl,fin⟩) hs
theorem xb:IxR X yd:=by
 intro value slice pins s σ H x y v u Q I rx ry h hs
 obtain⟨z,i,c,rfl,rfl,hz,he,q⟩:=h
 obtain⟨t,rfl⟩:=rx
 obtain⟨t',rfl⟩:=ry
 obtain⟨j,h1,h2,h3,h4,h5⟩:=ej he
 have hl:z.cps.toList.length=z.length:=by simp [Str.length]
 rw[hl] at h1 h4 h5
 have hn:=az
 exact tail_any (typeIs_str s z t) slot_str_getitem.lookup (getItem_str (c:=c) (by
  have e1:decide (i< -(2 ^ 63:Int))=false:=decide_eq_false (by omega)
  have e2:decide (i≥2 ^ 63)=false:=decide_eq_false (by omega)
  rw[e1,e2,Bool.or_false]) (by rw[h1];simpa using h2) ⟨.str ⟨#[c]⟩,H,I.tok _,⟨_,rfl⟩,q⟩) hs
def Bh (K:PySem.W.Frag):R2:=fun x y H Q=>yM K x y H Q∨yN K x y H Q∨yd x y H Q
theorem ix_seq:IxR X (Bh X.K):=ix_list.or (ix_tup.or xb)
theorem ji (its:List Value)(n j:Nat)(u:Value):Obj.mapSeq (·.setIfInBounds j u) {cls:= .type "list",data:= .seq its.toArray n}={cls:= .type "list",data:= .seq (its.set j u).toArray n}:=by
 simp [Obj.mapSeq]
theorem Inv.lst {pins:List (Addr×Obj)}{σ:St}{H:Hp}{s:Shared}{p:Addr}{xs:List V}(I:Inv X pins σ H s)(h:H p=some (.lst xs)):
  ∃(its:List Value) (n:Nat),Vals xs its∧s.heap.get? p=some {cls:= .type "list",data:= .seq its.toArray n}∧xs.length≤sizeLine:=by
 obtain⟨z,its,n,r,e⟩:=I.hok p _ h
 exact⟨its,n,r,e,z⟩
theorem Inv.lstUpd {pins:List (Addr×Obj)}{σ:St}{H:Hp}{s:Shared}{p:Addr}{xs ys:List V}{its its':List Value}{n n':Nat}{f:Obj→Obj}(I:Inv X pins σ H s)(h:H p=some (.lst xs))
  (ho:s.heap.get? p=some {cls:= .type "list",data:= .seq its.toArray n}) (hf:f {cls:= .type "list",data:= .seq its.toArray n}={cls:= .type "list",data:= .seq its'.toArray n'}) (r:Vals ys its') (hz:ys.length≤sizeLine) (t:Nat):
  Inv X pins σ (i7 H p (.lst ys)) {s with heap:=s.heap.update p f,toks:=t}:=by
 have e:(s.heap.update p f).get? p=some {cls:= .type "list",data:= .seq its'.toArray n'}:=by
  rw[Heap.get?_update_self f ho (by rw[hf]<;>rfl),hf]
 refine I.write (x:=p) (e:=p) (by rw[h];trivial) (.inl rfl) (fun b u hb q=>(Heap.get?_update_other _ _ (Ne.symm hb)).trans q) ⟨_,e⟩ ?_
 exact⟨hz,its',n',r,e⟩
def ue:V→V→V→Hp→(Hp→Prop)→Prop:=fun o i v H Q=>∃p xs k j,o= .ref p∧i= .int k∧H p=some (.lst xs)∧we xs.length k=some j∧Q (i7 H p (.lst (xs.set j v)))
theorem oG:nr X ue:=by
 intro pins s σ H o i v ov iv u Q I ro ri rv h
 obtain⟨p,xs,k,j,rfl,rfl,hp,hj,q⟩:=h
 cases ro
 obtain⟨t,rfl⟩:=ri
 obtain⟨its,n,r,ho,hz⟩:=I.lst hp
 obtain⟨h1,h2,h3,h4⟩:=jX hj
 have hl:=r.length
 have hn:=az
 have I':Inv X pins σ (i7 H p (.lst (xs.set j v))) {s with heap:=s.heap.update p (Obj.mapSeq (·.setIfInBounds j u))}:=
  I.lstUpd hp ho (ji its n j u) (r.set rv j) (by rw[List.length_set];exact hz) s.toks
 by_cases h0:0≤k
 ·have hk:k.toNat=j:=by
   rw[seqIndex_of h0 h4] at h1
   exact Option.some.inj h1
  exact PySem.W.ki_setAt ho h0 (by omega) (by rw[List.size_toArray,←hl];exact h4) (by rw[hk];exact⟨_,I',q⟩)
 ·have hk:(k+(its.toArray.size:Int)).toNat=j:=by
   rw[seqIndex_neg (by omega) h3] at h1
   rw[List.size_toArray,←hl]
   exact Option.some.inj h1
  exact PySem.W.ki_setBack ho (by omega) (by rw[List.size_toArray,←hl];exact h3) (by omega) (by rw[hk];exact⟨_,I',q⟩)
theorem eK (lo hi:Option Int)(n:Nat):(sliceBounds lo hi none n).1=((HT.sIx n 0 lo:Nat):Int)∧(sliceBounds lo hi none n).2.1=((HT.sIx n n hi:Nat):Int)∧(sliceBounds lo hi none n).2.2=1:=by
 refine⟨?_,?_,rfl⟩
 ·cases lo with
  |none=>simp [sliceBounds,HT.sIx]
  |some i=>
   simp only[sliceBounds,HT.sIx,Option.getD_none,show(1:Int)>0 by decide,if_true]
   by_cases h:i<0
   ·simp only[h,if_true]<;>omega
   ·simp only[h,if_false]<;>omega
 ·cases hi with
  |none=>simp [sliceBounds,HT.sIx]
  |some i=>
   simp only[sliceBounds,HT.sIx,Option.getD_none,show(1:Int)>0 by decide,if_true]
   by_cases h:i<0
   ·simp only[h,if_true]<;>omega
   ·simp only[h,if_false]<;>omega
theorem df (its:List Value)(lo hi:Option Int):slicePick its.toArray lo hi none=((its.drop (HT.sIx its.length 0 lo)).take (HT.sIx its.length its.length hi -HT.sIx its.length 0 lo)).toArray:=by
 obtain⟨h1,h2,h3⟩:=eK lo hi its.toArray.size
 unfold slicePick
 rw[h1,h2,h3]
 simp only[sliceRange_one,pick_run,List.size_toArray]<;>rfl
def zv (K:PySem.W.Frag):V→Option Int→Option Int→Hp→VK→Prop:=fun x lo hi H Q=>∃a xs,x= .ref a∧SqL K H a xs∧∀p,H p=none→Q (.ref p) (i7 H p (.lst (W4 xs lo hi)))
theorem sl_list:SlR X (zv X.K):=by
 intro pins s σ H x v vl vu lo hi sl Q I rx hs pl pu h
 obtain⟨a,xs,rfl,hx,q⟩:=h
 cases rx
 obtain⟨its,r,ht,hz⟩:=I.list hx
 have hlen:=r.length
 refine⟨"list",_,slot_list_getitem.lookup,ht.isList.typeIs,?_⟩
 refine wpAny_getItem_list_slice ht.isList hs pl pu .none (by simp) ?_ (by rw[List.size_toArray]<;>omega)
 rw[df,←hlen]
 refine⟨.ref s.heap.objs.size,_,I.laid (t':=s.toks) (o:= .lst (W4 xs lo hi)) (fun b ob q=>Heap.get?_push_of_some _ q) (Nat.le_refl _) ?_,rfl,q _ (I.hok.fresh (Nat.le_refl _))⟩
 exact⟨Nat.le_trans (aR xs lo hi) hz,_,0,(r.drop (HT.sIx xs.length 0 lo)).take (HT.sIx xs.length xs.length hi -HT.sIx xs.length 0 lo),Heap.get?_push_size _ rfl⟩
def p5:V→Bool
 | .non=>true
 | .bl _=>true
 | .int _=>true
 | .str _=>true
 |_=>false
def N6:V→V→Bool
 | .non,.non=>true
 | .bl a,.bl b=>a==b
 | .bl a,.int b=>(if a then 1 else 0)==b
 | .int a,.bl b=>a==(if b then 1 else 0)
 | .int a,.int b=>a==b
 | .str a,.str b=>a==b
 |_,_=>false
theorem E8 {A:Around}{s:Shared}{y x:V}{u v:Value}(ry:RelV y u)(rx:RelV x v)(fy:p5 y=true)(fx:p5 x=true):SeqAt.EqAt A s u v (N6 y x):=by
 cases y with
 |non=>
  cases ry
  cases x with
  |non=>cases rx;exact SeqAt.EqAt.same _
  |bl b=>cases rx;exact SeqAt.EqAt.none_bool b
  |int b=>obtain⟨t,rfl⟩:=rx;exact SeqAt.EqAt.none_int b t
  |str b=>obtain⟨t,rfl⟩:=rx;exact SeqAt.EqAt.none_str b t
  |_=>exact absurd (show false=true from fx) Bool.false_ne_true
 |bl a=>
  cases ry
  cases x with
  |non=>cases rx;exact SeqAt.EqAt.bool_none a
  |bl b=>cases rx;exact SeqAt.EqAt.bool_bool a b
  |int b=>obtain⟨t,rfl⟩:=rx;exact SeqAt.EqAt.bool_int a b t
  |str b=>obtain⟨t,rfl⟩:=rx;exact SeqAt.EqAt.bool_str a b t
  |_=>exact absurd (show false=true from fx) Bool.false_ne_true
 |int a=>
  obtain⟨t',rfl⟩:=ry
  cases x with
  |non=>cases rx;exact SeqAt.EqAt.int_none a t'
  |bl b=>cases rx;exact SeqAt.EqAt.int_bool a t' b
  |int b=>obtain⟨t,rfl⟩:=rx;exact SeqAt.EqAt.int_int a t' b t
  |str b=>obtain⟨t,rfl⟩:=rx;exact SeqAt.EqAt.int_str a t' b t
  |_=>exact absurd (show false=true from fx) Bool.false_ne_true
 |str a=>
  obtain⟨t',rfl⟩:=ry
  cases x with
  |non=>cases rx;exact SeqAt.EqAt.str_none a t'
  |bl b=>cases rx;exact SeqAt.EqAt.str_bool a t' b
  |int b=>obtain⟨t,rfl⟩:=rx;exact SeqAt.EqAt.str_int a t' b t
  |str b=>obtain⟨t,rfl⟩:=rx;exact SeqAt.EqAt.str_str a t' b t
  |_=>exact absurd (show false=true from fx) Bool.false_ne_true
 |_=>exact absurd (show false=true from fy) Bool.false_ne_true
def jz (x:V)(u:Value):Bool:=match u with
 | .none=>N6 .non x
 | .bool b=>N6 (.bl b) x
 | .int i _=>N6 (.int i) x
 | .str z _=>N6 (.str z) x
 |_=>false
theorem nX {x y:V}{u:Value}(r:RelV y u)(f:p5 y=true):jz x u=N6 y x:=by
 cases y with
 |non=>cases r;rfl
 |bl b=>cases r;rfl
 |int i=>obtain⟨t,rfl⟩:=r;rfl
 |str z=>obtain⟨t,rfl⟩:=r;rfl
 |_=>exact absurd (show false=true from f) Bool.false_ne_true
theorem Z8 {x:V}:∀{xs:List V} {us:List Value},Vals xs us→xs.all p5=true→us.any (jz x)=xs.any fun y=>N6 y x
 |_,_,.nil,_=>rfl
 |y::xs,u::us,.cons r t,f=>by
  rw[List.all_cons,Bool.and_eq_true] at f
  rw[List.any_cons,List.any_cons,nX r f.1,Z8 t f.2]
theorem R1 {A:Around}{s:Shared}{x:V}{v:Value}(rx:RelV x v)(fx:p5 x=true):∀{xs:List V} {us:List Value},Vals xs us→xs.all p5=true→∀u∈us,SeqAt.EqAt A s u v (jz x u)
 |_,_,.nil,_=>fun u hu=>by cases hu
 |y::xs,u::us,.cons r t,f=>fun u' hu=>by
  rw[List.all_cons,Bool.and_eq_true] at f
  rcases List.mem_cons.mp hu with rfl|hu
  ·rw[nX r f.1];exact E8 r rx f.1 fx
  ·exact R1 rx fx t f.2 u' hu
def wM (x:V)(xs:List V):Bool:=xs.any fun y=>N6 y x
def zQ (K:PySem.W.Frag)(neg:Bool):R2:=fun x y H Q=>∃p xs,y= .ref p∧(SqL K H p xs∨SqT K H p xs)∧p5 x=true∧xs.all p5=true∧Q (.bl (if neg then !wM x xs else wM x xs)) H
theorem op_in_seq:OpR X (compareOp .In) (zQ X.K false):=by
 intro pins s σ H x y v u Q I rx ry h
 obtain⟨p,xs,rfl,hq,fx,fs,q⟩:=h
 cases ry
 rcases hq with hq|hq
 ·obtain⟨its,r,pl,hz⟩:=I.list hq
  refine SeqAt.in_listAt (jz x) pl.isList (fun w hw=>R1 rx fx r fs w (by simpa using hw)) ⟨.bl _,H,I,rfl,?_⟩
  rw[show its.toArray.any (jz x)=its.any (jz x) by simp,Z8 r fs]
  exact q
 ·obtain⟨its,r,pl,hz⟩:=I.tuple hq
  refine SeqAt.in_tupleAt (jz x) pl (fun w hw=>R1 rx fx r fs w (by simpa using hw)) ⟨.bl _,H,I,rfl,?_⟩
  rw[show its.toArray.any (jz x)=its.any (jz x) by simp,Z8 r fs]
  exact q
theorem op_notIn_seq:OpR X (compareOp .NotIn) (zQ X.K true):=by
 intro pins s σ H x y v u Q I rx ry h
 obtain⟨p,xs,rfl,hq,fx,fs,q⟩:=h
 cases ry
 rcases hq with hq|hq
 ·obtain⟨its,r,pl,hz⟩:=I.list hq
  refine SeqAt.notIn_listAt (jz x) pl.isList (fun w hw=>R1 rx fx r fs w (by simpa using hw)) ⟨.bl _,H,I,rfl,?_⟩
  rw[show its.toArray.any (jz x)=its.any (jz x) by simp,Z8 r fs]
  exact q
 ·obtain⟨its,r,pl,hz⟩:=I.tuple hq
  refine SeqAt.notIn_tupleAt (jz x) pl (fun w hw=>R1 rx fx r fs w (by simpa using hw)) ⟨.bl _,H,I,rfl,?_⟩
  rw[show its.toArray.any (jz x)=its.any (jz x) by simp,Z8 r fs]
  exact q
theorem eY:OpR X (compareOp .NotIn) (fun x y H Q=>∃i j,x= .str i∧y= .str j∧Q (.bl (!(!(Builtin.Str.occurrences j i 0 j.length 1).isEmpty))) H):=by
 intro pins s σ H x y v u Q I rx ry h
 obtain⟨i,j,rfl,rfl,q⟩:=h
 obtain⟨t,rfl⟩:=rx
 obtain⟨t',rfl⟩:=ry
 exact notIn_str ⟨.bl _,H,I,rfl,q⟩
theorem CallR.or {f:Value}{r r':List V→Hp→VK→Prop}(h:CallR X f r)(h':CallR X f r'):CallR X f (fun xs H Q=>r xs H Q∨r' xs H Q):=by
 intro pins s σ H xs us Q I rs q
 rcases q with q|q
 ·exact h pins s σ H xs us Q I rs q
 ·exact h' pins s σ H xs us Q I rs q
theorem call_list_of:CallR X (.type "list") (fun xs H Q=>∃p ys,xs=[.ref p]∧(SqL X.K H p ys∨SqT X.K H p ys)∧∀l,H l=none→Q (.ref l) (i7 H l (.lst ys))):=by
 intro pins s σ H xs us Q I r h
 obtain⟨p,ys,rfl,hq,q⟩:=h
 obtain⟨u,rfl,rx⟩:=D4 r
 cases rx
 have fin:∀(its:List Value),Vals ys its→ys.length≤sizeLine→∀(h':Heap) (c':Nat),(∀b o',s.heap.get? b=some o'→h'.get? b=some o')→
   h'.get? s.heap.objs.size=some {cls:= .type "list",dict:=none,data:= .seq its.toArray c',slots:= #[]}→EP X pins σ Q (.ref s.heap.objs.size) {s with heap:=h'}:=fun its r' hz h' c' kp e=>
  ⟨.ref s.heap.objs.size,_,I.laid (t':=s.toks) kp (Nat.le_refl _) (show ObjOk X.prog X.w _ h' _ (.lst ys) from⟨hz,its,c',r',e⟩),rfl,q _ (I.hok.fresh (Nat.le_refl _))⟩
 rcases hq with hq|hq
 ·obtain⟨its,r',pl,hz⟩:=I.list hq
  have hlen:=r'.length
  obtain⟨o,ho,hc,n,hd⟩:=pl.isList
  exact call_list_seq p (.inl rfl) ho hc hd (fun h' c' kp e=>fin its r' hz h' c' kp e) (by simp only[List.size_toArray]<;>omega)
 ·obtain⟨its,r',pl,hz⟩:=I.tuple hq
  have hlen:=r'.length
  obtain⟨o,ho,hc,n,hd⟩:=pl
  exact call_list_seq p (.inr rfl) ho hc hd (fun h' c' kp e=>fin its r' hz h' c' kp e) (by simp only[List.size_toArray]<;>omega)
theorem call_tuple_of:CallR X (.type "tuple") (fun xs H Q=>∃p ys,xs=[.ref p]∧((SqL X.K H p ys∧∀l,H l=none→Q (.ref l) (i7 H l (.tup ys)))∨(SqT X.K H p ys∧Q (.ref p) H))):=by
 intro pins s σ H xs us Q I r h
 obtain⟨p,ys,rfl,h⟩:=h
 obtain⟨u,rfl,rx⟩:=D4 r
 cases rx
 rcases h with⟨hq,q⟩|⟨hq,q⟩
 ·obtain⟨its,r',pl,hz⟩:=I.list hq
  have hlen:=r'.length
  refine call_tuple_list pl.isList (fun h' kp=>?_) (by simp only[List.size_toArray]<;>omega)
  have I1:Inv X pins σ H {s with heap:=h'}:=I.kept (t':=s.toks) kp
  have I2:Inv X pins σ (i7 H h'.objs.size (.tup ys)) {s with heap:=h'.push {cls:= .type "tuple",data:= .seq its.toArray}}:=
   I1.laid (t':=s.toks) (fun b o e=>Heap.get?_push_of_some _ e) (Nat.le_refl _) (show ObjOk X.prog X.w _ _ _ (.tup ys) from⟨hz,its,r',IsTup.new _ _⟩)
  exact⟨.ref h'.objs.size,_,I2,rfl,q _ (I1.hok.fresh (Nat.le_refl _))⟩
 ·obtain⟨its,r',pl,hz⟩:=I.tuple hq
  exact call_tuple_same pl ⟨.ref p,H,I,rfl,q⟩
def zN (K:PySem.W.Frag)(T:String)(x:V)(H:Hp):Prop:=match x with
 | .str _=>T="str"
 | .int _=>T="int"
 | .ref p=>(T="list"∧∃xs,SqL K H p xs)∨(T="tuple"∧∃o,K.lookup p=some o∧o.cls= .type "tuple"∧o.dict=none)∨
   (T="dict"∧((∃kvs,H p=some (.dK kvs))∨∃kvs,H p=some (.dT kvs)))∨(T="set"∧∃S n,H p=some (.set S n))
 |_=>False
theorem pQ {pins:List (Addr×Obj)}{σ:St}{H:Hp}{s:Shared}{T:String}{x:V}{v:Value}(I:Inv X pins σ H s)(r:RelV x v)(ty:zN X.K T x H):
  s.TypeIs v T∧∀a,v= .ref a→∃ob,s.heap.get? a=some ob∧ob.dict=none:=by
 cases x with
 |str z=>
  obtain⟨t,rfl⟩:=r
  cases (show T="str" from ty)
  exact⟨typeIs_str s z t,fun _ e=>nomatch e⟩
 |int i=>
  obtain⟨t,rfl⟩:=r
  cases (show T="int" from ty)
  exact⟨typeIs_int s i t,fun _ e=>nomatch e⟩
 |ref p=>
  cases r
  rcases ty with⟨rfl,xs,hq⟩|⟨rfl,o,hk,hc,hd⟩|⟨rfl,hk⟩|⟨rfl,S,n,hk⟩
  ·obtain⟨its,_,pl,_⟩:=I.list hq
   refine⟨pl.isList.typeIs,fun a e=>?_⟩
   cases e
   obtain⟨o,n,e,c,hd,_⟩:=pl
   exact⟨o,e,hd⟩
  ·refine⟨⟨o,I.kIn p o hk,hc⟩,fun a e=>?_⟩
   cases e
   exact⟨o,I.kIn _ o hk,hd⟩
  ·have z:∃o,s.heap.get? p=some o∧o.ExactDict:=by
    rcases hk with⟨kvs,hk⟩|⟨kvs,hk⟩
    ·obtain⟨_,_,_,_,o,_,_,e,ex,_⟩:=I.hok p _ hk
     exact⟨o,e,ex⟩
    ·obtain⟨_,_,_,_,o,_,_,e,ex,_⟩:=I.hok p _ hk
     exact⟨o,e,ex⟩
   obtain⟨o,e,ex⟩:=z
   refine⟨⟨o,e,ex.1⟩,fun a e2=>?_⟩
   cases e2
   exact⟨o,e,ex.2.1⟩
  ·obtain⟨o,_,_,_,e,ex,_⟩:=I.hok p _ hk
   refine⟨⟨o,e,ex.1⟩,fun a e2=>?_⟩
   cases e2
   exact⟨o,e,ex.2.1⟩
 |_=>exact False.elim ty
def uT (K:PySem.W.Frag)(T:String)(r:V→List V→Hp→VK→Prop)(to:TE):TE:=fun σ H Q=>to σ H fun x H1=>zN K T x H1∧r x [] H1 Q
def Av (K:PySem.W.Frag)(T:String)(r:V→List V→Hp→VK→Prop)(to:TE)(t:TA):TE:=fun σ H Q=>to σ H fun x H1=>zN K T x H1∧t σ H1 fun xs H2=>r x xs H2 Q
variable {o e:Expr} {es:List Expr} {to:TE} {t:TA} {name:Str} {apos cpos:Pos} {T id:String} {r:V→List V→Hp→VK→Prop}
theorem wX (pa:PlainAttrs T)(slot:Slot T name id)(hty:typeOf (.builtin id)=pure (.type "method_descriptor"))(hm:rp X id r)(ho:PE X o to)
  (hbase:attributeBase o name X.env (eval o X.env)=eval o X.env:=by rfl) (hline:(apos.endLine==cpos.line)=true:=by rfl):PE X (.Call (.Attribute o name apos) [] [] cpos) (uT X.K T r to):=by
 intro pins s σ H Q I h
 refine wpAny_Call_method0_late hbase hline (B5 (ho pins s σ H _ I h) fun v s1 ⟨x,H1,I1,r1,ty,q1⟩=>?_)
 obtain⟨h1,h2⟩:=pQ I1 r1 ty
 exact⟨T,id,pa,slot,hty,h1,h2,Calls.callWith_builtin rfl (PySem.evalArgs_none (hm pins s1 σ H1 x [] v [] Q I1 r1 .nil q1))⟩
theorem zi (pa:PlainAttrs T)(slot:Slot T name id)(hty:typeOf (.builtin id)=pure (.type "method_descriptor"))(hm:rp X id r)(ho:PE X o to)(ha:PA X (e::es) t)
  (hbase:attributeBase o name X.env (eval o X.env)=eval o X.env:=by rfl)
  (hfew:((backTo cpos (starEach (e::es) X.env)).all (fun x=>!x.1)&&(backToKw cpos (keywordEach [] X.env)).all (fun x=>x.1.isSome)
   &&decide ((e::es).length+([]:List Keyword).length+(if([]:List Keyword).isEmpty then 0 else 1)<30))=true:=by rfl)
  (hline:(apos.endLine==cpos.line)=true:=by rfl) (hs:starEach (e::es) X.env=(false,eval e X.env)::starEach es X.env:=by rfl) (hplain:(backTo cpos (starEach es X.env)).any (·.1)=false:=by rfl):
  PE X (.Call (.Attribute o name apos) (e::es) [] cpos) (Av X.K T r to t):=by
 intro pins s σ H Q I h
 refine wpAny_Call_method_late hbase hfew hline rfl (B5 (ho pins s σ H _ I h) fun v s1 ⟨x,H1,I1,r1,ty,q1⟩=>?_)
 obtain⟨h1,h2⟩:=pQ I1 r1 ty
 refine⟨T,id,pa,slot,hty,h1,h2,?_⟩
 have hA:=ha cpos pins s1 σ H1 _ I1 q1
 rw[hs] at hA⊢
 refine Calls.callWith_builtin (by show(false||(backTo cpos (starEach es X.env)).any (·.1))=false;rw[hplain]<;>rfl) (Calls.evalArgs_plain ?_)
 exact B5 hA fun us s2 ⟨vs,H2,I2,r2,q2⟩=>hm pins s2 σ H2 x vs v us Q I2 r1 r2 q2
end
end L2
namespace L2
open PySem PySem.Spec PyProof.Rows
def Bm (X:Cx)(id:String)(r:V→List V→Hp→VK→Prop):Prop:=
 ∀(pins:List (Addr×Obj)) (s:Shared) (σ:St) (H:Hp) (x:V) (xs:List V) (v:Value) (us:List Value) (Q:VK),Inv X pins σ H s→RelV x v→Vals xs us→r x xs H Q→
  wpAny (model X.prog X.w) X.A (call (.builtin id) (v::us)) (EP X pins σ Q) X.xe s
theorem Vals.one:∀{x:V} {us:List Value},Vals [x] us→∃u,us=[u]∧RelV x u
 |_,_,.cons r .nil=>⟨_,rfl,r⟩
theorem Vals.zero:∀{us:List Value},Vals [] us→us=[]
 |_,.nil=>rfl
theorem Vals.dropLast {xs:List V}{us:List Value}(h:Vals xs us):Vals xs.dropLast us.dropLast:=by
 induction h with
 |nil=>exact .nil
 |cons r t ih=>
  cases t with
  |nil=>exact .nil
  |cons q t'=>exact .cons r ih
theorem iR {α:Type}(l:List α):l.eraseIdx (l.length -1)=l.dropLast:=by
 induction l with
 |nil=>rfl
 |cons a r ih=>
  cases r with
  |nil=>rfl
  |cons b r=>
   have e:(a::b::r).length -1=((b::r).length -1)+1:=by
    have h1:(a::b::r).length=r.length+2:=rfl
    have h2:(b::r).length=r.length+1:=rfl
    omega
   rw[e,List.eraseIdx_cons_succ,ih]
   all_goals rfl
section
variable {X:Cx} {pins:List (Addr×Obj)} {σ:St} {H:Hp} {s:Shared} {l b:Addr} {xs ys zs:List V}
theorem Inv.lset {its its':List Value}{n:Nat}{f:Array Value→Array Value}{t':Nat}(I:Inv X pins σ H s)(hH:H l=some (.lst xs))
  (e:s.heap.get? l=some {cls:= .type "list",data:= .seq its.toArray n}) (hf:f its.toArray=its'.toArray) (hv:Vals ys its') (hz:ys.length≤sizeLine):
  Inv X pins σ (i7 H l (.lst ys)) {s with heap:=s.heap.update l (Obj.mapSeq f),toks:=t'}:=by
 have q:=PySem.IsL.update e f
 rw[hf] at q
 refine I.write (x:=l) (e:=l) (by rw[hH];exact trivial) (.inl rfl) (fun b' u hb hu=>(Heap.get?_update_other s.heap (Obj.mapSeq f) (Ne.symm hb)).trans hu) ⟨_,q⟩ ?_
 exact⟨hz,its',_,hv,q⟩
theorem Inv.lnew {its:List Value}{t':Nat}(I:Inv X pins σ H s)(hv:Vals ys its)(hz:ys.length≤sizeLine):
  Inv X pins σ (i7 H s.heap.objs.size (.lst ys)) {s with heap:=s.heap.push {cls:= .type "list",data:= .seq its.toArray},toks:=t'}:=
 I.laid (fun _ _ q=>Heap.get?_push_of_some _ q) (Nat.le_refl _) ⟨hz,its,0,hv,Heap.get?_push_size _ rfl⟩
theorem Inv.fresh (I:Inv X pins σ H s):H s.heap.objs.size=none:=I.hok.fresh (Nat.le_refl _)
theorem Inv.lstM (I:Inv X pins σ H s)(hH:H l=some (.lst xs)):xs.length≤sizeLine∧∃(its:List Value) (n:Nat),Vals xs its∧xs.length=its.length∧s.heap.get? l=some {cls:= .type "list",data:= .seq its.toArray n}:=by
 obtain⟨z,its,n,r,e⟩:=I.hok l _ hH
 exact⟨z,its,n,r,r.length,e⟩
end
section
variable {X:Cx}
def kT:V→List V→Hp→VK→Prop:=fun x vs H Q=>∃l xs y,x= .ref l∧vs=[y]∧H l=some (.lst xs)∧xs.length<sizeLine∧Q .non (i7 H l (.lst (xs++[y])))
theorem mS:Bm X "list.append" kT:=by
 intro pins s σ H x vs v us Q I rx rv h
 obtain⟨l,xs,y,rfl,rfl,hH,hz,q⟩:=h
 cases rx
 obtain⟨u,rfl,ru⟩:=rv.one
 obtain⟨z,its,n,r,hl,e⟩:=I.lstM hH
 refine call_meets F.slot_list_append ⟨_,e,rfl⟩ F.entry_list_append (F.args_list_append_2 _ _) (PySem.list_append l its.toArray n u (by rw[List.size_toArray];omega)) ⟨e,?_⟩
 refine⟨.non,_,I.lset (its':=its++[u]) hH e (by simp) (r.append (.cons ru .nil)) ?_,rfl,q⟩
 rw[List.length_append,List.length_singleton]
 omega
def zr:V→List V→Hp→VK→Prop:=fun x vs H Q=>∃l xs y,x= .ref l∧vs=[]∧H l=some (.lst xs)∧xs[xs.length -1]?=some y∧Q y (i7 H l (.lst xs.dropLast))
theorem xC:Bm X "list.pop" zr:=by
 intro pins s σ H x vs v us Q I rx rv h
 obtain⟨l,xs,y,rfl,rfl,hH,hy,q⟩:=h
 cases rx
 have hus:=rv.zero
 subst hus
 obtain⟨z,its,n,r,hl,e⟩:=I.lstM hH
 obtain⟨u,hu,ru⟩:=r.get hy
 have hy':its.toArray[its.toArray.size -1]?=some u:=by
  show its.toArray[its.length -1]?=some u
  rw[←Array.getElem?_toList,←hl]
  exact hu
 refine call_meets F.slot_list_pop ⟨_,e,rfl⟩ F.entry_list_pop (F.args_list_pop_1 _) (MeetsSeq.list_pop_last l its.toArray n u hy' (by rw[List.size_toArray];omega)) ⟨e,?_⟩
 refine⟨y,_,I.lset (its':=its.dropLast) hH e ?_ r.dropLast ?_,ru,q⟩
 ·show its.toArray.eraseIdxIfInBounds (its.toArray.size -1)=its.dropLast.toArray
  rw[List.size_toArray,List.eraseIdxIfInBounds_toArray,iR]
 ·rw[List.length_dropLast]
  omega
def zk:R2:=fun x y H Q=>∃l b xs zs,x= .ref l∧y= .ref b∧H l=some (.lst xs)∧H b=some (.lst zs)∧xs.length+zs.length≤sizeLine∧∀p,H p=none→Q (.ref p) (i7 H p (.lst (xs++zs)))
theorem op_cat:OpR X (binaryOp .Add) zk:=by
 intro pins s σ H x y v u Q I rx ry h
 obtain⟨l,b,xs,zs,rfl,rfl,hH,hB,hz,q⟩:=h
 cases rx
 cases ry
 obtain⟨z,its,n,r,hl,e⟩:=I.lstM hH
 obtain⟨z2,its2,n2,r2,hl2,e2⟩:=I.lstM hB
 refine PySem.P.add_list e e2 ?_ (by rw[List.size_toArray,List.size_toArray];omega)
 have ea:its.toArray++its2.toArray=(its++its2).toArray:=by simp
 rw[ea]
 exact⟨.ref _,_,I.lnew (t':=s.toks) (r.append r2) (by rw[List.length_append];omega),rfl,q _ I.fresh⟩
end
section
variable {prog:Program} {w:World} {A:Around} {E:Value→Shared→Prop} {s:Shared}
end
section
variable {X:Cx}
end
end L2
namespace L2
open PySem PySem.Spec PyProof.Rows
section
variable {κ:Type} [DecidableEq κ]
def i9 (kvs:List (κ×V))(k:κ):Option V:=(kvs.find? fun kv=>decide (kv.1=k)).map (·.2)
def z0 (kvs:List (κ×V))(k:κ)(v:V):List (κ×V):=
 if(kvs.any fun kv=>decide (kv.1=k))=true then kvs.map (fun kv=>if kv.1=k then(kv.1,v) else kv) else kvs++[(k,v)]
def Q0 (kvs:List (κ×V))(k:κ):List (κ×V):=kvs.filter fun kv=>decide (kv.1≠k)
theorem u5 {p:κ×V}{r:List (κ×V)}{k:κ}(e:p.1=k):i9 (p::r) k=some p.2:=by simp [i9,List.find?_cons,e]
theorem u4 {p:κ×V}{r:List (κ×V)}{k:κ}(e:¬p.1=k):i9 (p::r) k=i9 r k:=by simp [i9,List.find?_cons,e]
theorem J3 (k:κ):∀kvs:List (κ×V),(kvs.any fun kv=>decide (kv.1=k))=(i9 kvs k).isSome
 |[]=>rfl
 |p::r=>by
  rw[List.any_cons]
  by_cases e:p.1=k
  ·simp only[u5 e,decide_eq_true e,Bool.true_or,Option.isSome_some]
  ·rw[u4 e,decide_eq_false e,Bool.false_or];exact J3 k r
theorem iu (k j:κ)(y:V):∀kvs:List (κ×V),i9 (kvs.map fun kv=>if kv.1=k then(kv.1,y) else kv) j=(i9 kvs j).map fun x=>if j=k then y else x
 |[]=>rfl
 |p::r=>by
  have ih:=iu k j y r
  rw[List.map_cons]
  by_cases h:p.1=k
  ·rw[if_pos h]
   by_cases e:p.1=j
   ·rw[u5 (p:=(p.1,y)) e,u5 e,Option.map_some,if_pos (e.symm.trans h)]
   ·rw[u4 (p:=(p.1,y)) e,u4 e,ih]
  ·rw[if_neg h]
   by_cases e:p.1=j
   ·rw[u5 (p:=p) e,u5 e,Option.map_some,if_neg (fun z=>h (e.trans z))]
   ·rw[u4 (p:=p) e,u4 e,ih]
theorem dG (k j:κ)(y:V):∀kvs:List (κ×V),i9 kvs k=none→i9 (kvs++[(k,y)]) j=if j=k then some y else i9 kvs j
 |[],_=>by
  by_cases e:k=j
  ·rw[if_pos e.symm];exact u5 (p:=(k,y)) e
  ·rw[if_neg (fun z=>e z.symm)];exact u4 (p:=(k,y)) e
 |p::r,hn=>by
  rw[List.cons_append]
  have hk:¬p.1=k:=fun z=>by rw[u5 z] at hn;cases hn
  rw[u4 hk] at hn
  have ih:=dG k j y r hn
  by_cases e:p.1=j
  ·rw[u5 e,u5 e,if_neg (fun z=>hk (e.trans z))]
  ·rw[u4 e,u4 e,ih]
theorem B9 (kvs:List (κ×V))(k j:κ)(y:V):i9 (z0 kvs k y) j=if j=k then some y else i9 kvs j:=by
 unfold z0
 by_cases a:(kvs.any fun kv=>decide (kv.1=k))=true
 ·rw[if_pos a,iu]
  rw[J3] at a
  by_cases e:j=k
  ·obtain⟨x,hx⟩:=Option.isSome_iff_exists.mp a
   rw[if_pos e,e,hx,Option.map_some,if_pos rfl]
  ·rw[if_neg e]
   cases i9 kvs j with
   |none=>rfl
   |some x=>rw[Option.map_some,if_neg e]
 ·rw[if_neg a]
  refine dG k j y kvs ?_
  rw[J3] at a
  cases q:i9 kvs k with
  |none=>rfl
  |some x=>rw[q] at a;exact(a rfl).elim
theorem F7 (kvs:List (κ×V))(k:κ)(v:V):(z0 kvs k v).length≤kvs.length+1:=by
 unfold z0
 split
 ·rw[List.length_map];omega
 ·rw[List.length_append,List.length_cons,List.length_nil];omega
theorem D7 {kvs:List (κ×V)}{k:κ}(v:V)(h:i9 kvs k=none):z0 kvs k v=kvs++[(k,v)]:=by
 unfold z0
 rw[J3,h]
 exact if_neg (by decide)
theorem RelO.isSome_eq {o:Option V}{u:Option Value}(r:RelO o u):o.isSome=u.isSome:=by
 cases o with
 |none=>cases u with
  |none=>rfl
  |some _=>exact(show False from r).elim
 |some _=>cases u with
  |none=>exact(show False from r).elim
  |some _=>rfl
theorem RelO.getD {o:Option V}{u:Option Value}{d:V}{d':Value}(r:RelO o u)(rd:RelV d d'):RelV (o.getD d) (u.getD d'):=by
 cases o with
 |none=>cases u with
  |none=>exact rd
  |some _=>exact(show False from r).elim
 |some _=>cases u with
  |none=>exact(show False from r).elim
  |some _=>exact r
theorem KV.val {kvs:List (κ×V)}{vs:List (κ×Value)}(r:KV kvs vs)(k:κ):RelO (i9 kvs k) (valueAt vs k):=by
 unfold KV at r
 induction r with
 |nil=>exact True.intro
 | @cons p q ps qs h t ih=>
  obtain⟨h1,h2⟩:=h
  by_cases e:p.1=k
  ·have e':q.1=k:=h1.symm.trans e
   have b:valueAt (q::qs) k=some q.2:=by simp [valueAt,List.find?_cons,e']
   rw[u5 e,b];exact h2
  ·have e':¬q.1=k:=fun z=>e (h1.trans z)
   have b:valueAt (q::qs) k=valueAt qs k:=by simp [valueAt,List.find?_cons,e']
   rw[u4 e,b];exact ih
theorem KV.any {kvs:List (κ×V)}{vs:List (κ×Value)}(r:KV kvs vs)(k:κ):(kvs.any fun kv=>decide (kv.1=k))=vs.any fun kv=>decide (kv.1=k):=by
 unfold KV at r
 induction r with
 |nil=>rfl
 |cons h t ih=>rw[List.any_cons,List.any_cons,ih,h.1]
theorem KV.repl {kvs:List (κ×V)}{vs:List (κ×Value)}(r:KV kvs vs)(k:κ){y:V}{u:Value}(ry:RelV y u):
  KV (kvs.map fun kv=>if kv.1=k then(kv.1,y) else kv) (vs.map fun kv=>if kv.1=k then(kv.1,u) else kv):=by
 unfold KV at r⊢
 induction r with
 |nil=>exact .nil
 | @cons p q ps qs h t ih=>
  rw[List.map_cons,List.map_cons]
  refine .cons ?_ ih
  obtain⟨h1,h2⟩:=h
  by_cases e:p.1=k
  ·rw[if_pos e,if_pos (h1.symm.trans e)];exact⟨h1,ry⟩
  ·rw[if_neg e,if_neg (fun z=>e (h1.trans z))];exact⟨h1,h2⟩
theorem KV.put {kvs:List (κ×V)}{vs:List (κ×Value)}(r:KV kvs vs)(k:κ){y:V}{u:Value}(ry:RelV y u):KV (z0 kvs k y) (stored vs k u):=by
 unfold z0 stored
 rw[r.any k]
 by_cases e:(vs.any fun kv=>decide (kv.1=k))=true
 ·rw[if_pos e,if_pos e];exact r.repl k ry
 ·rw[if_neg e,if_neg e];exact Paired.snoc r ⟨rfl,ry⟩
theorem KV.drop {kvs:List (κ×V)}{vs:List (κ×Value)}(r:KV kvs vs)(k:κ):KV (Q0 kvs k) (without vs k):=by
 unfold KV at r⊢
 unfold Q0 without
 induction r with
 |nil=>exact .nil
 | @cons p q ps qs h t ih=>
  obtain⟨h1,h2⟩:=h
  rw[List.filter_cons,List.filter_cons]
  by_cases e:p.1=k
  ·have a:¬decide (p.1≠k)=true:=by simp [e]
   have b:¬decide (q.1≠k)=true:=by simp [h1.symm.trans e]
   rw[if_neg a,if_neg b];exact ih
  ·have e':¬q.1=k:=fun z=>e (h1.trans z)
   have a:decide (p.1≠k)=true:=by simp [e]
   have b:decide (q.1≠k)=true:=by simp [e']
   rw[if_pos a,if_pos b];exact .cons ⟨h1,h2⟩ ih
theorem KV.keys {kvs:List (κ×V)}{vs:List (κ×Value)}(r:KV kvs vs):kvs.map (·.1)=vs.map (·.1):=by
 unfold KV at r
 induction r with
 |nil=>rfl
 |cons h t ih=>rw[List.map_cons,List.map_cons,ih,h.1]
theorem KV.length {kvs:List (κ×V)}{vs:List (κ×Value)}(r:KV kvs vs):kvs.length=vs.length:=Paired.length r
theorem oY (kvs:List (κ×V))(k:κ):(Q0 kvs k).length≤kvs.length:=List.length_filter_le _ _
end
theorem W2 {P:Program}{w:World}{k:d7}{u:Value}(r:RelV (kV k) u):(h8 P w).is k u=true:=by
 cases k with
 |inl i=>obtain⟨t,e⟩:=(show ∃t,u=Value.int i t from r);subst e;exact gN P w i t
 |inr x=>obtain⟨t,e⟩:=(show ∃t,u=Value.str x t from r);subst e;exact gi P w x t
theorem dN {P:Program}{w:World}:∀{ks:List d7} {us:List Value},Vals (ks.map kV) us→ItemsAre (h8 P w) ks us
 |[],_,r=>by rw[List.map_nil] at r;cases r;exact .nil
 |k::ks,_,r=>by
  rw[List.map_cons] at r
  cases r with
  |cons h t=>exact .cons (W2 h) (dN t)
abbrev KT (H:Hp):List (List d7×V)→List (List d7×Addr×Value)→Prop:=Paired fun p q=>p.1=q.1∧H q.2.1=some (.tup (p.1.map kV))∧RelV p.2 q.2.2
theorem KT.val {H:Hp}{kvs:List (List d7×V)}{xs:List (List d7×Addr×Value)}(r:KT H kvs xs)(k:List d7):RelO (i9 kvs k) ((atKey xs k).map (·.2)):=by
 induction r with
 |nil=>exact True.intro
 | @cons p q ps qs h t ih=>
  obtain⟨h1,_,h2⟩:=h
  by_cases e:p.1=k
  ·have e':q.1=k:=h1.symm.trans e
   have b:atKey (q::qs) k=some q.2:=by simp [atKey,List.find?_cons,e']
   rw[u5 e,b];exact h2
  ·have e':¬q.1=k:=fun z=>e (h1.trans z)
   have b:atKey (q::qs) k=atKey qs k:=by simp [atKey,List.find?_cons,e']
   rw[u4 e,b];exact ih
theorem KT.repl {H:Hp}{kvs:List (List d7×V)}{xs:List (List d7×Addr×Value)}(r:KT H kvs xs)(k:List d7){y:V}{u:Value}(ry:RelV y u):
  KT H (kvs.map fun kv=>if kv.1=k then(kv.1,y) else kv) (xs.map (putAt k u)):=by
 induction r with
 |nil=>exact .nil
 | @cons p q ps qs h t ih=>
  rw[List.map_cons,List.map_cons]
  refine .cons ?_ ih
  obtain⟨h1,h2,h3⟩:=h
  unfold putAt
  by_cases e:p.1=k
  ·rw[if_pos e,if_pos (h1.symm.trans e)];exact⟨h1,h2,ry⟩
  ·rw[if_neg e,if_neg (fun z=>e (h1.trans z))];exact⟨h1,h2,h3⟩
theorem KT.put {H:Hp}{kvs:List (List d7×V)}{xs:List (List d7×Addr×Value)}(r:KT H kvs xs)(k:List d7){b:Addr}{y:V}{u:Value}(hb:H b=some (.tup (k.map kV)))(ry:RelV y u):
  KT H (z0 kvs k y) (storedH xs k b u):=by
 have e:(kvs.any fun kv=>decide (kv.1=k))=(atKey xs k).isSome:=by
  rw[J3,(r.val k).isSome_eq,Option.isSome_map]
 unfold z0 storedH
 rw[e]
 by_cases q:(atKey xs k).isSome=true
 ·rw[if_pos q,if_pos q];exact r.repl k ry
 ·rw[if_neg q,if_neg q];exact Paired.snoc r ⟨rfl,hb,ry⟩
theorem KT.keeps {H H':Hp}{kvs:List (List d7×V)}{xs:List (List d7×Addr×Value)}(r:KT H kvs xs)(ht:∀b ys,H b=some (.tup ys)→H' b=some (.tup ys)):KT H' kvs xs:=
 Paired.mapP r fun _ _ z=>⟨z.1,ht _ _ z.2.1,z.2.2⟩
section
variable {P:Program} {w:World} {H:Hp} {h:Heap} {a:Addr}
theorem uz {u:HO}(ok:HOk P w H h)(e:Rd H a u):ObjOk P w H h a u:=e.ok ok
theorem C3 {kvs:List (d7×V)}(ok:HOk P w H h)(e:Rd H a (.dK kvs)):kvs.length≤sizeLine∧(a==sysModules)=false∧∃vs,KV kvs vs∧h.DictOf (h8 P w) a vs:=
 show ObjOk P w H h a (.dK kvs) from uz ok e
theorem pX {kvs:List (d7×V)}(ok:HOk P w H h)(e:H a=some (.dK kvs)):kvs.length≤sizeLine∧(a==sysModules)=false∧∃vs,KV kvs vs∧h.DictOf (h8 P w) a vs:=C3 ok (.inl e)
theorem S5 {ks:List d7}(ok:HOk P w H h)(e:H a=some (.tup (ks.map kV))):(tupleKind (h8 P w)).is h ks a:=by
 obtain⟨_,its,r,o,h1,h2,n,h3⟩:=(show ObjOk P w H h a (.tup (ks.map kV)) from ok a _ e)
 exact⟨o,its.toArray,n,h1,h2,h3,by simpa using dN r⟩
theorem aT {kvs:List (List d7×V)}(ok:HOk P w H h)(e:Rd H a (.dT kvs)):kvs.length≤sizeLine∧(a==sysModules)=false∧
  ∃xs,KT H kvs xs∧h.DictOfH (tupleKind (h8 P w)) a xs:=by
 obtain⟨z,y,xs,r,o,es,ep,h1,h2,h3,h4,h5⟩:=(show ObjOk P w H h a (.dT kvs) from uz ok e)
 refine⟨z,y,xs,r,o,es,ep,h1,h2,h3,h4,fun x hx=>?_,h5⟩
 have all:∀{l:List (List d7×V)} {m:List (List d7×Addr×Value)},KT H l m→∀x∈m,(tupleKind (h8 P w)).is h x.1 x.2.1:=by
  intro l m q
  induction q with
  |nil=>intro x hx;exact nomatch hx
  | @cons p q ps qs hq t ih=>
   intro x hx
   rcases List.mem_cons.mp hx with e|hx
   ·subst e
    exact S5 ok (by rw[←hq.1];exact hq.2.1)
   ·exact ih x hx
 exact all r x hx
theorem ui {kvs:List (List d7×V)}(ok:HOk P w H h)(e:H a=some (.dT kvs)):kvs.length≤sizeLine∧(a==sysModules)=false∧
  ∃xs,KT H kvs xs∧h.DictOfH (tupleKind (h8 P w)) a xs:=aT ok (.inl e)
end
def DGet (H:Hp)(a:Addr)(y:V)(r:Option V):Prop:=
 (∃kvs k,Rd H a (.dK kvs)∧y=kV k∧r=i9 kvs k)∨∃kvs k b,Rd H a (.dT kvs)∧y= .ref b∧H b=some (.tup (k.map kV))∧r=i9 kvs k
def DPut (H:Hp)(a:Addr)(y v:V)(H':Hp):Prop:=
 (∃kvs k,H a=some (.dK kvs)∧y=kV k∧kvs.length<sizeLine∧H'=i7 H a (.dK (z0 kvs k v)))∨
 ∃kvs k b,H a=some (.dT kvs)∧y= .ref b∧H b=some (.tup (k.map kV))∧kvs.length<sizeLine∧H'=i7 H a (.dT (z0 kvs k v))
theorem DGet.t {H:Hp}{a b:Addr}{kvs:List (List d7×V)}{k:List d7}(e:H a=some (.dT kvs))(eb:H b=some (.tup (k.map kV))):DGet H a (.ref b) (i9 kvs k):= .inr ⟨kvs,k,b,.inl e,rfl,eb,rfl⟩
theorem DPut.k {H:Hp}{a:Addr}{kvs:List (d7×V)}{k:d7}{v:V}(e:H a=some (.dK kvs))(hl:kvs.length<sizeLine):DPut H a (kV k) v (i7 H a (.dK (z0 kvs k v))):= .inl ⟨kvs,k,e,rfl,hl,rfl⟩
section
variable {X:Cx} {pins:List (Addr×Obj)} {σ:St} {H:Hp} {s:Shared} {a:Addr} {y v:V} {u r:Value} {o:Option V} {A:Around} {E:Value→Shared→Prop}
theorem Inv.big (I:Inv X pins σ H s):sysModules<s.heap.objs.size:=by
 have h:mainGlobals<s.heap.objs.size:=(I.mod.glob.keeps I.bk).lt
 exact Nat.lt_trans (by decide) h
theorem mV {Q:Value→Shared→Prop}(hu:A.units+1<cLine)(I:Inv X pins σ H s)(g:DGet H a y (some v))(ry:RelV y u)(h:∀w' s',Inv X pins σ H s'→RelV v w'→Q w' s'):
  wpAny (model X.prog X.w) A (getItem (.ref a) u) Q E s:=by
 rcases g with⟨kvs,k,e,ey,l⟩|⟨kvs,k,b,e,ey,eb,l⟩
 ·subst ey
  obtain⟨z,hd,vs,rel,dd⟩:=C3 I.hok e
  obtain⟨w',hw,rw'⟩:=RelO.some_of (v:=v) (o:=valueAt vs k) (by rw[l];exact rel.val k)
  exact wpAny_getItem_of (W2 ry) dd.mapOf hw (h w' _ (I.tok _) rw')
 ·subst ey
  cases (show u=Value.ref b from ry)
  obtain⟨z,hd,xs,rel,dd⟩:=aT I.hok e
  obtain⟨w',hw,rw'⟩:=RelO.some_of (v:=v) (o:=(atKey xs k).map (·.2)) (by rw[l];exact rel.val k)
  obtain⟨p,hp,hp2⟩:=Option.map_eq_some_iff.mp hw
  refine wpAny_getItem_heap (tupleKind_room_in1 hu) (S5 I.hok eb) dd hp ?_
  rw[hp2]
  exact h w' _ (I.tok _) rw'
theorem Al {Q:Value→Shared→Prop}(hu:A.units+1<cLine)(I:Inv X pins σ H s)(g:DGet H a y o)(ry:RelV y u)(h:∀s',Inv X pins σ H s'→Q (.bool o.isSome) s'):
  wpAny (model X.prog X.w) A (compareOp .In u (.ref a)) Q E s:=by
 rcases g with⟨kvs,k,e,ey,l⟩|⟨kvs,k,b,e,ey,eb,l⟩
 ·subst ey
  obtain⟨z,hd,vs,rel,dd⟩:=C3 I.hok e
  refine wpAny_in_of (W2 ry) hd dd.mapOf ?_
  rw[←(rel.val k).isSome_eq,←l]
  exact h _ (I.tok _)
 ·subst ey
  cases (show u=Value.ref b from ry)
  obtain⟨z,hd,xs,rel,dd⟩:=aT I.hok e
  refine wpAny_in_heap (tupleKind_room_in1 hu) (S5 I.hok eb) hd dd ?_
  have q:=(rel.val k).isSome_eq
  rw[Option.isSome_map] at q
  rw[←q,←l]
  exact h _ (I.tok _)
theorem sY {Q:Value→Shared→Prop}(hu:A.units+1<cLine)(I:Inv X pins σ H s)(g:DGet H a y o)(ry:RelV y u)(h:∀s',Inv X pins σ H s'→Q (.bool (!o.isSome)) s'):
  wpAny (model X.prog X.w) A (compareOp .NotIn u (.ref a)) Q E s:=by
 rcases g with⟨kvs,k,e,ey,l⟩|⟨kvs,k,b,e,ey,eb,l⟩
 ·subst ey
  obtain⟨z,hd,vs,rel,dd⟩:=C3 I.hok e
  refine wpAny_notIn_of (W2 ry) hd dd.mapOf ?_
  rw[←(rel.val k).isSome_eq,←l]
  exact h _ (I.tok _)
 ·subst ey
  cases (show u=Value.ref b from ry)
  obtain⟨z,hd,xs,rel,dd⟩:=aT I.hok e
  refine wpAny_notIn_heap (tupleKind_room_in1 hu) (S5 I.hok eb) hd dd ?_
  have q:=(rel.val k).isSome_eq
  rw[Option.isSome_map] at q
  rw[←q,←l]
  exact h _ (I.tok _)
theorem ao {h':Heap}{t':Nat}{ob:HO}(I:Inv X pins σ H s)(mu:yi (H a))(hs:Heap.SameBut a s.heap h')(he:∃q,h'.get? a=some q)(new:ObjOk X.prog X.w (i7 H a ob) h' a ob):
  Inv X pins σ (i7 H a ob) {s with heap:=h',toks:=t'}:=
 I.write (x:=a) (e:=a) mu (.inl rfl) (fun b q hb z=>(hs.2 b hb).trans z) he new
theorem bZ {P:Program}{w:World}{H':Hp}{h':Heap}{kvs:List (d7×V)}{vs:List (d7×Value)}(z:kvs.length≤sizeLine)(hd:(a==sysModules)=false)(rel:KV kvs vs)(dd:h'.DictOf (h8 P w) a vs):
  ObjOk P w H' h' a (.dK kvs):=⟨z,hd,vs,rel,dd⟩
theorem nj {H':Hp}{Q:Unit→Shared→Prop}(hu:A.units+1<cLine)(I:Inv X pins σ H s)(g:DPut H a y v H')(ry:RelV y u)(rv:RelV v r)(h:∀s',Inv X pins σ H' s'→Q () s'):
  wpAny (model X.prog X.w) A (setItem (.ref a) u r) Q E s:=by
 rcases g with⟨kvs,k,e,ey,l,eH⟩|⟨kvs,k,b,e,ey,eb,l,eH⟩
 ·subst ey eH
  obtain⟨z,hd,vs,rel,dd⟩:=pX I.hok e
  have hz:vs.length≤sizeLine:=by rw[←rel.length];exact z
  have hl:(z0 kvs k v).length≤sizeLine:=by have:=F7 kvs k v;omega
  refine wpAny_setItem_pairs (hsz:=hz) (W2 ry) dd fun h' dd' hs=>h _ ?_
  have he:∃q,h'.get? a=some q:=let ⟨q,_,_,hq,_⟩:=dd';⟨q,hq⟩
  exact ao I (by rw[e];exact True.intro) hs he (bZ hl hd (rel.put k rv) dd')
 ·subst ey eH
  cases (show u=Value.ref b from ry)
  obtain⟨z,hd,xs,rel,dd⟩:=ui I.hok e
  have hz:xs.length≤sizeLine:=by rw[←Paired.length rel];exact z
  have hl:(z0 kvs k v).length≤sizeLine:=by have:=F7 kvs k v;omega
  refine wpAny_setItem_heap (hsz:=hz) (tupleKind_room_in1 hu) (S5 I.hok eb) dd fun h' dd' hs=>h _ ?_
  obtain⟨q,es,ep,hq,h2,h3,h4,_,h5⟩:=dd'
  refine ao I (by rw[e];exact True.intro) hs ⟨q,hq⟩ ⟨hl,hd,_,(rel.put k eb rv).keeps fun c ys ec=>?_,q,es,ep,hq,h2,h3,h4,h5⟩
  rw[b0 (ud ec e (fun z=>nomatch z))]
  exact ec
end
section
variable {X:Cx} {pins:List (Addr×Obj)} {σ:St} {H:Hp} {s:Shared} {a:Addr} {kvs:List (d7×V)} {k:d7} {u:Value} {A:Around} {E:Value→Shared→Prop}
theorem yz {v:V}{more:List Value}{Q:Value→Shared→Prop}(I:Inv X pins σ H s)(e:H a=some (.dK kvs))(ry:RelV (kV k) u)(l:i9 kvs k=some v)(hm:more=[]∨∃x,more=[x])
  (h:∀w' s',Inv X pins σ (i7 H a (.dK (Q0 kvs k))) s'→RelV v w'→Q w' s'):wpAny (model X.prog X.w) A (call (.builtin "dict.pop") (.ref a::u::more)) Q E s:=by
 obtain⟨z,hd,vs,rel,dd⟩:=pX I.hok e
 obtain⟨w',hw,rw'⟩:=RelO.some_of (v:=v) (o:=valueAt vs k) (by rw[←l];exact rel.val k)
 have hp:(keyPart u).isSome=true:=by
  cases k with
  |inl i=>obtain⟨t,q⟩:=(show ∃t,u=Value.int i t from ry);subst q;rfl
  |inr x=>obtain⟨t,q⟩:=(show ∃t,u=Value.str x t from ry);subst q;rfl
 have ha:argsOk "dict.pop" ⟨.ref a::u::more,[]⟩:=by
  rcases hm with q|⟨x,q⟩
  ·subst q;exact PySem.F.args_dict_pop_2 _ _
  ·subst q;exact PySem.F.args_dict_pop_3 _ _ _
 refine call_meetsIn PySem.F.slot_dict_pop dd.typeIs PySem.F.entry_dict_pop ha (meets_dict_pop_there (h8 X.prog X.w) a (W2 ry) more hm hp)
  ⟨vs,w',dd,by rw[←rel.length];exact z,hw,fun h' dd' hs=>h w' _ ?_ rw'⟩
 have he:∃q,h'.get? a=some q:=let ⟨q,_,_,hq,_⟩:=dd';⟨q,hq⟩
 exact ao I (by rw[e];exact True.intro) hs he (bZ (Nat.le_trans (oY kvs k) z) hd (rel.drop k) dd')
theorem zb {Q:Value→Shared→Prop}(I:Inv X pins σ H s)(e:Rd H a (.dK kvs))(h:∀t s',Inv X pins σ H s'→Q (.int kvs.length t) s'):wpAny (model X.prog X.w) A (call (.builtin "len") [.ref a]) Q E s:=by
 obtain⟨z,hd,vs,rel,dd⟩:=C3 I.hok e
 refine call_len_dict hd dd (by rw[←rel.length];rw[sizeLine_eq] at z;omega) ?_
 rw[←rel.length]
 exact h _ _ (I.tok _)
end
theorem gq {X:Cx}{pins:List (Addr×Obj)}{σ:St}{H:Hp}{s:Shared}{a:Addr}{y:V}{o:Option V}(I:Inv X pins σ H s)(g:DGet H a y o):s.TypeIs (.ref a) "dict":=by
 rcases g with⟨kvs,k,e,_,_⟩|⟨kvs,k,b,e,_,_,_⟩
 ·obtain⟨_,_,vs,_,dd⟩:=C3 I.hok e
  exact dd.typeIs
 ·obtain⟨_,_,xs,_,dd⟩:=aT I.hok e
  exact dd.typeIs
section
variable {X:Cx} {o i e value:Expr} {pos pos' tpos:Pos} {td ty tv:TE}
end
theorem pV {P:Program}{w:World}{H:Hp}(h:Heap)(hb:sysModules<h.objs.size):ObjOk P w H (h.push {cls:= .type "dict",data:= .dict #[]}) h.objs.size (.dK []):=
 ⟨Nat.zero_le _,beq_eq_false_iff_ne.mpr (Ne.symm (Nat.ne_of_lt hb)),[],.nil,Heap.DictOf.new h⟩
theorem nO {P:Program}{w:World}{H:Hp}(h:Heap)(hb:sysModules<h.objs.size):ObjOk P w H (h.push {cls:= .type "dict",data:= .dict #[]}) h.objs.size (.dT []):=
 ⟨Nat.zero_le _,beq_eq_false_iff_ne.mpr (Ne.symm (Nat.ne_of_lt hb)),[],.nil,_, #[],0,Heap.get?_push_size _ rfl,⟨rfl,rfl,rfl⟩,rfl,rfl,List.nodup_nil⟩
def og:TE:=fun _ H Q=>∀p,H p=none→Q (.ref p) (i7 H p (.dK []))
def qa:TE:=fun _ H Q=>∀p,H p=none→Q (.ref p) (i7 H p (.dT []))
section
variable {X:Cx} {pos:Pos}
theorem qI:PE X (.Dict [] [] pos) og:=fun pins s σ H Q I h=>
 wpAny_Dict_empty ⟨.ref s.heap.objs.size,_,I.laid (a:=s.heap.objs.size) (o:= .dK []) (t':=s.toks) (fun _ _ q=>Heap.get?_push_of_some _ q) (Nat.le_refl _) (pV s.heap I.big),rfl,h _ (I.hok.fresh (Nat.le_refl _))⟩
theorem qr:PE X (.Dict [] [] pos) qa:=fun pins s σ H Q I h=>
 wpAny_Dict_empty ⟨.ref s.heap.objs.size,_,I.laid (a:=s.heap.objs.size) (o:= .dT []) (t':=s.toks) (fun _ _ q=>Heap.get?_push_of_some _ q) (Nat.le_refl _) (nO s.heap I.big),rfl,h _ (I.hok.fresh (Nat.le_refl _))⟩
end
def pW:List (TE×TE)→St→Hp→(List (V×V)→Hp→Prop)→Prop
 |[],_,H,Q=>Q [] H
 |(tk,tv)::r,σ,H,Q=>tk σ H fun x H1=>tv σ H1 fun y H2=>pW r σ H2 fun ps H3=>Q ((x,y)::ps) H3
abbrev VV:List (V×V)→List (Value×Value)→Prop:=Paired fun p q=>RelV p.1 q.1∧RelV p.2 q.2
def BJ (X:Cx)(pos:Pos)(keys:List (Option Expr))(values:List Expr)(trs:List (TE×TE)):Prop:=
 ∀(pins:List (Addr×Obj)) (s:Shared) (σ:St) (H:Hp) (Q:List (V×V)→Hp→Prop),Inv X pins σ H s→pW trs σ H Q→
  wpAny (model X.prog X.w) X.A (evalPairs (pairTrees keys values X.env pos)) (fun vs s'=>∃ps H',Inv X pins σ H' s'∧VV ps vs∧Q ps H') X.xe s
structure M1 (X:Cx) (o:Expr) (m:Str) (apos:Pos) (e:Expr) (cpos:Pos):Prop where
 base:attributeBase o m X.env (eval o X.env)=eval o X.env
 few:((backTo cpos (starEach [e] X.env)).all (fun x=>!x.1)&&(backToKw cpos (keywordEach [] X.env)).all (fun x=>x.1.isSome)
  &&decide (([e]:List Expr).length+([]:List Keyword).length+(if([]:List Keyword).isEmpty then 0 else 1)<30))=true
 line:(apos.endLine==cpos.line)=true
 trees:backTo cpos (starEach [e] X.env)=[(false,eval e X.env)]
structure M2 (X:Cx) (o:Expr) (m:Str) (apos:Pos) (e f:Expr) (cpos:Pos):Prop where
 base:attributeBase o m X.env (eval o X.env)=eval o X.env
 few:((backTo cpos (starEach [e,f] X.env)).all (fun x=>!x.1)&&(backToKw cpos (keywordEach [] X.env)).all (fun x=>x.1.isSome)
  &&decide (([e,f]:List Expr).length+([]:List Keyword).length+(if([]:List Keyword).isEmpty then 0 else 1)<30))=true
 line:(apos.endLine==cpos.line)=true
 trees:backTo cpos (starEach [e,f] X.env)=[(false,eval e X.env),(false,eval f X.env)]
def xQ (H:Hp)(a:Addr):Prop:=(∃kvs,Rd H a (.dK kvs))∨∃kvs,Rd H a (.dT kvs)
theorem iZ {X:Cx}{pins:List (Addr×Obj)}{σ:St}{H:Hp}{s:Shared}{a:Addr}(I:Inv X pins σ H s)(d:xQ H a):
  s.TypeIs (.ref a) "dict"∧(∀b,Value.ref a= .ref b→∃ob,s.heap.get? b=some ob∧ob.dict=none)∧(a==sysModules)=false:=by
 rcases d with⟨kvs,e⟩|⟨kvs,e⟩
 ·obtain⟨_,hd,vs,_,dd⟩:=C3 I.hok e
  refine⟨dd.typeIs,fun b q=>?_,hd⟩
  cases q
  obtain⟨ob,_,_,h1,h2,_⟩:=dd
  exact⟨ob,h1,h2.2.1⟩
 ·obtain⟨_,hd,xs,_,dd⟩:=aT I.hok e
  refine⟨dd.typeIs,fun b q=>?_,hd⟩
  cases q
  obtain⟨ob,_,_,h1,h2,_⟩:=dd
  exact⟨ob,h1,h2.2.1⟩
section
variable {X:Cx} {pins:List (Addr×Obj)} {σ:St} {H:Hp} {s:Shared} {a:Addr} {y d:V} {u r:Value} {o:Option V} {A:Around} {E:Value→Shared→Prop}
theorem xx {Q:Value→Shared→Prop}(hu:A.units+1<cLine)(I:Inv X pins σ H s)(g:DGet H a y o)(ry:RelV y u)(h:∀w' s',Inv X pins σ H s'→RelV (o.getD .non) w'→Q w' s'):
  wpAny (model X.prog X.w) A (call (.builtin "dict.get") [.ref a,u]) Q E s:=by
 rcases g with⟨kvs,k,e,ey,l⟩|⟨kvs,k,b,e,ey,eb,l⟩
 ·subst ey
  obtain⟨z,hd,vs,rel,dd⟩:=C3 I.hok e
  refine call_meetsIn PySem.F.slot_dict_get dd.typeIs PySem.F.entry_dict_get (PySem.F.args_dict_get_2 _ _) (meets_dict_get (h8 X.prog X.w) a (W2 ry) hd) ⟨_,dd.mapOf,h _ _ (I.tok _) ?_⟩
  rw[l]
  exact(rel.val k).getD rfl
 ·subst ey
  cases (show u=Value.ref b from ry)
  obtain⟨z,hd,xs,rel,dd⟩:=aT I.hok e
  refine call_meetsIn PySem.F.slot_dict_get dd.typeIs PySem.F.entry_dict_get (PySem.F.args_dict_get_2 _ _) (meetsH_dict_get (tupleKind (h8 X.prog X.w)) a b hd) ⟨tupleKind_room_in1 hu,k,xs,S5 I.hok eb,dd,h _ _ (I.tok _) ?_⟩
  rw[l]
  exact(rel.val k).getD rfl
theorem wm {Q:Value→Shared→Prop}(hu:A.units+1<cLine)(I:Inv X pins σ H s)(g:DGet H a y o)(ry:RelV y u)(rd:RelV d r)(h:∀w' s',Inv X pins σ H s'→RelV (o.getD d) w'→Q w' s'):
  wpAny (model X.prog X.w) A (call (.builtin "dict.get") [.ref a,u,r]) Q E s:=by
 rcases g with⟨kvs,k,e,ey,l⟩|⟨kvs,k,b,e,ey,eb,l⟩
 ·subst ey
  obtain⟨z,hd,vs,rel,dd⟩:=C3 I.hok e
  refine call_meetsIn PySem.F.slot_dict_get dd.typeIs PySem.F.entry_dict_get (PySem.F.args_dict_get_3 _ _ _) (meets_dict_get_default (h8 X.prog X.w) a (W2 ry) hd r) ⟨_,dd.mapOf,h _ _ (I.tok _) ?_⟩
  rw[l]
  exact(rel.val k).getD rd
 ·subst ey
  cases (show u=Value.ref b from ry)
  obtain⟨z,hd,xs,rel,dd⟩:=aT I.hok e
  refine call_meetsIn PySem.F.slot_dict_get dd.typeIs PySem.F.entry_dict_get (PySem.F.args_dict_get_3 _ _ _) (meetsH_dict_get_default (tupleKind (h8 X.prog X.w)) a b hd r) ⟨tupleKind_room_in1 hu,k,xs,S5 I.hok eb,dd,h _ _ (I.tok _) ?_⟩
  rw[l]
  exact(rel.val k).getD rd
end
def iJ (td ty:TE):TE:=fun σ H Q=>td σ H fun x H1=>∃a,x= .ref a∧xQ H1 a∧ty σ H1 fun y H2=>∃o,DGet H2 a y o∧Q (o.getD .non) H2
def iF (td ty tx:TE):TE:=fun σ H Q=>td σ H fun x H1=>∃a,x= .ref a∧xQ H1 a∧ty σ H1 fun y H2=>tx σ H2 fun z H3=>∃o,DGet H3 a y o∧Q (o.getD z) H3
def qd (td ty:TE):TE:=fun σ H Q=>td σ H fun x H1=>∃a,x= .ref a∧xQ H1 a∧ty σ H1 fun y H2=>∃kvs k v,H2 a=some (.dK kvs)∧y=kV k∧i9 kvs k=some v∧Q v (i7 H2 a (.dK (Q0 kvs k)))
section
variable {X:Cx} {o e f:Expr} {apos cpos:Pos} {td ty tx:TE}
theorem pM (hu:X.A.units+1<cLine)(ho:PE X o td)(he:PE X e ty)(m:M1 X o "get" apos e cpos):PE X (.Call (.Attribute o "get" apos) [e] [] cpos) (iJ td ty):=by
 intro pins s σ H Q I h
 refine wpAny_Call_method m.base m.few m.line PySem.F.plainAttrs_dict PySem.F.slot_dict_get PySem.F.type_dict_get (B5 (ho pins s σ H _ I h) fun u s1 ⟨x,H1,I1,rx,a,ex,d,q1⟩=>?_)
 subst ex
 obtain rfl:u=Value.ref a:=rx
 obtain⟨t1,t2,_⟩:=iZ I1 d
 refine⟨t1,t2,?_⟩
 rw[m.trees]
 refine Calls.callWith_builtin rfl (Calls.evalArgs_plain (Calls.spliced_cons (B5 (he pins s1 σ H1 _ I1 q1) fun iv s2 ⟨y,H2,I2,ry,ov,g,q2⟩=>Calls.spliced_nil ?_)))
 exact xx hu I2 g ry fun w' s3 I3 rw'=>⟨_,H2,I3,rw',q2⟩
theorem oW (hu:X.A.units+1<cLine)(ho:PE X o td)(he:PE X e ty)(hf:PE X f tx)(m:M2 X o "get" apos e f cpos):PE X (.Call (.Attribute o "get" apos) [e,f] [] cpos) (iF td ty tx):=by
 intro pins s σ H Q I h
 refine wpAny_Call_method m.base m.few m.line PySem.F.plainAttrs_dict PySem.F.slot_dict_get PySem.F.type_dict_get (B5 (ho pins s σ H _ I h) fun u s1 ⟨x,H1,I1,rx,a,ex,d,q1⟩=>?_)
 subst ex
 obtain rfl:u=Value.ref a:=rx
 obtain⟨t1,t2,_⟩:=iZ I1 d
 refine⟨t1,t2,?_⟩
 rw[m.trees]
 refine Calls.callWith_builtin rfl (Calls.evalArgs_plain (Calls.spliced_cons (B5 (he pins s1 σ H1 _ I1 q1) fun iv s2 ⟨y,H2,I2,ry,q2⟩=>
  Calls.spliced_cons (B5 (hf pins s2 σ H2 _ I2 q2) fun fv s3 ⟨z,H3,I3,rz,ov,g,q3⟩=>Calls.spliced_nil ?_))))
 exact wm hu I3 g ry rz fun w' s4 I4 rw'=>⟨_,H3,I4,rw',q3⟩
theorem qf (ho:PE X o td)(he:PE X e ty)(m:M1 X o "pop" apos e cpos):PE X (.Call (.Attribute o "pop" apos) [e] [] cpos) (qd td ty):=by
 intro pins s σ H Q I h
 refine wpAny_Call_method m.base m.few m.line PySem.F.plainAttrs_dict PySem.F.slot_dict_pop PySem.F.type_dict_pop (B5 (ho pins s σ H _ I h) fun u s1 ⟨x,H1,I1,rx,a,ex,d,q1⟩=>?_)
 subst ex
 obtain rfl:u=Value.ref a:=rx
 obtain⟨t1,t2,_⟩:=iZ I1 d
 refine⟨t1,t2,?_⟩
 rw[m.trees]
 refine Calls.callWith_builtin rfl (Calls.evalArgs_plain (Calls.spliced_cons (B5 (he pins s1 σ H1 _ I1 q1) fun iv s2 ⟨y,H2,I2,ry,kvs,k,v,ea,ey,l,q2⟩=>Calls.spliced_nil ?_)))
 subst ey
 exact yz I2 ea ry l (.inl rfl) fun w' s3 I3 rw'=>⟨v,_,I3,rw',q2⟩
end
section
variable {X:Cx} {pins:List (Addr×Obj)} {σ:St} {H:Hp} {s:Shared} {a:Addr} {kvs:List (d7×V)} {A:Around} {E:Value→Shared→Prop}
theorem qL {Q:Value→Shared→Prop}(I:Inv X pins σ H s)(e:Rd H a (.dK kvs))(h:∀p s',H p=none→Inv X pins σ (i7 H p (.dK kvs)) s'→Q (.ref p) s'):wpAny (model X.prog X.w) A (call (.type "dict") [.ref a]) Q E s:=by
 obtain⟨z,hd,vs,rel,dd⟩:=C3 I.hok e
 refine kt_call_dict hd dd (by rw[←rel.length];exact z) fun h' dd' hs=>?_
 refine h _ _ (I.hok.fresh (Nat.le_refl _)) (I.laid (a:=s.heap.objs.size) (o:= .dK kvs) (t':=s.toks) (fun b q hq=>?_) (Nat.le_refl _) (bZ z (beq_eq_false_iff_ne.mpr (Ne.symm (Nat.ne_of_lt I.big))) rel dd'))
 exact(hs.2 b (Nat.ne_of_lt (Heap.lt_size hq))).trans (Heap.get?_push_of_some _ hq)
end
section
variable {X:Cx} {pins:List (Addr×Obj)} {σ:St} {H:Hp} {s:Shared} {a:Addr} {y:V} {u:Value} {A:Around} {E:Value→Shared→Prop}
end
end L2
namespace Att
open PySem PySem.W PySem.Calls PyProof.Rows
theorem bc {P:Params}{h:Heap}:∀(ns:List Int) (vs:List Value),WellAll P h vs (ns.map WData.int)→IntsAre vs ns:=by
 intro ns
 induction ns with
 |nil=>
  intro vs w
  rw[List.map_nil] at w
  cases w
  exact .nil
 |cons n ns ih=>
  intro vs w
  rw[List.map_cons] at w
  cases w with
  |cons a b=>
   cases a
   exact .cons _ _ (ih _ b)
theorem mZ {l:OpenLaw}{n:Nat}(hn:l.most=some n){P:Params}{h:Heap}{args:List WData}{vals:List Value}
  (hpre:l.row.toRowW.claim.pre args=true) (hwl:WellAll P h vals args):
  ∃a vs ns,vals=[Value.ref a]∧args=[WData.list (ns.map WData.int)]∧h.get? a=some {cls:= .type "list",data:= .seq vs.toArray}∧IntsAre vs ns∧ns.length≤n:=by
 have hsh:WShape.hasAll [] args [.list .int]=true:=(pre_splitW hpre).1
 have hc:l.pre.holds [] {args:=args}=true:=(pre_splitW hpre).2
 obtain⟨d,r,rfl,h1,h2⟩:=hasAllW_cons hsh
 obtain rfl:=hasAllW_nil h2
 obtain⟨xs,rfl,h3⟩:=hasW_list h1
 obtain⟨ns,rfl⟩:=items_int h3
 have hlen:ns.length≤n:=by
  unfold OpenLaw.pre at hc
  have h4:(WTm.not (.lt (.lit (.int (n:Int))) (.len (.arg 0)))).holds [] {args:=[.list (ns.map .int)]}=true:=by
   have h4:=(holds_andW hc).1
   rw[hn] at h4
   exact h4
  have h5:=condW_of h4 (w_not (w_lt w_lit (w_len_list (w_arg rfl))))
  rw[List.length_map] at h5
  refine Nat.le_of_not_lt fun q=>?_
  have q':(n:Int)<((ns.length:Nat):Int):=by omega
  first
   |(rw[decide_eq_true q'] at h5;exact absurd h5 (by decide))
   |(simp at h5;omega)
 cases hwl with
 |cons w1 w2=>
  cases w2
  cases w1 with
  |list ho hall=>exact⟨_,_,ns,rfl,rfl,ho,bc ns _ hall,hlen⟩
theorem nB (l:OpenLaw)(args:List WData):l.row.toRowW.claim.post args (.bool true) args=true:=
 postW_of (r:=l.row.toRowW) (X:=(true==true))
  (show WShape.has [] (.bool true) .bool=true by first|rfl|decide|simp [WShape.has,WShape.arms,WShape.armsAll])
  (show(WTm.eq .res (.lit (.bool true))).value [] {args:=args,res:=some (.bool true),after:=args}=some (.bool (true==true)) from w_eq_bool (w_res rfl) w_lit) rfl
theorem attach_call {l:OpenLaw}{n:Nat}{q:Program}{loose:List Str}{XP:(Str→Option Value)→Heap→Prop}{YP:World→Heap→Prop}{d:DefRec}
  (hn:l.most=some n) (hdf:d.params.defaults=[])
  (call:∀(w:World) (s₀ s₁:Shared) (mg mb:Str→Option Value) (fa:Addr) (o:Obj) (pm cd doc:Value) (a:Addr) (vs:List Value) (ns:List Int),
   Ground q loose [] XP w s₀ mg mb s₁.heap→YP w s₁.heap→
   s₁.heap.get? fa=some o→o.data= .func (docDef d.name d.params d.body d.scope pm cd doc)→s₁.heap.CodeRec cd d.name→mg d.name=some (.ref fa)→
   s₁.heap.get? a=some {cls:= .type "list",data:= .seq vs.toArray}→IntsAre vs ns→ns.length≤n→s₁.gens= #[]→
   codeAny (model l.prog w) callerA (.call (.ref fa) ⟨[.ref a],[]⟩) (fun r s'=>r= .ok (.ret (.bool true))∧OldK s₁.heap s'.heap∧s'.os=s₁.os∧AllBare s'.gens) s₁):
  WalkO q loose XP YP l.row.toRowW d [] (fun f vs=>PySem.call f vs):=by
 intro w s₀ s₁ mg mb G Y fa o pm cd doc dV kV ho hd hcd hD hmg hg args vals as hpre hlay hrd hwl hlo
 obtain rfl:dV= .none:=Dflts.none hD hdf
 obtain rfl:kV= .none:=Dflts.noKw hD
 obtain⟨a,vs,ns,rfl,rfl,hobj,hints,hlen⟩:=mZ hn hpre hwl
 refine enter_call (codeAny_mono (call w s₀ s₁ mg mb fa o pm cd doc a vs ns G Y ho (fd_plain hd) hcd hmg hobj hints hlen hg) fun r s' hq=>?_)
 obtain⟨rfl,h2,h3,h4⟩:=hq
 exact⟨.inl ⟨.bool true,.bool true,[],rfl,fun _=>rfl,.bool true,nB l _,fun _=>⟨List.Pairwise.nil,fun _ hm=>(nomatch hm)⟩⟩,h2,h3,h4⟩
section
variable {prog:Program} {w:World} {A:Around} {E:Value→Shared→Prop} {s:Shared} {K:Frag}
end
end Att
namespace L2
open PySem PySem.Spec PyProof.Rows
theorem dZ:∀{vs:List Value} {ns:List Int},IntsAre vs ns→Vals (ns.map V.int) vs
 |_,_,.nil=> .nil
 |_,_,.cons n t h=> .cons ⟨t,rfl⟩ (dZ h)
def wN (H:Hp):Prop:=∀b,H b=none∨∃o xs,H b=some (.frz o (.lst xs))
theorem nZ {P:Program}{w:World}{K:PySem.W.Frag}{mg mb:Str→Option Value}{CX:ig}{k:Nat}{fa a:Addr}{fd:FuncData}{x:Str}{sp:Sp}{s₁:Shared}{vs:List Value}{ns:List Int}
  (KX:K.In s₁.heap) (hns:s₁.heap.Ns mainGlobals mg) (hb:s₁.heap.Ns builtinsNs mb) (hbb:∀x:Str,x≠"__name__"→mb x=bootBuiltins x) (hlim:s₁.heap.NoLimit) (hg:s₁.gens= #[])
  (ha:s₁.heap.get? a=some {cls:= .type "list",data:= .seq vs.toArray}) (hi:IntsAre vs ns) (hl:ns.length≤sizeLine) (hr:Room k callerA)
  (F:∀base:Heap,K.In base→base.Ns mainGlobals mg→A6 P w K mg base CX k fa fd [x] sp) (hbind:∀(s:Shared) (u:Value),BindsTo s fd ⟨[u],[]⟩ [(x,u)])
  (hsp:∀H:Hp,wN H→SqL K H a (ns.map V.int)→sp [.ref a] H (fun v _=>v= .bl true) fun _ _ _=>False)
  (hCX:∀H e s',CX [] H s₁ (fun _ _ _=>False) e s'→False):
  codeAny (model P w) callerA (.call (.ref fa) ⟨[.ref a],[]⟩) (fun r s'=>r= .ok (.ret (.bool true))∧OldK s₁.heap s'.heap∧s'.os=s₁.os∧AllBare s'.gens) s₁:=by
 have rv:=dZ hi
 have lenV:=hi.length
 have core:∀H:Hp,wN H→SqL K H a (ns.map V.int)→HOk P w H s₁.heap→(∀b,H b≠none→b=a)→(H a≠none→K.lookup a=none)→
   codeAny (model P w) callerA (.call (.ref fa) ⟨[.ref a],[]⟩) (fun r s'=>r= .ok (.ret (.bool true))∧OldK s₁.heap s'.heap∧s'.os=s₁.os∧AllBare s'.gens) s₁:=by
  intro H hO hS hok hA hK
  have base_of:∀{b:Addr} {o:Obj},s₁.heap.get? b=some o→H b=none→(eW s₁.heap H).get? b=some o:=fun e n=>pL e n
  have noA:∀{b:Addr} {o:Obj} {es:Array DictEntry} {ep:Nat},s₁.heap.get? b=some o→o.data= .dict es ep→H b=none:=fun{b o es ep} e d=>by
   cases q:H b with
   |none=>rfl
   |some u=>
    have e':b=a:=hA b (by rw[q];simp)
    subst e'
    rw[ha] at e;cases e
    have d':Data.seq vs.toArray _=Data.dict es ep:=d
    cases d'
  have nsK:∀{b:Addr} {m:Str→Option Value},s₁.heap.Ns b m→(eW s₁.heap H).Ns b m:=fun{b m} ⟨o,es,ep,e,d,r⟩=>⟨o,es,ep,base_of e (noA e d),d,r⟩
  have hKb:K.In (eW s₁.heap H):=fun b o e=>base_of (KX b o e) (by
   cases q:H b with
   |none=>rfl
   |some u=>
    have e':b=a:=hA b (by rw[q];simp)
    subst e'
    rw[hK (by rw[q];simp)] at e;cases e)
  have hM:Mod K mg (eW s₁.heap H):=⟨hKb,nsK hns,⟨mb,nsK hb,hbb⟩,let ⟨mc,h1,h2⟩:=hlim;⟨mc,nsK h1,h2⟩⟩
  have e0:sr P w K mg (eW s₁.heap H) callerA [] s₁ H:=⟨rfl,hM,fun b o e=>tM e,Nat.le_of_eq (mE _ _),trivial,fun b hb=>absurd (show b∈([]:List Addr) from hb) (by simp),hok,.of_eq hg⟩
  refine codeAny_mono ((F _ hKb (nsK hns)).run callerA [] s₁ H ⟨[.ref a],[]⟩ [.ref a] [.ref a] _ _ hr e0 (hbind s₁ (.ref a)) (.cons rfl .nil) (hsp H hO hS)) fun r s' h=>?_
  cases r with
  |error e=>exact(hCX H e s' h).elim
  |ok fl=>
   cases fl with
   |next=>exact False.elim h
   |brk=>exact False.elim h
   |cont=>exact False.elim h
   |ret u=>
    obtain⟨v,H',os,bare,un,hok',r',q⟩:=h
    have q':v= .bl true:=q
    subst q'
    obtain rfl:u=Value.bool true:=r'
    refine⟨rfl,OldK.of_keep fun b o e=>?_,os,bare⟩
    cases q:H b with
    |none=>exact un.keep b o e q (by intro z;exact absurd (show b∈([]:List Addr) from z) (by simp)) (by simp)
    |some u=>
     rcases hO b with z|⟨ob,xs,z⟩
     ·rw[q] at z;cases z
     ·have z2:=un.frzs b ob _ z
      obtain⟨e1,_⟩:=hok b _ z
      obtain⟨e2,_⟩:=hok' b _ z2
      rw[e] at e1;cases e1
      exact e2
 cases hk:K.lookup a with
 |some o=>
  have e:=KX a o hk
  rw[ha] at e
  cases e
  refine core (fun _=>none) (fun _=> .inl rfl) (.inr ⟨_,vs.toArray,_,hk,rfl,rfl,rfl,by rw[List.size_toArray,lenV];exact hl,by simpa using rv⟩) (fun b u z=>by have z':(none:Option HO)=some u:=z;cases z') (fun b z=>absurd rfl z) fun z=>absurd rfl z
 |none=>
  refine core (fun b=>if b=a then some (.frz {cls:= .type "list",data:= .seq vs.toArray} (.lst (ns.map V.int))) else none) (fun b=>?_) (.inl (.inr ⟨{cls:= .type "list",data:= .seq vs.toArray},if_pos rfl⟩)) (fun b u z=>?_) (fun b z=>?_) fun _=>hk
  ·by_cases hb:b=a
   ·exact .inr ⟨_,_,if_pos hb⟩
   ·exact .inl (if_neg hb)
  ·by_cases hb:b=a
   ·have z':=(if_pos hb).symm.trans z
    cases z'
    subst hb
    exact⟨ha,by rw[List.length_map];exact hl,vs,_,rv,ha⟩
   ·have z':=(if_neg hb).symm.trans z
    cases z'
  ·by_cases hb:b=a
   ·exact hb
   ·exact absurd (if_neg hb) z
end L2
namespace L2
open PySem PySem.Spec PyProof.Rows
theorem walk_of {l:PySem.W.OpenLaw}{n k:Nat}{q:Program}{loose:List Str}{XP:(Str→Option Value)→Heap→Prop}{YP:World→Heap→Prop}{d:DefRec}{K:Params→PySem.W.Frag}{CX:World→ig}{sp:World→Sp}{x:Str}
  (hn:l.most=some n) (hn2:n≤sizeLine) (hdf:d.params.defaults=[]) (hr:Room k callerA)
  (hY:∀(w:World) (h:Heap),YP w h→(K w.params).In h)
  (F:∀(w:World) (mg:Str→Option Value) (fa:Addr) (h:Heap),(K w.params).In h→h.Ns mainGlobals mg→mg d.name=some (.ref fa)→
   ∃fd:FuncData,(∀(s:Shared) (u:Value),BindsTo s fd ⟨[u],[]⟩ [(x,u)])∧
    ∀base:Heap,(K w.params).In base→base.Ns mainGlobals mg→A6 l.prog w (K w.params) mg base (CX w) k fa fd [x] (sp w))
  (hsp:∀(w:World) (H:Hp) (a:Addr) (ns:List Int),ns.length≤n→wN H→SqL (K w.params) H a (ns.map V.int)→sp w [.ref a] H (fun v _=>v= .bl true) fun _ _ _=>False)
  (hCX:∀(w:World) (H:Hp) (s:Shared) (e:Value) (s':Shared),CX w [] H s (fun _ _ _=>False) e s'→False):
  PySem.W.WalkO q loose XP YP l.row.toRowW d [] (fun f vs=>PySem.call f vs):=by
 refine Att.attach_call hn hdf fun w s₀ s₁ mg mb fa o pm cd doc a vs ns G Y ho hd hcd hmg hobj hints hlen hg=>?_
 have KX:=hY w _ Y
 obtain⟨fd,hb,hF⟩:=F w mg fa _ KX G.T.g hmg
 exact nZ KX G.T.g G.T.b G.T.builtins G.T.nolimit hg hobj hints (Nat.le_trans hlen hn2) hr hF hb (fun H hO hS=>hsp w H a ns hlen hO hS) fun H e s'=>hCX w H s₁ e s'
end L2
namespace L2
open PySem PySem.Spec PyProof.Rows
def D9 (s:Stmt):Arguments:=match s with
 | .FunctionDef _ a _ _ _ _ _ _ _ _=>a
 |_=>{posonlyargs:=[],args:=[],vararg:=none,kwonlyargs:=[],kw_defaults:=[],kwarg:=none,defaults:=[]}
def C1 (s:Stmt):List Stmt:=match s with
 | .FunctionDef _ _ b _ _ _ _ _ _ _=>b
 |_=>[]
def d8 (s:Stmt):Scope:=match s with
 | .FunctionDef _ _ _ _ _ _ sc _ _ _=>sc
 |_=>{kind:= .function,names:=[],isGenerator:=false,isCoroutine:=false}
abbrev D5:ig:=fun _ _ _ _ _ _=>False
abbrev E0:XK:=fun _ _ _=>False
theorem p0 {X:Cx}:aA D5 X E0:=fun _ _ _ _ _ _ _ h=>h.elim
structure Fun (K:PySem.W.Frag) (x qual:Str) (st:Stmt) (f:Addr) (fd:FuncData):Prop where
 ex:∃(oc:Value) (od:Option Addr) (kV doc pm:Value) (an:Option Addr) (cdv ct:Value) (osl:Array (Option Value)),
  fd=PySem.W.fnOf x qual (D9 st) (C1 st) (d8 st) .none kV doc pm an cdv ct∧K.lookup f=some ⟨oc,od,.func fd,osl⟩∧PySem.W.codeIn K cdv qual=true
 kp:PySem.W.keepIn K (.ref f)=true
section
variable {P:Program} {w:World} {K:PySem.W.Frag} {mg:Str→Option Value} {base:Heap}
theorem Fun.ok {x qual:Str}{st:Stmt}{f:Addr}{fd:FuncData}{N ps:List Str}{k:Nat}{sp:Sp}(F:Fun K x qual st f fd)(S:i6 N ps (d8 st))(len:∀vs H Q E,sp vs H Q E→vs.length=ps.length)
  (hbody:∀(cdv:Value) (A:Around) (outer:List Env) (s:Shared) (H:Hp) (vs:List V) (Q:VK) (E:XK),Room k (A.deeper (envOfC qual (d8 st) s.heap.objs.size f cdv))→sp vs H Q E→
   ∃t,PSs (jd D5 P w K mg base N qual (d8 st) f cdv A outer s H E).nox (C1 st) t∧t {nx:=fun _ H'=>Q .non H',rt:=Q} (ae N vs) H):A6 P w K mg base D5 (k+1) f fd ps sp:=by
 obtain⟨oc,od,kV,doc,pm,an,cdv,ct,osl,rfl,lk,hcd⟩:=F.ex
 refine uj lk hcd S len fun A outer s H vs Q E hr hsp=>?_
 obtain⟨t,h,q⟩:=hbody cdv A outer s H vs Q E hr hsp
 exact⟨t,h.nox,q⟩
theorem Fun.binds {x qual:Str}{st:Stmt}{f:Addr}{fd:FuncData}{ps:List Str}(F:Fun K x qual st f fd)
  (h:∀(kV doc pm:Value) (an:Option Addr) (cdv ct:Value) (us:List Value),us.length=ps.length→bindArgs (PySem.W.fnOf x qual (D9 st) (C1 st) (d8 st) .none kV doc pm an cdv ct) ⟨us,[]⟩=pure (ps.zip us)):Binds K fd ps []:=by
 obtain⟨oc,od,kV,doc,pm,an,cdv,ct,osl,rfl,lk,hcd⟩:=F.ex
 exact .all (h kV doc pm an cdv ct)
theorem vL {x qual:Str}{st:Stmt}{f:Addr}{oc:Value}{od an:Option Addr}{osl:Array (Option Value)}{kV doc pm cdv ct:Value}(l:K.lookup f=some ⟨oc,od,.func (PySem.W.fnOf x qual (D9 st) (C1 st) (d8 st) .none kV doc pm an cdv ct),osl⟩)
  (c:PySem.W.codeIn K cdv qual=true) (k:PySem.W.keepIn K (.ref f)=true):Fun K x qual st f (PySem.W.fnOf x qual (D9 st) (C1 st) (d8 st) .none kV doc pm an cdv ct):=⟨⟨oc,od,kV,doc,pm,an,cdv,ct,osl,rfl,l,c⟩,k⟩
end
theorem dv {n:Nat}(h:n≤1000):n<sizeLine:=Nat.lt_of_le_of_lt h (by decide)
section
variable {X:Cx}
end
theorem AB {A B:Prop}(h:B):if false=true then A else B:=by
 rw[if_neg Bool.false_ne_true]
 exact h
theorem Ah {A B:Prop}(h:A):if true=true then A else B:=by
 rw[if_pos rfl]
 exact h
def Same (H H':Hp):Prop:=∀b o,H b=some o→H' b=some o
theorem Same.refl (H:Hp):Same H H:=fun _ _ h=>h
theorem Same.trans {H H1 H2:Hp}(a:Same H H1)(b:Same H1 H2):Same H H2:=fun c o h=>b c o (a c o h)
theorem Same.free {H H':Hp}(e:Same H H'){l:Addr}(h:H' l=Option.none):H l=Option.none:=by
 cases q:H l with
 |none=>rfl
 |some o=>
  rw[e l o q] at h
  cases h
theorem Same.seq {K:PySem.W.Frag}{H H':Hp}{a:Addr}{xs:List V}(e:Same H H')(h:SqL K H a xs):SqL K H' a xs:=by
 rcases h with(h|⟨o,h⟩)|h
 ·exact .inl (.inl (e _ _ h))
 ·exact .inl (.inr ⟨o,e _ _ h⟩)
 ·exact .inr h
section
variable {κ:Type} [DecidableEq κ]
theorem kS {kvs:List (κ×V)}{k:κ}{v:V}(h:i9 kvs k=some v):k∈kvs.map (·.1):=by
 have q:(kvs.any fun kv=>decide (kv.1=k))=true:=by
  rw[J3,h]
  all_goals rfl
 obtain⟨p,hp,e⟩:=List.any_eq_true.mp q
 exact List.mem_map.mpr ⟨p,hp,of_decide_eq_true e⟩
theorem bG:∀{l:List κ} {k:κ},l.Nodup→¬k∈l→(l++[k]).Nodup
 |[],k,_,_=>by simp
 |a::r,k,h,hk=>by
  obtain⟨h1,h2⟩:=List.nodup_cons.mp h
  show(a::(r++[k])).Nodup
  refine List.nodup_cons.mpr ⟨fun m=>?_,bG h2 fun m=>hk (List.mem_cons.mpr (Or.inr m))⟩
  rcases List.mem_append.mp m with q|q
  ·exact h1 q
  ·exact hk (List.mem_cons.mpr (Or.inl (List.mem_singleton.mp q).symm))
theorem lY {p:κ×V}{r:List (κ×V)}{k:κ}(e:p.1=k):Q0 (p::r) k=Q0 r k:=by
 unfold Q0
 rw[List.filter_cons,if_neg (by simp [e])]
theorem mJ {p:κ×V}{r:List (κ×V)}{k:κ}(e:¬p.1=k):Q0 (p::r) k=p::Q0 r k:=by
 unfold Q0
 rw[List.filter_cons,if_pos (by simp [e])]
end
end L2
set_option Elab.async false
set_option linter.all false
set_option maxRecDepth 100000
set_option maxHeartbeats 4000000
namespace L2
open PySem PySem.Spec PyProof.Rows
def bj (scope:Scope)(env:Env):List (Str×Addr):=(scope.names.filter fun x=>x.2== .free).reverse.map fun x=>(x.1,(env.cells.lookup x.1).getD 0)
theorem Q6 {env:Env}:∀(l:List (Str×NameKind)) (cs:List (Str×Addr)),(∀x∈l,x.2= .free→∃c,env.cells.lookup x.1=some c)→
  (forIn l cs fun(x:Str×NameKind) (r:List (Str×Addr))=>if(x.2==NameKind.free)=true then(do let a←cellOf env x.1;pure (ForInStep.yield ((x.1,a)::r))) else(pure (ForInStep.yield r):Sem (ForInStep (List (Str×Addr)))))=
   pure (((l.filter fun x=>x.2== .free).reverse.map fun x=>(x.1,(env.cells.lookup x.1).getD 0))++cs)
 |[],cs,_=>rfl
 |(n,k)::l,cs,h=>by
  rw[List.forIn_cons]
  by_cases hk:k= .free
  ·subst hk
   obtain⟨c,hc⟩:=h (n,.free) List.mem_cons_self rfl
   simp only[beq_self_eq_true,if_true]
   have hc':env.cells.lookup n=some c:=hc
   have e0:cellOf env n=pure c:=by unfold cellOf;rw[hc']
   simp only[e0,pure_bind]
   rw[Q6 l _ fun x hx=>h x (List.mem_cons_of_mem _ hx)]
   rw[List.filter_cons,if_pos (by rfl),List.reverse_cons,List.map_append,List.append_assoc]
   simp only[List.map_cons,List.map_nil,hc',Option.getD_some,List.cons_append,List.nil_append]
  ·have hb:(k==NameKind.free)=false:=by simpa using hk
   simp only[hb,Bool.false_eq_true,if_false,pure_bind]
   rw[Q6 l cs fun x hx=>h x (List.mem_cons_of_mem _ hx)]
   rw[List.filter_cons,if_neg (by simp [hb])]
theorem bT {scope:Scope}{env:Env}(h:∀x∈scope.names,x.2= .free→∃c,env.cells.lookup x.1=some c):closureFor scope env=pure (bj scope env):=by
 have e:=Q6 (env:=env) scope.names [] h
 rw[List.append_nil] at e
 unfold closureFor bj
 simp only[]
 refine Eq.trans ?_ (congrArg (fun m=>m>>=fun r=>(pure r:Sem (List (Str×Addr)))) e)
 rfl
theorem G4 {env:Env}{x:Str}:∀(l:List (Str×NameKind)),(∀y∈l,∃c,env.cells.lookup y.1=some c)→(x∈l.map (·.1)→(l.map fun y=>(y.1,(env.cells.lookup y.1).getD 0)).lookup x=env.cells.lookup x)∧(x∉l.map (·.1)→(l.map fun y=>(y.1,(env.cells.lookup y.1).getD 0)).lookup x=none)
 |[],_=>⟨fun h=>by simp at h,fun _=>rfl⟩
 |(n,k)::l,h=>by
  have ih:=G4 (x:=x) l fun y hy=>h y (List.mem_cons_of_mem _ hy)
  obtain⟨c,hc⟩:=h (n,k) List.mem_cons_self
  have hc':env.cells.lookup n=some c:=hc
  by_cases e:x=n
  ·subst e
   refine⟨fun _=>?_,fun z=>absurd (by simp) z⟩
   simp [List.lookup_cons,hc']
  ·have eb:(x==n)=false:=by simpa using e
   refine⟨fun hm=>?_,fun hm=>?_⟩
   ·simp only[List.map_cons,List.lookup_cons,eb]
    exact ih.1 (by simpa [e] using hm)
   ·simp only[List.map_cons,List.lookup_cons,eb]
    exact ih.2 (fun z=>hm (by simp [z]))
theorem I0 {scope:Scope}{env:Env}(h:∀x∈scope.names,x.2= .free→∃c,env.cells.lookup x.1=some c){x:Str}{c:Addr}(e:(bj scope env).lookup x=some c):env.cells.lookup x=some c:=by
 have hl:∀y∈(scope.names.filter fun x=>x.2== .free).reverse,∃c,env.cells.lookup y.1=some c:=fun y hy=>by
  obtain⟨h1,h2⟩:=List.mem_filter.mp (List.mem_reverse.mp hy)
  exact h y h1 (by simpa using h2)
 have a:=G4 (x:=x) _ hl
 by_cases hm:x∈(scope.names.filter fun x=>x.2== .free).reverse.map (·.1)
 ·rw[←a.1 hm];exact e
 ·have z:=a.2 hm
  unfold bj at e
  rw[z] at e;cases e
theorem iz {scope:Scope}{env:Env}(h:∀x∈scope.names,x.2= .free→∃c,env.cells.lookup x.1=some c){x:Str}(hx:(x,NameKind.free)∈scope.names):(bj scope env).lookup x=env.cells.lookup x:=by
 have hl:∀y∈(scope.names.filter fun x=>x.2== .free).reverse,∃c,env.cells.lookup y.1=some c:=fun y hy=>by
  obtain⟨h1,h2⟩:=List.mem_filter.mp (List.mem_reverse.mp hy)
  exact h y h1 (by simpa using h2)
 exact(G4 (x:=x) _ hl).1 (List.mem_map.mpr ⟨(x,.free),List.mem_reverse.mpr (List.mem_filter.mpr ⟨hx,rfl⟩),rfl⟩)
theorem eV {scope:Scope}{env:Env}(hc:∀y∈scope.names,y.2≠ .cell){x:Str}(h:(relabel scope env).names.lookup x=some .cell∨(relabel scope env).names.lookup x=some .free):(x,NameKind.free)∈scope.names:=by
 have key:∀(l:List (Str×NameKind)),(∀y∈l,y.2≠ .cell)→∀k,(k=NameKind.cell∨k=NameKind.free)→(l.map fun(n,k)=>if(k==NameKind.free&&env.scope.kind== .function&&env.kindOf n==some .cell) then(n,NameKind.cell) else(n,k)).lookup x=some k→(x,NameKind.free)∈l:=by
  intro l
  induction l with
  |nil=>intro _ k _ e;simp at e
  |cons y r ih=>
   obtain⟨n,k0⟩:=y
   intro hl k hk e
   have ih':=ih (fun y hy=>hl y (List.mem_cons_of_mem _ hy)) k hk
   rw[List.map_cons] at e
   have hk0:k0≠ .cell:=hl (n,k0) List.mem_cons_self
   dsimp only at e
   by_cases hcnd:(k0==NameKind.free&&env.scope.kind== .function&&env.kindOf n==some .cell)=true
   ·rw[if_pos hcnd] at e
    cases hx:x==n with
    |true=>
     have:x=n:=by simpa using hx
     subst this
     have:k0= .free:=by
      simp only[Bool.and_eq_true,beq_iff_eq] at hcnd
      exact hcnd.1.1
     subst this
     exact List.mem_cons_self
    |false=>
     simp only[List.lookup_cons,hx] at e
     exact List.mem_cons_of_mem _ (ih' e)
   ·rw[if_neg hcnd] at e
    cases hx:x==n with
    |true=>
     have:x=n:=by simpa using hx
     subst this
     simp only[List.lookup_cons,hx] at e
     have e':k0=k:=Option.some.inj e
     subst e'
     rcases hk with z|z
     ·exact absurd z hk0
     ·subst z;exact List.mem_cons_self
    |false=>
     simp only[List.lookup_cons,hx] at e
     exact List.mem_cons_of_mem _ (ih' e)
 rcases h with h|h
 ·exact key _ hc _ (.inl rfl) h
 ·exact key _ hc _ (.inr rfl) h
def V1 (X:Cx)(own:List Str)(js:List Nat)(scope:Scope)(C:Addr)(s:Shared)(H:Hp)(fp:List Addr):Cx:=
 {X with N:=own++js.map (fun j=>X.N.getD j Str.empty),s₀:=s,H₀:=H,env:=compEnvC scope (bj scope X.env) C X.env,outer:=X.stack,stack:=X.stack,ex:=fp,fn:=fun _=>false,pn:=[],xe:=fun _ _=>False}
def qo (own:List Str)(js:List Nat)(σ:St):St:=own.map (fun _=>none)++js.map (fun j=>(σ[j]?).join)
def xR (X:Cx)(own:List Str)(js:List Nat)(scope:Scope):Bool:=
 (scope.kind== .function)&&(scope.names.all fun x=>x.2 != .cell)&&(scope.names.all fun x=>x.2 != .local||scope.names.lookup x.1==some .local)&&
 (scope.names.all fun x=>x.2 != .free||(X.env.kindOf x.1==some .cell||X.env.kindOf x.1==some .free))&&
 (js.all fun j=>decide (j<X.N.length)&&scope.names.any (fun y=>y.1==X.N.getD j Str.empty&&y.2== .free))&&
 (scope.names.all fun x=>x.2 != .free||scope.names.lookup x.1 !=some .local)
theorem kU {own:List Str}{js:List Nat}{σ:St}{X:Cx}{scope:Scope}{C:Addr}{s:Shared}{H:Hp}{fp:List Addr}:(qo own js σ).length=(V1 X own js scope C s H fp).N.length:=by
 show(qo own js σ).length=(own++js.map (fun j=>X.N.getD j Str.empty)).length
 unfold qo;simp
section
variable {X:Cx} {pins:List (Addr×Obj)} {σ:St} {H:Hp} {s:Shared} {own:List Str} {js:List Nat} {scope:Scope} {fp:List Addr} {C D:Addr} {h1:Heap}
structure ScB (X:Cx) (own:List Str) (js:List Nat) (scope:Scope):Prop where
 kind:scope.kind= .function
 nocell:∀y∈scope.names,y.2≠ .cell
 names:∀x∈scope.names,x.2= .local→scope.names.lookup x.1=some .local
 free:∀x∈scope.names,x.2= .free→X.env.kindOf x.1=some .cell∨X.env.kindOf x.1=some .free
 js:∀j∈js,j<X.N.length∧(X.N.getD j Str.empty,NameKind.free)∈scope.names
 one:∀x,(x,NameKind.free)∈scope.names→scope.names.lookup x≠some .local
theorem qU (h:xR X own js scope=true):ScB X own js scope:=by
 unfold xR at h
 simp only[Bool.and_eq_true,List.all_eq_true,Bool.or_eq_true,bne_iff_ne,beq_iff_eq,decide_eq_true_eq,List.any_eq_true] at h
 obtain⟨⟨⟨⟨⟨h1,h2⟩,h3⟩,h4⟩,h5⟩,h6⟩:=h
 refine⟨h1,h2,fun x hx e=>?_,fun x hx e=>?_,fun j hj=>?_,fun x hx=>?_⟩
 ·rcases h3 x hx with z|z
  ·exact absurd e z
  ·exact z
 ·rcases h4 x hx with z|z
  ·exact absurd e z
  ·exact z
 ·obtain⟨a,y,hy,e1,e2⟩:=h5 j hj
  refine⟨a,?_⟩
  obtain⟨n,k⟩:=y
  simp only at e1 e2
  rw[←e1,←e2];exact hy
 ·rcases h6 _ hx with z|z
  ·exact absurd rfl z
  ·exact z
theorem ScB.cells (S:ScB X own js scope)(I:Inv X pins σ H s):∀x∈scope.names,x.2= .free→∃c,X.env.cells.lookup x.1=some c:=fun x hx e=>I.ok.has x.1 (S.free x hx e)
theorem Inv.block (S:ScB X own js scope)(I:Inv X pins σ H s)(hf:∀b∈fp,ak X pins H b)(hob:∀b∈fp,∃o,s.heap.get? b=some o)(hC:s.heap.objs.size≤C){m:Str→Option Value}{t':Nat}(hn:h1.Ns C m)(k:∀b u,s.heap.get? b=some u→h1.get? b=some u):
  Inv (V1 X own js scope C s H fp) (X.pn++pins) (qo own js σ) H {s with heap:=h1,toks:=t'}:=by
 have hcl:=S.cells I
 have below:∀b o,s.heap.get? b=some o→b≠C:=fun b o e=>Nat.ne_of_lt (Nat.lt_of_lt_of_le (Heap.lt_size e) hC)
 have stk:∀b,b≠X.env.locals→b∉X.fs→b∉iC X.stack:=fun b h1 h2 z=>by
  rcases List.mem_cons.mp (I.stkSub b z) with e|e
  ·exact h1 e
  ·exact h2 e
 have noex:∀b o,X.base.get? b=some o→b∉fp:=fun b o e z=>by
  rcases(hf b z).2.2.2.1 with q|q
  ·exact I.ok.noex b o e q
  ·exact absurd (Nat.lt_of_lt_of_le (Heap.lt_size e) (Nat.le_trans I.ok.bsz q)) (Nat.lt_irrefl _)
 refine⟨⟨I.ok.mod,S.kind,I.ok.glob,I.ok.blt,hC,fun x y c e1 e2=>?_,fun x hx=>?_,fun x c z _=>(Bool.false_ne_true z).elim,I.ok.hd,I.ok.frames,.inl rfl,fun b hb=>⟨?_,fun x c e=>?_⟩,I.bs,Nat.le_trans I.ok.bsz I.sz,noex,fun b hb=>?_,I.stack,I.stkFree⟩,
  rfl,I.bare,Un.kept k,⟨m,hn,fun i x v e1 e2 e3=>?_⟩,fun x c e=>?_,?_,fun x c e=>?_,fun p hp=>?_,I.hok.kept k,kU⟩
 ·exact I.ok.inj x y c (I0 hcl e1) (I0 hcl e2)
 ·have hm:=eV S.nocell (x:=x) (env:=X.env) hx
  obtain⟨c,e⟩:=hcl (x,.free) hm rfl
  exact⟨c,(iz hcl hm).trans e⟩
 ·obtain⟨o,e⟩:=hob b hb;exact below b o e
 ·exact(hf b hb).2.2.2.2.1 x c (I0 hcl e)
 ·exact stk b (hf b hb).2.1 (hf b hb).2.2.1
 ·have e1':(own++js.map (fun j=>X.N.getD j Str.empty))[i]?=some x:=e1
  unfold qo at e2
  by_cases hi:i<own.length
  ·rw[List.getElem?_append_left (by simpa using hi),List.getElem?_map] at e2
   rw[List.getElem?_eq_getElem hi] at e2
   simp at e2
  ·rw[List.getElem?_append_right (by simpa using hi),List.getElem?_map] at e2
   rw[List.getElem?_append_right (by simpa using hi),List.getElem?_map] at e1'
   have el:(own.map fun _=>(none:Option V)).length=own.length:=by simp
   rw[el] at e2
   cases hj:js[i -own.length]? with
   |none=>rw[hj] at e1';simp at e1'
   |some j=>
    rw[hj] at e1' e2
    simp only[Option.map_some,Option.some.injEq] at e1' e2
    have hjm:j∈js:=List.mem_of_getElem? hj
    obtain⟨hlt,hmem⟩:=S.js j hjm
    have hNj:X.N[j]?=some x:=by
     rw[←e1',List.getD_eq_getElem?_getD,List.getElem?_eq_getElem hlt];simp
    have hσ:σ[j]?=some (some v):=by
     cases q:σ[j]? with
     |none=>rw[q] at e2;simp at e2
     |some w=>rw[q] at e2;simp at e2;rw[e2]
    rw[e1'] at hmem
    obtain⟨m0,hn0,hl0⟩:=I.loc
    have hkx:X.env.kindOf x=some .cell∨X.env.kindOf x=some .free:=S.free (x,.free) hmem rfl
    obtain⟨u,r,l⟩:=hl0 j x v hNj hσ (by rcases hkx with z|z;exact .inr (.inl z);exact .inr (.inr z))
    refine⟨u,r,?_⟩
    rcases l with⟨z,_⟩|⟨_,c,hc,hcell⟩
    ·rcases hkx with q|q
     ·rw[q] at z;cases z
     ·rw[q] at z;cases z
    ·have hc':(bj scope X.env).lookup x=some c:=(iz hcl hmem).trans hc
     obtain⟨oc,hoc,hocd⟩:=hcell
     refine .inr ⟨?_,c,hc',⟨oc,k _ _ hoc,hocd⟩⟩
     rcases e3 with z|z|z
     ·exfalso
      have hmm:(relabel scope X.env).names.lookup x=some .local:=z
      exact absurd hmm (by
       intro hh
       have key:∀l:List (Str×NameKind),(∀y∈l,y.2= .local→scope.names.lookup y.1=some .local)→(l.map fun(n,k)=>if(k==NameKind.free&&X.env.scope.kind== .function&&X.env.kindOf n==some .cell) then(n,NameKind.cell) else(n,k)).lookup x=some .local→scope.names.lookup x=some .local:=by
        intro l
        induction l with
        |nil=>intro _ e;simp at e
        |cons y r ih=>
         obtain⟨n,k0⟩:=y
         intro hl e
         rw[List.map_cons] at e
         dsimp only at e
         by_cases hcnd:(k0==NameKind.free&&X.env.scope.kind== .function&&X.env.kindOf n==some .cell)=true
         ·rw[if_pos hcnd] at e
          cases hx:x==n with
          |true=>simp only[List.lookup_cons,hx] at e;cases e
          |false=>simp only[List.lookup_cons,hx] at e;exact ih (fun y hy=>hl y (List.mem_cons_of_mem _ hy)) e
         ·rw[if_neg hcnd] at e
          cases hx:x==n with
          |true=>
           simp only[List.lookup_cons,hx] at e
           have e':k0= .local:=Option.some.inj e
           have:x=n:=by simpa using hx
           subst this
           exact hl (x,k0) List.mem_cons_self e'
          |false=>simp only[List.lookup_cons,hx] at e;exact ih (fun y hy=>hl y (List.mem_cons_of_mem _ hy)) e
       have a:=key scope.names S.names hh
       exact S.one x hmem a)
     ·exact .inl z
     ·exact .inr z
 ·obtain⟨v,o,ho,hd⟩:=I.cell x c (I0 hcl e)
  exact⟨v,o,k _ _ ho,hd⟩
 ·exact I.hok.fresh hC
 ·exact I.freeC x c (I0 hcl e)
 ·obtain⟨e,n,ne,nf,d⟩:=I.pin p hp
  exact⟨k _ _ e,n,below _ _ e,stk _ ne nf,d⟩
end
end L2
set_option Elab.async false
set_option linter.all false
set_option maxRecDepth 100000
set_option maxHeartbeats 4000000
namespace L2
open PySem PySem.Spec PyProof.Rows
theorem HOk.track {P:Program}{w:World}{H:Hp}{h h':Heap}{a C:Addr}{o:HO}(x:HOk P w H h)(hC:H C=none)(k:∀b,b≠C→h'.get? b=h.get? b)(hn:H a=none)(new:ObjOk P w (i7 H a o) h' a o):HOk P w (i7 H a o) h':=fun b u e=>by
 by_cases hb:b=a
 ·subst hb;rw[c9] at e;cases e;exact new
 ·rw[b0 hb] at e
  refine(x b u e).stay (fun c v hc q=>?_) (fun c q=>by rw[b0 (d0 q hn)];exact q) fun c xs q=>by rw[b0 (d0 q hn)];exact q
  have hcC:c≠C:=by
   rcases hc with z|z
   ·subst z;exact d0 e hC
   ·exact d0 z hC
  rw[k c hcC];exact q
abbrev oN (ifs:List Expr)(env:Env):Sem Bool:=forIn ifs true fun c r=>if r=true then do let ok←isTrue c env (eval c env);pure (ForInStep.yield ok) else pure (ForInStep.yield r)
def jt (X:Cx)(ifs:List Expr)(t:TT):Prop:=
 ∀(pins:List (Addr×Obj)) (s:Shared) (σ:St) (H:Hp) (Q:Bool→Hp→Prop),Inv X pins σ H s→t σ H Q→wpAny (model X.prog X.w) X.A (oN ifs X.env) (TP X pins σ Q) X.xe s
theorem AE {X:Cx}:jt X [] (fun _ H Q=>Q true H):=fun pins s σ H Q I h=>wpAny_tests_nil ⟨H,I,h⟩
theorem Ay {X:Cx}{c:Expr}{t:TT}(h:PT X c t):jt X [c] t:=fun pins s σ H Q I hq=>wpAny_tests_one (h pins s σ H Q I hq)
section
variable {X:Cx} {pins:List (Addr×Obj)} {σ:St} {H:Hp} {s:Shared} {own:List Str} {js:List Nat} {scope:Scope}
variable {tg iter elt:Expr} {ifs:List Expr} {pos:Pos} {g:TG} {ti:TT} {te:TE}
structure BlockEnd (X:Cx) (pins:List (Addr×Obj)) (own:List Str) (js:List Nat) (scope:Scope) (σ:St) (H:Hp) (s:Shared) (fp:List Addr) (C D:Addr) (out:List V) (H':Hp) (s':Shared):Prop where
 inv:Inv (V1 X own js scope C s H fp) (X.pn++pins) (qo own js σ) H' s'
 free:H' D=none
 obj:∃(its:List Value) (n:Nat),Vals out its∧s'.heap.get? D=some {cls:= .type "list",data:= .seq its.toArray n}
theorem BlockEnd.out {fp:List Addr}{C D:Addr}{out:List V}{H':Hp}{s':Shared}{h':Heap}(e:BlockEnd X pins own js scope σ H s fp C D out H' s')(I:Inv X pins σ H s)(hf:∀b∈fp,ak X pins H b)(hD:s.heap.objs.size≤D)(hC:s.heap.objs.size≤C)(hDC:D≠C)
  (hl:out.length≤sizeLine) (sb:Heap.SameBut C s'.heap h'):Inv X pins σ (i7 H' D (.lst out)) {s' with heap:=h'}:=by
 obtain⟨its,n,rv,ob⟩:=e.obj
 have J:=e.inv
 have U:Un (iC X.stack) fp H H' s.heap s'.heap:=J.base
 have same:∀b,b≠C→h'.get? b=s'.heap.get? b:=fun b hb=>sb.2 b hb
 have old:∀b o,s.heap.get? b=some o→b≠C∧b≠D:=fun b o q=>⟨Nat.ne_of_lt (Nat.lt_of_lt_of_le (Heap.lt_size q) hC),Nat.ne_of_lt (Nat.lt_of_lt_of_le (Heap.lt_size q) hD)⟩
 have hHC:H' C=none:=J.free
 refine I.call' (s':={s' with heap:=h'}) (ch:=fp) J.os ?_ ?_ J.bare fun b hb=>?_
 ·refine⟨fun b o q n hb hx=>?_,fun b o q n hb hx=>?_,fun b o q n hx=>?_,fun b o q hx=>?_,fun b xs q=>?_,fun b o u q=>?_,fun b ps q=>?_⟩
  ·show h'.get? b=_
   rw[same b (old b o q).1];exact U.keep b o q n hb hx
  ·show ∃sl,h'.get? b=_
   rw[same b (old b o q).1];exact U.slot b o q n hb hx
  ·rw[b0 (old b o q).2];exact U.free b o q n hx
  ·show ∃o',h'.get? b=_
   rw[same b (old b o q).1];exact U.there b o q hx
  ·rw[b0 (d0 (U.tups b xs q) e.free)];exact U.tups b xs q
  ·rw[b0 (d0 (U.frzs b o u q) e.free)];exact U.frzs b o u q
  ·obtain⟨mo,z⟩:=U.tbls b ps q
   exact⟨mo,by rw[b0 (d0 z e.free)];exact z⟩
 ·refine HOk.track J.hok hHC same e.free ?_
  exact⟨hl,its,n,rv,by rw[same D hDC];exact ob⟩
 ·exact⟨(hf b hb).2.2.2.1,(hf b hb).2.1,(hf b hb).2.2.2.2.1,(hf b hb).2.2.2.2.2⟩
theorem dU (S:ScB X own js scope)(hc:X.calm=true){fp:List Addr}{it C D:Addr}{tn:Nat→Heap→Prop}{J:It}(T:ax X.prog X.w X.K tg J fp it tn)(I:Inv X pins σ H s)(hf:∀b∈fp,ak X pins H b)
  (hD:s.heap.objs.size≤D) (hC:s.heap.objs.size≤C) (hDC:D≠C) (hob:∀b∈fp,∃o,s.heap.get? b=some o)
  (hg:PG (V1 X own js scope C s H fp) tg g) (hi:jt (V1 X own js scope C s H fp) ifs ti) (he:PE (V1 X own js scope C s H fp) elt te)
  (W:Nat→Nat→List V→Hp→Prop) {K:List V→Hp→Prop}
  (turn:∀i m out H,W i m out H→(J.stop i H∧(H D=none→out.length≤sizeLine∧K out H))∨
   (J.go i H∧∀x H',J.yld i H x H'→g x (qo own js σ) H' fun σ2 H2=>σ2.drop own.length=js.map (fun j=>(σ[j]?).join)∧ti σ2 H2 fun b H3=>
    if b=true then te σ2 H3 fun v H4=>out.length≤sizeLine∧∃m',m'<m∧W (i+1) m' (out++[v]) H4 else ∃m',m'<m∧W (i+1) m' out H3))
  {R:Result→Shared→Prop} (hR:∀out H' s',BlockEnd X pins own js scope σ H s fp C D out H' s'→out.length≤sizeLine→K out H'→R (.ok .next) s')
  {m0:Nat} {H1:Hp} {s1:Shared} (w0:W 0 m0 [] H1) (B:BlockEnd X pins own js scope σ H s fp C D [] H1 s1) (st:tn 0 s1.heap) (fr:∀b∈fp,H1 b=none):
  codeAny (model X.prog X.w) X.A (.compLoop (.ListComp elt [⟨tg,iter,ifs,0⟩] scope pos) 0 (.ref it) (.ref D) (compEnvC scope (bj scope X.env) C X.env)) R s1:=by
 have stat:∀{H':Hp},(∀b∈fp,H' b=none)→∀b∈fp,ak (V1 X own js scope C s H fp) (X.pn++pins) H' b:=fun hn b hb=>by
  obtain⟨o,ho⟩:=hob b hb
  refine⟨hn b hb,Nat.ne_of_lt (Nat.lt_of_lt_of_le (Heap.lt_size ho) hC),?_,.inl hb,fun x c e=>(hf b hb).2.2.2.2.1 x c (I0 (S.cells I) e),fun p hp=>(hf b hb).2.2.2.2.2 p hp⟩
  intro z
  rcases List.mem_cons.mp (I.stkSub b z) with e|e
  ·exact(hf b hb).2.1 e
  ·exact(hf b hb).2.2.1 e
 have Dfp:D∉fp:=fun z=>by
  obtain⟨o,ho⟩:=hob D z
  exact absurd (Nat.lt_of_lt_of_le (Heap.lt_size ho) hD) (Nat.lt_irrefl _)
 have Dcell:∀x c,(V1 X own js scope C s H fp).env.cells.lookup x=some c→c≠D:=fun x c e z=>by
  obtain⟨v,o,ho,_⟩:=I.cell x c (I0 (S.cells I) e)
  rw[z] at ho
  exact absurd (Nat.lt_of_lt_of_le (Heap.lt_size ho) hD) (Nat.lt_irrefl _)
 have Dpin:∀p∈X.pn++pins,p.1≠D:=fun p hp z=>by
  have ho:=(I.pin p hp).1
  rw[z] at ho
  exact absurd (Nat.lt_of_lt_of_le (Heap.lt_size ho) hD) (Nat.lt_irrefl _)
 have Dfs:D∉(V1 X own js scope C s H fp).fs:=fun z=>by
  obtain⟨_,o,ho,_⟩:=I.stack.mem z
  exact absurd (Nat.lt_of_lt_of_le (Heap.lt_size ho) hD) (Nat.lt_irrefl _)
 refine codeAny_loop rfl (fun n s'=>∃i out H',BlockEnd X pins own js scope σ H s fp C D out H' s'∧tn i s'.heap∧(∀b∈fp,H' b=none)∧W i n out H') (fun n s3 hI=>?_) m0 ⟨0,[],H1,B,st,fr,w0⟩
 obtain⟨i,out,H3,B3,st3,fr3,w3⟩:=hI
 obtain⟨its,nD,rv,obD⟩:=B3.obj
 have pinD:∀{σ':St} {H':Hp} {s':Shared},Inv (V1 X own js scope C s H fp) (X.pn++pins) σ' H' s'→H' D=none→s'.heap.get? D=some {cls:= .type "list",data:= .seq its.toArray nD}→
   Inv (V1 X own js scope C s H fp) (X.pn++pins++[(D,{cls:= .type "list",data:= .seq its.toArray nD})]) σ' H' s':=fun{σ' H' s'} I' n' e'=>I'.pins_of fun p hp=>by
  rcases List.mem_append.mp hp with z|z
  ·exact I'.pin p (by show p∈([]:List (Addr×Obj))++_;exact List.mem_append_right _ z)
  ·have z':p=(D,{cls:= .type "list",data:= .seq its.toArray nD}):=by simpa using z
   subst z'
   exact⟨e',n',hDC,Dfs,fun v q=>by cases q⟩
 have stat':∀{H':Hp},(∀b∈fp,H' b=none)→∀b∈fp,ak (V1 X own js scope C s H fp) (X.pn++pins++[(D,{cls:= .type "list",data:= .seq its.toArray nD})]) H' b:=fun hn b hb=>by
  obtain⟨a1,a2,a3,a4,a5,a6⟩:=stat hn b hb
  refine⟨a1,a2,a3,a4,a5,fun p hp=>?_⟩
  have hp':p∈X.pn++pins++[(D,{cls:= .type "list",data:= .seq its.toArray nD})]:=hp
  rcases List.mem_append.mp hp' with z|z
  ·exact a6 p (by show p∈([]:List (Addr×Obj))++_;exact z)
  ·have z':p=(D,{cls:= .type "list",data:= .seq its.toArray nD}):=by simpa using z
   subst z'
   rintro rfl
   exact Dfp hb
 have thx:∀{α:Type} {t:Sem α} {Q Q':α→Shared→Prop} {E:Value→Shared→Prop} {s:Shared},wpAny (model X.prog X.w) X.A t Q (fun _ _=>False) s→(∀a s,Q a s→Q' a s)→wpAny (model X.prog X.w) X.A t Q' E s:=
  fun h hQ=>wpAny_mono h hQ fun _ _ x=>x.elim
 have unD:∀{pl:List (Addr×Obj)} {σ':St} {H':Hp} {s':Shared},Inv (V1 X own js scope C s H fp) (X.pn++pins++[(D,{cls:= .type "list",data:= .seq its.toArray nD})]++pl) σ' H' s'→Inv (V1 X own js scope C s H fp) (X.pn++pins) σ' H' s'∧H' D=none∧s'.heap.get? D=some {cls:= .type "list",data:= .seq its.toArray nD}:=fun{pl σ' H' s'} I'=>by
  have q:=I'.pin (D,{cls:= .type "list",data:= .seq its.toArray nD}) (List.mem_append_right _ (List.mem_append_left _ (List.mem_append_right _ (by simp))))
  exact⟨I'.unpinned.unpinned,q.2.1,q.1⟩
 show wpAny _ X.A ((compTurn (.ListComp elt [⟨tg,iter,ifs,0⟩] scope pos) 0 (.ref it) (.ref D) (compEnvC scope (bj scope X.env) C X.env)).onRaise (fun x=>do noteFrame x (compEnvC scope (bj scope X.env) C X.env);theTreesLotGoes x)) _ _ s3
 refine wpAny_noted ?_
 rw[compTurn_list]
 refine wpAny_bind (wpAny_standAt (wpAny_bind ?_))
 rcases turn i n out H3 w3 with⟨stop,fin⟩|⟨go,step⟩
 ·refine B5 (T.done (V1 X own js scope C s H fp) rfl rfl rfl hc i _ s3 _ H3 _ (pinD B3.inv B3.free obD) (stat' fr3) st3 stop) fun r s4 ⟨hr,I4⟩=>?_
  subst hr
  obtain⟨J4,n4,o4⟩:=unD (pl:=[]) (by rw[List.append_nil];exact I4)
  obtain⟨hl,k⟩:=fin B3.free
  exact wpAny_pure (hR out H3 s4 ⟨J4,n4,its,nD,rv,o4⟩ hl k)
 ·refine B5 (T.item (V1 X own js scope C s H fp) rfl rfl rfl hc i _ s3 _ H3 _ (pinD B3.inv B3.free obD) (stat' fr3) st3 go) fun r s4 ⟨u,hr,h4⟩=>?_
  subst hr
  refine wpAny_bind (B5 h4 fun _ s5 ⟨x,H5,I5,r5,y5,st5,fr5⟩=>?_)
  have I5':=I5.pinned (stat' fr5) (T.obj _ _ st5)
  refine wpAny_bind (thx (hg _ s5 _ H5 x u _ I5' r5 (step x H5 y5)) fun _ s6 ⟨σ6,H6,I6,q6⟩=>?_)
  obtain⟨ed,q6⟩:=q6
  refine wpAny_bind (thx (hi _ s6 σ6 H6 _ I6 q6) fun ok s7 ⟨H7,I7,q7⟩=>?_)
  have stay:∀{H':Hp} {s':Shared},Inv (V1 X own js scope C s H fp) (X.pn++pins++[(D,{cls:= .type "list",data:= .seq its.toArray nD})]++bM fp s5.heap) σ6 H' s'→tn (i+1) s'.heap∧∀b∈fp,H' b=none:=fun{H' s'} I'=>by
   refine⟨T.keep _ _ _ st5 fun b hb o e=>(I'.pin (b,o) (List.mem_append_right _ (List.mem_append_right _ (O9 hb e)))).1,fun b hb=>?_⟩
   obtain⟨o,e,d⟩:=T.obj _ _ st5 b hb
   exact(I'.pin (b,o) (List.mem_append_right _ (List.mem_append_right _ (O9 hb e)))).2.1
  have wk:∀{H':Hp} {s':Shared},Inv (V1 X own js scope C s H fp) (X.pn++pins) σ6 H' s'→Inv (V1 X own js scope C s H fp) (X.pn++pins) (qo own js σ) H' s':=fun{H' s'} I'=>by
   refine I'.weak (by rw[I'.len];exact kU) fun k v e=>?_
   unfold qo at e
   by_cases hk:k<own.length
   ·rw[List.getElem?_append_left (by simpa using hk),List.getElem?_map,List.getElem?_eq_getElem hk] at e
    simp at e
   ·rw[List.getElem?_append_right (by simpa using hk)] at e
    have el:(own.map fun _=>(none:Option V)).length=own.length:=by simp
    rw[el,←ed,List.getElem?_drop] at e
    have ek:own.length+(k -own.length)=k:=by lia
    rw[ek] at e
    exact e
  cases ok with
  |false=>
   rw[if_neg Bool.false_ne_true] at q7
   obtain⟨m',hm,w7⟩:=q7
   obtain⟨J7,n7,o7⟩:=unD I7
   exact wpAny_pure ⟨rfl,m',hm,i+1,out,H7,⟨wk J7,n7,its,nD,rv,o7⟩,(stay I7).1,(stay I7).2,w7⟩
  |true=>
   rw[if_pos rfl] at q7
   refine wpAny_bind (wpAny_bind (thx (he _ s7 σ6 H7 _ I7 q7) fun y s8 ⟨v,H8,I8,r8,hl8,m',hm,w8⟩=>?_))
   obtain⟨J8,n8,o8⟩:=unD I8
   have isl:s8.heap.IsList D its.toArray:=⟨_,o8,rfl,nD,rfl⟩
   refine wpAny_bind (wpAny_list_append_plain (hsz:=by have:=rv.length;simp;lia) ⟨nD,o8⟩ fun h' hp' hs'=>?_)
   obtain⟨nn,ob'⟩:=hp'
   have ob2:h'.get? D=some {cls:= .type "list",data:= .seq (its++[y]).toArray nn}:=by
    rw[ob',List.push_toArray]
   have keep:∀b o,b≠D→s8.heap.get? b=some o→h'.get? b=some o:=fun b o hb e=>(hs'.2 b hb).trans e
   have J9:Inv (V1 X own js scope C s H fp) (X.pn++pins) σ6 H8 {s8 with heap:=h'}:=J8.turned (t':=s8.toks) keep n8 hDC (.inr hD) Dcell (fun p hp=>Dpin p (by
    have hp':p∈([]:List (Addr×Obj))++(X.pn++pins):=hp
    rw[List.nil_append] at hp'
    exact hp'))
   refine wpAny_pure (wpAny_pure ⟨rfl,m',hm,i+1,out++[v],H8,⟨wk J9,n8,its++[y],nn,rv.append (.cons r8 .nil),ob2⟩,?_,(stay I8).2,w8⟩)
   exact T.keep _ _ _ (stay I8).1 fun b hb o e=>keep b o (by rintro rfl;exact Dfp hb) e
end
end L2
set_option Elab.async false
set_option linter.all false
set_option maxRecDepth 100000
set_option maxHeartbeats 4000000
namespace L2
open PySem PySem.Spec PyProof.Rows
def Bk (n:Nat)(PV:Nat→V→Prop):It:=⟨fun i _=>i<n,fun i H x H'=>H'=H∧PV i x,fun i _=>n≤i⟩
theorem kB {M:Model}{A:Around}{E:Value→Shared→Prop}{s:Shared}{tg:Expr}{it:Addr}{u:Value}{Q:Unit→Shared→Prop}(hu:∀a,u≠ .ref a)(hQ:Q () s):wpAny M A (letOwnedTupleGo tg (.ref it) u) Q E s:=by
 unfold letOwnedTupleGo
 cases tg<;>first
  |exact wpAny_pure hQ
  |(cases u<;>first
    |exact wpAny_pure hQ
    |exact absurd rfl (hu _))
theorem cJ {P:Program}{w:World}{K:PySem.W.Frag}{tg:Expr}{it:Addr}{n:Nat}{Pv:Nat→Value→Prop}{PV:Nat→V→Prop}{St:Nat→Heap→Prop}
  (W:∀A:Around,A.handled=none→Walks P w A it [it] [it] n Pv St) (hv:∀i u,Pv i u→(∀a,u≠ .ref a)∧∃x,RelV x u∧PV i x)
  (ho:∀i h,St i h→∃o,h.get? it=some o∧∀v,o.data≠ .cell v)
  (hk:∀i h h',St i h→(∀o,h.get? it=some o→h'.get? it=some o)→St i h')
  (hself:∀(A:Around) (i:Nat) (s:Shared) (Q:Value→Shared→Prop) (E:Value→Shared→Prop),St i s.heap→Q (.ref it) s→wpAny (model P w) A (pyIter (.ref it)) Q E s):
  ax P w K tg (Bk n PV) [it] it (fun i h=>St i h∧i≤n) where
 mem:=by simp
 obj:=fun i h st b hb=>by
  have e:b=it:=by simpa using hb
  subst e
  exact ho i h st.1
 keep:=fun i h h' st k=>⟨hk i h h' st.1 fun o e=>k it (by simp) o e,st.2⟩
 item:=by
  intro X hP hw hK hc i pins s σ H E I hf st hg
  subst hP hw hK
  obtain⟨f0,f1,f2,f3,f4,f5⟩:=hf it (by simp)
  refine(W X.A (I.ok.hd hc)).item i s _ _ hg st.1 fun v h' tk hv' st' kk=>?_
  obtain⟨hne,x,rx,px⟩:=hv i v hv'
  have I1:Inv X pins σ H {s with heap:=h',toks:=tk}:=I.turned (fun b o hb e=>kk b o (by simpa using hb) e) f0 f1 f3 f4 f5
  exact⟨v,rfl,kB hne ⟨x,H,I1,rx,⟨rfl,px⟩,⟨st',hg⟩,fun b hb=>(hf b hb).1⟩⟩
 done:=by
  intro X hP hw hK hc i pins s σ H E I hf st hg
  subst hP hw hK
  obtain⟨f0,f1,f2,f3,f4,f5⟩:=hf it (by simp)
  have e:i=n:=Nat.le_antisymm st.2 hg
  subst e
  exact(W X.A (I.ok.hd hc)).done s _ _ st.1 fun h' tk kk=>⟨rfl,I.turned (fun b o hb e=>kk b o (by simpa using hb) e) f0 f1 f3 f4 f5⟩
 self:=fun A i s Q E st h=>hself A i s Q E st.1 h
def uS (c:Nat):V:= .str ⟨#[c]⟩
def uo (x:Str)(i:Nat)(v:V):Prop:=∃c,x.cps[i]?=some c∧v=uS c
def An (x:Str):It:=Bk x.cps.size (uo x)
theorem oV {x:Str}{i:Nat}{u:Value}(h:SignAt x i u):(∀a,u≠ .ref a)∧∃v,RelV v u∧uo x i v:=by
 obtain⟨c,t,hc,rfl⟩:=h
 exact⟨fun a z=>(by cases z),uS c,⟨t,rfl⟩,c,hc,rfl⟩
theorem nF {P:Program}{w:World}{K:PySem.W.Frag}{tg:Expr}(it:Addr)(x:Str)(t:Tok):ax P w K tg (An x) [it] it (fun i h=>h.IsStrIter it "str_ascii_iterator" x t i∧i≤x.cps.size):=
 cJ (fun A hh=>Walks.strAscii hh it x t) (fun i u h=>oV h)
  (fun i h st=>by obtain⟨o,e,c,d⟩:=st;exact⟨o,e,fun v z=>by rw[d] at z;cases z⟩)
  (fun i h h' st k=>let ⟨o,e,r⟩:=st;⟨o,k o e,r⟩)
  (fun A i s Q E st h=>wpAny_pyIter_striter_ascii st h)
theorem lL {P:Program}{w:World}{K:PySem.W.Frag}{tg:Expr}(it:Addr)(x:Str)(t:Tok):ax P w K tg (An x) [it] it (fun i h=>h.IsStrIter it "str_iterator" x t i∧i≤x.cps.size):=
 cJ (fun A hh=>Walks.strWide hh it x t) (fun i u h=>oV h)
  (fun i h st=>by obtain⟨o,e,c,d⟩:=st;exact⟨o,e,fun v z=>by rw[d] at z;cases z⟩)
  (fun i h h' st k=>let ⟨o,e,r⟩:=st;⟨o,k o e,r⟩)
  (fun A i s Q E st h=>wpAny_pyIter_striter_wide st h)
section
variable {X:Cx} {tg:Expr}
def rIter (K:PySem.W.Frag)(v:V)(H:Hp)(R:It→Hp→Prop):Prop:=
 (∃a,v= .ref a∧(∃xs,SqL K H a xs)∧R (Itl K a) H)∨(∃a,v= .ref a∧(∃xs,SqT K H a xs)∧R (Bi K a) H)∨(∃x,v= .str x∧R (An x) H)
theorem oy {pins:List (Addr×Obj)}{σ:St}{H1:Hp}{s1:Shared}{x:V}{v:Value}{R:It→Hp→Prop}(I1:Inv X pins σ H1 s1)(r1:RelV x v)(q1:rIter X.K x H1 R):
  wpAny (model X.prog X.w) X.A (pyIter v) (Ac X pins σ tg R) X.xe s1:=by
 have fp0:∀b∈[s1.heap.objs.size],ak X pins H1 b:=fun b hb=>by
  have e:b=s1.heap.objs.size:=by simpa using hb
  subst e
  exact I1.fpOk (Nat.le_refl _) (I1.hok.fresh (Nat.le_refl _))
 rcases q1 with⟨a,e,⟨xs,hq⟩,q⟩|⟨a,e,⟨xs,hq⟩,q⟩|⟨z,e,q⟩
 ·subst e
  cases r1
  obtain⟨its,rv,p,hz⟩:=I1.list hq
  refine wpAny_pyIter_list p.isList ?_
  exact⟨s1.heap.objs.size,[s1.heap.objs.size],_,_,H1,rfl,I1.kept (t':=s1.toks) fun b o e=>Heap.get?_push_of_some _ e,mw a _,⟨_,Heap.get?_push_size _ rfl,rfl,rfl⟩,fp0,q⟩
 ·subst e
  cases r1
  obtain⟨its,rv,p,hz⟩:=I1.tuple hq
  refine wpAny_pyIter_tuple (show s1.heap.IsTuple a its.toArray from p) ?_
  exact⟨s1.heap.objs.size,[s1.heap.objs.size],_,_,H1,rfl,I1.kept (t':=s1.toks) fun b o e=>Heap.get?_push_of_some _ e,jD a _,⟨_,Heap.get?_push_size _ rfl,rfl,rfl⟩,fp0,q⟩
 ·subst e
  obtain⟨t,rfl⟩:=r1
  cases ha:z.cps.all (·<128) with
  |false=>exact wpAny_pyIter_wide ha ⟨s1.heap.objs.size,[s1.heap.objs.size],_,_,H1,rfl,I1.kept (t':=s1.toks) fun b o e=>Heap.get?_push_of_some _ e,lL _ z t,⟨⟨_,Heap.get?_push_size _ rfl,rfl,rfl⟩,Nat.zero_le _⟩,fp0,q⟩
  |true=>exact wpAny_pyIter_ascii ha ⟨s1.heap.objs.size,[s1.heap.objs.size],_,_,H1,rfl,I1.kept (t':=s1.toks) fun b o e=>Heap.get?_push_of_some _ e,nF _ z t,⟨⟨_,Heap.get?_push_size _ rfl,rfl,rfl⟩,Nat.zero_le _⟩,fp0,q⟩
end
section
variable {X:Cx}
theorem kq:∀{bs:List Bool} {us:List Value},Vals (bs.map V.bl) us→us=bs.map Value.bool
 |[],_,.nil=>rfl
 |b::bs,_,.cons r t=>by
  have e:_=Value.bool b:=r
  rw[e,kq t];rfl
theorem jr (bs:List Bool):((List.range bs.length).all fun i=>(bs[i]?).getD true)=bs.all id:=by
 rw[Bool.eq_iff_iff,List.all_eq_true,List.all_eq_true]
 constructor
 ·intro h b hb
  obtain⟨i,hi,rfl⟩:=List.getElem_of_mem hb
  have:=h i (List.mem_range.mpr hi)
  simpa [List.getElem?_eq_getElem hi] using this
 ·intro h i hi
  have hi':=List.mem_range.mp hi
  simpa [List.getElem?_eq_getElem hi'] using h _ (List.getElem_mem hi')
theorem tJ {s:Shared}{h':Heap}{o:Obj}(hk:∀b x,b∉[s.heap.objs.size]→(s.heap.push o).get? b=some x→h'.get? b=some x):∀b x,s.heap.get? b=some x→h'.get? b=some x:=
 fun b x e=>hk b x (fun hm=>by rw[List.mem_singleton.mp hm] at e;exact Nat.lt_irrefl _ (Heap.lt_size e)) (Heap.get?_push_of_some _ e)
def tU (K:PySem.W.Frag):List V→Hp→VK→Prop:=fun xs H Q=>∃(p:Addr) (bs:List Bool),xs=[.ref p]∧SqL K H p (bs.map V.bl)∧Q (.bl (bs.all id)) H
theorem lz (hc:X.calm=true):CallR X (.builtin "all") (tU X.K):=by
 intro pins s σ H xs us Q I r h
 obtain⟨l,bs,rfl,hx,q⟩:=h
 obtain⟨u,rfl,ru⟩:=D4 r
 cases ru
 obtain⟨its,rv,ht,hz⟩:=I.list hx
 have e:=kq rv
 subst e
 have hl:=ht.isList
 have hlt:l<s.heap.objs.size:=ht.lt
 refine call_all_walk (wpAny_pyIter_list hl ?_)
 refine⟨s.heap.objs.size,[s.heap.objs.size,l],[s.heap.objs.size],(bs.map Value.bool).toArray.size,_,_,fun i=>(bs[i]?).getD true,rfl,Walks.list (A:=X.A.in1) (I.ok.hd hc) _ l (Nat.ne_of_lt hlt) (bs.map Value.bool).toArray,
  ⟨⟨_,Heap.get?_push_size _ rfl,rfl,rfl⟩,hl.push _⟩,fun i v s' Q' E' hP hQ=>?_,fun h' tk hk=>?_⟩
 ·have hP':(bs.map Value.bool)[i]?=some v:=by simpa using hP
  rw[List.getElem?_map] at hP'
  cases e:bs[i]? with
  |none=>rw[e] at hP';cases hP'
  |some b=>
   rw[e] at hP'
   cases hP'
   simp only[e,Option.getD_some] at hQ
   exact wpAny_truthy_bool hQ
 ·have e:((List.range (bs.map Value.bool).toArray.size).all fun i=>(bs[i]?).getD true)=bs.all id:=by
   rw[List.size_toArray,List.length_map];exact jr bs
  rw[e]
  exact⟨.bl (bs.all id),H,I.kept (tJ hk),rfl,q⟩
def yc:V→Option Int→Option Int→Hp→VK→Prop:=fun x lo hi H Q=>∃z,x= .str z∧z.length≤sizeLine∧Q (.str (Txt.slice z lo hi)) H
theorem xk:SlR X yc:=by
 intro pins s σ H x v vl vu lo hi sl Q I rx hs pl pu h
 obtain⟨z,rfl,hz,q⟩:=h
 obtain⟨t,rfl⟩:=rx
 refine⟨"str",_,F.slot_str_getitem.lookup,typeIs_str _ _ _,?_⟩
 have fin:∀t' k,EP X pins σ Q (.str (Txt.slice z lo hi) t') {s with toks:=k}:=fun t' k=>⟨.str _,H,I.tok _,⟨t',rfl⟩,q⟩
 cases pl with
 |none=>
  cases pu with
  |none=>exact wpAny_getItem_str_slice (l:=none) (u:=none) (st:=none) hs rfl (post_val_or_str ⟨Nat.le_trans (Txt.slice_le z _ _) hz,fin⟩)
  |int j tj=>exact wpAny_getItem_str_slice (l:=none) (u:=some (j,tj)) (st:=none) hs rfl (post_val_or_str ⟨Nat.le_trans (Txt.slice_le z _ _) hz,fin⟩)
 |int i ti=>
  cases pu with
  |none=>exact wpAny_getItem_str_slice (l:=some (i,ti)) (u:=none) (st:=none) hs rfl (post_val_or_str ⟨Nat.le_trans (Txt.slice_le z _ _) hz,fin⟩)
  |int j tj=>exact wpAny_getItem_str_slice (l:=some (i,ti)) (u:=some (j,tj)) (st:=none) hs rfl (post_val_or_str ⟨Nat.le_trans (Txt.slice_le z _ _) hz,fin⟩)
def zY (K:PySem.W.Frag):V→Option Int→Option Int→Hp→VK→Prop:=fun x lo hi H Q=>zv K x lo hi H Q∨yT K x lo hi H Q∨yc x lo hi H Q
theorem xo:SlR X (zY X.K):=sl_list.or (sl_tup.or xk)
theorem RelV.plainB {x:V}{v:Value}(r:RelV x v)(b:Bool):plainIs v (.bool b)=true∧(v==Value.bool b)=decide (x= .bl b):=by
 cases x with
 |non=>cases r;exact⟨rfl,rfl⟩
 |bl c=>cases r;exact⟨rfl,by cases b<;>cases c<;>rfl⟩
 |int _=>obtain⟨t,rfl⟩:=r;exact⟨rfl,rfl⟩
 |str _=>obtain⟨t,rfl⟩:=r;exact⟨rfl,rfl⟩
 |byt _=>obtain⟨t,rfl⟩:=r;exact⟨rfl,rfl⟩
 |flt _=>obtain⟨t,rfl⟩:=r;exact⟨rfl,rfl⟩
 |ref _=>cases r;exact⟨rfl,rfl⟩
 |ty _=>cases r;exact⟨rfl,rfl⟩
def Bg (neg:Bool):R2:=fun x y H Q=>(y= .non∨∃b,y= .bl b)∧Q (.bl (if neg then !decide (x=y) else decide (x=y))) H
theorem ku:OpR X (compareOp .Is) (Bg false):=by
 intro pins s σ H x y v u Q I rx ry h
 obtain⟨hy,q⟩:=h
 rcases hy with rfl|⟨b,rfl⟩
 ·cases ry;exact is_none_gen ⟨.bl _,H,I,by rw[rx.none_iff];rfl,q⟩
 ·cases ry
  exact wpAny_is_plain (rx.plainB b).1 ⟨.bl _,H,I,by rw[(rx.plainB b).2];rfl,q⟩
def Bd (K:PySem.W.Frag)(H:Hp):V→String→Prop
 | .non,t=>t="NoneType"
 | .bl _,t=>t="bool"
 | .int _,t=>t="int"
 | .str _,t=>t="str"
 | .ref a,t=>(t="list"∧∃xs,SqL K H a xs)∨(t="tuple"∧∃xs,SqT K H a xs)∨(t="dict"∧∃kvs,Rd H a (.dK kvs))
 |_,_=>False
def mf (t T:String):Bool:=t==T||(t=="bool"&&T=="int")
def tZ (K:PySem.W.Frag):List V→Hp→VK→Prop:=fun xs H Q=>∃x T t,xs=[x,.ty T]∧Bd K H x t∧(T="str"∨T="int"∨T="bool"∨T="list"∨T="tuple"∨T="dict")∧Q (.bl (mf t T)) H
theorem K7 {K:PySem.W.Frag}{t T:String}(ht:t="NoneType"∨t="bool"∨t="int"∨t="str"∨t="list"∨t="tuple"∨t="dict")(hT:T="str"∨T="int"∨T="bool"∨T="list"∨T="tuple"∨T="dict"):
  PySem.W.kitOne K (.type t) (.type T)=some (mf t T):=by
 rcases ht with rfl|rfl|rfl|rfl|rfl|rfl|rfl<;>rcases hT with rfl|rfl|rfl|rfl|rfl|rfl<;>rfl
theorem call_isi:CallR X (.builtin "isinstance") (tZ X.K):=by
 intro pins s σ H xs us Q I r h
 obtain⟨x,T,t,rfl,ty,hT,q⟩:=h
 obtain⟨u,c,rfl,rx,rc⟩:=M9 r
 cases rc
 have fin:∀tk,EP X pins σ Q (.bool (mf t T)) {s with toks:=tk}:=fun tk=>⟨.bl _,H,I.tok tk,rfl,q⟩
 cases x with
 |non=>cases ty;cases (show u=Value.none from rx);exact PySem.W.kia_one PySem.W.kitx_none I.kIn True.intro (K7 (by simp) hT) (fun z=>nomatch z) fin
 |bl y=>cases ty;cases (show u=Value.bool y from rx);exact PySem.W.kia_one PySem.W.kitx_bool I.kIn True.intro (K7 (by simp) hT) (fun z=>nomatch z) fin
 |int i=>cases ty;obtain⟨t,q⟩:=(show ∃t,u=Value.int i t from rx);cases q;exact PySem.W.kia_one PySem.W.kitx_int I.kIn True.intro (K7 (by simp) hT) (fun z=>nomatch z) fin
 |str y=>cases ty;obtain⟨t,q⟩:=(show ∃t,u=Value.str y t from rx);cases q;exact PySem.W.kia_one PySem.W.kitx_str I.kIn True.intro (K7 (by simp) hT) (fun z=>nomatch z) fin
 |byt _=>exact False.elim ty
 |flt _=>exact False.elim ty
 |ty _=>exact False.elim ty
 |ref a=>
  cases (show u=Value.ref a from rx)
  rcases ty with⟨rfl,ys,hy⟩|⟨rfl,ys,hy⟩|⟨rfl,kvs,hy⟩
  ·obtain⟨its,_,⟨o,n,e,c,_,_⟩,_⟩:=I.list hy
   exact PySem.W.kia_one PySem.W.kitx_list I.kIn ⟨o,e,c⟩ (K7 (by simp) hT) (fun z=>nomatch z) fin
  ·obtain⟨its,_,⟨o,e,c,_⟩,_⟩:=I.tuple hy
   exact PySem.W.kia_one PySem.W.kitx_tuple I.kIn ⟨o,e,c⟩ (K7 (by simp) hT) (fun z=>nomatch z) fin
  ·obtain⟨_,_,vs,_,o,es,ep,h1,h2,_⟩:=C3 I.hok hy
   exact PySem.W.kia_one PySem.W.kitx_dict I.kIn ⟨o,h1,h2.1⟩ (K7 (by simp) hT) (fun z=>nomatch z) fin
end
end L2
set_option Elab.async false
set_option linter.all false
set_option maxRecDepth 100000
set_option maxHeartbeats 4000000
namespace L2
open PySem PySem.Spec PyProof.Rows
section
variable {X:Cx}
def gL (K:PySem.W.Frag):R2:=fun x y H Q=>sH (fun i j=> .int (i+j)) x y H Q∨(∃i j,x= .str i∧y= .str j∧i.length+j.length≤sizeLine∧Q (.str (i++j)) H)∨zk x y H Q∨uu K x y H Q
theorem sd:OpR X (binaryOp .Add) (gL X.K):=op_add.or (op_add_str.or (op_cat.or tX))
theorem op_in_sgn:OpR X (compareOp .In) (fun x y H Q=>∃c j,x=uS c∧y= .str j∧Q (.bl (decide (c∈j.cps.toList))) H):=by
 intro pins s σ H x y v u Q I rx ry h
 obtain⟨c,j,rfl,rfl,q⟩:=h
 refine lJ pins s σ H _ _ v u Q I rx ry ⟨⟨#[c]⟩,j,rfl,rfl,?_⟩
 rw[StrLaws.found_one];exact q
theorem op_notIn_sgn:OpR X (compareOp .NotIn) (fun x y H Q=>∃c j,x=uS c∧y= .str j∧Q (.bl (!decide (c∈j.cps.toList))) H):=by
 intro pins s σ H x y v u Q I rx ry h
 obtain⟨c,j,rfl,rfl,q⟩:=h
 refine eY pins s σ H _ _ v u Q I rx ry ⟨⟨#[c]⟩,j,rfl,rfl,?_⟩
 rw[StrLaws.found_one];exact q
theorem ju (hu:X.A.units+1<cLine):OpR X (compareOp .In) (fun y x H Q=>∃a o,x= .ref a∧DGet H a y o∧Q (.bl o.isSome) H):=by
 intro pins s σ H y x v u Q I ry rx h
 obtain⟨a,o,rfl,g,q⟩:=h
 cases rx
 exact Al hu I g ry fun s' I'=>⟨.bl _,H,I',rfl,q⟩
theorem cU (hu:X.A.units+1<cLine):OpR X (compareOp .NotIn) (fun y x H Q=>∃a o,x= .ref a∧DGet H a y o∧Q (.bl (!o.isSome)) H):=by
 intro pins s σ H y x v u Q I ry rx h
 obtain⟨a,o,rfl,g,q⟩:=h
 cases rx
 exact sY hu I g ry fun s' I'=>⟨.bl _,H,I',rfl,q⟩
def sv (K:PySem.W.Frag):R2:=fun x y H Q=>(∃c j,x=uS c∧y= .str j∧Q (.bl (decide (c∈j.cps.toList))) H)∨zQ K false x y H Q∨(∃a o,y= .ref a∧DGet H a x o∧Q (.bl o.isSome) H)
def eZ (K:PySem.W.Frag):R2:=fun x y H Q=>(∃c j,x=uS c∧y= .str j∧Q (.bl (!decide (c∈j.cps.toList))) H)∨zQ K true x y H Q∨(∃a o,y= .ref a∧DGet H a x o∧Q (.bl (!o.isSome)) H)
theorem xi (hu:X.A.units+1<cLine):OpR X (compareOp .In) (sv X.K):=op_in_sgn.or (op_in_seq.or (ju hu))
theorem mW (hu:X.A.units+1<cLine):OpR X (compareOp .NotIn) (eZ X.K):=op_notIn_sgn.or (op_notIn_seq.or (cU hu))
def zA:R2:=fun x y H Q=>sH (fun i j=> .bl (decide (i<j))) x y H Q∨(∃i j,x= .str i∧y= .str j∧Q (.bl (decide (i.cps.toList<j.cps.toList))) H)
theorem jg:OpR X (compareOp .Lt) zA:=op_lt.or ny
theorem sj (hu:X.A.units+1<cLine):IxR X (fun x y H Q=>∃a v,x= .ref a∧DGet H a y (some v)∧Q v H):=by
 intro value slice pins s σ H x y v u Q I rx ry h hs
 obtain⟨a,z,rfl,g,q⟩:=h
 cases rx
 exact tail_any (gq I g) PySem.F.slot_dict_getitem.lookup (mV hu I g ry fun w2 s' I' r'=>⟨z,H,I',r',q⟩) hs
def iD (K:PySem.W.Frag):R2:=fun x y H Q=>Bh K x y H Q∨(∃a v,x= .ref a∧DGet H a y (some v)∧Q v H)
theorem vF (hu:X.A.units+1<cLine):IxR X (iD X.K):=ix_seq.or (sj hu)
def ni (K:PySem.W.Frag):List V→Hp→VK→Prop:=fun xs H Q=>(∃x n,xs=[x]∧zG K x H n∧Q (.int n) H)∨(∃a kvs,xs=[V.ref a]∧Rd H a (.dK kvs)∧Q (.int kvs.length) H)
theorem call_lenX:CallR X (.builtin "len") (ni X.K):=by
 refine call_len.or ?_
 intro pins s σ H xs us Q I r h
 obtain⟨a,kvs,rfl,ha,q⟩:=h
 obtain⟨u,rfl,ru⟩:=D4 r
 cases ru
 exact zb I ha fun t s' I'=>⟨.int kvs.length,H,I',⟨t,rfl⟩,q⟩
end
def V0 (P:Program)(w:World)(K:PySem.W.Frag)(mg:Str→Option Value)(base:Heap)(CX:ig)(k:Nat)(x:Str)(ps:List Str)(dvs:List V)(sp:Sp):Prop:=
 ∃f fd ds,A6 P w K mg base CX k f fd ps sp∧mg x=some (.ref f)∧PySem.W.keepIn K (.ref f)=true∧Binds K fd ps ds∧Vals dvs ds
section
variable {X:Cx} {CX:ig} {k:Nat} {x:Str} {ps:List Str} {dvs:List V} {sp:Sp} {E:XK} {e:Expr} {es:List Expr} {t:TA} {p pos:Pos}
theorem qe (C:V0 X.prog X.w X.K X.mg X.base CX k x ps dvs sp)(hr:Room k X.A)(hx:aA CX X E)(ha:PA X (e::es) t)(hg:Gl X x:=by rfl)
  (hdb:(x==("__debug__":Str))=false:=by decide) (he:starEach (e::es) X.env=(false,eval e X.env)::starEach es X.env:=by rfl) (hpl:(backTo pos (starEach es X.env)).any (·.1)=false:=by rfl):
  PE X (.Call (.Name x p) (e::es) [] pos) (gF sp dvs E t):=by
 obtain⟨f,fd,ds,F,hm,hk,hb,hd⟩:=C
 exact sf F hr hg hm hk hb hd hx ha hdb he hpl
theorem A3 {k:Nat}{A:Around}(r:Room k A):A.units+1<cLine:=by have:=r.un;lia
end
section
variable {K:PySem.W.Frag} {σ:St} {H:Hp} {Q:VK} {D:iS} {nx bk ct:St→Hp→Prop} {rt:VK}
theorem yG {i:Nat}{v:V}(h:σ[i]?=some (some v))(q:Q v H):tq i σ H Q:=⟨v,h,q⟩
theorem Bs {v:V}(q:Q v H):tC v σ H Q:=q
theorem Ar {r:R2}{ta tb:TE}(q:ta σ H fun x H1=>tb σ H1 fun y H2=>r x y H2 Q):rQ r ta tb σ H Q:=q
theorem xD {t:TE}{Qb:Bool→Hp→Prop}(q:t σ H fun x H'=>∃k,x= .bl k∧Qb k H'):oT t σ H Qb:=q
theorem Az {b:Bool}{Qb:Bool→Prop}(q:Qb b):∃k,V.bl b= .bl k∧Qb k:=⟨b,rfl,q⟩
theorem zm {b:Bool}{Qb:Bool→Prop}(q:Qb b):∃k,pz K (V.bl b) H k∧Qb k:=⟨b,rfl,q⟩
theorem yL {t:TT}{Qb:Bool→Hp→Prop}(q:t σ H fun c H1=>Qb (!c) H1):wV t σ H Qb:=q
theorem ze {t u:TT}{Qb:Bool→Hp→Prop}(q:t σ H fun c H1=>if c=true then u σ H1 Qb else Qb false H1):vC t u σ H Qb:=q
theorem Ap {t u:TT}{Qb:Bool→Hp→Prop}(q:t σ H fun c H1=>if c=true then Qb true H1 else u σ H1 Qb):Ae t u σ H Qb:=q
theorem vd {ta tb:TE}(q:ta σ H fun x H1=>∃c,x= .bl c∧if c=true then tb σ H1 Q else Q (.bl false) H1):pG ta tb σ H Q:=q
theorem AZ {t:TT}{ta tb:TE}(q:t σ H fun c H1=>if c=true then ta σ H1 Q else tb σ H1 Q):AW t ta tb σ H Q:=q
theorem yV {Qa:List V→Hp→Prop}(q:Qa [] H):sS σ H Qa:=q
theorem uR {ta:TE}{tr:TA}{Qa:List V→Hp→Prop}(q:ta σ H fun x H1=>tr σ H1 fun xs H2=>Qa (x::xs) H2):jL ta tr σ H Qa:=q
theorem xc {sp:Sp}{dvs:List V}{E:XK}{t:TA}(q:t σ H fun vs H1=>sp (vs++dvs) H1 Q E):gF sp dvs E t σ H Q:=q
theorem AO {r:List V→Hp→VK→Prop}{t:TA}(q:t σ H fun vs H1=>r vs H1 Q):wQ r t σ H Q:=q
theorem Ba {r:V→Option Int→Option Int→Hp→VK→Prop}{te:TE}{tl th:TO}(q:te σ H fun x H1=>tl σ H1 fun l H2=>th σ H2 fun u H3=>r x l u H3 Q):AI r te tl th σ H Q:=q
theorem oU {Qo:Option Int→Hp→Prop}(q:Qo none H):fK σ H Qo:=q
theorem vf {t:TE}{Qo:Option Int→Hp→Prop}(q:t σ H fun x H1=>∃i,x= .int i∧Qo (some i) H1):nW t σ H Qo:=q
theorem yD {i:Int}{Qo:Int→Prop}(q:Qo i):∃j,V.int i= .int j∧Qo j:=⟨i,rfl,q⟩
theorem lZ {i j:Int}(q:Q (.int (i+j)) H):gL K (.int i) (.int j) H Q:= .inl ⟨i,j,rfl,rfl,q⟩
theorem U3 {i j:Str}(h:i.length+j.length≤sizeLine)(q:Q (.str (i++j)) H):gL K (.str i) (.str j) H Q:= .inr (.inl ⟨i,j,rfl,rfl,h,q⟩)
theorem Ak {g:Int→Int→V}{i j:Int}(q:Q (g i j) H):sH g (.int i) (.int j) H Q:=⟨i,j,rfl,rfl,q⟩
theorem Bp {C:Int→Int→Prop}{g:Int→Int→V}{i j:Int}(h:C i j)(q:Q (g i j) H):rI C g (.int i) (.int j) H Q:=⟨i,j,rfl,rfl,h,q⟩
theorem ou {i j:Int}(q:Q (.bl (decide (i<j))) H):zA (.int i) (.int j) H Q:= .inl ⟨i,j,rfl,rfl,q⟩
theorem fZ {i j:Int}(q:Q (.bl (decide (i=j))) H):Ab (.int i) (.int j) H Q:=⟨rfl,by rw[bF];rw[show(i==j)=decide (i=j) from Bool.beq_eq_decide_eq i j];exact q⟩
theorem gc {i j:Str}(q:Q (.bl (decide (i=j))) H):Ab (.str i) (.str j) H Q:=⟨rfl,by rw[eh];rw[show(i==j)=decide (i=j) from Bool.beq_eq_decide_eq i j];exact q⟩
theorem mB {y:Str}(h:y.length≤sizeLine)(q:Q (.int y.length) H):ni K [.str y] H Q:= .inl ⟨.str y,y.length,rfl,⟨h,rfl⟩,q⟩
theorem v9 {p:Addr}{xs:List V}(h:SqL K H p xs)(q:Q (.int xs.length) H):ni K [.ref p] H Q:= .inl ⟨.ref p,xs.length,rfl,.inl ⟨xs,h,rfl⟩,q⟩
theorem y0 {p:Addr}{kvs:List (d7×V)}(h:Rd H p (.dK kvs))(q:Q (.int kvs.length) H):ni K [.ref p] H Q:= .inr ⟨p,kvs,rfl,h,q⟩
theorem i4 {p:Addr}{xs:List V}{i:Int}{v:V}(h:SqL K H p xs)(e:kl xs i=some v)(q:Q v H):iD K (.ref p) (.int i) H Q:= .inl (.inl ⟨p,xs,i,v,rfl,rfl,h,e,q⟩)
theorem b7 {p:Addr}{xs:List V}{i:Int}{v:V}(h:SqT K H p xs)(e:kl xs i=some v)(q:Q v H):iD K (.ref p) (.int i) H Q:= .inl (.inr (.inl ⟨p,xs,i,v,rfl,rfl,h,e,q⟩))
theorem cy {z:Str}{i:Int}{c:Nat}(hz:z.length≤sizeLine)(e:kl z.cps.toList i=some c)(q:Q (uS c) H):iD K (.str z) (.int i) H Q:= .inl (.inr (.inr ⟨z,i,c,rfl,rfl,hz,e,q⟩))
theorem r9 {p:Addr}{y v:V}(g:DGet H p y (some v))(q:Q v H):iD K (.ref p) y H Q:= .inr ⟨p,v,rfl,g,q⟩
theorem pR {p:Addr}{xs:List V}{lo hi:Option Int}(h:SqL K H p xs)(q:∀p,H p=none→Q (.ref p) (i7 H p (.lst (W4 xs lo hi)))):zY K (.ref p) lo hi H Q:= .inl ⟨p,xs,rfl,h,q⟩
theorem gk {l b:Addr}{xs zs:List V}(h1:H l=some (.lst xs))(h2:H b=some (.lst zs))(hz:xs.length+zs.length≤sizeLine)(q:∀p,H p=none→Q (.ref p) (i7 H p (.lst (xs++zs)))):gL K (.ref l) (.ref b) H Q:= .inr (.inr (.inl ⟨l,b,xs,zs,rfl,rfl,h1,h2,hz,q⟩))
theorem xT {neg:Bool}{x:V}(q:Q (.bl (if neg then !decide (x= .non) else decide (x= .non))) H):Bg neg x .non H Q:=⟨.inl rfl,q⟩
theorem yS {x:V}{t T:String}(ty:Bd K H x t)(hT:T="str"∨T="int"∨T="bool"∨T="list"∨T="tuple"∨T="dict")(q:Q (.bl (mf t T)) H):tZ K [x,.ty T] H Q:=⟨x,T,t,rfl,ty,hT,q⟩
theorem yC {p:Addr}{bs:List Bool}(h:SqL K H p (bs.map V.bl))(q:Q (.bl (bs.all id)) H):tU K [.ref p] H Q:=⟨p,bs,rfl,h,q⟩
theorem yt {t:TA}(q:t σ H fun xs H1=>xs.length≤sizeLine∧∀p,H1 p=none→Q (.ref p) (i7 H1 p (.tup xs))):wI t σ H Q:=q
theorem yj {t:TA}(q:t σ H fun xs H1=>xs.length≤sizeLine∧∀p,H1 p=none→Q (.ref p) (i7 H1 p (.lst xs))):vw t σ H Q:=q
theorem V4 {t u:TS}(q:t ⟨u ⟨nx,rt,bk,ct⟩,rt,bk,ct⟩ σ H):ox t u ⟨nx,rt,bk,ct⟩ σ H:=q
theorem uW (q:nx σ H):qS ⟨nx,rt,bk,ct⟩ σ H:=q
theorem yk {te:TE}(q:te σ H rt):vg te ⟨nx,rt,bk,ct⟩ σ H:=q
theorem wt {te:TE}(q:te σ H fun _ H1=>nx σ H1):qK te ⟨nx,rt,bk,ct⟩ σ H:=q
theorem yl {c:TT}{t u:TS}(q:c σ H fun b H1=>if b=true then t ⟨nx,rt,bk,ct⟩ σ H1 else u ⟨nx,rt,bk,ct⟩ σ H1):vZ c t u ⟨nx,rt,bk,ct⟩ σ H:=q
theorem zp {te:TE}{g:TG}(q:te σ H fun x H1=>g x σ H1 nx):jF te g ⟨nx,rt,bk,ct⟩ σ H:=q
theorem wH {i:Nat}{v:V}{Qs:St→Hp→Prop}(q:Qs (σ.set i (some v)) H):K6 i v σ H Qs:=q
end
end L2
set_option Elab.async false
set_option linter.all false
set_option maxRecDepth 100000
set_option maxHeartbeats 4000000
namespace L2
open PySem PySem.Spec PyProof.Rows
section
variable {X:Cx} {pins:List (Addr×Obj)} {σ:St} {H:Hp} {s:Shared} {d:Addr} {kvs:List (d7×V)} {o:Obj}
abbrev B1 (d:Addr)(o:Obj)(kvs:List (d7×V))(H:Hp):Hp:=i7 H d (.frz o (.dK kvs))
theorem Inv.freeze (I:Inv X pins σ H s)(h:H d=some (.dK kvs))(ho:s.heap.get? d=some o):Inv X pins σ (B1 d o kvs H) s:=by
 have nd:∀b u,H b=some u→u≠ .dK kvs→b≠d:=fun b u e n z=>by
  subst z;rw[h] at e;exact n (Option.some.inj e).symm
 have hok:HOk X.prog X.w (B1 d o kvs H) s.heap:=fun b u e=>by
  have st:∀{a:Addr} {u:HO},ObjOk X.prog X.w H s.heap a u→ObjOk X.prog X.w (B1 d o kvs H) s.heap a u:=fun{a u} x=>
   x.stay (fun c v _ q=>q) (fun c q=>by unfold B1;rw[b0 (nd c _ q (by intro z;cases z))];exact q) fun c xs q=>by unfold B1;rw[b0 (nd c _ q (by intro z;cases z))];exact q
  by_cases hb:b=d
  ·subst hb
   unfold B1 at e
   rw[c9] at e
   cases e
   exact⟨ho,st (I.hok _ _ h)⟩
  ·unfold B1 at e
   rw[b0 hb] at e
   exact st (I.hok b u e)
 have q:=I.un (H':=B1 d o kvs H) (h':=s.heap) (t':=s.toks) ⟨fun b o e n hb hx=>e,fun b o e n hb hx=>⟨o.slots,e⟩,fun b o e n hx=>by
  unfold B1;rw[b0 (fun z=>by subst z;rw[h] at n;cases n)];exact n,fun b o e _=>⟨o,e⟩,fun b xs e=>by unfold B1;rw[b0 (nd b _ e (by intro z;cases z))];exact e,
  fun b o u e=>by unfold B1;rw[b0 (nd b _ e (by intro z;cases z))];exact e,fun b ps e=>⟨#[],by unfold B1;rw[b0 (nd b _ e (by intro z;cases z))];simpa using e⟩⟩ hok
 exact q
def yw:Option HO→Option HO
 |some (.frz _ u)=>some u
 |o=>o
def thaw (d:Addr)(H:Hp):Hp:=fun b=>if b=d then yw (H d) else H b
theorem G6 {b:Addr}(h:b≠d):thaw d H b=H b:=by unfold thaw;rw[if_neg h]
theorem thaw_at {u:HO}(h:H d=some (.frz o u)):thaw d H d=some u:=by unfold thaw;rw[if_pos rfl,h];rfl
theorem oq {u:HO}(h:H d=some (.frz o u)):thaw d H=i7 H d u:=by
 funext b
 by_cases hb:b=d
 ·subst hb;rw[thaw_at h,c9]
 ·rw[G6 hb,b0 hb]
theorem kJ (h:∀o u,H d≠some (.frz o u)):thaw d H=H:=by
 funext b
 by_cases hb:b=d
 ·subst hb
  unfold thaw
  rw[if_pos rfl]
  cases q:H b with
  |none=>rfl
  |some u=>cases u with
   |frz o u=>exact absurd q (h o u)
   |_=>rfl
 ·exact G6 hb
def sV (X:Cx)(th:Hp→Hp):Prop:=∀(pins:List (Addr×Obj)) (σ:St) (H:Hp) (s:Shared),Inv X pins σ H s→Inv X pins σ (th H) s
theorem bz:sV X id:=fun _ _ _ _ I=>I
theorem lT (hn:∀o u,X.H₀ d≠some (.frz o u)):sV X (thaw d):=fun pins σ H s I=>by
 by_cases hf:∃o u,H d=some (.frz o u)
 ·obtain⟨o,u,h⟩:=hf
  rw[oq h]
  have nd:∀b v,H b=some v→v≠ .frz o u→b≠d:=fun b v e n z=>by
   subst z;rw[h] at e;exact n (Option.some.inj e).symm
  have nn:∀b,H b=none→b≠d:=fun b e z=>by subst z;rw[h] at e;cases e
  have st:∀{a:Addr} {v:HO},ObjOk X.prog X.w H s.heap a v→ObjOk X.prog X.w (i7 H d u) s.heap a v:=fun{a v} x=>
   x.stay (fun c v _ q=>q) (fun c q=>by rw[b0 (nd c _ q (by intro z;cases z))];exact q) fun c xs q=>by rw[b0 (nd c _ q (by intro z;cases z))];exact q
  refine⟨I.ok,I.os,I.bare,⟨I.base.keep,I.base.slot,fun b ob e n hx=>?_,I.base.there,fun b xs e=>?_,fun b ob v e=>?_,fun b ps e=>?_⟩,I.loc,I.cell,?_,fun x c e=>?_,fun p hp=>?_,fun b v e=>?_,I.len⟩
  ·have q:=I.base.free b ob e n hx
   rw[b0 (nn b q)];exact q
  ·have q:=I.base.tups b xs e
   rw[b0 (nd b _ q (by intro z;cases z))];exact q
  ·have q:=I.base.frzs b ob v e
   rw[b0 (fun z=>by subst z;exact hn ob v e)];exact q
  ·obtain⟨m,q⟩:=I.base.tbls b ps e
   exact⟨m,by rw[b0 (nd b _ q (by intro z;cases z))];exact q⟩
  ·rw[b0 (nn _ I.free)];exact I.free
  ·have q:=I.freeC x c e
   rw[b0 (nn _ q)];exact q
  ·obtain⟨a1,a2,a3⟩:=I.pin p hp
   exact⟨a1,by rw[b0 (nn _ a2)];exact a2,a3⟩
  ·by_cases hb:b=d
   ·subst hb
    rw[c9] at e
    cases e
    exact st (I.hok _ _ h).2
   ·rw[b0 hb] at e
    exact st (I.hok b v e)
 ·rw[kJ fun o u e=>hf ⟨o,u,e⟩];exact I
theorem Same.thaw {H H':Hp}(h:H d=some (.dK kvs))(e:Same (B1 d o kvs H) H'):Same H (thaw d H'):=fun b u q=>by
 by_cases hb:b=d
 ·subst hb
  rw[h] at q;cases q
  have z:=e b _ (show B1 b o kvs H b=some _ from c9)
  exact thaw_at z
 ·rw[G6 hb]
  exact e b u (by unfold B1;rw[b0 hb];exact q)
end
abbrev gX:=St→Hp→(It→(Hp→Hp)→Hp→Prop)→Prop
def rC (X:Cx)(tg iter:Expr)(wi:gX):Prop:=
 ∀(pins:List (Addr×Obj)) (s:Shared) (σ:St) (H:Hp) (R:It→(Hp→Hp)→Hp→Prop),Inv X pins σ H s→wi σ H R→
  wpAny (model X.prog X.w) X.A (eval iter X.env) (fun v s1=>wpAny (model X.prog X.w) X.A (pyIter v) (Ac X pins σ tg fun J H'=>∃th,sV X th∧R J th H') X.xe s1) X.xe s
theorem PI.two {X:Cx}{tg iter:Expr}{wi:TI}(h:PI X tg iter wi):rC X tg iter (fun σ H R=>wi σ H fun J H'=>R J id H'):=by
 intro pins s σ H R I q
 refine B5 (h pins s σ H _ I q) fun v s1 h1=>B5 h1 fun itv s2 h2=>?_
 obtain⟨it,fp,tn,J,H',e,I',T,st,f,q⟩:=h2
 exact⟨it,fp,tn,J,H',e,I',T,st,f,id,bz,q⟩
def sE (J:It)(th:Hp→Hp)(g:TG)(tb:TS)(nx:St→Hp→Prop)(rt:VK)(σ:St)(H1:Hp):Prop:=∃W:Nat→Nat→St→Hp→Prop,(∃m,W 0 m σ H1)∧∀i m σ H,W i m σ H→
 (J.stop i H∧nx σ (th H))∨(J.go i H∧∃N:St→Hp→Prop,(∀σ' H',N σ' H'→∃m',m'<m∧W (i+1) m' σ' H')∧∀x H',J.yld i H x H'→g x σ H' fun σ2 H2=>tb ⟨N,fun v H=>rt v (th H),fun σ H=>nx σ (th H),N⟩ σ2 H2)
def pF (wi:gX)(g:TG)(tb:TS):TS:=fun D σ H=>wi σ H fun J th H1=>sE J th g tb D.nx D.rt σ H1
theorem rH {X:Cx}{tg iter:Expr}{body:List Stmt}{wi:gX}{g:TG}{tb:TS}{pos:Pos}(hp:PassesOwn (model X.prog X.w) X.A X.env X.xe)(hc:X.calm=true)(hi:rC X tg iter wi)(hg:PG X tg g)(hb:PSs X body tb)
  (hs:∀x,foldedSetIterable iter X.env x=pure x:=by intro _;rfl):PS X (.For tg iter body [] pos) (pF wi g tb):=by
 intro pins s σ H D I h
 refine wpAny_For (B5 (hi pins s σ H _ I h) fun v s1 h1=>B5 h1 fun itv s2 h2=>?_) hs
 obtain⟨it,fp,tn,J,H2,e,I2,T,st2,f2,th,hth,W,⟨m0,w0⟩,turn⟩:=h2
 subst e
 have stat:∀{H':Hp},(∀b∈fp,H' b=none)→∀b∈fp,ak X pins H' b:=fun hn b hb=>⟨hn b hb,(f2 b hb).2⟩
 refine codeAny_forLoop_any (fun n s'=>∃i σ' H',Inv X pins σ' H' s'∧tn i s'.heap∧(∀b∈fp,H' b=none)∧W i n σ' H') ?_ m0 ⟨0,σ,H2,I2,st2,fun b hb=>(f2 b hb).1,w0⟩
 rintro n s3 ⟨i,σ3,H3,I3,st3,fr3,w3⟩
 rcases turn i n σ3 H3 w3 with⟨stop,qn⟩|⟨go,N,hN,step⟩
 ·refine wpAny_passesOwn hp (B5 (T.done X rfl rfl rfl hc i pins s3 σ3 H3 X.xe I3 (stat fr3) st3 stop) fun r s4 ⟨hr,I4⟩=>?_)
  subst hr
  exact wpAny_execs_nil ⟨σ3,th H3,hth _ _ _ _ I4,qn⟩
 ·refine wpAny_passesOwn hp (B5 (T.item X rfl rfl rfl hc i pins s3 σ3 H3 X.xe I3 (stat fr3) st3 go) fun r s4 ⟨u,hr,h4⟩=>?_)
  subst hr
  refine wpAny_passesOwn hp (B5 h4 fun _ s5 ⟨x,H5,I5,r5,y5,st5,fr5⟩=>?_)
  have I5':=I5.pinned (stat fr5) (T.obj _ _ st5)
  refine wpAny_passesOwn hp (B5 (hg _ s5 σ3 H5 x u _ I5' r5 (step x H5 y5)) fun _ s6 ⟨σ6,H6,I6,q6⟩=>?_)
  refine wpAny_passesOwn hp (B5 (hb _ s6 σ6 H6 _ I6 q6) fun f s7 q7=>?_)
  have again:∀{σ7:St} {H7:Hp},Inv X (pins++bM fp s5.heap) σ7 H7 s7→N σ7 H7→∃m,m<n∧∃i σ' H',Inv X pins σ' H' s7∧tn i s7.heap∧(∀b∈fp,H' b=none)∧W i m σ' H':=fun{σ7 H7} I7 n7=>by
   obtain⟨m',hm,w7⟩:=hN σ7 H7 n7
   refine⟨m',hm,i+1,σ7,H7,I7.unpinned,T.keep _ _ _ st5 fun b hb o e=>(I7.pin (b,o) (List.mem_append_right _ (List.mem_append_right _ (O9 hb e)))).1,fun b hb=>?_,w7⟩
   obtain⟨o,e,d⟩:=T.obj _ _ st5 b hb
   exact(I7.pin (b,o) (List.mem_append_right _ (List.mem_append_right _ (O9 hb e)))).2.1
  cases f with
  |next=>obtain⟨σ7,H7,I7,n7⟩:=q7;exact again I7 n7
  |cont=>obtain⟨σ7,H7,I7,n7⟩:=q7;exact again I7 n7
  |brk=>obtain⟨σ7,H7,I7,q7⟩:=q7;exact⟨σ7,th H7,hth _ _ _ _ I7.unpinned,q7⟩
  |ret v=>obtain⟨x7,σ7,H7,I7,r7,q7⟩:=q7;exact⟨x7,σ7,th H7,hth _ _ _ _ I7.unpinned,r7,q7⟩
def pY (own:List Str)(js:List Nat)(J:It)(th:Hp→Hp)(g:TG)(ti:TT)(te:TE)(Q:VK)(σ:St)(H1:Hp):Prop:=∃W:Nat→Nat→List V→Hp→Prop,(∃m,W 0 m [] H1)∧∀i m out H,W i m out H→
 (J.stop i H∧∀D,H D=none→out.length≤sizeLine∧Q (.ref D) (th (i7 H D (.lst out))))∨
 (J.go i H∧∀x H',J.yld i H x H'→g x (qo own js σ) H' fun σ2 H2=>σ2.drop own.length=js.map (fun j=>(σ[j]?).join)∧ti σ2 H2 fun b H3=>
  if b=true then te σ2 H3 fun v H4=>out.length≤sizeLine∧∃m',m'<m∧W (i+1) m' (out++[v]) H4 else ∃m',m'<m∧W (i+1) m' out H3)
def cI (own:List Str)(js:List Nat)(wi:gX)(g:TG)(ti:TT)(te:TE):TE:=fun σ H Q=>wi σ H fun J th H1=>pY own js J th g ti te Q σ H1
def vM:TT:=fun _ H Q=>Q true H
theorem zI {X:Cx}:jt X [] vM:=AE
theorem lh {X:Cx}{own:List Str}{js:List Nat}{scope:Scope}{tg iter elt:Expr}{ifs:List Expr}{pos:Pos}{g:TG}{ti:TT}{te:TE}{wi:gX}(S:xR X own js scope=true)(hc:X.calm=true)(hit:rC X tg iter wi)
  (hg:∀C s H fp,PG (V1 X own js scope C s H fp) tg g) (hi:∀C s H fp,jt (V1 X own js scope C s H fp) ifs ti) (he:∀C s H fp,PE (V1 X own js scope C s H fp) elt te)
  (hs:∀x,foldedSetIterable iter X.env x=pure x:=by intro _;rfl):
  PE X (.ListComp elt [⟨tg,iter,ifs,0⟩] scope pos) (cI own js wi g ti te):=by
 have SB:=qU S
 intro pins s σ H Q I h
 rw[eval_ListComp]
 refine wpAny_comprehension_free (use:=none) rfl hs (bT (SB.cells I)) SB.kind SB.names (B5 (hit pins s σ H _ I h) fun v s1 h1=>B5 h1 fun itv s2 h2=>?_)
 obtain⟨it,fp,tn,J,H2,e,I2,T,st2,f2,th,hth,W,⟨m0,w0⟩,turn⟩:=h2
 subst e
 refine wpAny_newObj_type (wpAny_newFunctionEnv SB.nocell (by intro y hy;simp at hy) (fun h₁ hns₁ hsb₁=>?_) SB.kind)
 dsimp only at hns₁ hsb₁⊢
 generalize hH2:s2.heap.push {cls:= .type "list",dict:=none,data:= .seq ([]:List Value).toArray}=G2 at hns₁ hsb₁⊢
 have hCs:G2.objs.size=s2.heap.objs.size+1:=by rw[←hH2,Heap.size_push]
 have hDC:s2.heap.objs.size≠G2.objs.size:=by rw[hCs];exact Nat.ne_of_lt (Nat.lt_succ_self _)
 have hC:s2.heap.objs.size≤G2.objs.size:=by rw[hCs];exact Nat.le_succ _
 have old:∀b o,s2.heap.get? b=some o→h₁.get? b=some o:=fun b o e=>
  hsb₁.extBut b o (Nat.ne_of_lt (Nat.lt_of_lt_of_le (Heap.lt_size e) hC)) (Heap.get?_push_of_some _ (hH2▸Heap.get?_push_of_some _ e))
 have hob:∀b∈fp,∃o,s2.heap.get? b=some o:=fun b hb=>let ⟨o,e,_⟩:=T.obj _ _ st2 b hb;⟨o,e⟩
 have hacc:h₁.get? s2.heap.objs.size=some {cls:= .type "list",data:= .seq ([]:List Value).toArray}:=
  hsb₁.extBut _ _ hDC (Heap.get?_push_of_some _ (hH2▸Heap.get?_push_size _ rfl))
 have loop:∀s3:Shared,s3={s2 with heap:=h₁,toks:=s2.toks+([]:List (Str×Value)).length}→
   codeAny (model X.prog X.w) X.A (.compLoop (.ListComp elt [⟨tg,iter,ifs,0⟩] scope pos) 0 (.ref it) (.ref s2.heap.objs.size) (compEnvC scope (bj scope X.env) G2.objs.size X.env))
    (compPost (model X.prog X.w) X.A X.xe none (EP X pins σ Q) (.ref s2.heap.objs.size) G2.objs.size) s3:=by
  rintro s3 rfl
  refine dU (K:=fun out H'=>Q (.ref s2.heap.objs.size) (th (i7 H' s2.heap.objs.size (.lst out)))) SB hc T I2 f2 (Nat.le_refl _) hC hDC hob (hg _ _ _ _) (hi _ _ _ _) (he _ _ _ _) W (fun i m out H' w=>?_) (fun out H' s' B hl k=>?_) w0
   ⟨Inv.block SB I2 f2 hob hC hns₁ old,I2.hok.fresh (Nat.le_refl _),[],_,.nil,hacc⟩ (T.keep _ _ _ st2 fun b _ o e=>old b o e) (fun b hb=>(f2 b hb).1)
  ·rcases turn i m out H' w with⟨a,b⟩|c
   ·exact .inl ⟨a,fun n=>b _ n⟩
   ·exact .inr c
  ·obtain⟨mm,hn,_⟩:=B.inv.loc
   exact⟨mm,hn,fun h' sb=>⟨.ref s2.heap.objs.size,_,hth _ _ _ _ (B.out I2 f2 (Nat.le_refl _) hC hDC hl sb),rfl,k⟩⟩
 exact codeAny_compStart_list (loop _ rfl) (T.self _ 0 _ _ _ (T.keep _ _ _ st2 fun b _ o e=>old b o e) (loop _ rfl))
theorem k9 {α β : Type} {F : α → β → Prop} : ∀ {l₁ : List α} {l₂ : List β} {i : Nat} {a : α}, Paired F l₁ l₂ → l₁[i]? = some a → ∃ b, l₂[i]? = some b ∧ F a b
 := by
  intro l₁ l₂ i a hp e
  induction hp generalizing i with
  | nil => cases e
  | cons r _ ih => cases i with
    | zero => cases e; exact ⟨_, rfl, r⟩
    | succ i => exact ih e
section
variable {P:Program} {w:World}
theorem Y2 {k:d7}{v:Value}(h:(h8 P w).is k v=true):RelV (kV k) v:=by
 rcases n0 (show V5 k v=true from h) with⟨i,t,rfl,rfl⟩|⟨x,t,rfl,rfl⟩
 ·exact⟨t,rfl⟩
 ·exact⟨t,rfl⟩
theorem qG {k:d7}{v:Value}(h:(h8 P w).is k v=true):∀a,v≠ .ref a:=by
 rcases n0 (show V5 k v=true from h) with⟨i,t,rfl,rfl⟩|⟨x,t,rfl,rfl⟩<;>exact fun a z=>by cases z
structure qv (P:Program) (w:World) (d:Addr) (o:Obj) (kvs:List (d7×V)) (vs:List (d7×Value)) (ep:Nat):Prop where
 kv:KV kvs vs
 at_:∀h:Heap,h.get? d=some o→h.DictAt (h8 P w) d vs ep
 nd:(kvs.map (·.1)).Nodup
theorem U0 {H:Hp}{h:Heap}{d:Addr}{kvs:List (d7×V)}(ok:HOk P w H h)(e:Rd H d (.dK kvs)):(d==sysModules)=false∧∃o vs ep,h.get? d=some o∧qv P w d o kvs vs ep:=by
 obtain⟨z,hd,vs,rel,o,es,ep,h1,r⟩:=C3 ok e
 refine⟨hd,o,vs,ep,h1,rel,fun h' e'=>⟨o,es,e',r⟩,?_⟩
 rw[KV.keys rel]
 exact r.2.2.2.2
def zV (d:Addr)(o:Obj)(kvs:List (d7×V))(f:d7×V→V):It:=
 ⟨fun i H=>H d=some (.frz o (.dK kvs))∧i<kvs.length,fun i H x H'=>H'=H∧∃kv,kvs[i]?=some kv∧x=f kv,fun i H=>H d=some (.frz o (.dK kvs))∧kvs.length≤i⟩
def xW (d:Addr)(o:Obj)(kvs:List (d7×V)):It:=
 ⟨fun i H=>H d=some (.frz o (.dK kvs))∧i<kvs.length,fun i H x H'=>∃t kv,kvs[i]?=some kv∧H t=none∧x= .ref t∧H'=i7 H t (.tup [kV kv.1,kv.2]),fun i H=>H d=some (.frz o (.dK kvs))∧kvs.length≤i⟩
theorem lH {K:PySem.W.Frag}{tg:Expr}{d:Addr}{o:Obj}{kvs:List (d7×V)}{vs:List (d7×Value)}{ep:Nat}(D:qv P w d o kvs vs ep)(it:Addr):
  ax P w K tg (zV d o kvs fun kv=>kV kv.1) [it] it (fun i h=>h.IsKeyIter it d i vs.length ep) where
 mem:=by simp
 obj:=fun i h st b hb=>by
  have e:b=it:=by simpa using hb
  subst e
  obtain⟨o,e,c,dd⟩:=st
  exact⟨o,e,fun v z=>by rw[dd] at z;cases z⟩
 keep:=fun i h h' st k=>st.at fun o e=>k it (by simp) o e
 item:=by
  intro X hP hw hK hc i pins s σ H E I hf st hg
  subst hP hw hK
  obtain⟨hfz,hi⟩:=hg
  obtain⟨f0,f1,f2,f3,f4,f5⟩:=hf it (by simp)
  have dat:=D.at_ s.heap (I.hok d _ hfz).1
  have hl:=KV.length D.kv
  obtain⟨kv,hkv⟩:∃kv,kvs[i]?=some kv:=⟨kvs[i],by simp [hi]⟩
  obtain⟨⟨k,x⟩,hx⟩:∃p,vs[i]?=some p:=⟨vs[i]'(by lia),by simp [show i<vs.length by lia]⟩
  have hkk:kv.1=k:=by
   have e1:(kvs.map (·.1))[i]?=some kv.1:=by rw[List.getElem?_map,hkv];rfl
   rw[KV.keys D.kv,List.getElem?_map,hx] at e1
   exact(Option.some.inj e1).symm
  refine wpAny_pyNext_dict_item st dat hx fun key h' hkey hit' hs'=>?_
  have I1:Inv X pins σ H {s with heap:=h'}:=I.turned (t':=s.toks) (fun b o hb e=>hs'.extBut b o hb e) f0 f1 f3 f4 f5
  exact⟨key,rfl,kB (qG hkey) ⟨kV kv.1,H,I1,by rw[hkk];exact Y2 hkey,⟨rfl,kv,hkv,rfl⟩,hit',fun b hb=>(hf b hb).1⟩⟩
 done:=by
  intro X hP hw hK hc i pins s σ H E I hf st hg
  subst hP hw hK
  obtain⟨hfz,hi⟩:=hg
  obtain⟨f0,f1,f2,f3,f4,f5⟩:=hf it (by simp)
  have dat:=D.at_ s.heap (I.hok d _ hfz).1
  have hl:=KV.length D.kv
  exact wpAny_pyNext_dict_end (I.ok.hd hc) st dat (by simp;lia) fun h' eb=>⟨rfl,I.turned (t':=s.toks) (fun b o hb e=>eb b o hb e) f0 f1 f3 f4 f5⟩
 self:=fun _ _ _ _ _ st h=>wpAny_pyIter_keyiter st h
theorem jh {K:PySem.W.Frag}{elts:List Expr}{x1}{tpos:Pos}{d:Addr}{o:Obj}{kvs:List (d7×V)}{vs:List (d7×Value)}{ep:Nat}(D:qv P w d o kvs vs ep)(it:Addr):
  ax P w K (.Tuple elts x1 tpos) (xW d o kvs) [it] it (fun i h=>∃ok ov,IsItemIter h it d i vs.length ep ok ov) where
 mem:=by simp
 obj:=fun i h st b hb=>by
  have e:b=it:=by simpa using hb
  subst e
  obtain⟨ok,ov,e⟩:=st
  exact⟨_,e,fun v z=>by
   have z':Data.fields _=Data.cell v:=z
   cases z'⟩
 keep:=fun i h h' st k=>let ⟨ok,ov,e⟩:=st;⟨ok,ov,k it (by simp) _ e⟩
 item:=by
  intro X hP hw hK hc i pins s σ H E I hf st hg
  subst hP hw hK
  obtain⟨hfz,hi⟩:=hg
  obtain⟨ok,ov,st⟩:=st
  obtain⟨f0,f1,f2,f3,f4,f5⟩:=hf it (by simp)
  have dat:=D.at_ s.heap (I.hok d _ hfz).1
  have hl:=KV.length D.kv
  obtain⟨kv,hkv⟩:∃kv,kvs[i]?=some kv:=⟨kvs[i],by simp [hi]⟩
  obtain⟨⟨k,x⟩,hx⟩:∃p,vs[i]?=some p:=⟨vs[i]'(by lia),by simp [show i<vs.length by lia]⟩
  obtain⟨hkk,rx⟩:kv.1=k∧RelV kv.2 x:=by
   have q:=k9 D.kv hkv
   obtain⟨p,hp,r⟩:=q
   rw[hx] at hp;cases hp
   exact r
  refine wpAny_pyNext_items_item st dat hx fun key h' hkey hout htup hsz hk=>?_
  have hitlt:it<s.heap.objs.size:=Heap.lt_size st
  refine⟨.ref s.heap.objs.size,rfl,wpAny_letOwnedTupleGo_items (s:={s with heap:=h'}) hout fun h'' hit'' hs''=>?_⟩
  have hs2:Heap.SameBut it h' h'':=hs''
  have kp:∀b o,b≠it→s.heap.get? b=some o→h''.get? b=some o:=fun b o hb e=>hs2.extBut b o hb (hk b o hb e)
  have tupAt:h''.get? s.heap.objs.size=some {cls:= .type "tuple",data:= .seq #[key,x]}:=hs2.extBut _ _ (Nat.ne_of_gt hitlt) htup
  have fresh:H s.heap.objs.size=none:=I.hok.fresh (Nat.le_refl _)
  have nsz:∀b o,s.heap.get? b=some o→b≠s.heap.objs.size:=fun b o e=>Nat.ne_of_lt (Heap.lt_size e)
  have hH:∀b u,H b=some u→b≠s.heap.objs.size∧b≠it:=fun b u e=>⟨d0 e fresh,d0 e f0⟩
  have hok:HOk X.prog X.w (i7 H s.heap.objs.size (.tup [kV kv.1,kv.2])) h'':=fun b u e=>by
   by_cases hb:b=s.heap.objs.size
   ·subst hb
    rw[c9] at e;cases e
    refine⟨by show 2≤sizeLine;decide,[key,x],.cons (by rw[hkk];exact Y2 hkey) (.cons rx .nil),⟨_,tupAt,rfl,_,rfl⟩⟩
   ·rw[b0 hb] at e
    refine(I.hok b u e).stay (fun c v hc q=>kp c v ?_ q) (fun c q=>by rw[b0 (hH c _ q).1];exact q) fun c xs q=>by rw[b0 (hH c _ q).1];exact q
    rcases hc with z|z
    ·rw[z];exact(hH b _ e).2
    ·exact(hH c _ z).2
  have I1:Inv X pins σ (i7 H s.heap.objs.size (.tup [kV kv.1,kv.2])) {s with heap:=h''}:=by
   refine I.call' (s':={s with heap:=h''}) (ch:=[it]) rfl ⟨fun b o e n hb hx=>kp b o (by simpa using hx) e,fun b o e n hb hx=>⟨o.slots,kp b o (by simpa using hx) e⟩,fun b o e n hx=>by rw[b0 (nsz b o e)];exact n,
    fun b o e hx=>⟨o,kp b o (by simpa using hx) e⟩,fun b xs e=>by rw[b0 (hH b _ e).1];exact e,fun b ob v e=>by rw[b0 (hH b _ e).1];exact e,fun b ps e=>⟨#[],by rw[b0 (hH b _ e).1];simpa using e⟩⟩ hok I.bare fun b hb=>?_
   have e:b=it:=by simpa using hb
   subst e
   exact⟨f3,f1,f4,f5⟩
  refine⟨.ref s.heap.objs.size,_,I1,rfl,⟨_,kv,hkv,fresh,rfl,rfl⟩,⟨_,_,hit''⟩,fun b hb=>?_⟩
  have e:b=it:=by simpa using hb
  subst e
  rw[b0 (Nat.ne_of_lt hitlt)];exact f0
 done:=by
  intro X hP hw hK hc i pins s σ H E I hf st hg
  subst hP hw hK
  obtain⟨hfz,hi⟩:=hg
  obtain⟨ok,ov,st⟩:=st
  obtain⟨f0,f1,f2,f3,f4,f5⟩:=hf it (by simp)
  have dat:=D.at_ s.heap (I.hok d _ hfz).1
  have hl:=KV.length D.kv
  exact wpAny_pyNext_items_end (I.ok.hd hc) st dat (by simp;lia) fun h' eb=>⟨rfl,I.turned (t':=s.toks) (fun b o hb e=>eb b o hb e) f0 f1 f3 f4 f5⟩
 self:=fun _ _ _ _ _ st h=>by
  obtain⟨ok,ov,st⟩:=st
  exact PySem.W.kcp_self st h
end
section
variable {X:Cx} {tg:Expr}
def rIterD (mk:Addr→Obj→List (d7×V)→It)(v:V)(H:Hp)(R:It→(Hp→Hp)→Hp→Prop):Prop:=
 ∃d kvs,v= .ref d∧((H d=some (.dK kvs)∧((kvs.map (·.1)).Nodup→∀o,R (mk d o kvs) (thaw d) (B1 d o kvs H)))∨(∃o,H d=some (.frz o (.dK kvs))∧((kvs.map (·.1)).Nodup→R (mk d o kvs) id H)))
theorem rIterD.go {mk:Addr→Obj→List (d7×V)→It}{x:V}{u:Value}{pins:List (Addr×Obj)}{σ:St}{H:Hp}{s:Shared}{R:It→(Hp→Hp)→Hp→Prop}(I:Inv X pins σ H s)(r:RelV x u)(h:rIterD mk x H R):
  ∃d kvs o vs ep th H',u= .ref d∧(d==sysModules)=false∧s.heap.get? d=some o∧qv X.prog X.w d o kvs vs ep∧Inv X pins σ H' s∧sV X th∧R (mk d o kvs) th H':=by
 obtain⟨d,kvs,e,h⟩:=h
 subst e
 cases r
 rcases h with⟨h,q⟩|⟨o,h,q⟩
 ·obtain⟨hd,o,vs,ep,ho,D⟩:=U0 I.hok (.inl h)
  refine⟨d,kvs,o,vs,ep,thaw d,_,rfl,hd,ho,D,I.freeze h ho,lT fun ob v z=>?_,q D.nd o⟩
  have z':=I.base.frzs d ob v z
  rw[h] at z';cases z'
 ·obtain⟨hd,o',vs,ep,ho,D⟩:=U0 I.hok (.inr ⟨o,h⟩)
  have e:=(I.hok d _ h).1
  rw[ho] at e;cases e
  exact⟨d,kvs,_,vs,ep,id,H,rfl,hd,ho,D,I,bz,q D.nd⟩
theorem rIter.mono {K:PySem.W.Frag}{v:V}{H:Hp}{R R':It→Hp→Prop}(h:rIter K v H R)(k:∀J H,R J H→R' J H):rIter K v H R':=by
 rcases h with⟨a,e,hq,q⟩|⟨a,e,hq,q⟩|⟨x,e,q⟩
 ·exact .inl ⟨a,e,hq,k _ _ q⟩
 ·exact .inr (.inl ⟨a,e,hq,k _ _ q⟩)
 ·exact .inr (.inr ⟨x,e,k _ _ q⟩)
abbrev Bl (d:Addr)(o:Obj)(kvs:List (d7×V)):It:=zV d o kvs fun kv=>kV kv.1
def tF (K:PySem.W.Frag)(v:V)(H:Hp)(R:It→(Hp→Hp)→Hp→Prop):Prop:=rIter K v H (fun J H'=>R J id H')∨rIterD Bl v H R
def zW (K:PySem.W.Frag)(tl:TE):gX:=fun σ H R=>tl σ H fun v H1=>tF K v H1 R
theorem yq {l:Expr}{tl:TE}(hl:PE X l tl):rC X tg l (zW X.K tl):=by
 intro pins s σ H R I h
 refine B5 (hl pins s σ H _ I h) fun v s1 ⟨x,H1,I1,r1,q1⟩=>?_
 rcases q1 with q1|q1
 ·exact oy I1 r1 (q1.mono fun J H' q=>⟨id,bz,q⟩)
 ·obtain⟨d,kvs,o,vs,ep,th,H',rfl,hd,ho,D,I2,hth,q⟩:=rIterD.go I1 r1 q1
  refine wpAny_pyIter_dict hd (D.at_ _ ho) ?_
  refine⟨s1.heap.objs.size,[s1.heap.objs.size],_,_,H',rfl,I2.kept (t':=s1.toks) fun b o e=>Heap.get?_push_of_some _ e,lH D _,⟨_,Heap.get?_push_size _ rfl,rfl,rfl⟩,fun b hb=>?_,th,hth,q⟩
  have e:b=s1.heap.objs.size:=by simpa using hb
  subst e
  exact I2.fpOk (Nat.le_refl _) (I2.hok.fresh (Nat.le_refl _))
def iT (tl:TE):gX:=fun σ H R=>tl σ H fun v H1=>rIterD xW v H1 R
theorem pO {elts:List Expr}{x1}{tpos:Pos}{o:Expr}{tl:TE}{apos cpos:Pos}(ho:PE X o tl)
  (hbase:attributeBase o "items" X.env (eval o X.env)=eval o X.env:=by rfl) (hline:(apos.endLine==cpos.line)=true:=by rfl):
  rC X (.Tuple elts x1 tpos) (.Call (.Attribute o "items" apos) [] [] cpos) (iT tl):=by
 intro pins s σ H R I h
 refine wpAny_Call_method0_late hbase hline (B5 (ho pins s σ H _ I h) fun v s1 ⟨x,H1,I1,r1,q1⟩=>?_)
 obtain⟨d,kvs,ob,vs,ep,th,H',rfl,hd,hob,D,I2,hth,q⟩:=rIterD.go I1 r1 q1
 have dof:=(D.at_ _ hob).dictOf
 refine⟨"dict","dict.items",F.plainAttrs_dict,F.slot_dict_items,F.type_dict_items,dof.typeIs,dof.mapOf.noDict,Calls.callWith_builtin rfl (PySem.evalArgs_none ?_)⟩
 refine call_meetsIn F.slot_dict_items dof.typeIs F.entry_dict_items (F.args_dict_items_1 _) (meets_dict_items (h8 X.prog X.w) d hd) ⟨⟨vs,dof⟩,?_⟩
 have I3:Inv X pins σ H' {s1 with heap:=s1.heap.push {cls:= .type "dict_items",data:= .fields #[.ref d]}}:=I2.kept (t':=s1.toks) fun b o e=>Heap.get?_push_of_some _ e
 refine wpAny_pyIter_items (s:={s1 with heap:=s1.heap.push {cls:= .type "dict_items",data:= .fields #[.ref d]}}) (knd:=h8 X.prog X.w) ⟨_,Heap.get?_push_size _ rfl,rfl,rfl⟩ (D.at_ _ (Heap.get?_push_of_some _ hob)) ?_
 generalize hG:s1.heap.push {cls:= .type "dict_items",data:= .fields #[.ref d]}=G at I3⊢
 refine⟨G.objs.size,[G.objs.size],_,_,H',rfl,I3.kept (t':=s1.toks) fun b o e=>Heap.get?_push_of_some _ e,jh D _,⟨.none,.none,Heap.get?_push_size _ rfl⟩,fun b hb=>?_,th,hth,q⟩
 have e:b=G.objs.size:=by simpa using hb
 subst e
 exact I3.fpOk (Nat.le_refl _) (I3.hok.fresh (Nat.le_refl _))
end
end L2
set_option Elab.async false
set_option linter.all false
set_option maxRecDepth 100000
set_option maxHeartbeats 4000000
namespace L2
open PySem PySem.Spec PyProof.Rows
section
variable {J:It} {th:Hp→Hp} {n:Nat} {g:TG} {tb:TS} {nx bk ct:St→Hp→Prop} {rt:VK} {σ:St} {H:Hp} {own:List Str} {js:List Nat} {ti:TT} {te:TE} {Q:VK} {K:PySem.W.Frag}
theorem aw (Pv:Nat→St→Hp→Prop)(h0:Pv 0 σ H)(hgo:∀i σ H,i<n→Pv i σ H→J.go i H)
  (hs:∀i x σ H H',i<n→Pv i σ H→J.yld i H x H'→g x σ H' fun σ2 H2=>tb ⟨Pv (i+1),fun v H=>rt v (th H),fun σ H=>nx σ (th H),Pv (i+1)⟩ σ2 H2)
  (hd:∀σ H,Pv n σ H→J.stop n H∧nx σ (th H)):
  sE J th g tb nx rt σ H:=by
 refine⟨fun i m σ H=>m=n -i∧i≤n∧Pv i σ H,⟨n,by simp,Nat.zero_le _,h0⟩,?_⟩
 rintro i m σ H ⟨rfl,hi,p⟩
 by_cases hlt:i<n
 ·exact .inr ⟨hgo i σ H hlt p,Pv (i+1),fun σ' H' p'=>⟨n -(i+1),by lia,rfl,hlt,p'⟩,fun x H' y=>hs i x σ H H' hlt p y⟩
 ·have e:i=n:=by lia
  subst e
  exact .inl (hd σ H p)
theorem y6 (Pv:Nat→List V→Hp→Prop)(h0:Pv 0 [] H)(hgo:∀i out H,i<n→Pv i out H→J.go i H)
  (hs:∀(N:List V→Hp→Prop) i x out H H',i<n→Pv i out H→J.yld i H x H'→(∀out' H',Pv (i+1) out' H'→N out' H')→g x (qo own js σ) H' fun σ2 H2=>σ2.drop own.length=js.map (fun j=>(σ[j]?).join)∧ti σ2 H2 fun b H3=>
   if b=true then te σ2 H3 fun v H4=>out.length≤sizeLine∧N (out++[v]) H4 else N out H3)
  (hd:∀out H,Pv n out H→J.stop n H∧∀D,H D=none→out.length≤sizeLine∧Q (.ref D) (th (i7 H D (.lst out)))):
  pY own js J th g ti te Q σ H:=by
 refine⟨fun i m out H=>m=n -i∧i≤n∧Pv i out H,⟨n,by simp,Nat.zero_le _,h0⟩,?_⟩
 rintro i m out H ⟨rfl,hi,p⟩
 by_cases hlt:i<n
 ·exact .inr ⟨hgo i out H hlt p,fun x H' y=>hs (fun out' H'=>∃m',m'<n -i∧m'=n -(i+1)∧i+1≤n∧Pv (i+1) out' H') i x out H H' hlt p y fun out' H' q=>⟨n -(i+1),by lia,rfl,hlt,q⟩⟩
 ·have e:i=n:=by lia
  subst e
  exact .inl (hd out H p)
theorem yb {wi:gX}(q:wi σ H fun J th H1=>sE J th g tb nx rt σ H1):pF wi g tb ⟨nx,rt,bk,ct⟩ σ H:=q
theorem vB {wi:gX}(q:wi σ H fun J th H1=>pY own js J th g ti te Q σ H1):cI own js wi g ti te σ H Q:=q
theorem zf {Qb:Bool→Hp→Prop}(q:Qb true H):vM σ H Qb:=q
theorem Ag {tl:TE}{R:It→(Hp→Hp)→Hp→Prop}(q:tl σ H fun v H1=>tF K v H1 R):zW K tl σ H R:=q
theorem y4 {a:Addr}{xs:List V}{R:It→(Hp→Hp)→Hp→Prop}(h:SqL K H a xs)(q:R (Itl K a) id H):tF K (.ref a) H R:= .inl (.inl ⟨a,rfl,⟨xs,h⟩,q⟩)
theorem bN {d:Addr}{kvs:List (d7×V)}{R:It→(Hp→Hp)→Hp→Prop}(h:H d=some (.dK kvs))(q:(kvs.map (·.1)).Nodup→∀o,R (Bl d o kvs) (thaw d) (B1 d o kvs H)):tF K (.ref d) H R:=
 .inr ⟨d,kvs,rfl,.inl ⟨h,q⟩⟩
theorem rM {tl:TE}{R:It→(Hp→Hp)→Hp→Prop}(q:tl σ H fun v H1=>rIterD xW v H1 R):iT tl σ H R:=q
theorem F6 {d:Addr}{kvs:List (d7×V)}{R:It→(Hp→Hp)→Hp→Prop}(h:H d=some (.dK kvs))(q:(kvs.map (·.1)).Nodup→∀o,R (xW d o kvs) (thaw d) (B1 d o kvs H)):rIterD xW (.ref d) H R:=⟨d,kvs,rfl,.inl ⟨h,q⟩⟩
theorem wx {ta:TA}{R:It→Hp→Prop}(q:ta σ H fun vs H1=>∃j:Int,vs=[.int j]∧-(2 ^ 62)≤j∧j<2 ^ 62∧R (zS 0 j.toNat) H1):pb ta σ H R:=q
theorem T8 {i:Int}{R:Int→Prop}(h0:0≤i)(h1:i<1000000)(q:R i):∃j:Int,[V.int i]=[.int j]∧-(2 ^ 62)≤j∧j<2 ^ 62∧R j:=⟨i,rfl,by lia,by lia,q⟩
theorem C8 {p:Prop}[Decidable p]{A B:Prop}(h1:p→A)(h2:¬p→B):if decide p=true then A else B:=by
 by_cases h:p
 ·rw[if_pos (decide_eq_true h)];exact h1 h
 ·rw[if_neg (by simp [h])];exact h2 h
theorem bK {p:Prop}[Decidable p]{A B:Prop}(h1:¬p→A)(h2:p→B):if(!decide p)=true then A else B:=by
 by_cases h:p
 ·rw[if_neg (by simp [h])];exact h2 h
 ·rw[if_pos (by simp [h])];exact h1 h
theorem L9 {b:Bool}{A B:Prop}(h1:b=true→A)(h2:b=false→B):if b=true then A else B:=by
 cases b with
 |true=>rw[if_pos rfl];exact h1 rfl
 |false=>rw[if_neg Bool.false_ne_true];exact h2 rfl
theorem tp {b:Bool}{A B:Prop}(h1:b=false→A)(h2:b=true→B):if(!b)=true then A else B:=by
 cases b with
 |true=>rw[if_neg (by simp)];exact h2 rfl
 |false=>rw[if_pos (by simp)];exact h1 rfl
theorem yh {A B:Prop}(h:A):if(!false)=true then A else B:=by rw[if_pos (by rfl)];exact h
theorem yR {A B:Prop}(h:B):if(!true)=true then A else B:=by rw[if_neg (by decide)];exact h
theorem uJ {t u:TS}(P:St→Hp→Prop)(h1:∀σ H,P σ H→u ⟨nx,rt,bk,ct⟩ σ H)(h2:∀nx':St→Hp→Prop,(∀σ H,P σ H→nx' σ H)→t ⟨nx',rt,bk,ct⟩ σ H):ox t u ⟨nx,rt,bk,ct⟩ σ H:=h2 _ h1
theorem b5 {o:HO}{p:Addr}(hp:H p=none):∃H',i7 H p o=H'∧H' p=some o∧Same H H'∧∀b,b≠p→H' b=H b:=⟨_,rfl,c9,fun b u e=>by rw[b0 (d0 e hp)];exact e,fun b hb=>b0 hb⟩
theorem eF {α:Type}{xs:List α}{i:Int}(h0:0≤i)(h1:i<xs.length):∃v,kl xs i=some v∧xs[i.toNat]?=some v:=by
 obtain⟨j,rfl⟩:=Int.eq_ofNat_of_zero_le h0
 have hj:j<xs.length:=by lia
 exact⟨xs[j],b9 (by simp [hj]),by simp [hj]⟩
theorem rJ (x y:Str):(x++y).length=x.length+y.length:=by
 show(x.cps++y.cps).size=_
 simp [Str.length]
theorem bA (c:Nat):(⟨#[c]⟩:Str).length=1:=rfl
theorem d6 {n:Nat}(h:n≤1000):n≤sizeLine:=Nat.le_trans h (by decide)
theorem Same.rd {H H':Hp}{a:Addr}{u:HO}(s:Same H H')(h:Rd H a u):Rd H' a u:=by
 rcases h with h|⟨o,h⟩
 ·exact .inl (s _ _ h)
 ·exact .inr ⟨o,s _ _ h⟩
theorem Same.tup {H H':Hp}{a:Addr}{xs:List V}(s:Same H H')(h:SqT K H a xs):SqT K H' a xs:=by
 rcases h with h|h
 ·exact .inl (s.rd h)
 ·exact .inr h
theorem Itl.get {a:Addr}{xs:List V}{i:Nat}{H H':Hp}{v:V}(h:(Itl K a).yld i H v H')(hx:SqL K H a xs):H'=H∧xs[i]?=some v:=⟨h.1,h.2 xs hx⟩
theorem U8 {α β:Type}{l:List α}{i:Nat}{a:α}(f:α→β)(h:l[i]?=some a):(l.take i).map f++[f a]=(l.take (i+1)).map f:=by
 rw[List.take_succ,h];simp
end
end L2
set_option Elab.async false
set_option linter.all false
set_option maxRecDepth 100000
set_option maxHeartbeats 4000000
namespace L2
open PySem PySem.Spec PyProof.Rows
section
variable {X:Cx} (K:PySem.W.Frag) {a e:Expr} {ta te:TE} {tg:Expr} {pos:Pos}
theorem S7 (h:X.K=K:=by rfl):OpR X (binaryOp .Add) (gL K):=h▸sd
theorem kIn (hu:X.A.units+1<cLine)(h:X.K=K:=by rfl):OpR X (compareOp .In) (sv K):=h▸xi hu
theorem iM (hu:X.A.units+1<cLine)(h:X.K=K:=by rfl):OpR X (compareOp .NotIn) (eZ K):=h▸mW hu
theorem p7 (hu:X.A.units+1<cLine)(h:X.K=K:=by rfl):IxR X (iD K):=h▸vF hu
theorem yu (h:X.K=K:=by rfl):SlR X (zY K):=h▸xo
theorem AU (hc:X.calm=true)(h:X.K=K:=by rfl):CallR X (.builtin "all") (tU K):=h▸lz hc
def vY (ta:TE):TT:=fun σ H Q=>ta σ H fun x H'=>∃k,pz K x H' k∧Q k H'
theorem Af (ha:PE X a ta)(h:X.K=K:=by rfl)(he:∀whole,isTrue a X.env whole=(do let v←whole;standAt a.pos;holding [v] (truthy v)):=by intro _;rfl):PT X a (vY K ta):=h▸qW ha he
theorem wK {σ:St}{H:Hp}{Qb:Bool→Hp→Prop}(q:ta σ H fun x H'=>∃k,pz K x H' k∧Qb k H'):vY K ta σ H Qb:=q
theorem BE (hl:PE X a ta)(h:X.K=K:=by rfl):rC X tg a (zW K ta):=h▸yq hl
theorem AN {es:List Expr}{k:Nat}{t:je}{n:Nat}(hc:X.calm=true)(hg:ub X es t)(h:X.K=K:=by rfl)
  (hn:(assignEach es X.env).length=n:=by rfl) (hst:(assignEach es X.env).findIdx? (·.1)=none:=by rfl):PG X (.Tuple es k pos) (rj K n t):=h▸wW hc hg hn hst
end
end L2
set_option Elab.async false
set_option linter.all false
set_option maxRecDepth 100000
set_option maxHeartbeats 4000000
namespace L2
open PySem PySem.Spec PyProof.Rows
def i8:Expr→Bool
 | .Starred _ _=>false
 |_=>true
def t4 (es:List Expr):Bool:=es.all i8
theorem E5 {e:Expr}{es:List Expr}{env:Env}(h:i8 e=true):starEach (e::es) env=(false,eval e env)::starEach es env:=by
 cases e<;>first|rfl|cases h
theorem aG {env:Env}{pos:Pos}:∀{es:List Expr},t4 es=true→(backTo pos (starEach es env)).any (·.1)=false
 |[],_=>rfl
 |e::es,h=>by
  have h':(i8 e&&t4 es)=true:=h
  rw[Bool.and_eq_true] at h'
  rw[E5 h'.1]
  show(false||(backTo pos (starEach es env)).any (·.1))=false
  rw[aG h'.2];rfl
theorem kh {e:Expr}{es:List Expr}{env:Env}(h:i8 e=true):assignEach (e::es) env=(false,assign e env)::assignEach es env:=by
 cases e<;>first|rfl|cases h
theorem oE {env:Env}:∀{es:List Expr},t4 es=true→(assignEach es env).length=es.length
 |[],_=>rfl
 |e::es,h=>by
  have h':(i8 e&&t4 es)=true:=h
  rw[Bool.and_eq_true] at h'
  rw[kh h'.1,List.length_cons,oE h'.2,List.length_cons]
theorem pA {env:Env}:∀{es:List Expr},t4 es=true→(assignEach es env).findIdx? (·.1)=none
 |[],_=>rfl
 |e::es,h=>by
  have h':(i8 e&&t4 es)=true:=h
  rw[Bool.and_eq_true] at h'
  rw[kh h'.1,List.findIdx?_cons]
  simp [pA h'.2]
section
variable {X:Cx} {K:PySem.W.Frag} {e:Expr} {es:List Expr} {te:TE} {t:TA} {x:Str} {p pos:Pos} {id T:String} {r:List V→Hp→VK→Prop}
theorem Br (ha:PE X e te)(hr:PA X es t)(h:i8 e=true:=by rfl):PA X (e::es) (jL te t):=tW ha hr (E5 h)
theorem cB (hc:CallR X (.builtin id) r)(hm:X.mg x=none)(hv:bootBuiltins x=some (.builtin id))(ha:PA X (e::es) t)(hg:Gl X x:=by rfl)(hn:x≠"__name__":=by decide)(hdb:(x==("__debug__":Str))=false:=by decide)
  (h:t4 (e::es)=true:=by rfl):PE X (.Call (.Name x p) (e::es) [] pos) (wQ r t):=by
 have h':(i8 e&&t4 es)=true:=h
 rw[Bool.and_eq_true] at h'
 exact oD hc hg hm hv ha hn hdb (E5 h'.1) (aG h'.2)
theorem BD (hc:CallR X (.type T) r)(hm:X.mg x=none)(hv:bootBuiltins x=some (.type T))(ha:PA X (e::es) t)(hg:Gl X x:=by rfl)(hn:x≠"__name__":=by decide)(hdb:(x==("__debug__":Str))=false:=by decide)
  (h:t4 (e::es)=true:=by rfl):PE X (.Call (.Name x p) (e::es) [] pos) (wQ r t):=by
 have h':(i8 e&&t4 es)=true:=h
 rw[Bool.and_eq_true] at h'
 exact mr hc hg hm hv ha hn hdb (E5 h'.1) (aG h'.2)
theorem cC {CX:ig}{k:Nat}{ps:List Str}{dvs:List V}{sp:Sp}{E:XK}(C:V0 X.prog X.w X.K X.mg X.base CX k x ps dvs sp)(hr:Room k X.A)(hx:aA CX X E)(ha:PA X (e::es) t)(hg:Gl X x:=by rfl)
  (hdb:(x==("__debug__":Str))=false:=by decide) (h:t4 (e::es)=true:=by rfl):PE X (.Call (.Name x p) (e::es) [] pos) (gF sp dvs E t):=by
 have h':(i8 e&&t4 es)=true:=h
 rw[Bool.and_eq_true] at h'
 exact qe C hr hx ha hg hdb (E5 h'.1) (aG h'.2)
theorem gT {tg:Expr}{k:Nat}{u:je}(hc:X.calm=true)(hg:ub X es u)(hK:X.K=K:=by rfl)(h:t4 es=true:=by rfl):PG X (.Tuple es k pos) (rj K es.length u):=AN K hc hg hK (oE h) (pA h)
theorem gC {g:TG}{u:je}(h1:PG X e g)(h2:ub X es u)(h:i8 e=true:=by rfl):ub X (e::es) (gZ g u):=pd h1 h2 (by rw[kh h];rfl)
end
end L2
set_option Elab.async false
set_option linter.all false
set_option maxRecDepth 100000
set_option maxHeartbeats 4000000
namespace L2
open PySem PySem.Spec PyProof.Rows
structure QE (X:Cx) (e:Expr) (t:TE):Prop where
 r:PE X e t
structure QT (X:Cx) (e:Expr) (t:TT):Prop where
 r:PT X e t
structure QW (X:Cx) (e:Expr) (t:TT):Prop where
 r:PW X e t
structure QA (X:Cx) (es:List Expr) (t:TA):Prop where
 r:PA X es t
structure QS (X:Cx) (st:Stmt) (t:TS):Prop where
 r:PS X st t
structure QSs (X:Cx) (st:List Stmt) (t:TS):Prop where
 r:PSs X st t
structure QG (X:Cx) (tg:Expr) (t:TG):Prop where
 r:PG X tg t
structure zO (X:Cx) (tg:List Expr) (t:je):Prop where
 r:ub X tg t
structure QI (X:Cx) (tg iter:Expr) (t:gX):Prop where
 r:rC X tg iter t
structure zZ (X:Cx) (ifs:List Expr) (t:TT):Prop where
 r:jt X ifs t
structure QO (X:Cx) (e:Option Expr) (t:TO):Prop where
 r:PO X e t
structure QP (X:Cx) (pos:Pos) (keys:List (Option Expr)) (values:List Expr) (trs:List (TE×TE)):Prop where
 r:BJ X pos keys values trs
section
variable {X:Cx} {a b c e o:Expr} {es:List Expr} {ta tb tc te to:TE} {tA tB':TT} {t:TA} {Q5:List Expr} {pos apos cpos p2:Pos} {x:Str} {p:Pos} {bid T:String}
theorem mn {j}:QE X (.Constant .none j pos) (tC .non):=⟨vD⟩
theorem uL {b:Bool}{j}:QE X (.Constant (.bool b) j pos) (tC (.bl b)):=⟨zo⟩
theorem d9 {i:Int}{j}:QE X (.Constant (.int i) j pos) (tC (.int i)):=⟨oa⟩
theorem nL {x:Str}{j}:QE X (.Constant (.str x) j pos) (tC (.str x)):=⟨vV⟩
theorem qV (i:Nat)(hN:X.N[i]?=some x:=by rfl)(hv:AG X.env.scope x:=by first|exact Or.inl rfl|exact Or.inr (Or.inl rfl)|exact Or.inr (Or.inr rfl))(hd:(x==("__debug__":Str))=false:=by decide)
  (hcd:(x==("__classdict__":Str))=false:=by decide):QE X (.Name x pos) (tq i):=⟨uY hN hv hd hcd⟩
theorem BB (n:String)(hm:X.mg x=none)(hv:bootBuiltins x=some (.type n))(hg:Gl X x:=by rfl)(hn:x≠"__name__":=by decide)(hd:(x==("__debug__":Str))=false:=by decide):QE X (.Name x pos) (tC (.ty n)):=⟨rO hg hm hv rfl hn hd⟩
theorem D6 {op:Operator}{r:R2}(ho:OpR X (binaryOp op) r)(ha:QE X a ta)(hb:QE X b tb):QE X (.BinOp a op b pos) (rQ r ta tb):=⟨yW ho ha.r hb.r⟩
theorem yJ {op}(h:QE X a ta):QE X (.BoolOp op [a] pos) ta:=⟨xl h.r⟩
theorem yB (ha:QE X a ta)(hb:QE X (.BoolOp .And (b::Q5) pos) tb):QE X (.BoolOp .And (a::b::Q5) pos) (pG ta tb):=⟨xH ha.r hb.r⟩
theorem bW {op:CmpOp}{r:R2}(ho:OpR X (compareOp op) r)(ha:QE X a ta)(hb:QE X b tb)(hm:behindInMarks op b=false):QE X (.Compare a [op] [b] pos) (rQ r ta tb):=⟨tV ho ha.r hb.r hm⟩
theorem p6 {op:CmpOp}{r:R2}(ho:OpR X (compareOp op) r)(ha:QE X a ta)(hb:QE X b tb)(hm:behindInMarks op b=false):QT X (.Compare a [op] [b] pos) (oT (rQ r ta tb)):=⟨tK ho ha.r hb.r hm⟩
theorem xS (hc:QT X c tA)(ha:QE X a ta)(hb:QE X b tb):QE X (.IfExp c a b pos) (AW tA ta tb):=⟨rg hc.r ha.r hb.r⟩
theorem zU:QO X none fK:=⟨sX⟩
theorem xN (h:QE X e te):QO X (some e) (nW te):=⟨rN h.r⟩
theorem xY {lo hi:Option Expr}{tl th:TO}{r:V→Option Int→Option Int→Hp→VK→Prop}(hr:SlR X r)(he:QE X e te)(hl:QO X lo tl)(hu:QO X hi th):QE X (.Subscript e (.Slice lo hi none p2) pos) (AI r te tl th):=⟨qZ hr he.r hl.r hu.r⟩
theorem p8 {r:R2}(hr:IxR X r)(ha:QE X a ta)(hb:QE X b tb)(hs:kz b):QE X (.Subscript a b pos) (rQ r ta tb):=⟨yQ hr ha.r hb.r hs⟩
theorem aX (h:QA X es t):QE X (.List es pos) (vw t):=⟨vN h.r⟩
theorem O1 {x1}(h:QA X es t):QE X (.Tuple es x1 pos) (wI t):=⟨vH h.r⟩
theorem ug:QE X (.Dict [] [] pos) og:=⟨qI⟩
theorem i5:QA X [] sS:=⟨vx⟩
theorem h7 (ha:QE X e te)(hr:QA X es t)(h:i8 e=true:=by rfl):QA X (e::es) (jL te t):=⟨Br ha.r hr.r h⟩
theorem qB {r:List V→Hp→VK→Prop}(hc:CallR X (.builtin bid) r)(hm:X.mg x=none)(hv:bootBuiltins x=some (.builtin bid))(ha:QA X (e::es) t)(hg:Gl X x:=by rfl)(hn:x≠"__name__":=by decide)(hdb:(x==("__debug__":Str))=false:=by decide)
  (h:t4 (e::es)=true:=by rfl):QE X (.Call (.Name x p) (e::es) [] pos) (wQ r t):=⟨cB hc hm hv ha.r hg hn hdb h⟩
theorem cK {r:List V→Hp→VK→Prop}(hc:CallR X (.type T) r)(hm:X.mg x=none)(hv:bootBuiltins x=some (.type T))(ha:QA X (e::es) t)(hg:Gl X x:=by rfl)(hn:x≠"__name__":=by decide)(hdb:(x==("__debug__":Str))=false:=by decide)
  (h:t4 (e::es)=true:=by rfl):QE X (.Call (.Name x p) (e::es) [] pos) (wQ r t):=⟨BD hc hm hv ha.r hg hn hdb h⟩
theorem qC {CX:ig}{k:Nat}{ps:List Str}{dvs:List V}{sp:Sp}{E:XK}(C:V0 X.prog X.w X.K X.mg X.base CX k x ps dvs sp)(hr:Room k X.A)(hx:aA CX X E)(ha:QA X (e::es) t)(hg:Gl X x:=by rfl)
  (hdb:(x==("__debug__":Str))=false:=by decide) (h:t4 (e::es)=true:=by rfl):QE X (.Call (.Name x p) (e::es) [] pos) (gF sp dvs E t):=⟨cC C hr hx ha.r hg hdb h⟩
theorem qM {name:Str}{r:V→List V→Hp→VK→Prop}(pa:PlainAttrs T)(slot:Slot T name bid)(hty:typeOf (.builtin bid)=pure (.type "method_descriptor"))(hm:rp X bid r)(K:PySem.W.Frag)(ho:QE X o to)(ha:QA X (e::es) t)(hK:X.K=K:=by rfl)
  (hbase:attributeBase o name X.env (eval o X.env)=eval o X.env:=by rfl)
  (h:t4 (e::es)=true:=by rfl) (h2:decide ((e::es).length<30)=true:=by rfl) (hline:(apos.endLine==cpos.line)=true:=by rfl):QE X (.Call (.Attribute o name apos) (e::es) [] cpos) (Av K T r to t):=by
 have h':(i8 e&&t4 es)=true:=h
 rw[Bool.and_eq_true] at h'
 have hall:∀{l:List Expr},t4 l=true→(backTo cpos (starEach l X.env)).all (fun x=>!x.1)=true:=fun{l} hl=>by
  have q:=aG (env:=X.env) (pos:=cpos) hl
  rw[List.all_eq_true]
  intro y hy
  rw[List.any_eq_false] at q
  simpa using q y hy
 subst hK
 refine⟨zi pa slot hty hm ho.r ha.r hbase ?_ hline (E5 h'.1) (aG h'.2)⟩
 rw[hall h]
 show(true&&true&&decide ((e::es).length+0+0<30))=true
 simpa using h2
theorem Ad {name:Str}{r:V→List V→Hp→VK→Prop}(pa:PlainAttrs T)(slot:Slot T name bid)(hty:typeOf (.builtin bid)=pure (.type "method_descriptor"))(hm:rp X bid r)(K:PySem.W.Frag)(ho:QE X o to)(hK:X.K=K:=by rfl)
  (hbase:attributeBase o name X.env (eval o X.env)=eval o X.env:=by rfl) (hline:(apos.endLine==cpos.line)=true:=by rfl):QE X (.Call (.Attribute o name apos) [] [] cpos) (uT K T r to):=⟨hK▸wX pa slot hty hm ho.r hbase hline⟩
theorem Q2 {own:List Str}{js:List Nat}{scope:Scope}{tg iter elt:Expr}{ifs:List Expr}{g:TG}{ti:TT}{wi:gX}(S:xR X own js scope=true)(hc:X.calm=true)(hit:QI X tg iter wi)
  (hg:∀C s H fp,QG (V1 X own js scope C s H fp) tg g) (hi:∀C s H fp,zZ (V1 X own js scope C s H fp) ifs ti) (he:∀C s H fp,QE (V1 X own js scope C s H fp) elt te)
  (hs:∀x,foldedSetIterable iter X.env x=pure x:=by intro _;rfl):QE X (.ListComp elt [⟨tg,iter,ifs,0⟩] scope pos) (cI own js wi g ti te):=
 ⟨lh S hc hit.r (fun C s H fp=>(hg C s H fp).r) (fun C s H fp=>(hi C s H fp).r) (fun C s H fp=>(he C s H fp).r) hs⟩
theorem gR:zZ X [] vM:=⟨zI⟩
theorem eQ (h:QT X c tA):zZ X [c] tA:=⟨Ay h.r⟩
theorem kO (ha:QT X a tA):QT X (.UnaryOp .Not a pos) (wV tA):=⟨vJ ha.r⟩
theorem ah (K:PySem.W.Frag)(ha:QE X a ta)(h:X.K=K:=by rfl)(he:∀whole,isTrue a X.env whole=(do let v←whole;standAt a.pos;holding [v] (truthy v)):=by intro _;rfl):QT X a (vY K ta):=⟨Af K ha.r h he⟩
theorem rB (h:QW X a tA):QT X a tA:=⟨h.r.pt⟩
theorem jo (ha:QT X a tA):QW X (.BoolOp .And [a] pos) tA:=⟨sI ha.r⟩
theorem cA (ha:QT X a tA):QW X (.BoolOp .Or [a] pos) tA:=⟨wZ ha.r⟩
theorem oi (ha:QT X a tA)(hb:QW X (.BoolOp .And (b::Q5) pos) tB'):QW X (.BoolOp .And (a::b::Q5) pos) (vC tA tB'):=⟨xq ha.r hb.r⟩
theorem iQ (ha:QT X a tA)(hb:QW X (.BoolOp .Or (b::Q5) pos) tB'):QW X (.BoolOp .Or (a::b::Q5) pos) (Ae tA tB'):=⟨yA ha.r hb.r⟩
theorem M8 {i:Nat}(hN:X.N.Nodup)(hi:X.N[i]?=some x)(hx:uv X.env.scope x)(hf:X.fn x=true∨X.env.scope.names.lookup x=some .local:=by first|exact .inl rfl|exact .inr rfl|assumption):QG X (.Name x pos) (K6 i):=⟨rP hN hi hx hf⟩
theorem vP:zO X [] xm:=⟨rT⟩
theorem jy {g:TG}{u:je}(h1:QG X e g)(h2:zO X es u)(h:i8 e=true:=by rfl):zO X (e::es) (gZ g u):=⟨gC h1.r h2.r h⟩
theorem xh (K:PySem.W.Frag){k:Nat}{u:je}(hc:X.calm=true)(hg:zO X es u)(hK:X.K=K:=by rfl)(h:t4 es=true:=by rfl):QG X (.Tuple es k pos) (rj K es.length u):=⟨gT (tg:= .Name Str.empty pos) hc hg.r hK h⟩
theorem kE {i:Expr}{ti:TE}{u:jC}(ho:QE X o to)(hi:QE X i ti)(hs:nr X u)
  (ha:∀v,assign (.Subscript o i pos) X.env v=(do
   let ov←holding [v] (eval o X.env)
   let iv←holding [v,ov] (eval i X.env)
   standAt pos
   holding [v,ov,iv] (setItem ov iv v)
   release [v,ov,iv] []):=by intro _;rfl):QG X (.Subscript o i pos) (iW to ti u):=⟨vK ho.r hi.r hs ha⟩
theorem S4 (K:PySem.W.Frag){tg:Expr}(hl:QE X a ta)(h:X.K=K:=by rfl):QI X tg a (zW K ta):=⟨BE K hl.r h⟩
def vO (wi:TI):gX:=fun σ H R=>wi σ H fun J H'=>R J id H'
theorem yO {wi:TI}{σ:St}{H:Hp}{R:It→(Hp→Hp)→Hp→Prop}(q:wi σ H fun J H'=>R J id H'):vO wi σ H R:=q
theorem mI {tg:Expr}(hm:X.mg "range"=none)(ha:QA X [a] t)(hg:Gl X "range":=by rfl)(h:i8 a=true:=by rfl):QI X tg (.Call (.Name "range" p) [a] [] pos) (vO (pb t)):=⟨(ng hg hm ha.r (E5 h)).two⟩
theorem av {elts:List Expr}{x1}{tpos:Pos}(ho:QE X o to)
  (hbase:attributeBase o "items" X.env (eval o X.env)=eval o X.env:=by rfl) (hline:(apos.endLine==cpos.line)=true:=by rfl):QI X (.Tuple elts x1 tpos) (.Call (.Attribute o "items" apos) [] [] cpos) (iT to):=⟨pO ho.r hbase hline⟩
variable {st:Stmt} {sts body orelse:List Stmt} {u u':TS} {g:TG}
theorem cR:QSs X [] qS:=⟨tT⟩
theorem C2 (h:QS X st u):QSs X [st] u:=⟨tQ h.r⟩
theorem v8 (h1:QS X st u)(h2:QSs X sts u'):QSs X (st::sts) (ox u u'):=⟨rl h1.r h2.r⟩
theorem l0 {i:Nat}{pos':Pos}(hN:X.N.Nodup)(hi:X.N[i]?=some x)(hx:uv X.env.scope x)(he:QE X e te)(hs:swapsWith e (some (.Name x pos')) pos.line X.env=pure false:=by rfl)(hf:X.fn x=true∨X.env.scope.names.lookup x=some .local:=by first|exact .inl rfl|exact .inr rfl):
  QS X (.Assign [.Name x pos'] e pos) (jF te (K6 i)):=⟨uX hN hi hx he.r hs hf⟩
theorem Y0 {tg:Expr}(he:QE X e te)(hg:QG X tg g)(hs:swapsWithSole [tg] e pos.line X.env=pure false:=by rfl)(hw:swappedStores [tg] e X.env=pure none:=by rfl)(h:i8 tg=true:=by rfl):QS X (.Assign [tg] e pos) (jF te g):=
 ⟨vq he.r hg.r hs hw (by rw[kh h];rfl)⟩
theorem bD (hc:QT X c tA)(ht:QSs X body u)(he:QSs X orelse u'):QS X (.If c body orelse pos) (vZ tA u u'):=⟨yr hc.r ht.r he.r⟩
theorem z9 (he:QE X e te):QS X (.Return (some e) pos) (vg te):=⟨wY he.r⟩
theorem xa (he:QE X e te)(hs:swapsWith e none pos.line X.env=pure false:=by rfl):QS X (.Expr e pos) (qK te):=⟨tH he.r hs⟩
theorem X3 {tg iter:Expr}{wi:gX}(hp:PassesOwn (model X.prog X.w) X.A X.env X.xe)(hc:X.calm=true)(hi:QI X tg iter wi)(hg:QG X tg g)(hb:QSs X body u)(hs:∀x,foldedSetIterable iter X.env x=pure x:=by intro _;rfl):QS X (.For tg iter body [] pos) (pF wi g u):=
 ⟨rH hp hc hi.r hg.r hb.r hs⟩
theorem vW (hp:PassesOwn (model X.prog X.w) X.A X.env X.xe)(hc:QT X c tA)(hb:QSs X body u):QS X (.While c body [] pos) (rn tA u):=⟨pf hp hc.r hb.r⟩
end
end L2
set_option Elab.async false
set_option linter.all false
set_option maxRecDepth 100000
set_option maxHeartbeats 4000000
namespace L2
open PySem PySem.Spec PyProof.Rows
theorem O3:∀{ss:List Str} {us:List Value},Vals (ss.map V.str) us→StrsAre us ss
 |[],_,.nil=> .nil
 |x::ss,_,.cons r t=>by
  obtain⟨k,rfl⟩:=r
  exact .cons x k (O3 t)
theorem O7:∀{us:List Value} {ss:List Str},StrsAre us ss→Vals (ss.map V.str) us
 |_,_,.nil=> .nil
 |_,_,.cons y t r=> .cons ⟨t,rfl⟩ (O7 r)
theorem F5:∀{xs:List V} {us:List Value},xs.length=us.length→(∀(i:Nat) x u,xs[i]?=some x→us[i]?=some u→RelV x u)→Vals xs us
 |[],[],_,_=> .nil
 |[],_::_,h,_=>by simp at h
 |_::_,[],h,_=>by simp at h
 |x::xs,u::us,h,k=> .cons (k 0 x u rfl rfl) (F5 (by simpa using h) fun i y v e1 e2=>k (i+1) y v (by simpa using e1) (by simpa using e2))
section
variable {X:Cx}
theorem Inv.newL {pins:List (Addr×Obj)}{σ:St}{H:Hp}{s:Shared}{h':Heap}{tk:Nat}{a:Addr}{xs:List V}{out:Array Value}{e:Nat}(I:Inv X pins σ H s)(k:∀b u,s.heap.get? b=some u→h'.get? b=some u)(ha:s.heap.objs.size≤a)
  (ho:h'.get? a=some {cls:= .type "list",data:= .seq out e}) (rv:Vals xs out.toList) (hz:xs.length≤sizeLine):Inv X pins σ (i7 H a (.lst xs)) {s with heap:=h',toks:=tk}:=
 I.laid k ha ⟨hz,out.toList,e,rv,by rw[ho]⟩
theorem ObjOk.live {P:Program}{w:World}{H:Hp}{h:Heap}{a:Addr}{o:HO}(x:ObjOk P w H h a o):∃ob,h.get? a=some ob:=by
 cases o with
 |lst xs=>obtain⟨_,_,_,_,e⟩:=x;exact⟨_,e⟩
 |tup xs=>obtain⟨_,_,_,o,e,_⟩:=x;exact⟨_,e⟩
 |dK kvs=>obtain⟨_,_,_,_,o,_,_,e,_⟩:=x;exact⟨_,e⟩
 |dT kvs=>obtain⟨_,_,_,_,o,_,_,e,_⟩:=x;exact⟨_,e⟩
 |set S n=>obtain⟨o,_,_,_,e,_⟩:=x;exact⟨_,e⟩
 |ins C dx fs=>obtain⟨_,_,_,e,_⟩:=x;exact⟨_,e⟩
 |own y=>exact x
 |xd fs=>obtain⟨_,⟨_,_,_,e,_⟩,_⟩:=x;exact⟨_,e⟩
 |rng lo hi=>obtain⟨_,_,_,e⟩:=x;exact⟨_,e⟩
 |frz ob u=>obtain⟨e,_⟩:=x;exact⟨_,e⟩
 |tbl ps=>exact⟨_,(show h.get? a=some _ from x)⟩
 |met f y=>exact⟨_,(show h.get? a=some _ from x)⟩
 |ext φ=>obtain⟨_,e,_⟩:=x;exact e
theorem Inv.newN {pins:List (Addr×Obj)}{σ:St}{H:Hp}{s:Shared}{h':Heap}{tk:Nat}{a:Addr}{xs:List V}{out:Array Value}{e:Nat}(I:Inv X pins σ H s)(k:∀b u,s.heap.get? b=some u→h'.get? b=some u)(hn:s.heap.get? a=none)
  (ho:h'.get? a=some {cls:= .type "list",data:= .seq out e}) (rv:Vals xs out.toList) (hz:xs.length≤sizeLine):H a=none∧Inv X pins σ (i7 H a (.lst xs)) {s with heap:=h',toks:=tk}:=by
 have hH:H a=none:=by
  cases q:H a with
  |none=>rfl
  |some u=>
   obtain⟨ob,z⟩:=(I.hok a u q).live
   rw[hn] at z;cases z
 have na:∀b o,s.heap.get? b=some o→b≠a:=fun b o z w=>by rw[w,hn] at z;cases z
 have nh:∀b u,H b=some u→b≠a:=fun b u z=>d0 z hH
 refine⟨hH,I.un ⟨fun b o z n _ _=>k b o z,fun b o z n _ _=>⟨o.slots,k b o z⟩,fun b o z n _=>by rw[b0 (na b o z)];exact n,fun b o z _=>⟨o,k b o z⟩,fun b ys z=>by rw[b0 (nh b _ z)];exact z,
  fun b ob u z=>by rw[b0 (nh b _ z)];exact z,fun b ps z=>⟨#[],by rw[b0 (nh b _ z)];simpa using z⟩⟩ fun b u z=>?_⟩
 by_cases hb:b=a
 ·subst hb
  rw[c9] at z;cases z
  exact⟨hz,out.toList,e,rv,by rw[ho]⟩
 ·rw[b0 hb] at z
  exact(I.hok b u z).stay (fun c v _ y=>k c v y) (fun c y=>by rw[b0 (nh c _ y)];exact y) fun c ys y=>by rw[b0 (nh c _ y)];exact y
def bu (K:PySem.W.Frag):List V→Hp→VK→Prop:=fun xs H Q=>∃(p:Addr) (ss:List Str),xs=[.ref p]∧(SqL K H p (ss.map V.str)∨∃kvs:List (d7×V),Rd H p (.dK kvs)∧kvs.map (·.1)=ss.map Sum.inr)∧ss.length<64∧
 ∀ss':List Str,ss'.Perm ss→sortedS ss'=true→∀l,H l=none→Q (.ref l) (i7 H l (.lst (ss'.map V.str)))
theorem mT {M:Program}{w:World}{A:Around}{E:Value→Shared→Prop}{s:Shared}{a:Addr}{vs:List Value}{ss:List Str}{n:Nat}{Q:Value→Shared→Prop}(ho:s.heap.get? a=some (seqObj "list" vs.toArray n))(hS:StrsAre vs ss)(h64:vs.length<64)
  (h:∀(out:Array Value) (ss':List Str),StrsAre out.toList ss'→ss'.Perm ss→sortedS ss'=true→Q .none {s with heap:=sortedHeap s.heap a vs out}):
  wpAny (model M w) A (call (.builtin "list.sort") [.ref a]) Q E s:=by
 refine wpAny_call_entry PySem.F.slot_list_sort ⟨_,ho,rfl⟩ PySem.F.entry_list_sort ?_ (PySem.F.args_list_sort_1 _)
 refine list_sort_treeK strKind_oneLt ho hS.keysOf (fun v₁ v₂ Q5 e=>keyKind_strs (by rw[←e];exact hS)) h64 fun st' hp hs=>?_
 obtain⟨ss',h1,h2,h3⟩:=sorted_out_str hS hp hs
 exact⟨_,rfl,h _ ss' h1 h2 h3⟩
theorem eJ (hc:X.calm=true):CallR X (.builtin "sorted") (bu X.K):=by
 intro pins s σ H xs us Q I r h
 obtain⟨p,ss,rfl,hx,h64,q⟩:=h
 obtain⟨u,rfl,ru⟩:=D4 r
 cases ru
 have hsl:(64:Nat)≤sizeLine:=by decide
 rcases hx with hx|⟨kvs,hx,hk⟩
 ·obtain⟨its,rv,ht,hz⟩:=I.list hx
  have hS:=O3 rv
  have hl:its.length=ss.length:=by have:=rv.length;simpa using this.symm
  refine sorted_strs ht.isList hS (by lia) fun out ss' a1 a2 a3=>?_
  obtain⟨e,he⟩:=sortedAll_at s.heap its out
  have hl':=a2.length_eq
  exact⟨.ref (s.heap.objs.size+1),_,I.newL (tk:=s.toks) (fun _ _=>sortedAll_old) (Nat.le_succ _) he (O7 a1) (by rw[List.length_map];lia),rfl,q ss' a2 a3 _ (I.hok.fresh (Nat.le_succ _))⟩
 ·obtain⟨hd,o,vs,ep,ho,D⟩:=U0 I.hok hx
  have dat:=D.at_ _ ho
  have hlen:kvs.length=ss.length:=by have:=congrArg List.length hk;simpa using this
  have hlv:=KV.length D.kv
  refine Calls.call_function_entry kind_sorted plain_sorted entry_sorted (args_sorted1 _) ?_
  unfold Builtin.«sorted»
  refine wpAny_bind (m:=checkCount "sorted" 1 1 _) (wpAny_pure ?_)
  refine wpAny_bind (PySem.W.kdu_collect (A:=X.A.in1) (PySem.W.kdl_dict (knd:=h8 X.prog X.w) (kvs:=vs) (ep:=ep) hd) (I.ok.hd hc) dat (by lia) fun h' tk acc hkp hacc=>?_)
  have hl:acc.toList.length=vs.length:=by rw[Array.length_toList];exact hacc.1
  have hS:StrsAre acc.toList ss:=by
   refine O3 (F5 (by rw[List.length_map];lia) fun i x u e1 e2=>?_)
   obtain⟨k,y,hy,hky⟩:=hacc.2 i u (by rw[←Array.getElem?_toList];exact e2)
   have e3:(kvs.map (·.1))[i]?=some k:=by rw[KV.keys D.kv,List.getElem?_map,hy];rfl
   rw[hk,List.getElem?_map] at e3
   rw[List.getElem?_map] at e1
   cases e4:ss[i]? with
   |none=>rw[e4] at e1;cases e1
   |some z=>
    rw[e4] at e1 e3
    cases e1
    cases e3
    exact Y2 hky
  refine wpAny_bind (wpAny_newList ?_ (by rw[hl];lia))
  refine wpAny_bind (wpAny_holding (mT (s:={s with heap:=h'.push {cls:= .type "list",data:= .seq acc.toList.toArray},toks:=tk}) (n:=0) (Heap.get?_push_size _ rfl) hS (by lia) fun out ss' a1 a2 a3=>?_))
  obtain⟨e,he⟩:=sortedHeap_at (h:=h'.push {cls:= .type "list",data:= .seq acc.toList.toArray}) (a:=h'.objs.size) (vs:=acc.toList) (n:=0) (out:=out) (Heap.get?_push_size _ rfl)
  have hno:s.heap.get? h'.objs.size=none:=by
   cases z:s.heap.get? h'.objs.size with
   |none=>rfl
   |some ob=>exact absurd (Heap.lt_size (hkp _ _ z)) (Nat.lt_irrefl _)
  have hl':=a2.length_eq
  obtain⟨hH,I2⟩:=I.newN (tk:=tk) (h':=sortedHeap (h'.push {cls:= .type "list",data:= .seq acc.toList.toArray}) h'.objs.size acc.toList out) (xs:=ss'.map V.str) (fun b u eb=>by
   have hb:=Heap.lt_size (hkp b u eb)
   rw[sortedHeap_old (b:=b) (Nat.ne_of_lt hb) (by rw[Heap.size_push];exact Nat.lt_succ_of_lt hb)]
   exact Heap.get?_push_of_some _ (hkp b u eb)) hno he (O7 a1) (by rw[List.length_map];lia)
  exact wpAny_pure ⟨_,rfl,.ref h'.objs.size,_,I2,rfl,q ss' a2 a3 _ hH⟩
def jS (K:PySem.W.Frag):List V→Hp→VK→Prop:=fun xs H Q=>(∃p ys,xs=[.ref p]∧(SqL K H p ys∨SqT K H p ys)∧∀l,H l=none→Q (.ref l) (i7 H l (.lst ys)))∨
 (∃(p:Addr) (kvs:List (d7×V)),xs=[.ref p]∧Rd H p (.dK kvs)∧∀l,H l=none→Q (.ref l) (i7 H l (.lst (kvs.map fun kv=>kV kv.1))))
theorem iK (hc:X.calm=true):CallR X (.type "list") (jS X.K):=by
 refine call_list_of.or ?_
 intro pins s σ H xs us Q I r h
 obtain⟨p,kvs,rfl,hx,q⟩:=h
 obtain⟨u,rfl,ru⟩:=D4 r
 cases ru
 obtain⟨hd,o,vs,ep,ho,D⟩:=U0 I.hok hx
 have hlv:=KV.length D.kv
 have hz:kvs.length≤sizeLine:=(C3 I.hok hx).1
 refine PySem.W.kdl_call (PySem.W.kdl_dict (knd:=h8 X.prog X.w) (kvs:=vs) (ep:=ep) hd) (I.ok.hd hc) (D.at_ _ ho) (by lia) fun h' tk acc c hkp hS hacc=>?_
 refine⟨.ref s.heap.objs.size,_,I.newL (tk:=tk) hkp (Nat.le_refl _) hS (F5 (by have:=hacc.1;simp;lia) fun i x u e1 e2=>?_) (by rw[List.length_map];exact hz),rfl,q _ (I.hok.fresh (Nat.le_refl _))⟩
 obtain⟨k,y,hy,hky⟩:=hacc.2 i u (by rw[←Array.getElem?_toList];exact e2)
 rw[List.getElem?_map] at e1
 cases e4:kvs[i]? with
 |none=>rw[e4] at e1;cases e1
 |some kv=>
  rw[e4] at e1
  cases e1
  have e3:(kvs.map (·.1))[i]?=some kv.1:=by rw[List.getElem?_map,e4];rfl
  rw[KV.keys D.kv,List.getElem?_map,hy] at e3
  cases e3
  exact Y2 hky
def ux:List V→Hp→VK→Prop:=fun xs H Q=>∃(p:Addr) (kvs:List (d7×V)),xs=[.ref p]∧Rd H p (.dK kvs)∧∀l,H l=none→Q (.ref l) (i7 H l (.dK kvs))
theorem iL:CallR X (.type "dict") ux:=by
 intro pins s σ H xs us Q I r h
 obtain⟨p,kvs,rfl,hx,q⟩:=h
 obtain⟨u,rfl,ru⟩:=D4 r
 cases ru
 exact qL I hx fun l s' hl I'=>⟨.ref l,_,I',rfl,q l hl⟩
def qu:R2:=fun x y H Q=>rI CMul (fun i j=> .int (i*j)) x y H Q∨(∃z n,x= .str z∧y= .int n∧z.length≤1000∧-1000≤n∧n≤1000∧Q (.str (Txt.mul z n)) H)
theorem Y9:OpR X (binaryOp .Mult) qu:=by
 refine op_mul.or ?_
 intro pins s σ H x y v u Q I rx ry h
 obtain⟨z,n,rfl,rfl,h1,h2,h3,q⟩:=h
 obtain⟨t,rfl⟩:=rx
 obtain⟨t',rfl⟩:=ry
 exact SB.mul (mulOk_of 1000 1000 h1 h3 (by lia) (by decide) (by decide)) fun t2 k=>⟨.str _,H,I.tok _,⟨t2,rfl⟩,q⟩
def kC:jC:=fun o i v H Q=>ue o i v H Q∨(∃a H',o= .ref a∧DPut H a i v H'∧Q H')
theorem sP (hu:X.A.units+1<cLine):nr X kC:=by
 intro pins s σ H o i v ov iv u Q I ro ri rv h
 rcases h with h|⟨a,H',rfl,g,q⟩
 ·exact oG pins s σ H o i v ov iv u Q I ro ri rv h
 ·cases ro
  exact nj hu I g ri rv fun s' I'=>⟨H',I',q⟩
end
end L2
set_option Elab.async false
set_option linter.all false
set_option maxRecDepth 100000
set_option maxHeartbeats 4000000
namespace L2
open PySem PySem.Spec PyProof.Rows
section
variable {X:Cx}
theorem Inv.pairNew {pins:List (Addr×Obj)}{σ:St}{H:Hp}{s:Shared}{fp:List Addr}{h':Heap}{tk:Nat}{x y:V}{u v:Value}{e:Nat}(I:Inv X pins σ H s)(hf:∀b∈fp,ak X pins H b)
  (kp:∀b o,b∉fp→s.heap.get? b=some o→h'.get? b=some o) (there:∀b∈fp,b<s.heap.objs.size) (tup:h'.get? s.heap.objs.size=some {cls:= .type "tuple",data:= .seq #[u,v] e}) (rx:RelV x u) (ry:RelV y v):
  H s.heap.objs.size=none∧Inv X pins σ (i7 H s.heap.objs.size (.tup [x,y])) {s with heap:=h',toks:=tk}∧∀b∈fp,i7 H s.heap.objs.size (.tup [x,y]) b=none:=by
 have fresh:H s.heap.objs.size=none:=I.hok.fresh (Nat.le_refl _)
 have nsz:∀b o,s.heap.get? b=some o→b≠s.heap.objs.size:=fun b o z=>Nat.ne_of_lt (Heap.lt_size z)
 have hH:∀b w,H b=some w→b≠s.heap.objs.size∧b∉fp:=fun b w z=>⟨d0 z fresh,fun m=>by rw[(hf b m).1] at z;cases z⟩
 have hok:HOk X.prog X.w (i7 H s.heap.objs.size (.tup [x,y])) h':=fun b w z=>by
  by_cases hb:b=s.heap.objs.size
  ·subst hb
   rw[c9] at z;cases z
   exact⟨by show 2≤sizeLine;decide,[u,v],.cons rx (.cons ry .nil),⟨_,tup,rfl,_,rfl⟩⟩
  ·rw[b0 hb] at z
   refine(I.hok b w z).stay (fun c ob hc q=>kp c ob ?_ q) (fun c q=>by rw[b0 (hH c _ q).1];exact q) fun c ys q=>by rw[b0 (hH c _ q).1];exact q
   rcases hc with m|m
   ·rw[m];exact(hH b _ z).2
   ·exact(hH c _ m).2
 refine⟨fresh,I.call' (s':={s with heap:=h',toks:=tk}) (ch:=fp) rfl ⟨fun b o z n _ hx=>kp b o hx z,fun b o z n _ hx=>⟨o.slots,kp b o hx z⟩,fun b o z n _=>by rw[b0 (nsz b o z)];exact n,
  fun b o z hx=>⟨o,kp b o hx z⟩,fun b ys z=>by rw[b0 (hH b _ z).1];exact z,fun b ob w z=>by rw[b0 (hH b _ z).1];exact z,fun b ps z=>⟨#[],by rw[b0 (hH b _ z).1];simpa using z⟩⟩ hok I.bare fun b hb=>?_,fun b hb=>?_⟩
 ·obtain⟨f0,f1,f2,f3,f4,f5⟩:=hf b hb
  exact⟨f3,f1,f4,f5⟩
 ·rw[b0 (Nat.ne_of_lt (there b hb))];exact(hf b hb).1
theorem Inv.turnedAll {pins:List (Addr×Obj)}{σ:St}{H:Hp}{s:Shared}{fp:List Addr}{h':Heap}{tk:Nat}(I:Inv X pins σ H s)(hf:∀b∈fp,ak X pins H b)
  (kp:∀b o,b∉fp→s.heap.get? b=some o→h'.get? b=some o):Inv X pins σ H {s with heap:=h',toks:=tk}:=by
 have hH:∀b w,H b=some w→b∉fp:=fun b w z m=>by rw[(hf b m).1] at z;cases z
 refine I.call' (s':={s with heap:=h',toks:=tk}) (ch:=fp) rfl ⟨fun b o z n _ hx=>kp b o hx z,fun b o z n _ hx=>⟨o.slots,kp b o hx z⟩,fun b o z n _=>n,
  fun b o z hx=>⟨o,kp b o hx z⟩,fun b ys z=>z,fun b ob w z=>z,fun b ps z=>⟨#[],by simpa using z⟩⟩ (fun b w z=>?_) I.bare fun b hb=>?_
 ·refine(I.hok b w z).stay (fun c ob hc q=>kp c ob ?_ q) (fun c q=>q) fun c ys q=>q
  rcases hc with m|m
  ·rw[m];exact hH b _ z
  ·exact hH c _ m
 ·obtain⟨f0,f1,f2,f3,f4,f5⟩:=hf b hb
  exact⟨f3,f1,f4,f5⟩
end
section
variable {X:Cx} {a b:Expr} {t:TA} {p pos:Pos}
end
def AK (K : PySem.W.Frag) (l m : Addr) : It :=
  ⟨fun i H => ∃ xs ys x y, SqL K H l xs ∧ SqL K H m ys ∧ xs[i]? = some x ∧ ys[i]? = some y,
   fun i H v H' => ∃ t x y, (∀ xs, SqL K H l xs → xs[i]? = some x) ∧ (∀ ys, SqL K H m ys → ys[i]? = some y) ∧ H t = none ∧ v = .ref t ∧ H' = i7 H t (.tup [x, y]),
   fun i H => ∃ xs ys, SqL K H l xs ∧ SqL K H m ys ∧ (xs.length ≤ i ∨ ys.length ≤ i)⟩
theorem k7 {h:Heap}{a b:Addr}{o u:Obj}(e:h.get? a=some o)(e':h.get? b=some u)(n:o.cls≠u.cls):a≠b:=fun z=>by
 subst z;rw[e] at e';cases e';exact n rfl
theorem pN {P:Program}{w:World}{K:PySem.W.Frag}{elts:List Expr}{x1}{tpos:Pos}{z TI TO i1 i2 l m:Addr}(h12:i1≠i2)(hT:TI≠TO):
  ax P w K (.Tuple elts x1 tpos) (AK K l m) [z,TI,TO,i1,i2] z (fun i h=>IsZip h z TI TO .none∧IsPair h TI (.ref i1) (.ref i2)∧(∃a b,IsPair h TO a b)∧h.IsListIter i1 l i∧h.IsListIter i2 m i) where
 mem:=by simp
 obj:=fun i h st b hb=>by
  obtain⟨z1,z2,⟨a,c,z3⟩,⟨o4,e4,c4,d4⟩,⟨o5,e5,c5,d5⟩⟩:=st
  have hb':b=z∨b=TI∨b=TO∨b=i1∨b=i2:=by simpa using hb
  rcases hb' with rfl|rfl|rfl|rfl|rfl
  ·exact⟨_,z1,fun v q=>by
    have q':Data.fields _=Data.cell v:=q
    cases q'⟩
  ·exact⟨_,z2,fun v q=>by
    have q':Data.seq _ _=Data.cell v:=q
    cases q'⟩
  ·exact⟨_,z3,fun v q=>by
    have q':Data.seq _ _=Data.cell v:=q
    cases q'⟩
  ·exact⟨o4,e4,fun v q=>by rw[d4] at q;cases q⟩
  ·exact⟨o5,e5,fun v q=>by rw[d5] at q;cases q⟩
 keep:=fun i h h' st k=>by
  obtain⟨z1,z2,⟨a,c,z3⟩,z4,z5⟩:=st
  exact⟨k z (by simp) _ z1,k TI (by simp) _ z2,⟨a,c,k TO (by simp) _ z3⟩,z4.at fun o e=>k i1 (by simp) o e,z5.at fun o e=>k i2 (by simp) o e⟩
 item:=by
  intro X hP hw hK hc i pins s σ H E I hf st hg
  subst hP hw hK
  obtain⟨z1,z2,⟨a,c,z3⟩,z4,z5⟩:=st
  obtain⟨xs,ys,x,y,hq,hq',hx,hy⟩:=hg
  obtain⟨its,rv,p,hz⟩:=I.list hq
  obtain⟨its',rv',p',hz'⟩:=I.list hq'
  obtain⟨u,hu,ru⟩:=rv.get hx
  obtain⟨u',hu',ru'⟩:=rv'.get hy
  obtain⟨o4,e4,c4,d4⟩:=id z4
  obtain⟨o5,e5,c5,d5⟩:=id z5
  obtain⟨o6,n6,e6,c6,_⟩:=id p
  obtain⟨o7,n7,e7,c7,_⟩:=id p'
  have D:ZipApart z TI TO i1 i2 l m:=
   ⟨k7 z2 z1 (by simp),k7 z3 z1 (by simp),k7 e4 z1 (by rw[c4];simp),k7 e5 z1 (by rw[c5];simp),hT,k7 z2 e4 (by rw[c4];simp),k7 z2 e5 (by rw[c5];simp),k7 z3 e4 (by rw[c4];simp),k7 z3 e5 (by rw[c5];simp),h12,
    k7 e6 z1 (by rw[c6];simp),k7 e6 z3 (by rw[c6];simp),k7 e6 e4 (by rw[c6,c4];simp),k7 e6 e5 (by rw[c6,c5];simp),k7 e7 z1 (by rw[c7];simp),k7 e7 z3 (by rw[c7];simp),k7 e7 e4 (by rw[c7,c4];simp),k7 e7 e5 (by rw[c7,c5];simp)⟩
  refine wpAny_pyNext_zip_item D z1 z2 z3 z4 z5 p.isList p'.isList (x:=u) (y:=u') (by simpa using hu) (by simpa using hu') fun h' a1 a2 a3 a4 a5 a6 a7=>?_
  refine⟨.ref s.heap.objs.size,rfl,wpAny_letOwnedTupleGo_zip (s:={s with heap:=h'}) a1 fun h'' b1 b2=>?_⟩
  have hs2:Heap.SameBut z h' h'':=b2
  have lt:∀b∈[z,TI,TO,i1,i2],b<s.heap.objs.size:=fun b hb=>by
   have hb':b=z∨b=TI∨b=TO∨b=i1∨b=i2:=by simpa using hb
   rcases hb' with rfl|rfl|rfl|rfl|rfl
   ·exact Heap.lt_size z1
   ·exact Heap.lt_size z2
   ·exact Heap.lt_size z3
   ·exact Heap.lt_size e4
   ·exact Heap.lt_size e5
  have kp2:∀b o,b≠z→h'.get? b=some o→h''.get? b=some o:=fun b o hb e=>hs2.extBut b o hb e
  obtain⟨fr,I1,fr2⟩:=I.pairNew (fp:=[z,TI,TO,i1,i2]) (h':=h'') (tk:=s.toks) (x:=x) (y:=y) hf (fun b o hb e=>by
   have hb':b≠z∧b≠TI∧b≠TO∧b≠i1∧b≠i2:=by simpa using hb
   exact kp2 b o hb'.1 (a7 b o hb'.1 hb'.2.2.1 hb'.2.2.2.1 hb'.2.2.2.2 e)) lt (kp2 _ _ (Nat.ne_of_gt (Heap.lt_size z1)) a5) ru ru'
  refine⟨.ref s.heap.objs.size,_,I1,rfl,⟨_,x,y,fun zs hs=>by rw[I.list_inj hs hq];exact hx,fun zs hs=>by rw[I.list_inj hs hq'];exact hy,fr,rfl,rfl⟩,⟨b1,?_,⟨u,u',?_⟩,?_,?_⟩,fr2⟩
  ·exact kp2 _ _ D.TIz (a7 TI _ D.TIz D.TITO D.TIi1 D.TIi2 z2)
  ·exact kp2 _ _ D.TOz a2
  ·exact a3.at fun o e=>kp2 _ o D.i1z e
  ·exact a4.at fun o e=>kp2 _ o D.i2z e
 done:=by
  intro X hP hw hK hc i pins s σ H E I hf st hg
  subst hP hw hK
  obtain⟨z1,z2,⟨a,c,z3⟩,z4,z5⟩:=st
  obtain⟨xs,ys,hq,hq',hx⟩:=hg
  obtain⟨its,rv,p,hz⟩:=I.list hq
  obtain⟨its',rv',p',hz'⟩:=I.list hq'
  have hl:=rv.length
  have hl':=rv'.length
  obtain⟨o4,e4,c4,d4⟩:=id z4
  obtain⟨o5,e5,c5,d5⟩:=id z5
  obtain⟨o6,n6,e6,c6,_⟩:=id p
  obtain⟨o7,n7,e7,c7,_⟩:=id p'
  have D:ZipApart z TI TO i1 i2 l m:=
   ⟨k7 z2 z1 (by simp),k7 z3 z1 (by simp),k7 e4 z1 (by rw[c4];simp),k7 e5 z1 (by rw[c5];simp),hT,k7 z2 e4 (by rw[c4];simp),k7 z2 e5 (by rw[c5];simp),k7 z3 e4 (by rw[c4];simp),k7 z3 e5 (by rw[c5];simp),h12,
    k7 e6 z1 (by rw[c6];simp),k7 e6 z3 (by rw[c6];simp),k7 e6 e4 (by rw[c6,c4];simp),k7 e6 e5 (by rw[c6,c5];simp),k7 e7 z1 (by rw[c7];simp),k7 e7 z3 (by rw[c7];simp),k7 e7 e4 (by rw[c7,c4];simp),k7 e7 e5 (by rw[c7,c5];simp)⟩
  refine wpAny_pyNext_zip_end (I.ok.hd hc) D z1 z2 z3 z4 z5 p.isList p'.isList ?_ fun h' eb=>⟨rfl,I.turnedAll (fp:=[z,TI,TO,i1,i2]) (tk:=s.toks) hf fun b o hb e=>?_⟩
  ·rcases hx with hx|hx
   ·exact .inl (by simp;lia)
   ·exact .inr (by simp;lia)
  ·have hb':b≠z∧b≠TI∧b≠TO∧b≠i1∧b≠i2:=by simpa using hb
   exact eb b o hb'.1 hb'.2.2.1 hb'.2.2.2.1 hb'.2.2.2.2 e
 self:=fun _ _ _ _ _ st h=>wpAny_pyIter_zip st.1 h
section
variable {X:Cx} {a b:Expr} {t:TA} {p pos:Pos}
def wJ (K:PySem.W.Frag)(ta:TA):TI:=fun σ H R=>ta σ H fun vs H1=>∃l m xs ys,vs=[.ref l,.ref m]∧SqL K H1 l xs∧SqL K H1 m ys∧R (AK K l m) H1
theorem xr {elts:List Expr}{x1}{tpos:Pos}(hg:Gl X "zip")(hm:X.mg "zip"=none)(ha:PA X [a,b] t)(hs:starEach [a,b] X.env=[(false,eval a X.env),(false,eval b X.env)])(hs2:starEach [b] X.env=[(false,eval b X.env)]):
  PI X (.Tuple elts x1 tpos) (.Call (.Name "zip" p) [a,b] [] pos) (wJ X.K t):=by
 intro pins s σ H R I h
 refine Call_ (R8 I hg hm Boot.«zip» (PyProof.Rows.callWith_type1 (B5 (ha pos pins s σ H _ I h) fun us s1 ⟨vs,H1,I1,r1,q1⟩=>?_) (by rw[hs,hs2]) (by rw[hs2];rfl)))
 obtain⟨l,m,xs,ys,e,hq,hq',q⟩:=q1
 subst e
 obtain⟨u,v,rfl,ru,rv⟩:=M9 r1
 cases ru
 cases rv
 obtain⟨its,rv,pl,hz⟩:=I1.list hq
 obtain⟨its',rv',pl',hz'⟩:=I1.list hq'
 refine call_zip_2 pl.isList pl'.isList fun h' z1 z2 z3 z4 z5 hsz hk=>?_
 have I2:Inv X pins σ H1 {s1 with heap:=h'}:=I1.kept (t':=s1.toks) hk
 refine wpAny_pyIter_zip (s:={s1 with heap:=h'}) z1 ?_
 refine⟨s1.heap.objs.size+4,[s1.heap.objs.size+4,s1.heap.objs.size+2,s1.heap.objs.size+3,s1.heap.objs.size,s1.heap.objs.size+1],_,_,H1,rfl,I2,pN (l:=l) (m:=m) (show(s1.heap.objs.size:Nat)≠s1.heap.objs.size+1 by lia) (show(s1.heap.objs.size+2:Nat)≠s1.heap.objs.size+3 by lia),⟨z1,z2,⟨_,_,z3⟩,z4,z5⟩,fun c hc=>?_,q⟩
 have hb':c=s1.heap.objs.size+4∨c=s1.heap.objs.size+2∨c=s1.heap.objs.size+3∨c=s1.heap.objs.size∨c=s1.heap.objs.size+1:=by simpa using hc
 have hle:s1.heap.objs.size≤c:=by
  rcases hb' with rfl|rfl|rfl|rfl|rfl<;>first|exact Nat.le_add_right _ _|exact Nat.le_refl _
 exact I1.fpOk hle (I1.hok.fresh hle)
end
section
variable {X:Cx} (K:PySem.W.Frag) {a b:Expr} {t:TA} {p pos:Pos}
theorem z6 (hc:X.calm=true)(h:X.K=K:=by rfl):CallR X (.builtin "sorted") (bu K):=h▸eJ hc
theorem vI {elts:List Expr}{x1}{tpos:Pos}(hm:X.mg "zip"=none)(ha:QA X [a,b] t)(hg:Gl X "zip":=by rfl)(h:i8 a=true:=by rfl)(h':i8 b=true:=by rfl)(hK:X.K=K:=by rfl):QI X (.Tuple elts x1 tpos) (.Call (.Name "zip" p) [a,b] [] pos) (vO (wJ K t)):=
 ⟨hK▸(xr hg hm ha.r (by rw[E5 h,E5 h'];rfl) (E5 h')).two⟩
end
theorem x9 {X:Cx}:rp X "list.append" kT:=mS
section
variable {K:PySem.W.Frag} {σ:St} {H:Hp} {Q:VK}
theorem B0 {p:Addr}{ss:List Str}(h:SqL K H p (ss.map V.str))(h64:ss.length<64)(q:∀ss':List Str,ss'.Perm ss→sortedS ss'=true→∀l,H l=none→Q (.ref l) (i7 H l (.lst (ss'.map V.str)))):bu K [.ref p] H Q:=⟨p,ss,rfl,.inl h,h64,q⟩
theorem u7 {p:Addr}{kvs:List (d7×V)}{ss:List Str}(h:Rd H p (.dK kvs))(hk:kvs.map (·.1)=ss.map Sum.inr)(h64:ss.length<64)(q:∀ss':List Str,ss'.Perm ss→sortedS ss'=true→∀l,H l=none→Q (.ref l) (i7 H l (.lst (ss'.map V.str)))):bu K [.ref p] H Q:=⟨p,ss,rfl,.inr ⟨kvs,h,hk⟩,h64,q⟩
theorem B7 {p:Addr}{kvs:List (d7×V)}(h:Rd H p (.dK kvs))(q:∀l,H l=none→Q (.ref l) (i7 H l (.lst (kvs.map fun kv=>kV kv.1)))):jS K [.ref p] H Q:= .inr ⟨p,kvs,rfl,h,q⟩
theorem mR {i j:Int}(h:CMul i j)(q:Q (.int (i*j)) H):qu (.int i) (.int j) H Q:= .inl ⟨i,j,rfl,rfl,h,q⟩
theorem dE {z:Str}{n:Int}(h1:z.length≤1000)(h2: -1000≤n)(h3:n≤1000)(q:Q (.str (Txt.mul z n)) H):qu (.str z) (.int n) H Q:= .inr ⟨z,n,rfl,rfl,h1,h2,h3,q⟩
theorem vm {to ti:TE}{t:jC}{v:V}{Qs:St→Hp→Prop}(q:to σ H fun o H1=>ti σ H1 fun i H2=>t o i v H2 fun H3=>Qs σ H3):iW to ti t v σ H Qs:=q
theorem k6 {a:Addr}{kvs:List (d7×V)}{k:d7}{v:V}{Qh:Hp→Prop}(h:H a=some (.dK kvs))(hl:kvs.length<sizeLine)(q:Qh (i7 H a (.dK (z0 kvs k v)))):kC (.ref a) (kV k) v H Qh:= .inr ⟨a,_,rfl,DPut.k h hl,q⟩
theorem ya {ta:TA}{R:It→Hp→Prop}(q:ta σ H fun vs H1=>∃l m xs ys,vs=[.ref l,.ref m]∧SqL K H1 l xs∧SqL K H1 m ys∧R (AK K l m) H1):wJ K ta σ H R:=q
theorem Y1 {n:Nat}{t:je}{a:Addr}{xs:List V}{Qs:St→Hp→Prop}(h:SqT K H a xs)(hl:xs.length=n)(q:t xs σ H Qs):rj K n t (.ref a) σ H Qs:=⟨a,xs,rfl,h,hl,q⟩
theorem se {t:TG}{u:je}{v:V}{r:List V}{Qs:St→Hp→Prop}(q:t v σ H fun σ' H'=>u r σ' H' Qs):gZ t u (v::r) σ H Qs:=⟨v,r,rfl,q⟩
theorem uV {Qs:St→Hp→Prop}(q:Qs σ H):xm [] σ H Qs:=⟨rfl,q⟩
theorem As {T:String}{r:V→List V→Hp→VK→Prop}{to:TE}{t:TA}(q:to σ H fun x H1=>zN K T x H1∧t σ H1 fun xs H2=>r x xs H2 Q):Av K T r to t σ H Q:=q
theorem yn {T:String}{r:V→List V→Hp→VK→Prop}{to:TE}(q:to σ H fun x H1=>zN K T x H1∧r x [] H1 Q):uT K T r to σ H Q:=q
theorem gu {p:Addr}{x:V}{o:Option V}(g:DGet H p x o)(q:Q (.bl o.isSome) H):sv K x (.ref p) H Q:= .inr (.inr ⟨p,o,rfl,g,q⟩)
theorem qx {p:Addr}{x:V}{xs:List V}(h:SqL K H p xs∨SqT K H p xs)(h1:p5 x=true)(h2:xs.all p5=true)(q:Q (.bl (wM x xs)) H):sv K x (.ref p) H Q:= .inr (.inl ⟨p,xs,rfl,h,h1,h2,q⟩)
theorem af {p:Addr}{xs:List V}{lo hi:Option Int}(h:SqT K H p xs)(hw:¬(HT.sIx xs.length 0 lo=0∧HT.sIx xs.length xs.length hi=xs.length))(q:∀p,H p=none→Q (.ref p) (i7 H p (.tup (W4 xs lo hi)))):zY K (.ref p) lo hi H Q:= .inr (.inl ⟨p,xs,rfl,h,hw,q⟩)
theorem Q3 {a:Addr}{kvs:List (d7×V)}{k:d7}(e:Rd H a (.dK kvs)):DGet H a (kV k) (i9 kvs k):= .inl ⟨kvs,k,e,rfl,rfl⟩
end
end L2
set_option Elab.async false
set_option linter.all false
set_option maxRecDepth 100000
set_option maxHeartbeats 4000000
namespace L2
open PySem PySem.Spec PyProof.Rows
open PySem.AutoSeq1 (wpAny_loadPart')
def EqP (P:Program)(w:World)(A:Around)(s:Shared)(y x:Value)(b:Bool):Prop:=∀(E:Value→Shared→Prop) (Q:Bool→Shared→Prop),Q b s→wpAny (model P w) A (eqBool y x) Q E s
def RcP (P:Program)(w:World)(A:Around)(s:Shared)(y x:Value)(b:Bool):Prop:=∀(E:Value→Shared→Prop) (Q:Value→Shared→Prop),Q (.bool b) s→wpAny (model P w) A (richCompare .Eq y x) Q E s
theorem EqP.of {P:Program}{w:World}{A:Around}{s:Shared}{y x:Value}{b:Bool}(h:SeqAt.EqAt A s y x b):EqP P w A s y x b:=fun E Q q=>h P w E Q q
theorem EqP.refs {P:Program}{w:World}{A:Around}{s:Shared}{l m:Addr}{k:Bool}(hne:l≠m)(h:RcP P w A s (.ref l) (.ref m) k):EqP P w A s (.ref l) (.ref m) k:=fun E Q q=>by
 unfold eqBool
 refine wpAny_holding (wpAny_ite_split (fun z=>absurd (Value.ref.inj (eq_of_beq z)) hne) fun _=>wpAny_bind (h E _ (wpAny_truthy_bool q)))
theorem xE {P:Program}{w:World}(l m:Addr)(xs ys:Array Value)(n1 n2:Nat)(d1 d2:Option Addr)(s1 s2:Array (Option Value))(f:Nat→Bool):
  MeetsIn P w (Builtin.«tuple.__eq__» ⟨[.ref l,.ref m],[]⟩) (fun A R s=>
   s.heap.get? l=some {cls:= .type "tuple",dict:=d1,data:= .seq xs n1,slots:=s1}∧s.heap.get? m=some {cls:= .type "tuple",dict:=d2,data:= .seq ys n2,slots:=s2}∧
   (∀j (g1:j<xs.size) (g2:j<ys.size),EqP P w A.in1 s xs[j] ys[j] (f j))∧
   R (.ok (.ret (.bool ((List.range (min xs.size ys.size)).all f&&xs.size==ys.size)))) s):=
 .of_wp fun A R s hyp=>by
  obtain⟨hp,gg,dr,tk,os⟩:=s
  obtain⟨e1,e2,he,fin⟩:=hyp
  have sub:=AutoSeq1.sub_tuple_tuple
  have len:(xs.toList.zip ys.toList).length=min xs.size ys.size:=by simp
  wp_walk using wpAny_loadPart' e1,wpAny_loadPart' e2,wpAny_forIn_list _ (fun more acc st=>acc.1=none∧st=⟨hp,gg,dr,tk,os⟩∧∃i,more=(xs.toList.zip ys.toList).drop i∧
   R (.ok (.ret (.bool (((List.range (min xs.size ys.size)).drop i).all f&&xs.size==ys.size)))) ⟨hp,gg,dr,tk,os⟩) _
  case turn=>
   rintro⟨y,x⟩ more acc st ⟨ha,rfl,i,hi,hR⟩
   have lt:i<(xs.toList.zip ys.toList).length:=by
    rcases Nat.lt_or_ge i (xs.toList.zip ys.toList).length with z|z
    ·exact z
    ·rw[List.drop_of_length_le z] at hi
     cases hi
   have lm:i<min xs.size ys.size:=len▸lt
   have lx:i<xs.size:=Nat.lt_of_lt_of_le lm (Nat.min_le_left _ _)
   have ly:i<ys.size:=Nat.lt_of_lt_of_le lm (Nat.min_le_right _ _)
   rw[List.drop_eq_getElem_cons lt] at hi
   injection hi with h1 h2
   have q1:y=xs[i]:=by simpa using congrArg Prod.fst h1
   have q2:x=ys[i]:=by simpa using congrArg Prod.snd h1
   subst q1 q2
   have dr1:(List.range (min xs.size ys.size)).drop i=i::(List.range (min xs.size ys.size)).drop (i+1):=by simp [List.drop_eq_getElem_cons,lm]
   rw[dr1,List.all_cons] at hR
   refine wpAny_bind (he i lx ly _ _ ?_)
   cases hf:f i with
   |true=>
    rw[hf] at hR
    wp_walk
    exact⟨rfl,rfl,i+1,h2,by simpa using hR⟩
   |false=>
    rw[hf] at hR
    wp_walk
    exact⟨_,rfl,by simpa using hR⟩
  case fin=>
   rintro⟨c1,c2⟩ st ⟨ha,rfl,i,hi,hR⟩
   simp only at ha
   subst ha
   have ge:min xs.size ys.size≤i:=by
    rcases Nat.lt_or_ge i (xs.toList.zip ys.toList).length with z|z
    ·rw[List.drop_eq_getElem_cons z] at hi
     cases hi
    ·exact len▸z
   rw[List.drop_of_length_le (by simpa using ge)] at hR
   wp_walk
   exact⟨_,rfl,by simpa [Builtin.Tuple.tupleCompareSizes] using hR⟩
  case h=>
   exact⟨rfl,rfl,0,rfl,by simpa using fin⟩
theorem RcP.tup {P:Program}{w:World}{A:Around}{s:Shared}{l m:Addr}{xs ys:Array Value}{f:Nat→Bool}(hl:s.heap.IsTuple l xs)(hm:s.heap.IsTuple m ys)(hu:A.units<cLine)
  (he:∀j (g1:j<xs.size) (g2:j<ys.size),EqP P w A.in1 s xs[j] ys[j] (f j)):RcP P w A s (.ref l) (.ref m) ((List.range (min xs.size ys.size)).all f&&xs.size==ys.size):=fun E Q q=>by
 obtain⟨⟨c1,d1,a1,s1⟩,o1,k1,n1,t1⟩:=id hl
 obtain⟨⟨c2,d2,a2,s2⟩,o2,k2,n2,t2⟩:=id hm
 simp only at k1 t1 k2 t2
 subst k1 t1 k2 t2
 refine wpAny_richCompare_same_room (op:= .Eq) ⟨_,o1,rfl⟩ ⟨_,o2,rfl⟩ PySem.F.slot_tuple_eq (call_meetsIn PySem.F.slot_tuple_eq ⟨_,o1,rfl⟩ PySem.F.entry_tuple_eq (PySem.F.args_tuple_eq_2 _ _) (xE l m xs ys n1 n2 d1 d2 s1 s2 f) ⟨o1,o2,he,?_⟩) hu
 exact⟨(fun z=>nomatch z),q⟩
def E3:List V→List V→Bool
 |[],[]=>true
 |x::xs,y::ys=>N6 x y&&E3 xs ys
 |_,_=>false
inductive Eq1 (K:PySem.W.Frag) (H:Hp):V→V→Bool→Prop
 |flat {x y:V}:p5 x=true→p5 y=true→Eq1 K H x y (N6 x y)
 |tup {a b:Addr} {xs ys:List V}:SqT K H a xs→SqT K H b ys→xs.all p5=true→ys.all p5=true→Eq1 K H (.ref a) (.ref b) (E3 xs ys)
 |nt {a:Addr} {xs:List V}:SqT K H a xs→Eq1 K H .non (.ref a) false
 |tn {a:Addr} {xs:List V}:SqT K H a xs→Eq1 K H (.ref a) .non false
theorem Z2:∀{x:V},p5 x=true→N6 x x=true
 | .non,_=>rfl
 | .bl b,_=>by simp [N6]
 | .int i,_=>by simp [N6]
 | .str x,_=>by simp [N6]
theorem D3:∀{xs:List V},xs.all p5=true→E3 xs xs=true
 |[],_=>rfl
 |x::xs,h=>by
  rw[List.all_cons,Bool.and_eq_true] at h
  show(N6 x x&&E3 xs xs)=true
  rw[Z2 h.1,D3 h.2];rfl
theorem B8:∀(xs ys:List V),((List.range (min xs.length ys.length)).all (fun j=>N6 (xs.getD j .non) (ys.getD j .non))&&xs.length==ys.length)=E3 xs ys
 |[],[]=>rfl
 |[],_::_=>by simp [E3]
 |_::_,[]=>by simp [E3]
 |x::xs,y::ys=>by
  have ih:=B8 xs ys
  have e:min (x::xs).length (y::ys).length=min xs.length ys.length+1:=by simp
  rw[e,List.range_succ_eq_map,List.all_cons,List.all_map]
  show((N6 x y&&(List.range (min xs.length ys.length)).all _)&&(xs.length+1==ys.length+1))=(N6 x y&&E3 xs ys)
  rw[←ih,Bool.and_assoc]
  congr 1
  congr 1
  simp
section
variable {X:Cx} {pins:List (Addr×Obj)} {σ:St} {H:Hp} {s:Shared} {A:Around}
theorem Eq1.at_ {x y:V}{u v:Value}{b:Bool}(I:Inv X pins σ H s)(h:Eq1 X.K H x y b)(rx:RelV x u)(ry:RelV y v)(hu:A.units+8<cLine):SeqAt.EqAt A s u v b:=by
 cases h with
 |flat fx fy=>exact E8 rx ry fx fy
 | @tup a c xs ys ha hc fx fy=>
  cases rx
  cases ry
  obtain⟨its,r1,p1,z1⟩:=I.tuple ha
  obtain⟨its',r2,p2,z2⟩:=I.tuple hc
  by_cases hac:a=c
  ·subst hac
   have e:=I.tuple_inj ha hc
   subst e
   rw[D3 fx]
   exact SeqAt.EqAt.same _
  ·have l1:=r1.length
   have l2:=r2.length
   have q:=SeqAt.RcAt.tuples (A:=A) (e:=fun j=>N6 (xs.getD j .non) (ys.getD j .non)) (show s.heap.IsTuple a its.toArray from p1) (show s.heap.IsTuple c its'.toArray from p2) (by lia) fun j g1 g2=>by
    have g1':j<its.length:=by simpa using g1
    have g2':j<its'.length:=by simpa using g2
    have x1:xs[j]?=some (xs[j]'(by lia)):=by simp [show j<xs.length by lia]
    have y1:ys[j]?=some (ys[j]'(by lia)):=by simp [show j<ys.length by lia]
    obtain⟨u1,hu1,ru1⟩:=r1.get x1
    obtain⟨u2,hu2,ru2⟩:=r2.get y1
    have e1:its.toArray[j]=u1:=by
     have:=List.getElem?_eq_getElem g1'
     rw[hu1] at this
     simpa using(Option.some.inj this).symm
    have e2:its'.toArray[j]=u2:=by
     have:=List.getElem?_eq_getElem g2'
     rw[hu2] at this
     simpa using(Option.some.inj this).symm
    rw[e1,e2]
    have d1:xs.getD j .non=xs[j]'(by lia):=by rw[List.getD_eq_getElem?_getD,x1];rfl
    have d2:ys.getD j .non=ys[j]'(by lia):=by rw[List.getD_eq_getElem?_getD,y1];rfl
    rw[d1,d2]
    exact E8 ru1 ru2 (List.all_eq_true.mp fx _ (List.getElem_mem _)) (List.all_eq_true.mp fy _ (List.getElem_mem _))
   have e3:its.toArray.size=xs.length:=by simp [l1]
   have e4:its'.toArray.size=ys.length:=by simp [l2]
   rw[e3,e4,B8] at q
   exact .of_refs hac q
 | @nt a xs ha=>
  cases rx
  cases ry
  obtain⟨its,r1,p1,z1⟩:=I.tuple ha
  exact SeqAt.EqAt.none_tuple (show s.heap.IsTuple a its.toArray from p1) (by lia)
 | @tn a xs ha=>
  cases rx
  cases ry
  obtain⟨its,r1,p1,z1⟩:=I.tuple ha
  exact SeqAt.EqAt.tuple_none (show s.heap.IsTuple a its.toArray from p1) (by lia)
end
inductive EqH (K:PySem.W.Frag) (H:Hp) (kb:List (d7×V)):List (d7×V)→Bool→Prop
 |nil:EqH K H kb [] true
 |miss {k:d7} {v:V} {r:List (d7×V)}:i9 kb k=none→EqH K H kb ((k,v)::r) false
 |hit {k:d7} {v y:V} {r:List (d7×V)} {e b:Bool}:i9 kb k=some y→Eq1 K H v y e→EqH K H kb r b→EqH K H kb ((k,v)::r) (e&&b)
def EqD (K:PySem.W.Frag)(H:Hp)(a b:Addr)(r:Bool):Prop:=(a=b∧r=true)∨(a≠b∧∃ka kb r0,Rd H a (.dK ka)∧Rd H b (.dK kb)∧EqH K H kb ka r0∧r=(ka.length==kb.length&&r0))
section
variable {X:Cx} {pins:List (Addr×Obj)} {σ:St} {H:Hp} {s:Shared} {A:Around}
theorem EqH.hits {kb:List (d7×V)}{vb:List (d7×Value)}(I:Inv X pins σ H s)(hu:A.units+8<cLine)(rb:KV kb vb){ka:List (d7×V)}{r:Bool}(h:EqH X.K H kb ka r):∀{va:List (d7×Value)},KV ka va→PySem.W.KeqHits A s vb va r:=by
 induction h with
 |nil=>
  intro va t
  cases t
  exact .nil
 | @miss k v r hn=>
  intro va t
  cases t with
  | @cons _ q _ l e t=>
   obtain⟨k',u⟩:=q
   have ek':k=k':=e.1
   subst ek'
   refine .miss ?_
   have z:=KV.val rb k
   rw[hn] at z
   cases e:valueAt vb k with
   |none=>rfl
   |some y=>rw[e] at z;exact False.elim z
 | @hit k v y r e b hy h1 hr ih=>
  intro va t
  cases t with
  | @cons _ q _ l e t=>
   obtain⟨k',u⟩:=q
   have ek':k=k':=e.1
   subst ek'
   have z:=KV.val rb k
   rw[hy] at z
   cases e5:valueAt vb k with
   |none=>rw[e5] at z;exact False.elim z
   |some y'=>
    rw[e5] at z
    exact .hit e5 (h1.at_ I e.2 z hu) (ih t)
theorem EqD.at_ {a b:Addr}{r:Bool}(I:Inv X pins σ H s)(h:EqD X.K H a b r)(hu:A.units+16<cLine):EqP X.prog X.w A s (.ref a) (.ref b) r:=by
 rcases h with⟨rfl,rfl⟩|⟨hne,ka,kb,r0,h1,h2,h3,rfl⟩
 ·exact .of (SeqAt.EqAt.same _)
 ·obtain⟨z1,d1,va,ra,da⟩:=C3 I.hok h1
  obtain⟨z2,d2,vb,rb,db⟩:=C3 I.hok h2
  refine .refs hne fun E Q q=>?_
  have l1:=KV.length ra
  have l2:=KV.length rb
  exact PySem.W.keq_eq (knd:=h8 X.prog X.w) d1 d2 da db (by lia) (fun _=>h3.hits (A:=A.in1) I (by show A.units+1+8<_;lia) rb ra) (by rw[←l1,←l2];exact q)
def yX (K:PySem.W.Frag):R2:=fun x y H Q=>∃a b p q p' q' r r',x= .ref a∧y= .ref b∧SqT K H a [.ref p,.ref q]∧SqT K H b [.ref p',.ref q']∧EqD K H p p' r∧EqD K H q q' r'∧Q (.bl (r&&r')) H
theorem xJ (hu:X.A.units+64<cLine):OpR X (compareOp .Eq) (yX X.K):=by
 intro pins s σ H x y v u Q I rx ry h
 obtain⟨a,b,p,q,p',q',r,r',rfl,rfl,ha,hb,h1,h2,k⟩:=h
 cases rx
 cases ry
 obtain⟨its,v1,t1,_⟩:=I.tuple ha
 obtain⟨its',v2,t2,_⟩:=I.tuple hb
 obtain⟨_,_,rfl,e1,e2⟩:=M9 v1
 obtain⟨_,_,rfl,e3,e4⟩:=M9 v2
 cases e1
 cases e2
 cases e3
 cases e4
 refine RcP.tup (P:=X.prog) (w:=X.w) (f:=fun j=>if j=0 then r else r') (show s.heap.IsTuple a _ from t1) (show s.heap.IsTuple b _ from t2) (by lia) (fun j g1 g2=>?_) _ _ ⟨.bl (r&&r'),H,I,by show Value.bool _=Value.bool _;simp [List.range_succ],k⟩
 have g:j<2:=by simpa using g1
 match j,g with
 |0,_=>exact h1.at_ I (by show X.A.units+1+16<_;lia)
 |1,_=>exact h2.at_ I (by show X.A.units+1+16<_;lia)
def zu (K:PySem.W.Frag):R2:=fun x y H Q=>∃a b xs ys,x= .ref a∧y= .ref b∧SqL K H a xs∧SqL K H b ys∧xs.all p5=true∧ys.all p5=true∧Q (.bl (E3 xs ys)) H
theorem ai:∀{xs ys:List V},xs.length≠ys.length→E3 xs ys=false
 |[],[],h=>absurd rfl h
 |[],_::_,_=>rfl
 |_::_,[],_=>rfl
 |x::xs,y::ys,h=>by
  show(N6 x y&&E3 xs ys)=false
  rw[ai (by simpa using h),Bool.and_false]
theorem xB (hu:X.A.units+64<cLine):OpR X (compareOp .Eq) (zu X.K):=by
 intro pins s σ H x y v u Q I rx ry h
 obtain⟨a,b,xs,ys,rfl,rfl,ha,hb,fx,fy,k⟩:=h
 cases rx
 cases ry
 obtain⟨its,r1,p1,z1⟩:=I.list ha
 obtain⟨its',r2,p2,z2⟩:=I.list hb
 have l1:=r1.length
 have l2:=r2.length
 have e3:its.toArray.size=xs.length:=by simp [l1]
 have e4:its'.toArray.size=ys.length:=by simp [l2]
 by_cases hl:xs.length=ys.length
 ·have q:=SeqAt.RcAt.lists (A:=X.A) (e:=fun j=>N6 (xs.getD j .non) (ys.getD j .non)) p1.isList p2.isList (by rw[e3,e4];exact hl) (by lia) fun j g1 g2=>by
   have g1':j<its.length:=by simpa using g1
   have g2':j<its'.length:=by simpa using g2
   have x1:xs[j]?=some (xs[j]'(by lia)):=by simp [show j<xs.length by lia]
   have y1:ys[j]?=some (ys[j]'(by lia)):=by simp [show j<ys.length by lia]
   obtain⟨u1,hu1,ru1⟩:=r1.get x1
   obtain⟨u2,hu2,ru2⟩:=r2.get y1
   have e1:its.toArray[j]=u1:=by
    have:=List.getElem?_eq_getElem g1'
    rw[hu1] at this
    simpa using(Option.some.inj this).symm
   have e2:its'.toArray[j]=u2:=by
    have:=List.getElem?_eq_getElem g2'
    rw[hu2] at this
    simpa using(Option.some.inj this).symm
   rw[e1,e2]
   have d1:xs.getD j .non=xs[j]'(by lia):=by rw[List.getD_eq_getElem?_getD,x1];rfl
   have d2:ys.getD j .non=ys[j]'(by lia):=by rw[List.getD_eq_getElem?_getD,y1];rfl
   rw[d1,d2]
   exact E8 ru1 ru2 (List.all_eq_true.mp fx _ (List.getElem_mem _)) (List.all_eq_true.mp fy _ (List.getElem_mem _))
  have e5:=B8 xs ys
  rw[hl,Nat.min_self,beq_self_eq_true,Bool.and_true] at e5
  rw[e3,hl,e5] at q
  exact q X.prog X.w _ _ ⟨.bl _,H,I,rfl,k⟩
 ·refine SeqAt.RcAt.lists_lengths (A:=X.A) p1.isList p2.isList (by rw[e3,e4];simpa using hl) (by lia) X.prog X.w _ _ ⟨.bl _,H,I,?_,k⟩
  rw[ai hl];rfl
def zg (K:PySem.W.Frag):R2:=fun x y H Q=>(∃a b xs ys,x= .ref a∧y= .ref b∧SqT K H a xs∧SqT K H b ys∧xs.all p5=true∧ys.all p5=true∧Q (.bl (E3 xs ys)) H)∨(∃a xs,x= .non∧y= .ref a∧SqT K H a xs∧Q (.bl false) H)
theorem wq (hu:X.A.units+64<cLine):OpR X (compareOp .Eq) (zg X.K):=by
 intro pins s σ H x y v u Q I rx ry h
 rcases h with⟨a,b,xs,ys,rfl,rfl,ha,hb,fx,fy,k⟩|⟨a,xs,rfl,rfl,ha,k⟩
 ·cases rx
  cases ry
  obtain⟨its,r1,p1,z1⟩:=I.tuple ha
  obtain⟨its',r2,p2,z2⟩:=I.tuple hb
  have l1:=r1.length
  have l2:=r2.length
  have q:=SeqAt.RcAt.tuples (A:=X.A) (e:=fun j=>N6 (xs.getD j .non) (ys.getD j .non)) (show s.heap.IsTuple a its.toArray from p1) (show s.heap.IsTuple b its'.toArray from p2) (by lia) fun j g1 g2=>by
   have g1':j<its.length:=by simpa using g1
   have g2':j<its'.length:=by simpa using g2
   have x1:xs[j]?=some (xs[j]'(by lia)):=by simp [show j<xs.length by lia]
   have y1:ys[j]?=some (ys[j]'(by lia)):=by simp [show j<ys.length by lia]
   obtain⟨u1,hu1,ru1⟩:=r1.get x1
   obtain⟨u2,hu2,ru2⟩:=r2.get y1
   have e1:its.toArray[j]=u1:=by
    have:=List.getElem?_eq_getElem g1'
    rw[hu1] at this
    simpa using(Option.some.inj this).symm
   have e2:its'.toArray[j]=u2:=by
    have:=List.getElem?_eq_getElem g2'
    rw[hu2] at this
    simpa using(Option.some.inj this).symm
   rw[e1,e2]
   have d1:xs.getD j .non=xs[j]'(by lia):=by rw[List.getD_eq_getElem?_getD,x1];rfl
   have d2:ys.getD j .non=ys[j]'(by lia):=by rw[List.getD_eq_getElem?_getD,y1];rfl
   rw[d1,d2]
   exact E8 ru1 ru2 (List.all_eq_true.mp fx _ (List.getElem_mem _)) (List.all_eq_true.mp fy _ (List.getElem_mem _))
  have e3:its.toArray.size=xs.length:=by simp [l1]
  have e4:its'.toArray.size=ys.length:=by simp [l2]
  rw[e3,e4,B8] at q
  exact q X.prog X.w _ _ ⟨.bl _,H,I,rfl,k⟩
 ·cases rx
  cases ry
  obtain⟨its,r1,p1,z1⟩:=I.tuple ha
  exact SeqAt.RcAt.none_tuple (A:=X.A) (show s.heap.IsTuple a its.toArray from p1) (by lia) X.prog X.w _ _ ⟨.bl false,H,I,rfl,k⟩
def mF (K:PySem.W.Frag):R2:=fun x y H Q=>Ab x y H Q∨zu K x y H Q∨zg K x y H Q∨yX K x y H Q
theorem Bq (K:PySem.W.Frag){k:Nat}(hr:Room k X.A)(h:X.K=K:=by rfl):OpR X (compareOp .Eq) (mF K):=h▸op_eq.or ((xB hr.units).or ((wq hr.units).or (xJ hr.units)))
end
section
variable {K:PySem.W.Frag} {H:Hp} {Q:VK}
theorem oZ {i j:Int}(q:Q (.bl (decide (i=j))) H):mF K (.int i) (.int j) H Q:= .inl (fZ q)
theorem pU {i j:Str}(q:Q (.bl (decide (i=j))) H):mF K (.str i) (.str j) H Q:= .inl (gc q)
end
end L2
set_option Elab.async false
set_option linter.all false
set_option maxRecDepth 100000
set_option maxHeartbeats 4000000
namespace L2
open PySem PySem.Spec PyProof.Rows
section
variable {K:PySem.W.Frag} {σ:St} {H H' H1:Hp} {Q:VK} {d:Addr} {kvs:List (d7×V)} {o:Obj}
theorem fT {i j:Int}(q:Q (.bl (!decide (i=j))) H):AF (.int i) (.int j) H Q:=⟨rfl,by rw[bF];rw[show(i==j)=decide (i=j) from Bool.beq_eq_decide_eq i j];exact q⟩
def nf:HO→Bool
 | .frz _ _=>false
 |_=>true
def Le (H H':Hp):Prop:=∀a u,nf u=true→Rd H a u→Rd H' a u
theorem Le.trans (a:Le H H1)(b:Le H1 H'):Le H H':=fun x u n h=>b x u n (a x u n h)
theorem Same.le (s:Same H H'):Le H H':=fun a u _ h=>s.rd h
theorem J1 (h:H d=some (.dK kvs)):Le H (B1 d o kvs H):=fun a u n r=>by
 by_cases e:a=d
 ·subst e
  rcases r with r|⟨o',r⟩
  ·rw[h] at r;cases r
   exact .inr ⟨o,c9⟩
  ·rw[h] at r;cases r
 ·unfold B1 Rd
  rw[b0 e];exact r
theorem ki:Le H (thaw d H):=fun a u n r=>by
 by_cases e:a=d
 ·subst e
  rcases r with r|⟨o',r⟩
  ·rw[kJ fun o v z=>by rw[r] at z;cases z;cases n];exact .inl r
  ·exact .inl (thaw_at r)
 ·unfold Rd
  rw[G6 e];exact r
theorem Le.tup {a:Addr}{xs:List V}(l:Le H H')(h:SqT K H a xs):SqT K H' a xs:=by
 rcases h with h|h
 ·exact .inl (l _ _ rfl h)
 ·exact .inr h
theorem Le.lst {a:Addr}{xs:List V}(l:Le H H')(h:SqL K H a xs):SqL K H' a xs:=by
 rcases h with h|h
 ·exact .inl (l _ _ rfl h)
 ·exact .inr h
theorem Le.dic {a:Addr}(l:Le H H')(h:Rd H a (.dK kvs)):Rd H' a (.dK kvs):=l _ _ rfl h
abbrev B6:=Str×Str×Str
structure x5 where
 pts:List (Str×Str)
 ts:List (Str×B6)
def i0 (pts:List (Str×Str)):List (d7×V):=pts.map fun x=>(Sum.inr x.1,.str x.2)
def D0 (t:B6):List V:=[.str t.1,.str t.2.1,.str t.2.2]
def TieAt (K:PySem.W.Frag)(H:Hp)(kv:d7×V)(x:Str×B6):Prop:=kv.1=Sum.inr x.1∧∃a,kv.2= .ref a∧SqT K H a (D0 x.2)
def TiesIs (K:PySem.W.Frag)(H:Hp)(kvs:List (d7×V))(ts:List (Str×B6)):Prop:=Paired (TieAt K H) kvs ts
structure WebAt (K:PySem.W.Frag) (H:Hp) (a p q:Addr) (kvs:List (d7×V)) (W:x5):Prop where
 tup:SqT K H a [.ref p,.ref q]
 pts:Rd H p (.dK (i0 W.pts))
 ties:Rd H q (.dK kvs)
 ts:TiesIs K H kvs W.ts
theorem TieAt.mono {kv:d7×V}{x:Str×B6}(l:Le H H')(h:TieAt K H kv x):TieAt K H' kv x:=let ⟨e,a,ea,s⟩:=h;⟨e,a,ea,l.tup s⟩
theorem TiesIs.mono {ts:List (Str×B6)}(l:Le H H')(h:TiesIs K H kvs ts):TiesIs K H' kvs ts:=Paired.imp' (fun _ _ z=>z.mono l) h
theorem WebAt.mono {a p q:Addr}{W:x5}(l:Le H H')(h:WebAt K H a p q kvs W):WebAt K H' a p q kvs W:=⟨l.tup h.tup,l.dic h.pts,l.dic h.ties,h.ts.mono l⟩
theorem TiesIs.length {ts:List (Str×B6)}(h:TiesIs K H kvs ts):kvs.length=ts.length:=Paired.length h
theorem TiesIs.keys {ts:List (Str×B6)}(h:TiesIs K H kvs ts):kvs.map (·.1)=ts.map fun x=>Sum.inr x.1:=by
 unfold TiesIs at h
 induction h with
 |nil=>rfl
 |cons r _ ih=>rw[List.map_cons,List.map_cons,ih,r.1]
theorem TiesIs.get {ts:List (Str×B6)}{i:Nat}{kv:d7×V}(h:TiesIs K H kvs ts)(e:kvs[i]?=some kv):∃x,ts[i]?=some x∧TieAt K H kv x:=k9 h e
theorem TiesIs.val {ts:List (Str×B6)}{n:Str}:∀{kvs:List (d7×V)} {ts:List (Str×B6)},TiesIs K H kvs ts→n∈ts.map (·.1)→∃a x,i9 kvs (Sum.inr n:d7)=some (.ref a)∧(n,x)∈ts∧SqT K H a (D0 x)
 |_,_,.nil,h=>by simp at h
 |kv::r,x::ts,.cons t u,h=>by
  obtain⟨e,a,ea,s⟩:=t
  by_cases hn:x.1=n
  ·subst hn
   refine⟨a,x.2,?_,List.mem_cons_self,s⟩
   rw[u5 e,ea]
  ·have h':n∈ts.map (·.1):=by
    rcases List.mem_cons.mp h with z|z
    ·exact absurd z.symm hn
    ·exact z
   obtain⟨b,y,h1,h2,h3⟩:=TiesIs.val (ts:=ts) u h'
   refine⟨b,y,?_,List.mem_cons_of_mem _ h2,h3⟩
   rw[u4 (by rw[e];intro z;exact hn (Sum.inr.inj z))]
   exact h1
theorem C5 (pts:List (Str×Str)):(i0 pts).map (·.1)=pts.map fun x=>Sum.inr x.1:=by
 unfold i0
 rw[List.map_map];rfl
def lt (a b:Str):Bool:=decide (a.cps.toList<b.cps.toList)
def rf (ss:List Str):Bool:=(ss.dropLast.zip ss.tail).all fun p=>lt p.1 p.2
theorem kW:∀a b:List Nat,ltCps a b=true∨a=b∨ltCps b a=true
 |[],[]=> .inr (.inl rfl)
 |[],_::_=> .inl rfl
 |_::_,[]=> .inr (.inr rfl)
 |x::r,y::t=>by
  rcases Nat.lt_trichotomy x y with h|h|h
  ·exact .inl (by simp [ltCps,h])
  ·subst h
   rcases kW r t with z|z|z
   ·exact .inl (by simp [ltCps,z])
   ·exact .inr (.inl (by rw[z]))
   ·exact .inr (.inr (by simp [ltCps,z]))
  ·exact .inr (.inr (by simp [ltCps,h]))
theorem yv {a b:Str}(h:ltCps b.cps.toList a.cps.toList=false)(hne:a≠b):lt a b=true:=by
 unfold lt
 rw[←ltCps_eq]
 rcases kW a.cps.toList b.cps.toList with z|z|z
 ·exact z
 ·exfalso
  apply hne
  obtain⟨⟨l⟩⟩:=a
  obtain⟨⟨m⟩⟩:=b
  have z':l=m:=z
  rw[z']
 ·rw[z] at h;cases h
theorem dD (x y:Str)(r:List Str):rf (x::y::r)=(lt x y&&rf (y::r)):=by
 unfold rf
 simp [List.dropLast]
theorem bC:∀{ss:List Str},sortedS ss=true→ss.Nodup→rf ss=true
 |[],_,_=>rfl
 |[_],_,_=>rfl
 |x::y::r,h,n=>by
  have h':(!ltCps y.cps.toList x.cps.toList&&risingS y r)=true:=h
  rw[Bool.and_eq_true] at h'
  have n':=List.nodup_cons.mp n
  rw[dD,yv (by simpa using h'.1) (fun z=>n'.1 (by rw[z];exact List.mem_cons_self)),bC (ss:=y::r) h'.2 n'.2];rfl
end
theorem qQ (xs:List V):W4 xs (some 1) none=xs.drop 1:=by
 unfold W4
 have e1:HT.sIx xs.length 0 (some ((1:Nat):Int))=min 1 xs.length:=HT.sIx_nat _ _ _
 have e2:HT.sIx xs.length xs.length none=xs.length:=rfl
 rw[show(some (1:Int))=some ((1:Nat):Int) from rfl,e1,e2]
 cases xs with
 |nil=>rfl
 |cons x r=>
  have e3:min 1 (x::r).length=1:=by simp
  rw[e3,List.take_of_length_le (by simp)]
end L2
set_option Elab.async false
set_option linter.all false
set_option maxRecDepth 100000
set_option maxHeartbeats 4000000
namespace L2
open PySem PySem.Spec PyProof.Rows
theorem Inv.off {X:Cx}{pins:List (Addr×Obj)}{σ:St}{H:Hp}{s:Shared}{C:Addr}{h':Heap}(I:Inv X pins σ H s)(hH:H C=none)(h0:X.s₀.heap.objs.size≤C)(h1:C≠X.env.locals)(h2:∀x c,X.env.cells.lookup x=some c→c≠C)(h3:∀p∈X.pn++pins,p.1≠C)(sb:Heap.SameBut C s.heap h'):Inv X pins σ H {s with heap:=h'}:=by
 refine I.call' (s':={s with heap:=h'}) (ch:=[C]) rfl ?_ ?_ I.bare fun b hb=>?_
 ·have same:∀b,b∉[C]→h'.get? b=s.heap.get? b:=fun b hb=>sb.2 b fun z=>hb (by rw[z];exact List.mem_cons_self)
  refine⟨fun b o q n hb hx=>?_,fun b o q n hb hx=>?_,fun b o q n hx=>n,fun b o q hx=>?_,fun b xs q=>q,fun b o u q=>q,fun b ps q=>⟨#[],by rw[Array.append_empty];exact q⟩⟩
  ·show h'.get? b=_
   rw[same b hx];exact q
  ·exact⟨o.slots,(same b hx).trans q⟩
  ·exact⟨o,(same b hx).trans q⟩
 ·refine fun b ob e=>(I.hok b ob e).stay (fun c w' hc q=>(sb.2 c ?_).trans q) (fun _ q=>q) fun _ _ q=>q
  rintro rfl
  rcases hc with rfl|hc
  ·rw[hH] at e;cases e
  ·rw[hH] at hc;cases hc
 ·rw[List.mem_singleton.mp hb]
  exact⟨.inr h0,h1,h2,h3⟩
theorem jj {X:Cx}{own:List Str}{js:List Nat}{scope:Scope}{tg iter elt:Expr}{ifs:List Expr}{pos spos py:Pos}{g:TG}{ti:TT}{te:TE}{wi:gX}{i:Nat}{y:Str}(hN:X.N.Nodup)(hy:X.N[i]?=some y)(hl:uv X.env.scope y)(S:xR X own js scope=true)(hc:X.calm=true)(hit:rC X tg iter wi)
  (hg:∀C s H fp,PG (V1 X own js scope C s H fp) tg g) (hi:∀C s H fp,jt (V1 X own js scope C s H fp) ifs ti) (he:∀C s H fp,PE (V1 X own js scope C s H fp) elt te)
  (hsw:swapsWith (.ListComp elt [⟨tg,iter,ifs,0⟩] scope pos) (some (.Name y py)) spos.line X.env=pure true)
  (hf:X.fn y=true∨X.env.scope.names.lookup y=some .local)
  (hs:∀x,foldedSetIterable iter X.env x=pure x):
  PS X (.Assign [.Name y py] (.ListComp elt [⟨tg,iter,ifs,0⟩] scope pos) spos) (jF (cI own js wi g ti te) (K6 i)):=by
 have SB:=qU S
 intro pins s σ H D I h
 rw[exec_Assign_Name_used _ _ _ _ hsw]
 refine wpAny_bind (wpAny_standAt (wpAny_bind ?_))
 show wpAny _ X.A (do let _←comprehension (.ListComp elt [⟨tg,iter,ifs,0⟩] scope pos) scope X.env _ (newList []) false (eval iter X.env) (some (assign (.Name y py) X.env))) _ _ s
 refine wpAny_bind (wpAny_mono (wpAny_comprehension_free (use:=some (assign (.Name y py) X.env)) (Q:=fun _ s'=>SP X pins D .next s') rfl hs (bT (SB.cells I)) SB.kind SB.names (B5 (hit pins s σ H _ I h) fun v s1 h1=>B5 h1 fun itv s2 h2=>?_)) (fun _ s' hq=>wpAny_pure (wpAny_pure hq)) fun _ _ e=>e)
 obtain⟨it,fp,tn,J,H2,e,I2,T,st2,f2,th,hth,W,⟨m0,w0⟩,turn⟩:=h2
 subst e
 refine wpAny_newObj_type (wpAny_newFunctionEnv SB.nocell (by intro y hy;simp at hy) (fun h₁ hns₁ hsb₁=>?_) SB.kind)
 dsimp only at hns₁ hsb₁⊢
 generalize hH2:s2.heap.push {cls:= .type "list",dict:=none,data:= .seq ([]:List Value).toArray}=G2 at hns₁ hsb₁⊢
 have hCs:G2.objs.size=s2.heap.objs.size+1:=by rw[←hH2,Heap.size_push]
 have hDC:s2.heap.objs.size≠G2.objs.size:=by rw[hCs];exact Nat.ne_of_lt (Nat.lt_succ_self _)
 have hC:s2.heap.objs.size≤G2.objs.size:=by rw[hCs];exact Nat.le_succ _
 have old:∀b o,s2.heap.get? b=some o→h₁.get? b=some o:=fun b o e=>
  hsb₁.extBut b o (Nat.ne_of_lt (Nat.lt_of_lt_of_le (Heap.lt_size e) hC)) (Heap.get?_push_of_some _ (hH2▸Heap.get?_push_of_some _ e))
 have off:∀b o,s2.heap.get? b=some o→b≠G2.objs.size:=fun b o e=>Nat.ne_of_lt (Nat.lt_of_lt_of_le (Heap.lt_size e) hC)
 have hob:∀b∈fp,∃o,s2.heap.get? b=some o:=fun b hb=>let ⟨o,e,_⟩:=T.obj _ _ st2 b hb;⟨o,e⟩
 have hacc:h₁.get? s2.heap.objs.size=some {cls:= .type "list",data:= .seq ([]:List Value).toArray}:=
  hsb₁.extBut _ _ hDC (Heap.get?_push_of_some _ (hH2▸Heap.get?_push_size _ rfl))
 have loop:∀s3:Shared,s3={s2 with heap:=h₁,toks:=s2.toks+([]:List (Str×Value)).length}→
   codeAny (model X.prog X.w) X.A (.compLoop (.ListComp elt [⟨tg,iter,ifs,0⟩] scope pos) 0 (.ref it) (.ref s2.heap.objs.size) (compEnvC scope (bj scope X.env) G2.objs.size X.env))
    (compPost (model X.prog X.w) X.A X.xe (some (assign (.Name y py) X.env)) (fun _ s'=>SP X pins D .next s') (.ref s2.heap.objs.size) G2.objs.size) s3:=by
  rintro s3 rfl
  refine dU (K:=fun out H'=>K6 i (.ref s2.heap.objs.size) σ (th (i7 H' s2.heap.objs.size (.lst out))) D.nx) SB hc T I2 f2 (Nat.le_refl _) hC hDC hob (hg _ _ _ _) (hi _ _ _ _) (he _ _ _ _) W (fun i m out H' w=>?_) (fun out H' s' B hl' k=>?_) w0
   ⟨Inv.block SB I2 f2 hob hC hns₁ old,I2.hok.fresh (Nat.le_refl _),[],_,.nil,hacc⟩ (T.keep _ _ _ st2 fun b _ o e=>old b o e) (fun b hb=>(f2 b hb).1)
  ·rcases turn i m out H' w with⟨a,b⟩|c
   ·exact .inl ⟨a,fun n=>b _ n⟩
   ·exact .inr c
  ·obtain⟨mm,hn,_⟩:=B.inv.loc
   have hHC:H' G2.objs.size=none:=B.inv.free
   have IJ:=B.out I2 f2 (Nat.le_refl _) hC hDC hl' (h':=s'.heap) (Heap.SameBut.refl _ _)
   show wpAny _ X.A (assign (.Name y py) X.env (.ref s2.heap.objs.size)) _ _ s'
   refine wpAny_assign_Name (dy IJ hN hy hl (v:= .ref s2.heap.objs.size) rfl (fun s'' I'' hx=>?_) hf)
   obtain⟨a,sa,ha⟩:=hx
   have haC:G2.objs.size≠a:=by
    rcases ha with rfl|ha
    ·exact Ne.symm (Nat.ne_of_lt (Nat.lt_of_lt_of_le I2.lt hC))
    ·obtain⟨_,o,ho,_⟩:=I2.cell _ _ ha
     exact Ne.symm (off _ _ ho)
   refine⟨mm,hn.sameBut sa haC,fun h' sb=>⟨_,_,hth _ _ _ _ (I''.off (by rw[b0 (Ne.symm hDC)];exact hHC) (Nat.le_trans I2.sz hC) (Ne.symm (Nat.ne_of_lt (Nat.lt_of_lt_of_le I2.lt hC))) (fun x c e=>?_) (fun p hp=>off _ _ (I2.pin p hp).1) sb),k⟩⟩
   obtain⟨_,o,ho,_⟩:=I2.cell _ _ e
   exact off _ _ ho
 exact codeAny_compStart_list (loop _ rfl) (T.self _ 0 _ _ _ (T.keep _ _ _ st2 fun b _ o e=>old b o e) (loop _ rfl))
theorem Q8 {X:Cx}{own:List Str}{js:List Nat}{scope:Scope}{tg iter elt:Expr}{ifs:List Expr}{pos spos py:Pos}{g:TG}{ti:TT}{te:TE}{wi:gX}{i:Nat}{y:Str}(hN:X.N.Nodup)(hy:X.N[i]?=some y)(hl:uv X.env.scope y)(S:xR X own js scope=true)(hc:X.calm=true)(hit:QI X tg iter wi)
  (hg:∀C s H fp,QG (V1 X own js scope C s H fp) tg g) (hi:∀C s H fp,zZ (V1 X own js scope C s H fp) ifs ti) (he:∀C s H fp,QE (V1 X own js scope C s H fp) elt te)
  (hsw:swapsWith (.ListComp elt [⟨tg,iter,ifs,0⟩] scope pos) (some (.Name y py)) spos.line X.env=pure true:=by rfl)
  (hf:X.fn y=true∨X.env.scope.names.lookup y=some .local:=by first|exact .inl rfl|exact .inr rfl)
  (hs:∀x,foldedSetIterable iter X.env x=pure x:=by intro _;rfl):QS X (.Assign [.Name y py] (.ListComp elt [⟨tg,iter,ifs,0⟩] scope pos) spos) (jF (cI own js wi g ti te) (K6 i)):=
 ⟨jj hN hy hl S hc hit.r (fun C s H fp=>(hg C s H fp).r) (fun C s H fp=>(hi C s H fp).r) (fun C s H fp=>(he C s H fp).r) hsw hf hs⟩
end L2
set_option Elab.async false
set_option linter.all false
set_option maxRecDepth 100000
set_option maxHeartbeats 4000000
namespace L2
open PySem PySem.Spec PyProof.Rows
open PySem.AutoSeq1 (wpAny_loadPart')
def NcP (P:Program)(w:World)(A:Around)(s:Shared)(y x:Value)(b:Bool):Prop:=∀(E:Value→Shared→Prop) (Q:Value→Shared→Prop),Q (.bool b) s→wpAny (model P w) A (richCompare .NotEq y x) Q E s
theorem wL {P:Program}{w:World}(l m:Addr)(xs ys:Array Value)(n1 n2:Nat)(d1 d2:Option Addr)(s1 s2:Array (Option Value))(f:Nat→Bool):
  MeetsIn P w (Builtin.«tuple.__ne__» ⟨[.ref l,.ref m],[]⟩) (fun A R s=>
   s.heap.get? l=some {cls:= .type "tuple",dict:=d1,data:= .seq xs n1,slots:=s1}∧s.heap.get? m=some {cls:= .type "tuple",dict:=d2,data:= .seq ys n2,slots:=s2}∧
   (∀j (g1:j<xs.size) (g2:j<ys.size),EqP P w A.in1 s xs[j] ys[j] (f j))∧
   R (.ok (.ret (.bool (!((List.range (min xs.size ys.size)).all f&&xs.size==ys.size))))) s):=
 .of_wp fun A R s hyp=>by
  obtain⟨hp,gg,dr,tk,os⟩:=s
  obtain⟨e1,e2,he,fin⟩:=hyp
  have sub:=AutoSeq1.sub_tuple_tuple
  have len:(xs.toList.zip ys.toList).length=min xs.size ys.size:=by simp
  wp_walk using wpAny_loadPart' e1,wpAny_loadPart' e2,wpAny_forIn_list _ (fun more acc st=>acc.1=none∧st=⟨hp,gg,dr,tk,os⟩∧∃i,more=(xs.toList.zip ys.toList).drop i∧
   R (.ok (.ret (.bool (!(((List.range (min xs.size ys.size)).drop i).all f&&xs.size==ys.size))))) ⟨hp,gg,dr,tk,os⟩) _
  case turn=>
   rintro⟨y,x⟩ more acc st ⟨ha,rfl,i,hi,hR⟩
   have lt:i<(xs.toList.zip ys.toList).length:=by
    rcases Nat.lt_or_ge i (xs.toList.zip ys.toList).length with z|z
    ·exact z
    ·rw[List.drop_of_length_le z] at hi
     cases hi
   have lm:i<min xs.size ys.size:=len▸lt
   have lx:i<xs.size:=Nat.lt_of_lt_of_le lm (Nat.min_le_left _ _)
   have ly:i<ys.size:=Nat.lt_of_lt_of_le lm (Nat.min_le_right _ _)
   rw[List.drop_eq_getElem_cons lt] at hi
   injection hi with h1 h2
   have q1:y=xs[i]:=by simpa using congrArg Prod.fst h1
   have q2:x=ys[i]:=by simpa using congrArg Prod.snd h1
   subst q1 q2
   have dr1:(List.range (min xs.size ys.size)).drop i=i::(List.range (min xs.size ys.size)).drop (i+1):=by simp [List.drop_eq_getElem_cons,lm]
   rw[dr1,List.all_cons] at hR
   refine wpAny_bind (he i lx ly _ _ ?_)
   cases hf:f i with
   |true=>
    rw[hf] at hR
    wp_walk
    exact⟨rfl,rfl,i+1,h2,by simpa using hR⟩
   |false=>
    rw[hf] at hR
    wp_walk
    exact⟨_,rfl,by simpa using hR⟩
  case fin=>
   rintro⟨c1,c2⟩ st ⟨ha,rfl,i,hi,hR⟩
   simp only at ha
   subst ha
   have ge:min xs.size ys.size≤i:=by
    rcases Nat.lt_or_ge i (xs.toList.zip ys.toList).length with z|z
    ·rw[List.drop_eq_getElem_cons z] at hi
     cases hi
    ·exact len▸z
   rw[List.drop_of_length_le (by simpa using ge)] at hR
   wp_walk
   exact⟨_,rfl,by simpa [Builtin.Tuple.tupleCompareSizes,bne] using hR⟩
  case h=>
   exact⟨rfl,rfl,0,rfl,by simpa using fin⟩
theorem NcP.tup {P:Program}{w:World}{A:Around}{s:Shared}{l m:Addr}{xs ys:Array Value}{f:Nat→Bool}(hl:s.heap.IsTuple l xs)(hm:s.heap.IsTuple m ys)(hu:A.units<cLine)
  (he:∀j (g1:j<xs.size) (g2:j<ys.size),EqP P w A.in1 s xs[j] ys[j] (f j)):NcP P w A s (.ref l) (.ref m) (!((List.range (min xs.size ys.size)).all f&&xs.size==ys.size)):=fun E Q q=>by
 obtain⟨⟨c1,d1,a1,s1⟩,o1,k1,n1,t1⟩:=id hl
 obtain⟨⟨c2,d2,a2,s2⟩,o2,k2,n2,t2⟩:=id hm
 simp only at k1 t1 k2 t2
 subst k1 t1 k2 t2
 refine wpAny_richCompare_same_room (op:= .NotEq) ⟨_,o1,rfl⟩ ⟨_,o2,rfl⟩ PySem.F.slot_tuple_ne (call_meetsIn PySem.F.slot_tuple_ne ⟨_,o1,rfl⟩ PySem.F.entry_tuple_ne (PySem.F.args_tuple_ne_2 _ _) (wL l m xs ys n1 n2 d1 d2 s1 s2 f) ⟨o1,o2,he,?_⟩) hu
 exact⟨(fun z=>nomatch z),q⟩
section
variable {X:Cx} {pins:List (Addr×Obj)} {σ:St} {H:Hp} {s:Shared} {A:Around}
def ye (K:PySem.W.Frag):R2:=fun x y H Q=>∃a b p q p' q' r r',x= .ref a∧y= .ref b∧SqT K H a [.ref p,.ref q]∧SqT K H b [.ref p',.ref q']∧EqD K H p p' r∧EqD K H q q' r'∧Q (.bl (!(r&&r'))) H
theorem wF (hu:X.A.units+64<cLine):OpR X (compareOp .NotEq) (ye X.K):=by
 intro pins s σ H x y v u Q I rx ry h
 obtain⟨a,b,p,q,p',q',r,r',rfl,rfl,ha,hb,h1,h2,k⟩:=h
 cases rx
 cases ry
 obtain⟨its,v1,t1,_⟩:=I.tuple ha
 obtain⟨its',v2,t2,_⟩:=I.tuple hb
 obtain⟨_,_,rfl,e1,e2⟩:=M9 v1
 obtain⟨_,_,rfl,e3,e4⟩:=M9 v2
 cases e1
 cases e2
 cases e3
 cases e4
 refine NcP.tup (P:=X.prog) (w:=X.w) (f:=fun j=>if j=0 then r else r') (show s.heap.IsTuple a _ from t1) (show s.heap.IsTuple b _ from t2) (by lia) (fun j g1 g2=>?_) _ _ ⟨.bl (!(r&&r')),H,I,by show Value.bool _=Value.bool _;simp [List.range_succ],k⟩
 have g:j<2:=by simpa using g1
 match j,g with
 |0,_=>exact h1.at_ I (by show X.A.units+1+16<_;lia)
 |1,_=>exact h2.at_ I (by show X.A.units+1+16<_;lia)
def yy (K:PySem.W.Frag):R2:=fun x y H Q=>∃a b xs ys,x= .ref a∧y= .ref b∧SqL K H a xs∧SqL K H b ys∧xs.all p5=true∧ys.all p5=true∧Q (.bl (!E3 xs ys)) H
theorem wU (hu:X.A.units+64<cLine):OpR X (compareOp .NotEq) (yy X.K):=by
 intro pins s σ H x y v u Q I rx ry h
 obtain⟨a,b,xs,ys,rfl,rfl,ha,hb,fx,fy,k⟩:=h
 cases rx
 cases ry
 obtain⟨its,r1,p1,z1⟩:=I.list ha
 obtain⟨its',r2,p2,z2⟩:=I.list hb
 have l1:=r1.length
 have l2:=r2.length
 have e3:its.toArray.size=xs.length:=by simp [l1]
 have e4:its'.toArray.size=ys.length:=by simp [l2]
 by_cases hl:xs.length=ys.length
 ·have q:=SeqAt.RcNeAt.lists (A:=X.A) (e:=fun j=>N6 (xs.getD j .non) (ys.getD j .non)) p1.isList p2.isList (by rw[e3,e4];exact hl) (by lia) fun j g1 g2=>by
   have g1':j<its.length:=by simpa using g1
   have g2':j<its'.length:=by simpa using g2
   have x1:xs[j]?=some (xs[j]'(by lia)):=by simp [show j<xs.length by lia]
   have y1:ys[j]?=some (ys[j]'(by lia)):=by simp [show j<ys.length by lia]
   obtain⟨u1,hu1,ru1⟩:=r1.get x1
   obtain⟨u2,hu2,ru2⟩:=r2.get y1
   have e1:its.toArray[j]=u1:=by
    have:=List.getElem?_eq_getElem g1'
    rw[hu1] at this
    simpa using(Option.some.inj this).symm
   have e2:its'.toArray[j]=u2:=by
    have:=List.getElem?_eq_getElem g2'
    rw[hu2] at this
    simpa using(Option.some.inj this).symm
   rw[e1,e2]
   have d1:xs.getD j .non=xs[j]'(by lia):=by rw[List.getD_eq_getElem?_getD,x1];rfl
   have d2:ys.getD j .non=ys[j]'(by lia):=by rw[List.getD_eq_getElem?_getD,y1];rfl
   rw[d1,d2]
   exact E8 ru1 ru2 (List.all_eq_true.mp fx _ (List.getElem_mem _)) (List.all_eq_true.mp fy _ (List.getElem_mem _))
  have e5:=B8 xs ys
  rw[hl,Nat.min_self,beq_self_eq_true,Bool.and_true] at e5
  rw[e3,hl,e5] at q
  exact q X.prog X.w _ _ ⟨.bl _,H,I,rfl,k⟩
 ·refine SeqAt.RcNeAt.lists_lengths (A:=X.A) p1.isList p2.isList (by rw[e3,e4];simpa using hl) (by lia) X.prog X.w _ _ ⟨.bl _,H,I,?_,k⟩
  rw[ai hl];rfl
def zB (K:PySem.W.Frag):R2:=fun x y H Q=>(∃a b xs ys,x= .ref a∧y= .ref b∧SqT K H a xs∧SqT K H b ys∧xs.all p5=true∧ys.all p5=true∧Q (.bl (!E3 xs ys)) H)∨(∃a xs,x= .non∧y= .ref a∧SqT K H a xs∧Q (.bl true) H)
theorem wR (hu:X.A.units+64<cLine):OpR X (compareOp .NotEq) (zB X.K):=by
 intro pins s σ H x y v u Q I rx ry h
 rcases h with⟨a,b,xs,ys,rfl,rfl,ha,hb,fx,fy,k⟩|⟨a,xs,rfl,rfl,ha,k⟩
 ·cases rx
  cases ry
  obtain⟨its,r1,p1,z1⟩:=I.tuple ha
  obtain⟨its',r2,p2,z2⟩:=I.tuple hb
  have l1:=r1.length
  have l2:=r2.length
  have q:=SeqAt.RcNeAt.tuples (A:=X.A) (e:=fun j=>N6 (xs.getD j .non) (ys.getD j .non)) (show s.heap.IsTuple a its.toArray from p1) (show s.heap.IsTuple b its'.toArray from p2) (by lia) fun j g1 g2=>by
   have g1':j<its.length:=by simpa using g1
   have g2':j<its'.length:=by simpa using g2
   have x1:xs[j]?=some (xs[j]'(by lia)):=by simp [show j<xs.length by lia]
   have y1:ys[j]?=some (ys[j]'(by lia)):=by simp [show j<ys.length by lia]
   obtain⟨u1,hu1,ru1⟩:=r1.get x1
   obtain⟨u2,hu2,ru2⟩:=r2.get y1
   have e1:its.toArray[j]=u1:=by
    have:=List.getElem?_eq_getElem g1'
    rw[hu1] at this
    simpa using(Option.some.inj this).symm
   have e2:its'.toArray[j]=u2:=by
    have:=List.getElem?_eq_getElem g2'
    rw[hu2] at this
    simpa using(Option.some.inj this).symm
   rw[e1,e2]
   have d1:xs.getD j .non=xs[j]'(by lia):=by rw[List.getD_eq_getElem?_getD,x1];rfl
   have d2:ys.getD j .non=ys[j]'(by lia):=by rw[List.getD_eq_getElem?_getD,y1];rfl
   rw[d1,d2]
   exact E8 ru1 ru2 (List.all_eq_true.mp fx _ (List.getElem_mem _)) (List.all_eq_true.mp fy _ (List.getElem_mem _))
  have e3:its.toArray.size=xs.length:=by simp [l1]
  have e4:its'.toArray.size=ys.length:=by simp [l2]
  rw[e3,e4,B8] at q
  exact q X.prog X.w _ _ ⟨.bl _,H,I,rfl,k⟩
 ·cases rx
  cases ry
  obtain⟨its,r1,p1,z1⟩:=I.tuple ha
  exact SeqAt.RcNeAt.none_tuple (A:=X.A) (show s.heap.IsTuple a its.toArray from p1) (by lia) X.prog X.w _ _ ⟨.bl true,H,I,rfl,k⟩
def uA (K:PySem.W.Frag):R2:=fun x y H Q=>∃a b ka kb r0,x= .ref a∧y= .ref b∧Rd H a (.dK ka)∧Rd H b (.dK kb)∧EqH K H kb ka r0∧Q (.bl (ka.length==kb.length&&r0)) H
def uN (K:PySem.W.Frag):R2:=fun x y H Q=>∃a b ka kb r0,x= .ref a∧y= .ref b∧Rd H a (.dK ka)∧Rd H b (.dK kb)∧EqH K H kb ka r0∧Q (.bl (!(ka.length==kb.length&&r0))) H
theorem tu (hu:X.A.units+64<cLine):OpR X (compareOp .Eq) (uA X.K):=by
 intro pins s σ H x y v u Q I rx ry h
 obtain⟨a,b,ka,kb,r0,rfl,rfl,h1,h2,h3,k⟩:=h
 cases rx
 cases ry
 obtain⟨z1,d1,va,ra,da⟩:=C3 I.hok h1
 obtain⟨z2,d2,vb,rb,db⟩:=C3 I.hok h2
 have l1:=KV.length ra
 have l2:=KV.length rb
 exact PySem.W.keq_eq (knd:=h8 X.prog X.w) d1 d2 da db (by lia) (fun _=>h3.hits (A:=X.A.in1) I (by show X.A.units+1+8<_;lia) rb ra) ⟨.bl _,H,I,rfl,by rw[←l1,←l2];exact k⟩
theorem tE (hu:X.A.units+64<cLine):OpR X (compareOp .NotEq) (uN X.K):=by
 intro pins s σ H x y v u Q I rx ry h
 obtain⟨a,b,ka,kb,r0,rfl,rfl,h1,h2,h3,k⟩:=h
 cases rx
 cases ry
 obtain⟨z1,d1,va,ra,da⟩:=C3 I.hok h1
 obtain⟨z2,d2,vb,rb,db⟩:=C3 I.hok h2
 have l1:=KV.length ra
 have l2:=KV.length rb
 exact PySem.W.keq_ne (knd:=h8 X.prog X.w) d1 d2 da db (by lia) (fun _=>h3.hits (A:=X.A.in1) I (by show X.A.units+1+8<_;lia) rb ra) ⟨.bl _,H,I,rfl,by rw[←l1,←l2];exact k⟩
def xf (K:PySem.W.Frag):R2:=fun x y H Q=>mF K x y H Q∨uA K x y H Q
theorem Ai (K:PySem.W.Frag){k:Nat}(hr:Room k X.A)(h:X.K=K:=by rfl):OpR X (compareOp .Eq) (xf K):=(Bq K hr h).or (h▸tu hr.units)
def cY (K:PySem.W.Frag):R2:=fun x y H Q=>AF x y H Q∨yy K x y H Q∨zB K x y H Q∨ye K x y H Q∨uN K x y H Q
theorem Bz (K:PySem.W.Frag){k:Nat}(hr:Room k X.A)(h:X.K=K:=by rfl):OpR X (compareOp .NotEq) (cY K):=h▸op_ne.or ((wU hr.units).or ((wR hr.units).or ((wF hr.units).or (tE hr.units))))
end
section
variable {K:PySem.W.Frag} {H:Hp} {Q:VK}
theorem Am {x y:V}(q:mF K x y H Q):xf K x y H Q:= .inl q
theorem fU {i j:Int}(q:Q (.bl (!decide (i=j))) H):cY K (.int i) (.int j) H Q:= .inl (fT q)
theorem ko {i j:Bool}(q:Q (.bl (!decide (i=j))) H):cY K (.bl i) (.bl j) H Q:= .inl ⟨rfl,by rw[jn];rw[show(i==j)=decide (i=j) from Bool.beq_eq_decide_eq i j];exact q⟩
theorem gO {i j:Str}(q:Q (.bl (!decide (i=j))) H):cY K (.str i) (.str j) H Q:= .inl ⟨rfl,by rw[show decide (V.str i=V.str j)=decide (i=j) by simp];exact q⟩
theorem ie {a b:Addr}{xs ys:List V}(ha:SqL K H a xs)(hb:SqL K H b ys)(fx:xs.all p5=true)(fy:ys.all p5=true)(q:Q (.bl (!E3 xs ys)) H):cY K (.ref a) (.ref b) H Q:= .inr (.inl ⟨a,b,xs,ys,rfl,rfl,ha,hb,fx,fy,q⟩)
theorem oR {a b:Addr}{xs ys:List V}(ha:SqT K H a xs)(hb:SqT K H b ys)(fx:xs.all p5=true)(fy:ys.all p5=true)(q:Q (.bl (!E3 xs ys)) H):cY K (.ref a) (.ref b) H Q:= .inr (.inr (.inl (.inl ⟨a,b,xs,ys,rfl,rfl,ha,hb,fx,fy,q⟩)))
theorem pS {a b p q p' q':Addr}{r r':Bool}(ha:SqT K H a [.ref p,.ref q])(hb:SqT K H b [.ref p',.ref q'])(h1:EqD K H p p' r)(h2:EqD K H q q' r')(k:Q (.bl (!(r&&r'))) H):cY K (.ref a) (.ref b) H Q:= .inr (.inr (.inr (.inl ⟨a,b,p,q,p',q',r,r',rfl,rfl,ha,hb,h1,h2,k⟩)))
end
section
variable {X:Cx} {o e f:Expr} {apos cpos:Pos} {td ty tx:TE} {name:Str}
theorem uf (hb:attributeBase o name X.env (eval o X.env)=eval o X.env)(hl:(apos.endLine==cpos.line)=true)(h:i8 e=true):M1 X o name apos e cpos:=by
 have z:starEach [e] X.env=[(false,eval e X.env)]:=E5 (es:=[]) h
 have z2:backTo cpos (starEach [e] X.env)=[(false,eval e X.env)]:=by rw[z];rfl
 exact⟨hb,by rw[z2];rfl,hl,z2⟩
theorem yF (hb:attributeBase o name X.env (eval o X.env)=eval o X.env)(hl:(apos.endLine==cpos.line)=true)(h:i8 e=true)(h':i8 f=true):M2 X o name apos e f cpos:=by
 have z:starEach [e,f] X.env=[(false,eval e X.env),(false,eval f X.env)]:=by rw[E5 (es:=[f]) h,E5 (es:=[]) h'];rfl
 have z2:backTo cpos (starEach [e,f] X.env)=[(false,eval e X.env),(false,eval f X.env)]:=by rw[z];rfl
 exact⟨hb,by rw[z2];rfl,hl,z2⟩
theorem uH (hu:X.A.units+1<cLine)(ho:QE X o td)(he:QE X e ty)(hb:attributeBase o "get" X.env (eval o X.env)=eval o X.env:=by rfl)(hl:(apos.endLine==cpos.line)=true:=by rfl)(h:i8 e=true:=by rfl):
  QE X (.Call (.Attribute o "get" apos) [e] [] cpos) (iJ td ty):=⟨pM hu ho.r he.r (uf hb hl h)⟩
theorem zJ (hu:X.A.units+1<cLine)(ho:QE X o td)(he:QE X e ty)(hf:QE X f tx)(hb:attributeBase o "get" X.env (eval o X.env)=eval o X.env:=by rfl)(hl:(apos.endLine==cpos.line)=true:=by rfl)(h:i8 e=true:=by rfl)(h':i8 f=true:=by rfl):
  QE X (.Call (.Attribute o "get" apos) [e,f] [] cpos) (iF td ty tx):=⟨oW hu ho.r he.r hf.r (yF hb hl h h')⟩
theorem yY (ho:QE X o td)(he:QE X e ty)(hb:attributeBase o "pop" X.env (eval o X.env)=eval o X.env:=by rfl)(hl:(apos.endLine==cpos.line)=true:=by rfl)(h:i8 e=true:=by rfl):
  QE X (.Call (.Attribute o "pop" apos) [e] [] cpos) (qd td ty):=⟨qf ho.r he.r (uf hb hl h)⟩
end
section
variable {σ:St} {H:Hp} {Q:VK} {td ty tx:TE}
theorem yP (q:td σ H fun x H1=>∃a,x= .ref a∧xQ H1 a∧ty σ H1 fun y H2=>∃o,DGet H2 a y o∧Q (o.getD .non) H2):iJ td ty σ H Q:=q
end
end L2
set_option Elab.async false
set_option linter.all false
set_option maxRecDepth 100000
set_option maxHeartbeats 4000000
namespace L2
open PySem PySem.Spec PyProof.Rows
open Sem (wp)
section
variable {prog:Program} {w:World} {KT:Type} [DecidableEq KT] {knd:KeyKind prog w KT} {A:Around} {E:Value→Shared→Prop} {s:Shared}
end
section
variable {prog:Program} {w:World} {KT:Type} [DecidableEq KT] {knd:KeyKind prog w KT} {A:Around} {E:Value→Shared→Prop} {s:Shared}
open PySem.AutoSeq1 (wpAny_loadPart')
end
section
variable {X:Cx} {a:Expr} {t:TA} {p pos:Pos}
end
section
variable {K:PySem.W.Frag} {σ:St} {H:Hp} {ta:TA} {R:It→(Hp→Hp)→Hp→Prop}
end
end L2
set_option Elab.async false
set_option linter.all false
set_option maxRecDepth 100000
set_option maxHeartbeats 4000000
namespace L2
open PySem PySem.Spec PyProof.Rows
open Sem (wp)
theorem eN:typeLookup (.type "list") "keys"=pure none:=by rw[typeLookup_type,builtinLookup_eq_fast];kernel_rfl
section
variable {prog:Program} {w:World} {A:Around} {E:Value→Shared→Prop} {s:Shared}
theorem mP {a:Addr}{o:Obj}{xs:Array Value}{k:Nat}{Q:Option Value→Shared→Prop}
  (hx:s.heap.get? a=some o) (hc:o.cls= .type "list") (hdat:o.data= .seq xs k) (hd:o.dict=none) (hA:A.handled=none)
  (h:∀h' tk,(∀b ob,s.heap.get? b=some ob→h'.get? b=some ob)→Q none {s with heap:=h',toks:=tk}):
  wpAny (model prog w) A (getAttr? (.ref a) "keys") Q E s:=by
 obtain⟨c,dct,dat,sl⟩:=o
 simp only at hc hdat hd
 subst hc hdat hd
 obtain⟨hp,g,d,tk,os⟩:=s
 have hT:∀tk',(⟨hp,g,d,tk',os⟩:Shared).TypeIs (.ref a) "list":=fun _=>⟨_,hx,rfl⟩
 have f1:=sub_AttributeError
 have f3:=F.slot_list_getattribute.lookup
 have f4:=F.slot_list_getattribute.bind (.ref a)
 have f5:=am_list_getattr_none
 unfold getAttr? getAttrBy? getAttrBy
 repeat(any_goals (first|assumption|exact hT _|((with_reducible show wpAny _ _ (call (Value.builtin "list.__getattribute__") _ _) _ _ _);refine call_meets F.slot_list_getattribute (hT _) am_entry_list_getattribute (F.args_list_getattribute_2 _ _) (meets_getattribute_miss_list a xs k sl "keys" _ eN (by decide+kernel) (by decide+kernel)) ⟨hx,hA,fun h' tk' e hx'=>?_⟩)|wp_step))
 obtain⟨t',u',he⟩:=hx'.there
 show wpAny _ _ (getattributeRaised _ _ _ _ _ _ _) _ _ _
 unfold getattributeRaised
 repeat(any_goals (first|assumption|wp_step))
 exact h _ _ hx'.keeps
end
theorem E2:entryFor table "dict.update.loop"=some Builtin.«dict.update.loop»:=entryFor_of_tree (by kernel_rfl)
theorem r6:plainId "dict.update.loop"=true:=by decide+kernel
section
variable {prog:Program} {w:World} {KT:Type} [DecidableEq KT] {knd:KeyKind prog w KT} {A:Around} {E:Value→Shared→Prop}
def PairAt (knd:KeyKind prog w KT)(h:Heap)(d it:Addr)(u:Value)(kv:KT×Value):Prop:=∃t key,u= .ref t∧h.IsTuple t #[key,kv.2]∧knd.is kv.1 key=true∧t≠d∧t≠it
theorem PairAt.keep {h h':Heap}{d it:Addr}{u:Value}{kv:KT×Value}(p:PairAt knd h d it u kv)(k:∀b o,b≠d→b≠it→h.get? b=some o→h'.get? b=some o):PairAt knd h' d it u kv:=by
 obtain⟨t,key,e,⟨o,ho,r⟩,hk,h1,h2⟩:=p
 exact⟨t,key,e,⟨o,k t o h1 h2 ho,r⟩,hk,h1,h2⟩
theorem lV {d it l:Addr}{items:List Value}{res:Value}(hh:A.handled=none)(hdi:d≠it)(hli:l≠it)(hld:l≠d):
  ∀(more:List (KT×Value)) (i:Nat) (s:Shared) (kvs:List (KT×Value)) (R:Result→Shared→Prop),
   s.heap.IsListIter it l i→s.heap.IsList l items.toArray→Paired (PairAt knd s.heap d it) (items.drop i) more→s.heap.DictOf knd d kvs→kvs.length+more.length≤sizeLine→
   (∀h' tk,(∀b o,b≠d→b≠it→s.heap.get? b=some o→h'.get? b=some o)→h'.DictOf knd d (more.foldl (fun a x=>stored a x.1 x.2) kvs)→R (.ok (.ret res)) {s with heap:=h',toks:=tk})→
   codeAny (model prog w) A (.builtin "dict.update.loop" ⟨[.ref d,.ref it,rawInt (i:Int),res],[]⟩) R s:=by
 intro more
 induction more with
 |nil=>
  intro i s kvs R hit hl hp hd hz hR
  have hx:items.toArray[i]?=none:=by
   have hn:items.drop i=[]:=by cases hp':items.drop i with
    |nil=>rfl
    |cons x r=>rw[hp'] at hp;cases hp
   have:=List.drop_eq_nil_iff.mp hn
   simp;lia
  refine codeAny_builtin E2 ?_
  rw[Around.under_plainId r6 _]
  show wpAny _ A.in1 (pyNext (.ref it)>>=_) _ _ s
  refine wpAny_bind (wpAny_pyNext_list_end (A:=A.in1) hh hit hl hx fun h' eb=>?_)
  show wpAny _ A.in1 (Builtin.Dict.addKeywords d []>>=_) _ _ _
  refine wpAny_bind (wpAny_pure (wpAny_pure ?_))
  exact hR h' s.toks (fun b o h1 h2 e=>eb b o h2 e) (hd.extBut eb hdi)
 |cons kv more ih=>
  intro i s kvs R hit hl hp hd hz hR
  obtain⟨x,hx,hp0,hp1⟩:∃x,items.toArray[i]?=some x∧PairAt knd s.heap d it x kv∧Paired (PairAt knd s.heap d it) (items.drop (i+1)) more:=by
   cases hp':items.drop i with
   |nil=>rw[hp'] at hp;cases hp
   |cons x r=>
    rw[hp'] at hp
    cases hp with
    |cons h1 h2=>
     refine⟨x,?_,h1,?_⟩
     ·have z:=congrArg List.head? hp'
      simpa using z
     ·have z:=congrArg List.tail hp'
      rw[List.tail_drop] at z
      rw[z];exact h2
  obtain⟨t,key,rfl,⟨ot,hot,hct,nt,hdt⟩,hkey,h1,h2⟩:=hp0
  refine codeAny_builtin E2 ?_
  rw[Around.under_plainId r6 _]
  show wpAny _ A.in1 (pyNext (.ref it)>>=_) _ _ s
  refine wpAny_bind (wpAny_pyNext_list_item hit hl hx fun h' hit' hs'=>?_)
  have hot':h'.get? t=some ot:=hs'.extBut _ _ h2 hot
  refine wpAny_bind (wpAny_holding (wpAny_bind (wpAny_tryCatch ?_)))
  unfold Builtin.Dict.pairItems
  refine wpAny_bind (wpAny_typeOf (s:={s with heap:=h'}) ⟨_,hot',hct⟩ ?_)
  rw[if_pos (by decide)]
  refine wpAny_bind (wpAny_seqItems (s:={s with heap:=h'}) hot' hdt ?_)
  refine wpAny_pure ?_
  show wpAny _ A.in1 (holding [key,kv.2] (dictSet d key kv.2)) _ _ _
  refine wpAny_holding (wpAny_dictSet_pairs (s:={s with heap:=h'}) (kvs:=kvs) hkey (hd.extBut hs'.extBut hdi) (fun h'' dd hs''=>?_) (by simp only[List.length_cons] at hz;lia))
  have kp:∀b o,b≠d→b≠it→s.heap.get? b=some o→h''.get? b=some o:=fun b o hb1 hb2 e=>hs''.extBut b o hb1 (hs'.extBut b o hb2 e)
  refine wpAny_pure ⟨plainId_quiet r6 _,?_⟩
  refine ih (i+1) _ (stored kvs kv.1 kv.2) R ?_ ?_ (Paired.imp' (fun _ _ z=>z.keep kp) hp1) dd ?_ (fun h3 tk k3 d3=>hR h3 tk (fun b o e1 e2 e=>k3 b o e1 e2 (kp b o e1 e2 e)) d3)
  ·exact hit'.at fun o e=>hs''.extBut it o (Ne.symm hdi) e
  ·obtain⟨ol,hol,r⟩:=hl
   exact⟨ol,kp l ol hld hli hol,r⟩
  ·have z:=stored_length_le kvs kv.1 kv.2
   simp only[List.length_cons] at hz
   lia
theorem bq {l:Addr}{items:List Value}{o:Obj}{n:Nat}{more:List (KT×Value)}{s:Shared}{Q:Value→Shared→Prop}(hh:A.handled=none)(ho:s.heap.get? l=some o)(hc:o.cls= .type "list")(hdat:o.data= .seq items.toArray n)(hdn:o.dict=none)(hz:more.length≤sizeLine)
  (hp:Paired (fun u kv=>∃t key,u= .ref t∧s.heap.IsTuple t #[key,kv.2]∧knd.is kv.1 key=true) items more)
  (h:∀h' tk,h'.DictOf knd s.heap.objs.size (more.foldl (fun a x=>stored a x.1 x.2) [])→(∀b o,s.heap.get? b=some o→h'.get? b=some o)→Q (.ref s.heap.objs.size) {s with heap:=h',toks:=tk}):
  wpAny (model prog w) A (call (.type "dict") [.ref l]) Q E s:=by
 refine callType_codes (Q₁:=fun obj s₁=>obj= .ref s.heap.objs.size∧s₁={s with heap:=s.heap.push {cls:= .type "dict",data:= .dict #[]}}) F.kt_called_dict (F.kt_typeCall_dict_1 _) F.entry_dict_init (kt_code_dict_new _ ⟨rfl,rfl⟩) ?_
 rintro obj s₁ ⟨rfl,rfl⟩
 have hnew:(s.heap.push {cls:= .type "dict",data:= .dict #[]}).DictOf knd s.heap.objs.size []:=Heap.DictOf.new s.heap
 have hl0:l≠s.heap.objs.size:=Nat.ne_of_lt (Heap.lt_size ho)
 refine⟨hnew.typeIs,F.args_dict_init_2 _ _,?_⟩
 unfold Builtin.«dict.__init__»
 refine wpAny_bind ?_
 unfold Builtin.Dict.selfAndRest
 refine wpAny_bind (wpAny_notOrdered_dict hnew.typeIs ?_)
 show wpAny _ _ (pure (s.heap.objs.size,[Value.ref l])) _ _ _
 refine wpAny_pure ?_
 show wpAny _ _ (Builtin.Dict.updateFrom "dict.__init__" s.heap.objs.size (.ref l) [] .none) _ _ _
 unfold Builtin.Dict.updateFrom
 have ho1:(s.heap.push {cls:= .type "dict",data:= .dict #[]}).get? l=some o:=Heap.get?_push_of_some _ ho
 refine wpAny_bind (wpAny_typeOf (s:={s with heap:=s.heap.push {cls:= .type "dict",data:= .dict #[]}}) ⟨_,ho1,hc⟩ ?_)
 rw[if_pos (by decide)]
 refine wpAny_bind (mP (s:={s with heap:=s.heap.push {cls:= .type "dict",data:= .dict #[]}}) ho1 hc hdat hdn hh fun h2 tk2 k2=>?_)
 rw[if_pos (show((none:Option Value).isNone)=true from rfl)]
 have ho2:h2.get? l=some o:=k2 l o ho1
 have hd2:h2.DictOf knd s.heap.objs.size []:=let ⟨od,es,ep,e,r⟩:=hnew;⟨od,es,ep,k2 _ _ e,r⟩
 have hlt:s.heap.objs.size<h2.objs.size:=by obtain⟨od,es,ep,e,r⟩:=hd2;exact Heap.lt_size e
 have up:∀b ob,s.heap.get? b=some ob→(h2.push {cls:= .type "list_iterator",data:= .fields #[.ref l,.int 0 0]}).get? b=some ob:=fun b ob e=>Heap.get?_push_of_some _ (k2 b ob (Heap.get?_push_of_some _ e))
 refine wpAny_bind (wpAny_rule (wpAny_bind (wpAny_pyIter_list (l:=l) (items:=items.toArray) ⟨o,ho2,hc,n,hdat⟩ ?_)))
 refine wpAny_pure ⟨plainId_quiet r6 _,?_⟩
 refine lV (knd:=knd) (l:=l) (items:=items) (A:=A.in1) hh (Nat.ne_of_lt hlt) (Nat.ne_of_lt (Heap.lt_size ho2)) hl0 more 0 _ [] _ ⟨_,Heap.get?_push_size _ rfl,rfl,rfl⟩ ⟨o,Heap.get?_push_of_some _ ho2,hc,n,hdat⟩ ?_ (hd2.push _) (by simpa using hz) fun h3 tk k3 d3=>⟨rfl,h h3 tk d3 fun b ob e=>k3 b ob (Nat.ne_of_lt (Heap.lt_size e)) (Nat.ne_of_lt (Nat.lt_trans (Heap.lt_size e) hlt)) (up b ob e)⟩
 rw[List.drop_zero]
 refine Paired.imp' (fun u kv z=>?_) hp
 obtain⟨t,key,rfl,⟨ot,hot,r⟩,hk⟩:=z
 exact⟨t,key,rfl,⟨ot,up t ot hot,r⟩,hk,Nat.ne_of_lt (Heap.lt_size hot),Nat.ne_of_lt (Nat.lt_trans (Heap.lt_size hot) hlt)⟩
end
section
variable {X:Cx}
def PrV (K:PySem.W.Frag)(H:Hp)(x:V)(kv:d7×V):Prop:=∃t,x= .ref t∧SqT K H t [kV kv.1,kv.2]
def P5 (kvs:List (d7×V)):List (d7×V):=kvs.foldl (fun a x=>z0 a x.1 x.2) []
theorem KV.puts:∀{ps:List (d7×V)} {qs:List (d7×Value)} {a:List (d7×V)} {b:List (d7×Value)},KV ps qs→KV a b→KV (ps.foldl (fun a x=>z0 a x.1 x.2) a) (qs.foldl (fun a x=>stored a x.1 x.2) b)
 |_,_,_,_,.nil,h=>h
 |_::_,_::_,a,b,.cons r t,h=>by
  obtain⟨e,rv⟩:=r
  rw[List.foldl_cons,List.foldl_cons]
  refine KV.puts t ?_
  rw[←e]
  exact KV.put h _ rv
theorem R3:∀(ps:List (d7×V)) (a:List (d7×V)),(ps.foldl (fun a x=>z0 a x.1 x.2) a).length≤a.length+ps.length
 |[],a=>Nat.le_refl _
 |p::r,a=>by
  rw[List.foldl_cons,List.length_cons]
  have z:=R3 r (z0 a p.1 p.2)
  have z2:=F7 a p.1 p.2
  lia
theorem vc {pins : List (Addr × Obj)} {σ : L2.St} {H : Hp} {s : Shared} (I : Inv X pins σ H s) : ∀ {xs : List V} {kvs : List (d7 × V)} {us : List Value}, Paired (PrV X.K H) xs kvs → Vals xs us → ∃ more : List (d7 × Value), KV kvs more ∧ Paired (fun u kv => ∃ t key, u = Value.ref t ∧ s.heap.IsTuple t #[key, kv.2] ∧ (h8 X.prog X.w).is kv.1 key = true) us more
 := by
  intro xs kvs us hp hv
  induction hp generalizing us with
  | nil => cases hv; exact ⟨[], .nil, .nil⟩
  | @cons x kv l m r t ih => cases hv with
    | cons r' t' =>
      obtain ⟨tt, rfl, sq⟩ := r
      cases r'
      obtain ⟨its, v1, t1, _⟩ := I.tuple sq
      obtain ⟨key, v, rfl, rk, rv⟩ := M9 v1
      obtain ⟨more, h1, h2⟩ := ih t'
      exact ⟨(kv.1, v) :: more, .cons ⟨rfl, rv⟩ h1, .cons ⟨tt, key, rfl, t1, W2 rk⟩ h2⟩
def qJ (K:PySem.W.Frag):List V→Hp→VK→Prop:=fun xs H Q=>∃(p:Addr) (ys:List V) (kvs:List (d7×V)),xs=[.ref p]∧SqL K H p ys∧Paired (PrV K H) ys kvs∧kvs.length≤sizeLine∧∀l,H l=none→Q (.ref l) (i7 H l (.dK (P5 kvs)))
theorem iO (hc:X.calm=true):CallR X (.type "dict") (qJ X.K):=by
 intro pins s σ H xs us Q I r h
 obtain⟨p,ys,kvs,rfl,hq,hp,hz,q⟩:=h
 obtain⟨u,rfl,ru⟩:=D4 r
 cases ru
 obtain⟨its,rv,pl,_⟩:=I.list hq
 obtain⟨more,kv,pr⟩:=vc I hp rv
 obtain⟨o,n,e,c,hd,dt⟩:=pl
 have hl:more.length=kvs.length:=(KV.length kv).symm
 refine bq (knd:=h8 X.prog X.w) (I.ok.hd hc) e c dt hd (by lia) pr fun h' tk dd k=>?_
 refine⟨.ref s.heap.objs.size,_,?_,rfl,q _ (I.hok.fresh (Nat.le_refl _))⟩
 refine I.laid (a:=s.heap.objs.size) (o:= .dK (P5 kvs)) (t':=tk) k (Nat.le_refl _) (bZ ?_ (beq_eq_false_iff_ne.mpr (Ne.symm (Nat.ne_of_lt I.big))) (KV.puts kv .nil) dd)
 have z:=R3 kvs []
 unfold P5
 simp only[List.length_nil] at z
 lia
def jH (K:PySem.W.Frag):List V→Hp→VK→Prop:=fun xs H Q=>ux xs H Q∨qJ K xs H Q
theorem aO (K:PySem.W.Frag)(hc:X.calm=true)(h:X.K=K:=by rfl):CallR X (.type "dict") (jH K):=by
 subst h
 intro pins s σ H xs us Q I r h
 rcases h with h|h
 ·exact iL pins s σ H xs us Q I r h
 ·exact iO hc pins s σ H xs us Q I r h
end
section
variable {K:PySem.W.Frag} {H:Hp} {Q:VK}
theorem C9 {p:Addr}{kvs:List (d7×V)}(h:Rd H p (.dK kvs))(q:∀l,H l=none→Q (.ref l) (i7 H l (.dK kvs))):jH K [.ref p] H Q:= .inl ⟨p,kvs,rfl,h,q⟩
theorem jf {p:Addr}{xs:List V}{kvs:List (d7×V)}(h:SqL K H p xs)(hp:Paired (PrV K H) xs kvs)(hz:kvs.length≤sizeLine)(q:∀l,H l=none→Q (.ref l) (i7 H l (.dK (P5 kvs)))):jH K [.ref p] H Q:= .inr ⟨p,xs,kvs,rfl,h,hp,hz,q⟩
end
end L2
set_option Elab.async false
set_option linter.all false
set_option maxRecDepth 100000
set_option maxHeartbeats 4000000
namespace L2
open PySem PySem.Spec PyProof.Rows
section
variable {X:Cx}
end
end L2
set_option Elab.async false
set_option linter.all false
set_option maxRecDepth 100000
set_option maxHeartbeats 4000000
namespace L2
open PySem PySem.Spec PyProof.Rows
structure BL (P:Program) (w:World) (outer:List Env) (H:Hp) (s:Shared) (a C:Addr) (a0:Value) (B:Heap) (H':Hp) (s':Shared):Prop where
 fl:Heap.FlyingW B outer a (.ref C) a0 s'.heap
 os:s'.os=s.os
 bare:AllBare s'.gens
 un:Un (iC outer) [] H H' s.heap s'.heap
 hok:HOk P w H' s'.heap
 kp:∀b o,s.heap.get? b=some o→H b=none→b∉iC outer→B.get? b=some o
 th:∀b o,s.heap.get? b=some o→b∉iC outer→∃o',B.get? b=some o'
 tr:∀b o,H' b=some o→∃u,B.get? b=some u
 nw:H' a=none
section
variable {X:Cx} {pins:List (Addr×Obj)} {σ:St} {H:Hp} {s s':Shared}
end
section
variable {P:Program} {w:World} {K:PySem.W.Frag} {mg:Str→Option Value} {base:Heap} {N:List Str} {qual:Str} {scope:Scope} {f:Addr} {cd:Value} {A:Around} {outer:List Env} {s0:Shared} {H0:Hp} {E:XK}
end
def BF:List Value:=[.type "ValueError",.type "Exception",.type "BaseException",.type "object"]
structure BM (K:PySem.W.Frag) (mg:Str→Option Value) (x:Str) (C:Addr):Prop where
 bound:mg x=some (.ref C)
 exc:PySem.W.excIn K C BF "ValueError.__new__"=true
section
variable {X:Cx} {E:XK} {x:Str} {C:Addr} {np cpos pos:Pos} {e:Expr} {es:List Expr} {ta:TA}
end
end L2
set_option Elab.async false
set_option linter.all false
set_option maxRecDepth 100000
set_option maxHeartbeats 4000000
namespace L2
open PySem PySem.Spec PyProof.Rows
abbrev Cx.pinned (X:Cx)(pins:List (Addr×Obj)):Cx:={X with pn:=X.pn++pins}
abbrev Cx.suite (X:Cx)(e:Addr):Cx:={X with A:=X.A.mark (some (.ref e)),calm:=false,xe:=fun _ _=>False}
section
variable {X:Cx} {pins pins':List (Addr×Obj)} {Es:St→XK} {σ:St} {H:Hp} {s:Shared} {e:Addr}
end
section
variable {X:Cx} {pins:List (Addr×Obj)} {Es:St→XK} {k:Nat} {ps:List Str} {dvs:List V} {sp:Sp} {x:Str} {p pos:Pos} {e:Expr} {es:List Expr} {t:TA}
end
structure BN (K:PySem.W.Frag) (mg:Str→Option Value) (x:Str) (T:Addr):Prop where
 bound:mg x=some (.ref T)
 ty:PySem.W.typeIn K (.ref T)=some (.type "type")
 exc:PySem.W.subIn K (.ref T) (.type "BaseException")=some true
 cls:(PySem.W.clsIn K T).isSome=true
section
variable {X:Cx} {x n:Str} {T:Addr} {np hpos pos:Pos} {i:Nat} {b₀:Stmt} {body suite:List Stmt} {tb:(St→XK)→TS} {ts:TS}
end
end L2
set_option Elab.async false
set_option linter.all false
set_option maxRecDepth 100000
set_option maxHeartbeats 4000000
namespace L2
open PySem PySem.Spec PyProof.Rows PySem.W
section
variable {X:Cx}
end
section
variable {K:Frag} {σ:St} {H:Hp} {Q:VK} {D:iS}
end
section
variable {X:Cx}
def xX (K:Frag):R2:=fun x y H Q=>(∃a xs i,x= .ref a∧y= .int i∧SqT K H a xs∧Q (.bl true) H)∨(∃a xs i,x= .int i∧y= .ref a∧SqT K H a xs∧Q (.bl true) H)
theorem vE (hu:X.A.units+64<cLine):OpR X (compareOp .NotEq) (xX X.K):=by
 intro pins s σ H x y v u Q I rx ry h
 rcases h with⟨a,xs,i,rfl,rfl,ha,k⟩|⟨a,xs,i,rfl,rfl,ha,k⟩
 ·cases rx
  obtain⟨t,rfl⟩:=(show ∃t,u=Value.int i t from ry)
  obtain⟨its,r1,p1,z1⟩:=I.tuple ha
  exact SeqAt.RcNeAt.tuple_int (A:=X.A) i t (show s.heap.IsTuple a its.toArray from p1) (by lia) X.prog X.w _ _ ⟨.bl true,H,I,rfl,k⟩
 ·cases ry
  obtain⟨t,rfl⟩:=(show ∃t,v=Value.int i t from rx)
  obtain⟨its,r1,p1,z1⟩:=I.tuple ha
  exact SeqAt.RcNeAt.int_tuple (A:=X.A) i t (show s.heap.IsTuple a its.toArray from p1) (by lia) X.prog X.w _ _ ⟨.bl true,H,I,rfl,k⟩
def nK (K:Frag):R2:=fun x y H Q=>cY K x y H Q∨xX K x y H Q
theorem AY (K:Frag){k:Nat}(hr:Room k X.A)(h:X.K=K:=by rfl):OpR X (compareOp .NotEq) (nK K):=(Bz K hr h).or (h▸vE hr.units)
end
section
variable {K:Frag} {H:Hp} {Q:VK}
theorem Aj {x y:V}(q:cY K x y H Q):nK K x y H Q:= .inl q
theorem pZ {i j:Int}(q:Q (.bl (!decide (i=j))) H):nK K (.int i) (.int j) H Q:= .inl (fU q)
theorem sR {i j:Bool}(q:Q (.bl (!decide (i=j))) H):nK K (.bl i) (.bl j) H Q:= .inl (ko q)
theorem rm {i j:Str}(q:Q (.bl (!decide (i=j))) H):nK K (.str i) (.str j) H Q:= .inl (gO q)
end
end L2
set_option Elab.async false
set_option linter.all false
set_option maxRecDepth 100000
set_option maxHeartbeats 4000000
namespace L2
open PySem PySem.Spec PyProof.Rows
section
variable {X:Cx}
end
section
open PySem.Builtin PySem.Builtin.Str
end
end L2
set_option Elab.async false
set_option linter.all false
set_option maxRecDepth 100000
set_option maxHeartbeats 4000000
namespace L2
open PySem PySem.Spec PyProof.Rows
section
variable {prog:Program} {w:World} {A:Around} {E:Value→Shared→Prop}
def StrsAre:List Value→List Str→Prop:=Paired fun u x=>∃t,u= .str x t
end
section
variable {prog:Program} {w:World} {A:Around} {E:Value→Shared→Prop}
end
def uP (a:Addr)(n:Nat)(h:Heap):Prop:=∃o es ep t,h.get? a=some o∧o.ExactSet∧o.data= .set es ep t∧t.fits es.size=true∧es.size=n
section
variable {X:Cx}
def uw (K:PySem.W.Frag):List V→Hp→VK→Prop:=fun xs H Q=>ni K xs H Q∨∃p n,xs=[V.ref p]∧H p=some (.ext (uP p n))∧n≤1000∧Q (.int n) H
theorem call_lenS:CallR X (.builtin "len") (uw X.K):=by
 refine call_lenX.or ?_
 intro pins s σ H xs us Q I r h
 obtain⟨p,n,rfl,hp,hn,q⟩:=h
 obtain⟨u,rfl,ru⟩:=D4 r
 cases ru
 obtain⟨o,es,ep,t,h1,h2,h3,h4,h5⟩:=(I.hok p _ hp).1
 exact call_len_set h1 h2 h3 h4 (by lia) ⟨.int n,H,I.tok _,⟨_,by rw[h5]⟩,q⟩
end
end L2
set_option Elab.async false
set_option linter.all false
set_option maxRecDepth 100000
set_option maxHeartbeats 4000000
namespace L2
open PySem PySem.Spec PyProof.Rows
open PySem.AutoSeq1 (wpAny_loadPart')
open PySem.MeetsSeq PySem.MeetsSeq2 PySem.MeetsSeq3
theorem ip:plainId "list.__eq__.loop"=true:=plain_eq_loop
section
variable {P:Program} {w:World}
theorem gQ (l m:Addr)(xs ys:Array Value)(n1 n2:Nat)(d1 d2:Option Addr)(s1 s2:Array (Option Value))(hz:xs.size=ys.size)(f:Nat→Bool)(md:Int)(hmd:md=2∨md=3):∀(k i:Nat),xs.size -i=k→
  MeetsIn P w (Builtin.«list.__eq__.loop» ⟨[.ref l,.ref m,rawInt i,rawInt md],[]⟩) (fun A R s=>
   s.heap.get? l=some {cls:= .type "list",dict:=d1,data:= .seq xs n1,slots:=s1}∧s.heap.get? m=some {cls:= .type "list",dict:=d2,data:= .seq ys n2,slots:=s2}∧
   (∀j (g1:j<xs.size) (g2:j<ys.size),EqP P w A.in1 s xs[j] ys[j] (f j))∧
   R (.ok (.ret (.bool (if md=2 then((List.range xs.size).drop i).all f else !((List.range xs.size).drop i).all f)))) s):=by
 intro k
 induction k with
 |zero=>
  intro i hk
  intro A R s hyp
  obtain⟨hp,gg,dr,tk,os⟩:=s
  obtain⟨e1,e2,he,fin⟩:=hyp
  have x1:xs[((i:Nat):Int).toNat]?=none:=by simp;lia
  have x2:ys[((i:Nat):Int).toNat]?=none:=by simp;lia
  have x3:(List.range xs.size).drop i=[]:=by simp;lia
  rw[x3] at fin
  rcases hmd with rfl|rfl
  ·wp_walk using wpAny_loadPart' e1,wpAny_loadPart' e2
   rw[x1,x2]
   wp_walk using wpAny_loadPart' e1,wpAny_loadPart' e2
   show R (.ok (.ret (.bool (xs.size==ys.size)))) _
   rw[hz];simpa using fin
  ·wp_walk using wpAny_loadPart' e1,wpAny_loadPart' e2
   rw[x1,x2]
   wp_walk using wpAny_loadPart' e1,wpAny_loadPart' e2
   show R (.ok (.ret (.bool (xs.size !=ys.size)))) _
   rw[hz];simpa using fin
 |succ k ih=>
  intro i hk
  intro A R s hyp
  have ih:=ih (i+1) (by lia)
  obtain⟨hp,gg,dr,tk,os⟩:=s
  obtain⟨e1,e2,he,fin⟩:=hyp
  have l1:i<xs.size:=by lia
  have l2:i<ys.size:=by lia
  have x1:xs[((i:Nat):Int).toNat]?=some xs[i]:=by simp [l1]
  have x2:ys[((i:Nat):Int).toNat]?=some ys[i]:=by simp [l2]
  have x3:(List.range xs.size).drop i=i::(List.range xs.size).drop (i+1):=by simp [List.drop_eq_getElem_cons,l1]
  have x4:((i:Int)+1)=((i+1:Nat):Int):=by push_cast;rfl
  rw[x3,List.all_cons] at fin
  rcases hmd with rfl|rfl
  ·wp_walk using wpAny_loadPart' e1,wpAny_loadPart' e2
   rw[x1,x2]
   refine wpAny_bind (he i l1 l2 _ _ ?_)
   cases hf:f i with
   |true=>
    rw[hf] at fin
    wp_walk
    rw[x4]
    refine⟨plainId_quiet ip _,codeAny_builtin entry_eq_loop ?_⟩
    rw[Around.under_plainId ip _]
    exact ih A R _ ⟨e1,e2,he,by simpa using fin⟩
   |false=>
    rw[hf] at fin
    wp_walk using wpAny_loadPart' e1,wpAny_loadPart' e2
    rw[x1,x2]
    wp_walk
    simpa using fin
  ·wp_walk using wpAny_loadPart' e1,wpAny_loadPart' e2
   rw[x1,x2]
   refine wpAny_bind (he i l1 l2 _ _ ?_)
   cases hf:f i with
   |true=>
    rw[hf] at fin
    wp_walk
    rw[x4]
    refine⟨plainId_quiet ip _,codeAny_builtin entry_eq_loop ?_⟩
    rw[Around.under_plainId ip _]
    exact ih A R _ ⟨e1,e2,he,by simpa using fin⟩
   |false=>
    rw[hf] at fin
    wp_walk using wpAny_loadPart' e1,wpAny_loadPart' e2
    rw[x1,x2]
    wp_walk
    simpa using fin
theorem vT (l m:Addr)(xs ys:Array Value)(n1 n2:Nat)(d1 d2:Option Addr)(s1 s2:Array (Option Value))(hz:xs.size=ys.size)(f:Nat→Bool):
  MeetsIn P w (Builtin.«list.__eq__» ⟨[.ref l,.ref m],[]⟩) (fun A R s=>
   s.heap.get? l=some {cls:= .type "list",dict:=d1,data:= .seq xs n1,slots:=s1}∧s.heap.get? m=some {cls:= .type "list",dict:=d2,data:= .seq ys n2,slots:=s2}∧
   (∀j (g1:j<xs.size) (g2:j<ys.size),EqP P w A.in1 s xs[j] ys[j] (f j))∧R (.ok (.ret (.bool ((List.range xs.size).all f)))) s):=by
 intro A R s hyp
 obtain⟨hp,gg,dr,tk,os⟩:=s
 obtain⟨e1,e2,he,fin⟩:=hyp
 have q1:=AutoSeq1.sub_list_list;have q2:¬(xs.size !=ys.size)=true:=by simp [hz]
 wp_walk using wpAny_loadPart' e1,wpAny_loadPart' e2
 refine⟨plainId_quiet ip _,codeAny_builtin entry_eq_loop ?_⟩
 rw[Around.under_plainId ip _]
 exact gQ l m xs ys n1 n2 d1 d2 s1 s2 hz f 2 (.inl rfl) _ 0 rfl A R _ ⟨e1,e2,he,by simpa using fin⟩
theorem wC (l m:Addr)(xs ys:Array Value)(n1 n2:Nat)(d1 d2:Option Addr)(s1 s2:Array (Option Value))(hz:xs.size=ys.size)(f:Nat→Bool):
  MeetsIn P w (Builtin.«list.__ne__» ⟨[.ref l,.ref m],[]⟩) (fun A R s=>
   s.heap.get? l=some {cls:= .type "list",dict:=d1,data:= .seq xs n1,slots:=s1}∧s.heap.get? m=some {cls:= .type "list",dict:=d2,data:= .seq ys n2,slots:=s2}∧
   (∀j (g1:j<xs.size) (g2:j<ys.size),EqP P w A.in1 s xs[j] ys[j] (f j))∧R (.ok (.ret (.bool (!(List.range xs.size).all f)))) s):=by
 intro A R s hyp
 obtain⟨hp,gg,dr,tk,os⟩:=s
 obtain⟨e1,e2,he,fin⟩:=hyp
 have q1:=AutoSeq1.sub_list_list;have q2:¬(xs.size !=ys.size)=true:=by simp [hz]
 wp_walk using wpAny_loadPart' e1,wpAny_loadPart' e2
 refine⟨plainId_quiet ip _,codeAny_builtin entry_eq_loop ?_⟩
 rw[Around.under_plainId ip _]
 exact gQ l m xs ys n1 n2 d1 d2 s1 s2 hz f 3 (.inr rfl) _ 0 rfl A R _ ⟨e1,e2,he,by simpa using fin⟩
theorem RcP.lst {A:Around}{s:Shared}{l m:Addr}{xs ys:Array Value}{f:Nat→Bool}(hl:s.heap.IsList l xs)(hm:s.heap.IsList m ys)(hz:xs.size=ys.size)(hu:A.units<cLine)
  (he:∀j (g1:j<xs.size) (g2:j<ys.size),EqP P w A.in1 s xs[j] ys[j] (f j)):RcP P w A s (.ref l) (.ref m) ((List.range xs.size).all f):=fun E Q q=>by
 obtain⟨⟨c1,d1,a1,s1⟩,o1,k1,n1,t1⟩:=id hl
 obtain⟨⟨c2,d2,a2,s2⟩,o2,k2,n2,t2⟩:=id hm
 simp only at k1 t1 k2 t2
 subst k1 t1 k2 t2
 refine wpAny_richCompare_same_room (op:= .Eq) ⟨_,o1,rfl⟩ ⟨_,o2,rfl⟩ PySem.F.slot_list_eq (call_meetsIn PySem.F.slot_list_eq ⟨_,o1,rfl⟩ PySem.F.entry_list_eq (PySem.F.args_list_eq_2 _ _) (vT l m xs ys n1 n2 d1 d2 s1 s2 hz f) ⟨o1,o2,he,?_⟩) hu
 exact⟨(fun z=>nomatch z),q⟩
theorem NcP.lst {A:Around}{s:Shared}{l m:Addr}{xs ys:Array Value}{f:Nat→Bool}(hl:s.heap.IsList l xs)(hm:s.heap.IsList m ys)(hz:xs.size=ys.size)(hu:A.units<cLine)
  (he:∀j (g1:j<xs.size) (g2:j<ys.size),EqP P w A.in1 s xs[j] ys[j] (f j)):NcP P w A s (.ref l) (.ref m) (!(List.range xs.size).all f):=fun E Q q=>by
 obtain⟨⟨c1,d1,a1,s1⟩,o1,k1,n1,t1⟩:=id hl
 obtain⟨⟨c2,d2,a2,s2⟩,o2,k2,n2,t2⟩:=id hm
 simp only at k1 t1 k2 t2
 subst k1 t1 k2 t2
 refine wpAny_richCompare_same_room (op:= .NotEq) ⟨_,o1,rfl⟩ ⟨_,o2,rfl⟩ PySem.F.slot_list_ne (call_meetsIn PySem.F.slot_list_ne ⟨_,o1,rfl⟩ PySem.F.entry_list_ne (PySem.F.args_list_ne_2 _ _) (wC l m xs ys n1 n2 d1 d2 s1 s2 hz f) ⟨o1,o2,he,?_⟩) hu
 exact⟨(fun z=>nomatch z),q⟩
end
def EqN (K:PySem.W.Frag)(H:Hp):Nat→V→V→Bool→Prop
 |0,x,y,b=>Eq1 K H x y b∨∃a c,x= .ref a∧y= .ref c∧EqD K H a c b
 |n+1,x,y,b=>EqN K H n x y b∨∃(a c:Addr) (xs ys:List V) (bs:List Bool),x= .ref a∧y= .ref c∧a≠c∧((SqT K H a xs∧SqT K H c ys)∨(SqL K H a xs∧SqL K H c ys))∧xs.length=ys.length∧bs.length=xs.length∧
   (∀(j:Nat) (x' y':V) (b':Bool),xs[j]?=some x'→ys[j]?=some y'→bs[j]?=some b'→EqN K H n x' y' b')∧b=bs.all id
theorem A9:∀(bs:List Bool),(List.range bs.length).all (fun j=>bs.getD j true)=bs.all id
 |[]=>rfl
 |b::r=>by
  rw[List.length_cons,List.range_succ_eq_map,List.all_cons,List.all_map]
  show(b&&(List.range r.length).all fun j=>r.getD j true)=(b&&r.all id)
  rw[A9 r]
section
variable {X:Cx} {pins:List (Addr×Obj)} {σ:St} {H:Hp} {s:Shared}
theorem ay {n:Nat}{xs ys:List V}{bs:List Bool}{us vs:List Value}{A:Around}(r1:Vals xs us)(r2:Vals ys vs)(hl:xs.length=ys.length)(hb:bs.length=xs.length)
  (he:∀(j:Nat) (x' y':V) (b':Bool),xs[j]?=some x'→ys[j]?=some y'→bs[j]?=some b'→EqN X.K H n x' y' b')
  (at_:∀{x y:V} {u v:Value} {b:Bool},EqN X.K H n x y b→RelV x u→RelV y v→EqP X.prog X.w A.in1 s u v b):
  ∀j (g1:j<us.toArray.size) (g2:j<vs.toArray.size),EqP X.prog X.w A.in1 s us.toArray[j] vs.toArray[j] (bs.getD j true):=fun j g1 g2=>by
 have l1:=r1.length
 have l2:=r2.length
 have g1':j<us.length:=by simpa using g1
 have g2':j<vs.length:=by simpa using g2
 have x1:xs[j]?=some (xs[j]'(by lia)):=List.getElem?_eq_getElem _
 have y1:ys[j]?=some (ys[j]'(by lia)):=List.getElem?_eq_getElem _
 have b1:bs[j]?=some (bs[j]'(by lia)):=List.getElem?_eq_getElem _
 obtain⟨u1,hu1,ru1⟩:=r1.get x1
 obtain⟨u2,hu2,ru2⟩:=r2.get y1
 have e1:us.toArray[j]=u1:=by
  have:=List.getElem?_eq_getElem g1'
  rw[hu1] at this
  simpa using(Option.some.inj this).symm
 have e2:vs.toArray[j]=u2:=by
  have:=List.getElem?_eq_getElem g2'
  rw[hu2] at this
  simpa using(Option.some.inj this).symm
 rw[e1,e2,List.getD_eq_getElem?_getD,b1]
 exact at_ (he j _ _ _ x1 y1 b1) ru1 ru2
theorem EqN.at_ (I:Inv X pins σ H s):∀{n:Nat} {A:Around} {x y:V} {u v:Value} {b:Bool},EqN X.K H n x y b→RelV x u→RelV y v→A.units+32+n<cLine→EqP X.prog X.w A s u v b:=by
 intro n
 induction n with
 |zero=>
  intro A x y u v b h rx ry hu
  rcases h with h|⟨a,c,rfl,rfl,h⟩
  ·exact .of (h.at_ I rx ry (by lia))
  ·cases rx
   cases ry
   exact h.at_ I (by lia)
 |succ n ih=>
  intro A x y u v b h rx ry hu
  rcases h with h|⟨a,c,xs,ys,bs,rfl,rfl,hne,hh,hl,hb,he,rfl⟩
  ·exact ih h rx ry (by lia)
  ·cases rx
   cases ry
   have hin:A.in1.units=A.units+1:=rfl
   rcases hh with⟨h1,h2⟩|⟨h1,h2⟩
   ·obtain⟨us,r1,p1,z1⟩:=I.tuple h1
    obtain⟨vs,r2,p2,z2⟩:=I.tuple h2
    have l1:=r1.length
    have l2:=r2.length
    have q:=RcP.tup (P:=X.prog) (w:=X.w) (A:=A) (f:=fun j=>bs.getD j true) (show s.heap.IsTuple a us.toArray from p1) (show s.heap.IsTuple c vs.toArray from p2) (by lia) (ay r1 r2 hl hb he fun z q1 q2=>ih z q1 q2 (by lia))
    have e3:min us.toArray.size vs.toArray.size=bs.length:=by simp;lia
    have e4:(us.toArray.size==vs.toArray.size)=true:=by simp;lia
    rw[e3,e4,A9,Bool.and_true] at q
    exact .refs hne q
   ·obtain⟨us,r1,p1,z1⟩:=I.list h1
    obtain⟨vs,r2,p2,z2⟩:=I.list h2
    have l1:=r1.length
    have l2:=r2.length
    have q:=RcP.lst (P:=X.prog) (w:=X.w) (A:=A) (f:=fun j=>bs.getD j true) p1.isList p2.isList (by simp;lia) (by lia) (ay r1 r2 hl hb he fun z q1 q2=>ih z q1 q2 (by lia))
    have e3:us.toArray.size=bs.length:=by simp;lia
    rw[e3,A9] at q
    exact .refs hne q
end
def Bj (K:PySem.W.Frag)(H:Hp)(x y:V)(bs:List Bool):Prop:=∃(a c:Addr) (xs ys:List V),x= .ref a∧y= .ref c∧((SqT K H a xs∧SqT K H c ys)∨(SqL K H a xs∧SqL K H c ys))∧xs.length=ys.length∧bs.length=xs.length∧
 ∀(j:Nat) (x' y':V) (b':Bool),xs[j]?=some x'→ys[j]?=some y'→bs[j]?=some b'→EqN K H 8 x' y' b'
section
variable {X:Cx}
def zh (K:PySem.W.Frag):R2:=fun x y H Q=>∃bs,Bj K H x y bs∧Q (.bl (bs.all id)) H
def xV (K:PySem.W.Frag):R2:=fun x y H Q=>∃bs,Bj K H x y bs∧Q (.bl (!bs.all id)) H
theorem vQ (hu:X.A.units+64<cLine):OpR X (compareOp .Eq) (zh X.K):=by
 intro pins s σ H x y v u Q I rx ry h
 obtain⟨bs,⟨a,c,xs,ys,rfl,rfl,hh,hl,hb,he⟩,k⟩:=h
 cases rx
 cases ry
 have hin:X.A.in1.units=X.A.units+1:=rfl
 rcases hh with⟨h1,h2⟩|⟨h1,h2⟩
 ·obtain⟨us,r1,p1,z1⟩:=I.tuple h1
  obtain⟨vs,r2,p2,z2⟩:=I.tuple h2
  have l1:=r1.length
  have l2:=r2.length
  have q:=RcP.tup (P:=X.prog) (w:=X.w) (A:=X.A) (f:=fun j=>bs.getD j true) (show s.heap.IsTuple a us.toArray from p1) (show s.heap.IsTuple c vs.toArray from p2) (by lia) (ay r1 r2 hl hb he fun z q1 q2=>EqN.at_ I z q1 q2 (by lia))
  have e3:min us.toArray.size vs.toArray.size=bs.length:=by simp;lia
  have e4:(us.toArray.size==vs.toArray.size)=true:=by simp;lia
  rw[e3,e4,A9,Bool.and_true] at q
  exact q _ _ ⟨.bl _,H,I,rfl,k⟩
 ·obtain⟨us,r1,p1,z1⟩:=I.list h1
  obtain⟨vs,r2,p2,z2⟩:=I.list h2
  have l1:=r1.length
  have l2:=r2.length
  have q:=RcP.lst (P:=X.prog) (w:=X.w) (A:=X.A) (f:=fun j=>bs.getD j true) p1.isList p2.isList (by simp;lia) (by lia) (ay r1 r2 hl hb he fun z q1 q2=>EqN.at_ I z q1 q2 (by lia))
  have e3:us.toArray.size=bs.length:=by simp;lia
  rw[e3,A9] at q
  exact q _ _ ⟨.bl _,H,I,rfl,k⟩
theorem xg (hu:X.A.units+64<cLine):OpR X (compareOp .NotEq) (xV X.K):=by
 intro pins s σ H x y v u Q I rx ry h
 obtain⟨bs,⟨a,c,xs,ys,rfl,rfl,hh,hl,hb,he⟩,k⟩:=h
 cases rx
 cases ry
 have hin:X.A.in1.units=X.A.units+1:=rfl
 rcases hh with⟨h1,h2⟩|⟨h1,h2⟩
 ·obtain⟨us,r1,p1,z1⟩:=I.tuple h1
  obtain⟨vs,r2,p2,z2⟩:=I.tuple h2
  have l1:=r1.length
  have l2:=r2.length
  have q:=NcP.tup (P:=X.prog) (w:=X.w) (A:=X.A) (f:=fun j=>bs.getD j true) (show s.heap.IsTuple a us.toArray from p1) (show s.heap.IsTuple c vs.toArray from p2) (by lia) (ay r1 r2 hl hb he fun z q1 q2=>EqN.at_ I z q1 q2 (by lia))
  have e3:min us.toArray.size vs.toArray.size=bs.length:=by simp;lia
  have e4:(us.toArray.size==vs.toArray.size)=true:=by simp;lia
  rw[e3,e4,A9,Bool.and_true] at q
  exact q _ _ ⟨.bl _,H,I,rfl,k⟩
 ·obtain⟨us,r1,p1,z1⟩:=I.list h1
  obtain⟨vs,r2,p2,z2⟩:=I.list h2
  have l1:=r1.length
  have l2:=r2.length
  have q:=NcP.lst (P:=X.prog) (w:=X.w) (A:=X.A) (f:=fun j=>bs.getD j true) p1.isList p2.isList (by simp;lia) (by lia) (ay r1 r2 hl hb he fun z q1 q2=>EqN.at_ I z q1 q2 (by lia))
  have e3:us.toArray.size=bs.length:=by simp;lia
  rw[e3,A9] at q
  exact q _ _ ⟨.bl _,H,I,rfl,k⟩
def Q9 (K:PySem.W.Frag):R2:=fun x y H Q=>nK K x y H Q∨xV K x y H Q
theorem P2 (K:PySem.W.Frag){k:Nat}(hr:Room k X.A)(h:X.K=K:=by rfl):OpR X (compareOp .NotEq) (Q9 K):=(AY K hr h).or (h▸xg hr.units)
def dn (K:PySem.W.Frag):R2:=fun x y H Q=>xf K x y H Q∨zh K x y H Q
theorem C6 (K:PySem.W.Frag){k:Nat}(hr:Room k X.A)(h:X.K=K:=by rfl):OpR X (compareOp .Eq) (dn K):=(Ai K hr h).or (h▸vQ hr.units)
end
end L2
set_option Elab.async false
set_option linter.all false
set_option maxRecDepth 100000
set_option maxHeartbeats 4000000
namespace L2
open PySem PySem.Spec PyProof.Rows
def eu (v d:Addr)(h:Heap):Prop:=h.IsValuesView v d
theorem tS {P:Program}{w:World}{H:Hp}{h:Heap}{v d:Addr}(x:eu v d h):ObjOk P w H h v (.ext (eu v d)):=by
 obtain⟨o,e,r⟩:=x
 exact⟨⟨o,e,r⟩,⟨o,e⟩,fun h1 h2 ⟨o',e',r'⟩ k=>⟨o',k _ e',r'⟩⟩
section
variable {X:Cx}
def tN:V→List V→Hp→VK→Prop:=fun x vs H Q=>∃d kvs,x= .ref d∧vs=[]∧Rd H d (.dK kvs)∧∀v,H v=none→Q (.ref v) (i7 H v (.ext (eu v d)))
theorem G0:rp X "dict.values" tN:=by
 intro pins s σ H x vs v us Q I rx rv h
 obtain⟨d,kvs,rfl,rfl,hd,q⟩:=h
 cases rx
 have hus:=rv.zero
 subst hus
 obtain⟨z,hs,ws,rel,dd⟩:=C3 I.hok hd
 refine call_meetsIn PySem.F.slot_dict_values dd.typeIs PySem.F.entry_dict_values (PySem.F.args_dict_values_1 _) (meets_dict_values (h8 X.prog X.w) d hs) ⟨⟨ws,dd⟩,?_⟩
 refine⟨.ref s.heap.objs.size,_,?_,rfl,q _ (I.hok.fresh (Nat.le_refl _))⟩
 exact I.laid (a:=s.heap.objs.size) (t':=s.toks) (fun b u e=>Heap.get?_push_of_some _ e) (Nat.le_refl _) (tS ⟨_,Heap.get?_push_size _ rfl,rfl,rfl⟩)
def fI (K:PySem.W.Frag):List V→Hp→VK→Prop:=fun xs H Q=>jS K xs H Q∨∃(v d:Addr) (kvs:List (d7×V)),xs=[.ref v]∧H v=some (.ext (eu v d))∧Rd H d (.dK kvs)∧∀l,H l=none→Q (.ref l) (i7 H l (.lst (kvs.map (·.2))))
theorem jE (hc:X.calm=true):CallR X (.type "list") (fI X.K):=by
 refine(iK hc).or ?_
 intro pins s σ H xs us Q I r h
 obtain⟨v,d,kvs,rfl,hv,hx,q⟩:=h
 obtain⟨u,rfl,ru⟩:=D4 r
 cases ru
 have hvv:eu v d s.heap:=(I.hok v _ hv).1
 obtain⟨hd,o,vs,ep,ho,D⟩:=U0 I.hok hx
 have hlv:=KV.length D.kv
 have hz:kvs.length≤sizeLine:=(C3 I.hok hx).1
 refine PySem.W.kdl_call (PySem.W.kdl_values (knd:=h8 X.prog X.w) (kvs:=vs) (ep:=ep)) (I.ok.hd hc) ⟨hvv,D.at_ _ ho⟩ (by lia) fun h' tk acc c hkp hS hacc=>?_
 refine⟨.ref s.heap.objs.size,_,I.newL (tk:=tk) hkp (Nat.le_refl _) hS (F5 (by have:=hacc.1;simp;lia) fun i x u e1 e2=>?_) (by rw[List.length_map];exact hz),rfl,q _ (I.hok.fresh (Nat.le_refl _))⟩
 obtain⟨k,hy⟩:=hacc.2 i u (by rw[←Array.getElem?_toList];exact e2)
 rw[List.getElem?_map] at e1
 obtain⟨kv,e4,rfl⟩:=Option.map_eq_some_iff.mp e1
 obtain⟨q1,hq1,q2,q3⟩:=k9 (show Paired _ kvs vs from D.kv) e4
 rw[hy] at hq1
 cases hq1
 exact q3
theorem K4 (K:PySem.W.Frag)(hc:X.calm=true)(h:X.K=K:=by rfl):CallR X (.type "list") (fI K):=h▸jE hc
end
section
variable {K:PySem.W.Frag} {H:Hp} {Q:VK}
theorem R4 {xs:List V}(h:jS K xs H Q):fI K xs H Q:= .inl h
theorem T2 {v d:Addr}{kvs:List (d7×V)}(hv:H v=some (.ext (eu v d)))(hd:Rd H d (.dK kvs))(q:∀l,H l=none→Q (.ref l) (i7 H l (.lst (kvs.map (·.2))))):fI K [.ref v] H Q:= .inr ⟨v,d,kvs,rfl,hv,hd,q⟩
end
section
variable {prog:Program} {w:World} {A:Around} {E:Value→Shared→Prop}
theorem gf {s:Shared}{T:String}{r d:Addr}{n:Nat}{P:Nat→Value→Prop}{OK:Heap→Prop}{Q:List Value→Shared→Prop}(K:PySem.W.KdlSrc prog w T r d n P OK)(hh:A.handled=none)(hok:OK s.heap)(hn:n≤sizeLine)
  (hQ:∀h' tk (acc:Array Value),(∀b o,s.heap.get? b=some o→h'.get? b=some o)→ItemsOf P acc n→Q acc.toList {s with heap:=h',toks:=tk}):wpAny (model prog w) A (collect (.ref r)) Q E s:=by
 unfold collect
 refine wpAny_bind (wpAny_runValue (codeAny_builtin F.entry_proto_collect ?_))
 rw[Around.under_plainId F.plain_proto_collect _]
 refine(show wpAny _ A.in1 (newList []>>=fun l=>again (.builtin "list.__iadd__" ⟨[l,.ref r],[]⟩)) _ _ s from wpAny_bind (wpAny_newObj_type (wpAny_pure ⟨plainId_quiet F.plain_list_iadd _,codeAny_builtin F.entry_list_iadd ?_⟩)))
 rw[Around.under_plainId F.plain_list_iadd _]
 have hlt:=K.there _ hok
 have kp:∀b o,s.heap.get? b=some o→(s.heap.push {cls:= .type "list",data:= .seq ([]:List Value).toArray}).get? b=some o:=fun b o e=>Heap.get?_push_of_some _ e
 have fin:∀s',(∃h' tk acc c,s'={s with heap:=h',toks:=tk}∧(∀b o,s.heap.get? b=some o→h'.get? b=some o)∧h'.get? s.heap.objs.size=some {cls:= .type "list",dict:=none,data:= .seq acc c,slots:= #[]}∧ItemsOf P acc n)→wpAny (model prog w) A (match Value.ref s.heap.objs.size with
   |Value.ref a=>do
    match(←load a).data with
     |Data.seq xs _=>pure xs.toList
     |_=>unsupported "internal:collect"
   |_=>unsupported "internal:collect") Q E s':=by
  rintro s' ⟨h',tk,acc,c,rfl,hk,hS,hz⟩
  exact(show wpAny _ A (load s.heap.objs.size>>=_) _ _ _ from wpAny_bind (wpAny_load hS (wpAny_pure (hQ h' tk acc hk hz))))
 refine wpAny_mono (show wpAny _ A.in1 (Builtin.List.listExtendWith (.ref s.heap.objs.size) (.ref r) (.ref s.heap.objs.size)) _ _ _ from
  PySem.W.kdl_extend (A:=A) (R:=fun rr s'=>rr= .ok (.ret (.ref s.heap.objs.size))∧∃h' tk acc c,s'={s with heap:=h',toks:=tk}∧(∀b o,s.heap.get? b=some o→h'.get? b=some o)∧h'.get? s.heap.objs.size=some {cls:= .type "list",dict:=none,data:= .seq acc c,slots:= #[]}∧ItemsOf P acc n)
   (s:={s with heap:=s.heap.push {cls:= .type "list",data:= .seq ([]:List Value).toArray}}) K hh (K.keep _ _ hok fun b _ o e=>kp b o e) s.heap.objs.size (Nat.ne_of_gt hlt.1) (Nat.ne_of_gt hlt.2) (.ref s.heap.objs.size) 0 (Heap.get?_push_size _ rfl)
   (fun h' tk acc c hk hS hacc=>⟨rfl,h',tk,acc,c,rfl,fun b o e=>hk b o (Nat.ne_of_lt (Heap.lt_size e)) (kp b o e),hS,hacc⟩) hn) (fun fn s' hf=>?_) (fun e s' hf=>?_)
 ·cases fn with
  |done f=>
   obtain⟨e,hs⟩:=hf
   cases e
   exact fin s' hs
  |again c'=>exact⟨hf.1,codeAny_mono hf.2 fun rr s'' hr=>by obtain⟨rfl,hs⟩:=hr;exact fin s'' hs⟩
 ·exact absurd hf.1 (by simp)
theorem eo {s:Shared}{T:String}{r d:Addr}{n:Nat}{P:Nat→Value→Prop}{OK:Heap→Prop}{Q₁:Value→Shared→Prop}(K:PySem.W.KdlSrc prog w T r d n P OK)(hh:A.handled=none)(hok:OK s.heap)(hn:n≤sizeLine)
  (h:∀(h':Heap) (tk:Nat) (acc:Array Value),(∀b o,s.heap.get? b=some o→h'.get? b=some o)→ItemsOf P acc n→Q₁ (.ref h'.objs.size) {s with heap:=h'.push {cls:= .type "tuple",data:= .seq acc},toks:=tk}):
  codeAny (model prog w) A (.call (.builtin "tuple.__new__") ⟨[.type "tuple",.ref r],[]⟩) (wants Q₁ E) s:=by
 have f1:=sub_tuple_self;have f2:=init_tuple_lookup;have f3:=madeHere_tuple
 have hT:=K.type s hok
 have hne:=K.notTuple
 refine codeAny_of_tree (show wpAny _ A.in1 (do checkBuiltinCall "tuple.__new__" ⟨[.type "tuple",.ref r],[]⟩;again (.builtin "tuple.__new__" ⟨[.type "tuple",.ref r],[]⟩)) _ _ s from ?_)
 refine wpAny_bind (wpAny_of_eq (F.newCall_tuple_1 _) (wpAny_pure ⟨plainId_quiet (by decide+kernel) _,codeAny_builtin F.entry_tuple_new ?_⟩))
 rw[Around.under_plainId (by decide+kernel) _]
 unfold Builtin.«tuple.__new__»
 have hh1:A.in1.handled=none:=by simpa using hh
 wp_walk using wpAny_typeOf hT,gf K hh1 hok hn
 intro h' tk acc hk hz
 refine(show wpAny _ _ (Builtin.Tuple.tupleExact acc.toList.toArray>>=fun v=>ret v) _ _ _ from ?_)
 unfold Builtin.Tuple.tupleExact
 refine wpAny_bind (wpAny_newObj_type (wpAny_pure ?_) (by show acc.toList.toArray.size≤sizeLine;simp;rw[hz.1];exact hn))
 have e:acc.toList.toArray=acc:=by simp
 rw[e]
 exact h h' tk acc hk hz
theorem fP {s:Shared}{T:String}{r d:Addr}{n:Nat}{P:Nat→Value→Prop}{OK:Heap→Prop}{Q:Value→Shared→Prop}(K:PySem.W.KdlSrc prog w T r d n P OK)(hh:A.handled=none)(hok:OK s.heap)(hn:n≤sizeLine)
  (h:∀(h':Heap) (tk:Nat) (acc:Array Value),(∀b o,s.heap.get? b=some o→h'.get? b=some o)→ItemsOf P acc n→Q (.ref h'.objs.size) {s with heap:=h'.push {cls:= .type "tuple",data:= .seq acc},toks:=tk}):
  wpAny (model prog w) A (call (.type "tuple") [.ref r]) Q E s:=by
 refine callType_codes (Q₁:=fun obj s₁=>s₁.TypeIs obj "tuple"∧Q obj s₁) F.called_tuple (F.typeCall_tuple_1 _) F.entry_object_init (eo K (by simpa using hh) hok hn fun h' tk acc hk hz=>⟨⟨_,Heap.get?_push_size _ rfl,rfl⟩,h h' tk acc hk hz⟩) fun obj st h1=>?_
 exact⟨h1.1,F.args_object_init_2 obj _,object_init_meets F.called_tuple.init.lookup F.called_tuple.made (by decide) prog w A.in1 _ st ⟨h1.1,rfl,h1.2⟩⟩
end
section
variable {X:Cx}
def uC (K:PySem.W.Frag):List V→Hp→VK→Prop:=fun xs H Q=>(∃p ys,xs=[.ref p]∧((SqL K H p ys∧∀l,H l=none→Q (.ref l) (i7 H l (.tup ys)))∨(SqT K H p ys∧Q (.ref p) H)))∨
 ∃(d:Addr) (kvs:List (d7×V)),xs=[.ref d]∧Rd H d (.dK kvs)∧∀l,H l=none→Q (.ref l) (i7 H l (.tup (kvs.map fun kv=>kV kv.1)))
theorem nk (hc:X.calm=true):CallR X (.type "tuple") (uC X.K):=by
 refine call_tuple_of.or ?_
 intro pins s σ H xs us Q I r h
 obtain⟨d,kvs,rfl,hx,q⟩:=h
 obtain⟨u,rfl,ru⟩:=D4 r
 cases ru
 obtain⟨hd,o,vs,ep,ho,D⟩:=U0 I.hok hx
 have hlv:=KV.length D.kv
 have hz:kvs.length≤sizeLine:=(C3 I.hok hx).1
 refine fP (PySem.W.kdl_dict (knd:=h8 X.prog X.w) (kvs:=vs) (ep:=ep) hd) (I.ok.hd hc) (D.at_ _ ho) (by lia) fun h' tk acc hk hacc=>?_
 have I1:Inv X pins σ H {s with heap:=h',toks:=tk}:=I.kept (t':=tk) hk
 have rv:Vals (kvs.map fun kv=>kV kv.1) acc.toList:=F5 (by have:=hacc.1;simp;lia) fun i x u e1 e2=>by
  obtain⟨k,y,hy,hky⟩:=hacc.2 i u (by rw[←Array.getElem?_toList];exact e2)
  rw[List.getElem?_map] at e1
  obtain⟨kv,e4,rfl⟩:=Option.map_eq_some_iff.mp e1
  obtain⟨q1,hq1,q2,q3⟩:=k9 (show Paired _ kvs vs from D.kv) e4
  rw[hy] at hq1
  cases hq1
  rw[q2]
  exact Y2 hky
 have I2:Inv X pins σ (i7 H h'.objs.size (.tup (kvs.map fun kv=>kV kv.1))) {s with heap:=h'.push {cls:= .type "tuple",data:= .seq acc.toList.toArray},toks:=tk}:=
  I1.laid (t':=tk) (fun b o e=>Heap.get?_push_of_some _ e) (Nat.le_refl _) (show ObjOk X.prog X.w _ _ _ (.tup (kvs.map fun kv=>kV kv.1)) from⟨by rw[List.length_map];exact hz,acc.toList,rv,IsTup.new _ _⟩)
 rw[show acc.toList.toArray=acc by simp] at I2
 exact⟨.ref h'.objs.size,_,I2,rfl,q _ (I1.hok.fresh (Nat.le_refl _))⟩
theorem uE (K:PySem.W.Frag)(hc:X.calm=true)(h:X.K=K:=by rfl):CallR X (.type "tuple") (uC K):=h▸nk hc
end
end L2
set_option Elab.async false
set_option linter.all false
set_option maxRecDepth 100000
set_option maxHeartbeats 4000000
namespace L2
open PySem PySem.Spec PyProof.Rows
section
variable {prog:Program} {w:World} {A:Around} {E:Value→Shared→Prop} {s:Shared}
theorem me {Q:Int→Shared→Prop}(h:Q 0xFCA86420 {s with toks:=s.toks+1}):wpAny (model prog w) A (pyHash .none) Q E s:=by
 have hT:s.TypeIs Value.none "NoneType":=rfl
 unfold pyHash pyHashByItsType
 refine wpAny_bind ?_
 rw[cRoomFor,if_neg (show ¬([Value.none].any Value.onHeap)=true by decide)]
 refine wpAny_pure (wpAny_bind (wpAny_specialOf hT PySem.F.slot_NoneType_hash.lookup ?_))
 refine(show wpAny _ _ (if(some (Value.builtin "NoneType.__hash__")==some Value.none)=true then _ else _) Q E s from ?_)
 rw[if_neg (by decide)]
 refine wpAny_bind (wpAny_specialOf hT PySem.F.slot_NoneType_hash.lookup ?_)
 refine(show wpAny _ _ (callSpecialIfBoundUnlessNone? Value.none "__hash__" _>>=_) Q E s from ?_)
 refine wpAny_bind (wpAny_callSpecialIfBoundUnlessNone?_slot hT PySem.F.slot_NoneType_hash (wpAny_call_entry PySem.F.slot_NoneType_hash hT PySem.F.entry_NoneType_hash (show wpAny _ _ (do ret (←mkInt 0xFCA86420)) _ _ s from wpAny_ret_mkInt ?_) (PySem.F.args_NoneType_hash_1 _)))
 refine(show wpAny _ _ (if(decide (-(2:Int) ^ 63≤0xFCA86420)&&decide ((0xFCA86420:Int)<2 ^ 63))=true then _ else _) Q E _ from ?_)
 rw[if_pos (by decide)]
 exact wpAny_pure h
end
abbrev cQ:=Option d7
def Bb:cQ→Value→Bool
 |none,.none=>true
 |none,_=>false
 |some k,v=>V5 k v
theorem E9:∀{k:cQ} {v:Value},Bb k v=true→(k=none∧v=Value.none)∨(∃i t,k=some (Sum.inl i)∧v=Value.int i t)∨(∃x t,k=some (Sum.inr x)∧v=Value.str x t)
 |none,v,h=>by cases v<;>first|exact .inl ⟨rfl,rfl⟩|cases h
 |some k,v,h=>by
  rcases n0 (show V5 k v=true from h) with⟨i,t,rfl,rfl⟩|⟨x,t,rfl,rfl⟩
  ·exact .inr (.inl ⟨i,t,rfl,rfl⟩)
  ·exact .inr (.inr ⟨x,t,rfl,rfl⟩)
def zL (w:World):cQ→Int
 |none=>0xFCA86420
 |some k=>zC w k
def Z9 (prog:Program)(w:World):PySem.KeyKind prog w cQ where
 is:=Bb
 hash:=zL w
 inj:=fun v a b ha hb=>by
  rcases E9 ha with⟨rfl,rfl⟩|⟨i,t,rfl,rfl⟩|⟨x,t,rfl,rfl⟩<;>rcases E9 hb with⟨rfl,e⟩|⟨j,u,rfl,e⟩|⟨y,u,rfl,e⟩<;>first|rfl|(cases e<;>rfl)
 byValue:=fun k v h=>by
  rcases E9 h with⟨rfl,rfl⟩|⟨i,t,rfl,rfl⟩|⟨x,t,rfl,rfl⟩<;>rfl
 pyHash:=fun hv h=>by
  rcases E9 hv with⟨rfl,rfl⟩|⟨i,t,rfl,rfl⟩|⟨x,t,rfl,rfl⟩
  ·exact me h
  ·exact wpAny_pyHash_int h
  ·exact wpAny_pyHash_str h
 eqBool:=fun{A E s a b u v Q} hu hv h=>by
  have dk:∀{k k':d7},decide ((some k:cQ)=some k')=decide (k=k'):=fun{k k'}=>by
   by_cases e:k=k'
   ·subst e;simp
   ·rw[decide_eq_false e,decide_eq_false fun z=>e (Option.some.inj z)]
  rcases E9 hu with⟨rfl,rfl⟩|⟨i,t,rfl,rfl⟩|⟨x,t,rfl,rfl⟩<;>rcases E9 hv with⟨rfl,rfl⟩|⟨j,t',rfl,rfl⟩|⟨y,t',rfl,rfl⟩
  ·exact SeqAt.EqAt.same _ _ _ _ _ (by simpa using h)
  ·exact SeqAt.EqAt.none_int j t' _ _ _ _ (by simpa using h)
  ·exact SeqAt.EqAt.none_str y t' _ _ _ _ (by simpa using h)
  ·exact SeqAt.EqAt.int_none i t _ _ _ _ (by simpa using h)
  ·rw[dk,pH] at h;exact wpAny_eqBool_int h
  ·rw[dk,qE] at h;exact SeqAt.EqAt.int_str i t y t' _ _ _ _ h
  ·exact SeqAt.EqAt.str_none x t _ _ _ _ (by simpa using h)
  ·rw[dk,qm] at h;exact SeqAt.EqAt.str_int x t j t' _ _ _ _ h
  ·rw[dk,qP] at h;exact wpAny_eqBool_str h
 «strs»:=fun k x t v h=>by
  rcases E9 h with⟨rfl,e⟩|⟨i,u,rfl,e⟩|⟨y,u,rfl,e⟩
  ·exact nomatch e
  ·exact nomatch e
  ·injection e with e1 _
   subst e1
   cases v<;>rfl
def aq (P:Program)(w:World)(a:Addr)(n:Nat)(h:Heap):Prop:=(a==sysModules)=false∧∃vs,h.DictOf (Z9 P w) a vs∧vs.length=n
theorem iG {P P':Program}{w w':World}{H:Hp}{h:Heap}{a:Addr}{n:Nat}(x:aq P w a n h):ObjOk P' w' H h a (.ext (aq P w a n)):=by
 obtain⟨hs,vs,⟨o,es,ep,e,r⟩,hl⟩:=x
 exact⟨⟨hs,vs,⟨o,es,ep,e,r⟩,hl⟩,⟨o,e⟩,fun h1 h2 ⟨hs',vs',⟨o',es',ep',e',r'⟩,hl'⟩ k=>⟨hs',vs',⟨o',es',ep',k _ e',r'⟩,hl'⟩⟩
theorem cw {P:Program}{w:World}:∀{es:List DictEntry} {vs:List (d7×Value)},Pairs (h8 P w) es vs→Pairs (Z9 P w) es (vs.map fun x=>(some x.1,x.2))
 |_,_,.nil=> .nil
 |_,_,.cons h e t=> .cons h e (cw t)
theorem tm {P:Program}{w:World}{h:Heap}{a:Addr}{vs:List (d7×Value)}(dd:h.DictOf (h8 P w) a vs):h.DictOf (Z9 P w) a (vs.map fun x=>(some x.1,x.2)):=by
 obtain⟨o,es,ep,h1,h2,h3,h4,h5,h6⟩:=dd
 refine⟨o,es,ep,h1,h2,h3,fun e he=>?_,cw h5,?_⟩
 ·obtain⟨k,q1,q2⟩:=h4 e he
  exact⟨some k,q1,q2⟩
 ·rw[List.map_map]
  have e:((fun x:cQ×Value=>x.1)∘fun x:d7×Value=>((some x.1:cQ),x.2))=(fun k:d7=>(some k:cQ))∘fun x:d7×Value=>x.1:=rfl
  rw[e,←List.map_map]
  exact List.Pairwise.map _ (fun a b h z=>h (Option.some.inj z)) h6
theorem jw {vs:List (d7×Value)}{v:Value}:stored (vs.map fun x=>((some x.1:cQ),x.2)) none v=(vs.map fun x=>((some x.1:cQ),x.2))++[(none,v)]:=by
 unfold stored
 rw[if_neg]
 intro z
 obtain⟨x,hx,e⟩:=List.any_eq_true.mp z
 obtain⟨y,_,rfl⟩:=List.mem_map.mp hx
 cases of_decide_eq_true e
section
variable {X:Cx}
def qA (P:Program)(w:World):jC:=fun o i v H Q=>kC o i v H Q∨∃a kvs,o= .ref a∧i= .non∧H a=some (.dK kvs)∧kvs.length<1000∧Q (i7 H a (.ext (aq P w a (kvs.length+1))))
theorem pP (hu:X.A.units+1<cLine):nr X (qA X.prog X.w):=by
 intro pins s σ H o i v ov iv u Q I ro ri rv h
 rcases h with h|⟨a,kvs,rfl,rfl,hA,hl,q⟩
 ·exact sP hu pins s σ H o i v ov iv u Q I ro ri rv h
 ·cases ro
  cases ri
  obtain⟨z,hd,vs,rel,dd⟩:=pX I.hok hA
  have hlv:=rel.length
  refine wpAny_setItem_pairs (knd:=Z9 X.prog X.w) (k:=none) (hsz:=by rw[List.length_map];lia) rfl (tm dd) fun h' dd' hs=>?_
  rw[jw] at dd'
  have he:∃q,h'.get? a=some q:=let ⟨q,_,_,hq,_⟩:=dd';⟨q,hq⟩
  exact⟨_,ao I (by rw[hA];exact True.intro) hs he (iG ⟨hd,_,dd',by rw[List.length_append,List.length_map,hlv];rfl⟩),q⟩
def kx (K:PySem.W.Frag)(P:Program)(w:World):List V→Hp→VK→Prop:=fun xs H Q=>uw K xs H Q∨∃p n,xs=[V.ref p]∧H p=some (.ext (aq P w p n))∧n≤1000∧Q (.int n) H
theorem lO:CallR X (.builtin "len") (kx X.K X.prog X.w):=by
 refine call_lenS.or ?_
 intro pins s σ H xs us Q I r h
 obtain⟨p,n,rfl,hp,hn,q⟩:=h
 obtain⟨u,rfl,ru⟩:=D4 r
 cases ru
 obtain⟨hs,vs,dd,hl⟩:=(I.hok p _ hp).1
 refine call_len_dict hs dd (by lia) ?_
 rw[hl]
 exact⟨.int n,H,I.tok _,⟨_,rfl⟩,q⟩
theorem yI (K:PySem.W.Frag)(h:X.K=K:=by rfl):CallR X (.builtin "len") (kx K X.prog X.w):=h▸lO
def kG (K:PySem.W.Frag)(P:Program)(w:World):List V→Hp→VK→Prop:=fun xs H Q=>tZ K xs H Q∨∃p n T,xs=[V.ref p,.ty T]∧H p=some (.ext (aq P w p n))∧(T="str"∨T="int"∨T="bool"∨T="list"∨T="tuple"∨T="dict")∧Q (.bl (mf "dict" T)) H
theorem lU:CallR X (.builtin "isinstance") (kG X.K X.prog X.w):=by
 refine call_isi.or ?_
 intro pins s σ H xs us Q I r h
 obtain⟨p,n,T,rfl,hp,hT,q⟩:=h
 obtain⟨u,c,rfl,rx,rc⟩:=M9 r
 cases rx
 cases rc
 obtain⟨hs,vs,⟨o,es,ep,h1,h2,r⟩,hl⟩:=(I.hok p _ hp).1
 exact PySem.W.kia_one PySem.W.kitx_dict I.kIn ⟨o,h1,h2.1⟩ (K7 (by simp) hT) (fun z=>nomatch z) fun tk=>⟨.bl _,H,I.tok tk,rfl,q⟩
theorem zD (K:PySem.W.Frag)(h:X.K=K:=by rfl):CallR X (.builtin "isinstance") (kG K X.prog X.w):=h▸lU
end
section
variable {K:PySem.W.Frag} {P:Program} {w:World} {H:Hp} {Q:VK}
theorem A4 {xs:List V}(h:ni K xs H Q):kx K P w xs H Q:= .inl (.inl h)
theorem yp {xs:List V}(h:tZ K xs H Q):kG K P w xs H Q:= .inl h
theorem E6 {o i v:V}{Qh:Hp→Prop}(h:kC o i v H Qh):qA P w o i v H Qh:= .inl h
theorem zt {x y:V}(h:mF K x y H Q):dn K x y H Q:= .inl (Am h)
theorem pj {i j:Int}(q:Q (.bl (decide (i=j))) H):dn K (.int i) (.int j) H Q:=zt (oZ q)
theorem ag {i j:Str}(q:Q (.bl (decide (i=j))) H):dn K (.str i) (.str j) H Q:=zt (pU q)
theorem rD {x y:V}(h:cY K x y H Q):Q9 K x y H Q:= .inl (Aj h)
theorem gJ {i j:Int}(q:Q (.bl (!decide (i=j))) H):Q9 K (.int i) (.int j) H Q:= .inl (pZ q)
theorem sk {i j:Bool}(q:Q (.bl (!decide (i=j))) H):Q9 K (.bl i) (.bl j) H Q:= .inl (sR q)
theorem gK {i j:Str}(q:Q (.bl (!decide (i=j))) H):Q9 K (.str i) (.str j) H Q:= .inl (rm q)
end
theorem zF {X:Cx}(K:PySem.W.Frag)(P:Program)(w:World)(h:X.K=K:=by rfl)(hp:X.prog=P:=by rfl)(hw:X.w=w:=by rfl):CallR X (.builtin "isinstance") (kG K P w):=by subst hp hw;exact zD K h
theorem B4 {X:Cx}(K:PySem.W.Frag)(P:Program)(w:World)(h:X.K=K:=by rfl)(hp:X.prog=P:=by rfl)(hw:X.w=w:=by rfl):CallR X (.builtin "len") (kx K P w):=by subst hp hw;exact yI K h
theorem t7 {X:Cx}(P:Program)(w:World)(hu:X.A.units+1<cLine)(hp:X.prog=P:=by rfl)(hw:X.w=w:=by rfl):nr X (qA P w):=by subst hp hw;exact pP hu
end L2
set_option Elab.async false
set_option linter.all false
set_option maxRecDepth 100000
namespace L2
open PySem PySem.Spec PyProof.Rows
section
variable {X:Cx} {a b:Expr} {ta:TA} {x y:Str} {pos:Pos}
end
section
variable {σ:St} {H:Hp} {nx:St→Hp→Prop} {rt:VK} {bk ct:St→Hp→Prop} {ta:TA}
end
end L2
set_option Elab.async false
set_option linter.all false
set_option maxRecDepth 100000
set_option maxHeartbeats 4000000
namespace L2
open PySem PySem.Spec PyProof.Rows
section
variable {P:Program} {w:World}
theorem lS {K:PySem.W.Frag}{tg:Expr}{d:Addr}{o:Obj}{kvs:List (d7×V)}{vs:List (d7×Value)}{ep:Nat}(D:qv P w d o kvs vs ep)(it:Addr):
  ax P w K tg (zV d o kvs fun kv=>kv.2) [it] it (fun i h=>h.IsValIter it d i vs.length ep) where
 mem:=by simp
 obj:=fun i h st b hb=>by
  have e:b=it:=by simpa using hb
  subst e
  obtain⟨o,e,c,dd⟩:=st
  exact⟨o,e,fun v z=>by rw[dd] at z;cases z⟩
 keep:=fun i h h' st k=>let ⟨o,e,r⟩:=st;⟨o,k it (by simp) o e,r⟩
 item:=by
  intro X hP hw hK hc i pins s σ H E I hf st hg
  subst hP hw hK
  obtain⟨hfz,hi⟩:=hg
  obtain⟨f0,f1,f2,f3,f4,f5⟩:=hf it (by simp)
  have dat:=D.at_ s.heap (I.hok d _ hfz).1
  have hl:=KV.length D.kv
  obtain⟨kv,hkv⟩:∃kv,kvs[i]?=some kv:=⟨kvs[i],by simp [hi]⟩
  obtain⟨⟨k,x⟩,hx⟩:∃p,vs[i]?=some p:=⟨vs[i]'(by lia),by simp [show i<vs.length by lia]⟩
  obtain⟨hkk,rx⟩:kv.1=k∧RelV kv.2 x:=by
   have q:=k9 D.kv hkv
   obtain⟨p,hp,r⟩:=q
   rw[hx] at hp;cases hp
   exact r
  refine wpAny_pyNext_values_item st dat hx fun h' st' hs'=>?_
  have I1:Inv X pins σ H {s with heap:=h'}:=I.turned (t':=s.toks) (fun b o hb e=>hs'.extBut b o hb e) f0 f1 f3 f4 f5
  obtain⟨oo,e,c,dd⟩:=id st'
  exact⟨x,rfl,ix (s:={s with heap:=h'}) e c dd (by decide) ⟨kv.2,H,I1,rx,⟨rfl,kv,hkv,rfl⟩,st',fun b hb=>(hf b hb).1⟩⟩
 done:=by
  intro X hP hw hK hc i pins s σ H E I hf st hg
  subst hP hw hK
  obtain⟨hfz,hi⟩:=hg
  obtain⟨f0,f1,f2,f3,f4,f5⟩:=hf it (by simp)
  have dat:=D.at_ s.heap (I.hok d _ hfz).1
  have hl:=KV.length D.kv
  exact wpAny_pyNext_values_end (I.ok.hd hc) st dat (by simp;lia) fun h' eb=>⟨rfl,I.turned (t':=s.toks) (fun b o hb e=>eb b o hb e) f0 f1 f3 f4 f5⟩
 self:=fun _ _ _ _ _ st h=>wpAny_pyIter_valiter st h
end
section
variable {X:Cx} {tg:Expr}
abbrev Be (d:Addr)(o:Obj)(kvs:List (d7×V)):It:=zV d o kvs fun kv=>kv.2
def fJ (tl:TE):gX:=fun σ H R=>tl σ H fun v H1=>rIterD Be v H1 R
theorem mU {o:Expr}{tl:TE}{apos cpos:Pos}(ho:PE X o tl)
  (hbase:attributeBase o "values" X.env (eval o X.env)=eval o X.env:=by rfl) (hline:(apos.endLine==cpos.line)=true:=by rfl):
  rC X tg (.Call (.Attribute o "values" apos) [] [] cpos) (fJ tl):=by
 intro pins s σ H R I h
 refine wpAny_Call_method0_late hbase hline (B5 (ho pins s σ H _ I h) fun v s1 ⟨x,H1,I1,r1,q1⟩=>?_)
 obtain⟨d,kvs,ob,vs,ep,th,H',rfl,hd,hob,D,I2,hth,q⟩:=rIterD.go I1 r1 q1
 have dof:=(D.at_ _ hob).dictOf
 refine⟨"dict","dict.values",F.plainAttrs_dict,F.slot_dict_values,F.type_dict_values,dof.typeIs,dof.mapOf.noDict,Calls.callWith_builtin rfl (PySem.evalArgs_none ?_)⟩
 refine call_meetsIn F.slot_dict_values dof.typeIs F.entry_dict_values (F.args_dict_values_1 _) (meets_dict_values (h8 X.prog X.w) d hd) ⟨⟨vs,dof⟩,?_⟩
 have I3:Inv X pins σ H' {s1 with heap:=s1.heap.push {cls:= .type "dict_values",data:= .fields #[.ref d]}}:=I2.kept (t':=s1.toks) fun b o e=>Heap.get?_push_of_some _ e
 refine wpAny_pyIter_values (s:={s1 with heap:=s1.heap.push {cls:= .type "dict_values",data:= .fields #[.ref d]}}) (knd:=h8 X.prog X.w) ⟨_,Heap.get?_push_size _ rfl,rfl,rfl⟩ (D.at_ _ (Heap.get?_push_of_some _ hob)) ?_
 generalize hG:s1.heap.push {cls:= .type "dict_values",data:= .fields #[.ref d]}=G at I3⊢
 refine⟨G.objs.size,[G.objs.size],_,_,H',rfl,I3.kept (t':=s1.toks) fun b o e=>Heap.get?_push_of_some _ e,lS D _,⟨_,Heap.get?_push_size _ rfl,rfl,rfl⟩,fun b hb=>?_,th,hth,q⟩
 have e:b=G.objs.size:=by simpa using hb
 subst e
 exact I3.fpOk (Nat.le_refl _) (I3.hok.fresh (Nat.le_refl _))
theorem hJ {tg o:Expr}{to:TE}{apos cpos:Pos}(ho:QE X o to)
  (hbase:attributeBase o "values" X.env (eval o X.env)=eval o X.env:=by rfl) (hline:(apos.endLine==cpos.line)=true:=by rfl):QI X tg (.Call (.Attribute o "values" apos) [] [] cpos) (fJ to):=⟨mU ho.r hbase hline⟩
theorem mK {tl:TE}{σ:St}{H:Hp}{R:It→(Hp→Hp)→Hp→Prop}(q:tl σ H fun v H1=>rIterD Be v H1 R):fJ tl σ H R:=q
end
end L2
set_option Elab.async false
set_option linter.all false
namespace L2
open PySem PySem.Spec PyProof.Rows
section
variable {J:It} {th:Hp→Hp} {n:Nat} {g:TG} {tb:TS} {nx:L2.St→Hp→Prop} {rt:VK} {σ:L2.St} {H:Hp}
theorem K9 (Pv:Nat→L2.St→Hp→Prop)(h0:Pv 0 σ H)(hgo:∀i σ H,i<n→Pv i σ H→J.go i H)
  (hs:∀(bk:L2.St→Hp→Prop) i x σ H H',i<n→Pv i σ H→J.yld i H x H'→g x σ H' fun σ2 H2=>tb ⟨Pv (i+1),fun v H=>rt v (th H),bk,Pv (i+1)⟩ σ2 H2)
  (hd:∀σ H,Pv n σ H→J.stop n H∧nx σ (th H)):sE J th g tb nx rt σ H:=aw Pv h0 hgo (hs fun σ H=>nx σ (th H)) hd
end
end L2
set_option Elab.async false
set_option linter.all false
set_option maxRecDepth 100000
set_option maxHeartbeats 4000000
namespace L2
open PySem PySem.Spec PyProof.Rows PySem.Builtin PySem.Builtin.Str
section
variable {X:Cx}
def Bc:List TE→Str→TE
 |[],acc=>fun _ H Q=>Q (.str acc) H
 |te::r,acc=>fun σ H Q=>te σ H fun v H1=>∃y:Str,v= .str y∧(acc++y).length≤1000∧Bc r (acc++y) σ H1 Q
structure QF (X:Cx) (es:List Expr) (ts:List TE):Prop where
 r:∀(pins:List (Addr×Obj)) (s:Shared) (σ:St) (H:Hp) (acc:Str) (Q:VK),Inv X pins σ H s→acc.length≤1000→Bc ts acc σ H Q→wpAny (model X.prog X.w) X.A (joinParts acc (evalEach es X.env)) (EP X pins σ Q) X.xe s
end
end L2
set_option Elab.async false
set_option linter.all false
set_option maxRecDepth 100000
set_option maxHeartbeats 4000000
namespace L2
open PySem PySem.Spec PyProof.Rows
section
variable {prog:Program} {w:World} {A:Around} {E:Value→Shared→Prop} {s:Shared}
end
end L2
set_option Elab.async false
set_option linter.all false
set_option maxRecDepth 100000
set_option maxHeartbeats 4000000
namespace L2
open PySem PySem.Spec PyProof.Rows
theorem aU {α β:Type}{F:α→β→Prop}:∀{l:List α} {m:List β} {b:β},Paired F l m→b∈m→∃a∈l,F a b
 |_,_,_,.cons r t,h=>by
  rcases List.mem_cons.mp h with e|e
  ·exact⟨_,List.mem_cons_self,e▸r⟩
  ·obtain⟨a,h1,h2⟩:=aU t e
   exact⟨a,List.mem_cons_of_mem _ h1,h2⟩
section
variable {X:Cx}
end
section
variable {K:PySem.W.Frag} {P:Program} {w:World} {H:Hp} {Q:VK} {σ:L2.St}
end
end L2
set_option Elab.async false
set_option linter.all false
set_option maxRecDepth 100000
set_option maxHeartbeats 4000000
namespace L2
open PySem PySem.Spec PyProof.Rows
def xM:Value→V
 | .none=> .non
 | .bool b=> .bl b
 | .int i _=> .int i
 | .str x _=> .str x
 | .bytes b _=> .byt b
 | .float b _=> .flt b
 | .ref a=> .ref a
 | .type n=> .ty n
 |_=> .non
theorem fw {v:V}{u:Value}(r:RelV v u):xM u=v:=by
 cases v with
 |non=>rw[show u=Value.none from r];rfl
 |bl b=>rw[show u=Value.bool b from r];rfl
 |int i=>obtain⟨t,rfl⟩:=r;rfl
 |str x=>obtain⟨t,rfl⟩:=r;rfl
 |byt x=>obtain⟨t,rfl⟩:=r;rfl
 |flt x=>obtain⟨t,rfl⟩:=r;rfl
 |ref a=>rw[show u=Value.ref a from r];rfl
 |ty n=>rw[show u=Value.type n from r];rfl
theorem yK {f:V→Bool}:∀{xs:List V} {us:List Value},Vals xs us→us.countP (f∘xM)=xs.countP f
 |_,_,.nil=>rfl
 |_,_,.cons r t=>by rw[List.countP_cons,List.countP_cons,yK t,Function.comp,fw r]
section
variable {X:Cx}
end
def oj (K:PySem.W.Frag)(a:Addr)(xs:List V):It:=
 ⟨fun i H=>SqL K H a xs∧i<xs.length,fun i H x H'=>H'=H∧xs[xs.length -1 -i]?=some x,fun i _=>i=xs.length⟩
theorem qb {P:Program}{w:World}{K:PySem.W.Frag}{tg:Expr}(a it:Addr)(xs:List V):ax P w K tg (oj K a xs) [it] it (fun i h=>h.IsRevIter it a ((xs.length:Int) -1 -(i:Int))) where
 mem:=by simp
 obj:=fun i h st b hb=>by
  have e:b=it:=by simpa using hb
  subst e
  obtain⟨o,e,c,d⟩:=st
  exact⟨o,e,fun v z=>by rw[d] at z;cases z⟩
 keep:=fun i h h' st k=>st.at fun o e=>k it (by simp) o e
 item:=by
  intro X hP hw hK hc i pins s σ H E I hf st hg
  subst hP hw hK
  obtain⟨hq,hi⟩:=hg
  obtain⟨its,rv,p,hz⟩:=I.list hq
  have hj:xs.length -1 -i<xs.length:=by lia
  obtain⟨u,hu,ru⟩:=rv.get (List.getElem?_eq_getElem hj)
  obtain⟨f0,f1,f2,f3,f4,f5⟩:=hf it (by simp)
  have st1:s.heap.IsRevIter it a ((xs.length -1 -i:Nat):Int):=by
   have e:((xs.length -1 -i:Nat):Int)=(xs.length:Int) -1 -(i:Int):=by lia
   rw[e];exact st
  refine wpAny_pyNext_rev_item st1 p.isList (x:=u) (by simpa using hu) fun h' st' sb=>?_
  have I1:Inv X pins σ H {s with heap:=h'}:=I.turned (t':=s.toks) (fun b o hb e=>(sb.2 b hb).trans e) f0 f1 f3 f4 f5
  obtain⟨o,e,c,d⟩:=id st'
  have st2:h'.IsRevIter it a ((xs.length:Int) -1 -((i+1:Nat):Int)):=by
   have e:(xs.length:Int) -1 -((i+1:Nat):Int)=((xs.length -1 -i:Nat):Int) -1:=by lia
   rw[e];exact st'
  exact⟨u,rfl,ix (s:={s with heap:=h'}) e c d (by decide) ⟨_,H,I1,ru,⟨rfl,List.getElem?_eq_getElem hj⟩,st2,fun b hb=>(hf b hb).1⟩⟩
 done:=by
  intro X hP hw hK hc i pins s σ H E I hf st hg
  subst hP hw hK
  have hg':i=xs.length:=hg
  obtain⟨f0,f1,f2,f3,f4,f5⟩:=hf it (by simp)
  have st1:s.heap.IsRevIter it a (-1):=by
   have e:(-1:Int)=(xs.length:Int) -1 -(i:Int):=by lia
   rw[e];exact st
  exact wpAny_pyNext_rev_end (I.ok.hd hc) st1 fun h' eb=>⟨rfl,I.turned (t':=s.toks) (fun b o hb e=>eb b o hb e) f0 f1 f3 f4 f5⟩
 self:=fun _ _ _ _ _ st h=>wpAny_pyIter_revIter st h
section
variable {X:Cx} {a:Expr} {t:TA} {p pos:Pos} {tg:Expr}
def vt (K:PySem.W.Frag)(ta:TA):gX:=fun σ H R=>ta σ H fun vs H1=>∃l xs,vs=[.ref l]∧SqL K H1 l xs∧R (oj K l xs) id H1
theorem wG (hg:Gl X "reversed")(hm:X.mg "reversed"=none)(ha:PA X [a] t)(hs:starEach [a] X.env=[(false,eval a X.env)]):rC X tg (.Call (.Name "reversed" p) [a] [] pos) (vt X.K t):=by
 intro pins s σ H R I h
 refine Call_ (R8 I hg hm Boot.«reversed» (PyProof.Rows.callWith_type1 (B5 (ha pos pins s σ H _ I h) fun us s1 ⟨vs,H1,I1,r1,q1⟩=>?_) hs rfl))
 obtain⟨l,xs,e,hq,q⟩:=q1
 subst e
 obtain⟨u,rfl,ru⟩:=D4 r1
 cases ru
 obtain⟨its,rv,pl,hz⟩:=I1.list hq
 have hl:=rv.length
 refine call_reversed_list pl.isList ?_
 have I2:Inv X pins σ H1 {s1 with heap:=s1.heap.push (revObj l ((its.toArray.size:Int) -1))}:=I1.kept (t':=s1.toks) fun b o e=>Heap.get?_push_of_some _ e
 have st:(s1.heap.push (revObj l ((its.toArray.size:Int) -1))).IsRevIter s1.heap.objs.size l ((xs.length:Int) -1 -((0:Nat):Int)):=by
  refine⟨_,Heap.get?_push_size _ rfl,rfl,?_⟩
  show Data.fields #[.ref l,rawInt ((its.toArray.size:Int) -1)]=_
  rw[show(its.toArray.size:Int) -1=(xs.length:Int) -1 -((0:Nat):Int) by rw[List.size_toArray];lia]
 refine wpAny_pyIter_revIter (s:={s1 with heap:=s1.heap.push (revObj l ((its.toArray.size:Int) -1))}) st ?_
 refine⟨s1.heap.objs.size,[s1.heap.objs.size],_,_,H1,rfl,I2,qb l _ xs,st,fun b hb=>?_,id,bz,q⟩
 have e:b=s1.heap.objs.size:=by simpa using hb
 subst e
 exact I1.fpOk (Nat.le_refl _) (I1.hok.fresh (Nat.le_refl _))
theorem iw (K:PySem.W.Frag)(hm:X.mg "reversed"=none)(ha:QA X [a] t)(hg:Gl X "reversed":=by rfl)(h:i8 a=true:=by rfl)(hK:X.K=K:=by rfl):QI X tg (.Call (.Name "reversed" p) [a] [] pos) (vt K t):=
 ⟨hK▸wG hg hm ha.r (E5 h)⟩
end
section
variable {K:PySem.W.Frag} {σ:L2.St} {H:Hp} {ta:TA} {R:It→(Hp→Hp)→Hp→Prop}
theorem zM (q:ta σ H fun vs H1=>∃l xs,vs=[V.ref l]∧SqL K H1 l xs∧R (oj K l xs) id H1):vt K ta σ H R:=q
end
end L2
set_option Elab.async false
set_option linter.all false
set_option maxRecDepth 100000
set_option maxHeartbeats 4000000
namespace L2
open PySem PySem.Spec PyProof.Rows
abbrev dC (h:Heap)(z TI TO:Addr)(f0:Value)(b:Bool):Prop:=h.get? z=some {cls:= .type "zip",dict:=none,data:= .fields #[f0,.bool b,.bool false,.ref TI,.ref TO],slots:= #[]}
section
variable {prog:Program} {w:World} {A:Around} {E:Value→Shared→Prop} {s:Shared}
theorem iq {z TI TO T:Addr}{b:Bool}{ot:Obj}{Q:Bool→Shared→Prop}(hz:dC s.heap z TI TO (rawInt T) b)(hT:s.heap.get? T=some ot)
  (hQ:∀h',dC h' z TI TO (rawInt T) true→Heap.SameBut z s.heap h'→Q false {s with heap:=h'}):wpAny (model prog w) A (Builtin.SmallTypes.ownedTupleIsFree (.ref z)) Q E s:=by
 unfold Builtin.SmallTypes.ownedTupleIsFree
 refine wpAny_bind (wpAny_field hz rfl (x:=rawInt T) rfl ?_)
 refine wpAny_bind (PySem.W.kdx_alive (show s.heap.get? ((T:Int).toNat)=some ot by rw[Int.toNat_natCast];exact hT) ?_)
 rw[if_neg (by simp)]
 refine wpAny_bind (wpAny_field hz rfl (x:= .bool b) rfl ?_)
 cases b with
 |true=>
  rw[if_neg (by decide)]
  exact wpAny_pure (hQ s.heap hz (Heap.SameBut.refl _ _))
 |false=>
  rw[if_pos (by decide)]
  exact wpAny_bind (wpAny_setField_rec hz (by simp) fun h' g' s'=>wpAny_pure (hQ h' g' s'))
theorem lp {z TI TO T i1 i2 l1 l2:Addr}{k1 k2:Nat}{b:Bool}{ot:Obj}{xs ys:Array Value}{x y:Value}{Q:Option Value→Shared→Prop}(D:ZipApart z TI TO i1 i2 l1 l2)
  (hz:dC s.heap z TI TO (rawInt T) b) (hTa:s.heap.get? T=some ot) (hTI:IsPair s.heap TI (.ref i1) (.ref i2))
  (h1:s.heap.IsListIter i1 l1 k1) (h2:s.heap.IsListIter i2 l2 k2) (hl1:s.heap.IsList l1 xs) (hl2:s.heap.IsList l2 ys) (hx:xs[k1]?=some x) (hy:ys[k2]?=some y)
  (hQ:∀h',dC h' z TI TO (rawInt T) true→h'.IsListIter i1 l1 (k1+1)→h'.IsListIter i2 l2 (k2+1)→IsPair h' s.heap.objs.size x y→
   (∀c o,c≠z→c≠i1→c≠i2→s.heap.get? c=some o→h'.get? c=some o)→Q (some (.ref s.heap.objs.size)) {s with heap:=h'}):wpAny (model prog w) A (pyNext (.ref z)) Q E s:=by
 have hT:s.TypeIs (.ref z) "zip":=⟨_,hz,rfl⟩
 unfold pyNext
 refine wpAny_bind (wpAny_attempt (wpAny_callSpecial?_slot (name:=Str.ofString "__next__") hT F.slot_zip_next (wpAny_call_entry F.slot_zip_next hT F.entry_zip_next ?_ (F.args_zip_next_1 _))))
 show wpAny (model prog w) _ (field (.ref z) 2>>=_) _ _ _
 refine wpAny_bind (wpAny_field hz rfl (x:= .bool false) rfl ?_)
 show wpAny (model prog w) _ (field (.ref z) 3>>=_) _ _ _
 refine wpAny_bind (wpAny_field hz rfl (x:= .ref TI) rfl (wpAny_bind (wpAny_seqItems hTI rfl ?_)))
 show wpAny (model prog w) _ (Builtin.SmallTypes.ownedTupleIsFree (.ref z)>>=_) _ _ _
 refine wpAny_bind (iq hz hTa fun k1' g1 s1=>?_)
 rw[if_neg (by decide)]
 dsimp only
 refine wpAny_bind ?_
 rw[←Array.forIn_toList]
 simp only[List.forIn_cons,List.forIn_nil]
 refine wpAny_bind (wpAny_bind (wpAny_holding ?_))
 show wpAny (model prog w) _ (Builtin.SmallTypes.nextOf (.ref i1)>>=_) _ _ _
 refine wpAny_bind (wpAny_nextOf_list_item (h1.extBut s1.extBut D.i1z) (hl1.extBut s1.extBut D.l1z) hx fun k2' g2 s2=>wpAny_pure (wpAny_pure ?_))
 refine wpAny_bind (wpAny_bind (wpAny_holding ?_))
 show wpAny (model prog w) _ (Builtin.SmallTypes.nextOf (.ref i2)>>=_) _ _ _
 refine wpAny_bind (wpAny_nextOf_list_item ((h2.extBut s1.extBut D.i2z).extBut s2.extBut D.i12.symm) ((hl2.extBut s1.extBut D.l2z).extBut s2.extBut D.l2i1) hy fun k3' g3 s3=>wpAny_pure (wpAny_pure (wpAny_pure ?_)))
 have sz:k3'.objs.size=s.heap.objs.size:=by rw[s3.1,s2.1,s1.1]
 have up:∀c o,c≠z→c≠i1→c≠i2→s.heap.get? c=some o→k3'.get? c=some o:=fun c o c1 c2 c3 e=>s3.extBut _ _ c3 (s2.extBut _ _ c2 (s1.extBut _ _ c1 e))
 refine wpAny_bind (wpAny_newTuple (wpAny_pure ⟨_,rfl,?_⟩) (by show 2≤sizeLine;decide))
 refine wpAny_pure ?_
 show Q (some (.ref k3'.objs.size)) _
 rw[sz]
 refine hQ _ (Heap.get?_push_of_some _ (s3.extBut _ _ D.i2z.symm (s2.extBut _ _ D.i1z.symm g1))) ((g2.extBut s3.extBut D.i12).at fun o e=>Heap.get?_push_of_some _ e) (g3.at fun o e=>Heap.get?_push_of_some _ e) ?_ fun c o c1 c2 c3 e=>Heap.get?_push_of_some _ (up c o c1 c2 c3 e)
 rw[←sz]
 exact Heap.get?_push_size _ rfl
theorem oB {z TI TO T i1 i2 l1 l2:Addr}{k1 k2:Nat}{b:Bool}{ot:Obj}{xs ys:Array Value}{Q:Option Value→Shared→Prop}(hh:A.handled=none)(D:ZipApart z TI TO i1 i2 l1 l2)
  (hz:dC s.heap z TI TO (rawInt T) b) (hTa:s.heap.get? T=some ot) (hTI:IsPair s.heap TI (.ref i1) (.ref i2))
  (h1:s.heap.IsListIter i1 l1 k1) (h2:s.heap.IsListIter i2 l2 k2) (hl1:s.heap.IsList l1 xs) (hl2:s.heap.IsList l2 ys) (hend:xs[k1]?=none∨ys[k2]?=none)
  (hQ:∀h',(∀c o,c≠z→c≠i1→c≠i2→s.heap.get? c=some o→h'.get? c=some o)→Q none {s with heap:=h'}):wpAny (model prog w) A (pyNext (.ref z)) Q E s:=by
 have hT:s.TypeIs (.ref z) "zip":=⟨_,hz,rfl⟩
 unfold pyNext
 refine wpAny_bind (wpAny_attempt (wpAny_callSpecial?_slot (name:=Str.ofString "__next__") hT F.slot_zip_next (wpAny_call_entry F.slot_zip_next hT F.entry_zip_next ?_ (F.args_zip_next_1 _))))
 show wpAny (model prog w) _ (field (.ref z) 2>>=_) _ _ _
 refine wpAny_bind (wpAny_field hz rfl (x:= .bool false) rfl ?_)
 show wpAny (model prog w) _ (field (.ref z) 3>>=_) _ _ _
 refine wpAny_bind (wpAny_field hz rfl (x:= .ref TI) rfl (wpAny_bind (wpAny_seqItems hTI rfl ?_)))
 show wpAny (model prog w) _ (Builtin.SmallTypes.ownedTupleIsFree (.ref z)>>=_) _ _ _
 refine wpAny_bind (iq hz hTa fun k1' g1 s1=>?_)
 rw[if_neg (by decide)]
 dsimp only
 refine wpAny_bind ?_
 rw[←Array.forIn_toList]
 simp only[List.forIn_cons,List.forIn_nil]
 refine wpAny_bind (wpAny_bind (wpAny_holding ?_))
 show wpAny (model prog w) _ (Builtin.SmallTypes.nextOf (.ref i1)>>=_) _ _ _
 cases hx:xs[k1]? with
 |none=>
  refine wpAny_bind (wpAny_nextOf_list_end hh (h1.extBut s1.extBut D.i1z) (hl1.extBut s1.extBut D.l1z) hx fun k2' e s2 he=>?_)
  obtain⟨oe,hoe,hce⟩:=he
  exact wpAny_bind (wpAny_isInstance (T:="StopIteration") (b:=true) ⟨oe,hoe,hce⟩ isSubtype_stop (wpAny_pure (hQ _ fun c o c1 c2 c3 x=>s2 _ _ c2 (s1.extBut _ _ c1 x))))
 |some x=>
  have hy:ys[k2]?=none:=by
   rcases hend with h|h
   ·rw[hx] at h;cases h
   ·exact h
  refine wpAny_bind (wpAny_nextOf_list_item (h1.extBut s1.extBut D.i1z) (hl1.extBut s1.extBut D.l1z) hx fun k2' g2 s2=>wpAny_pure (wpAny_pure ?_))
  refine wpAny_bind (wpAny_bind (wpAny_holding ?_))
  show wpAny (model prog w) _ (Builtin.SmallTypes.nextOf (.ref i2)>>=_) _ _ _
  refine wpAny_bind (wpAny_nextOf_list_end hh ((h2.extBut s1.extBut D.i2z).extBut s2.extBut D.i12.symm) ((hl2.extBut s1.extBut D.l2z).extBut s2.extBut D.l2i1) hy fun k3' e s3 he=>?_)
  obtain⟨oe,hoe,hce⟩:=he
  exact wpAny_bind (wpAny_isInstance (T:="StopIteration") (b:=true) ⟨oe,hoe,hce⟩ isSubtype_stop (wpAny_pure (hQ _ fun c o c1 c2 c3 x=>s3 _ _ c3 (s2.extBut _ _ c2 (s1.extBut _ _ c1 x)))))
end
theorem gn:typeLookup (.type "zip") "keys"=pure none:=by rw[typeLookup_type,builtinLookup_eq_fast];kernel_rfl
theorem nJ:typeLookup (.type "zip") "__getattr__"=pure none:=by rw[typeLookup_type,builtinLookup_eq_fast];kernel_rfl
section
variable {prog:Program} {w:World} {A:Around} {E:Value→Shared→Prop} {s:Shared}
theorem nV (a:Addr)(fs:Array Value)(u:Tok):Meets (Builtin.«object.__getattribute__» ⟨[.ref a,.str "keys" u],[]⟩) (fun A R s=>s.heap.get? a=some {cls:= .type "zip",dict:=none,data:= .fields fs,slots:= #[]}∧raisesAttr (.ref a) "keys" A R s):=
 Meets.of_wp fun prog w A R s hs=>by
  obtain⟨hp,g,d,tk,os⟩:=s
  obtain⟨hx,hs⟩:=hs
  have hT:(⟨hp,g,d,tk,os⟩:Shared).TypeIs (.ref a) "zip":=⟨_,hx,rfl⟩
  have hmiss:=gn
  unfold Builtin.«object.__getattribute__»
  repeat(any_goals (first|assumption|wp_step))
  exact wpAny_raiseAttrError hs.1 hs.2 (attrMsg_fits (by decide+kernel) (by decide+kernel))
theorem jB:entryFor table "zip.__getattribute__"=some Builtin.«object.__getattribute__»:=entryFor_alias (id':="object.__getattribute__") (by kernel_rfl) (by decide+kernel) (by decide+kernel) (by kernel_rfl)
theorem gj {a:Addr}{fs:Array Value}{Q:Option Value→Shared→Prop}(hx:s.heap.get? a=some {cls:= .type "zip",dict:=none,data:= .fields fs,slots:= #[]})(hA:A.handled=none)
  (h:∀h' tk,(∀b ob,s.heap.get? b=some ob→h'.get? b=some ob)→Q none {s with heap:=h',toks:=tk}):wpAny (model prog w) A (getAttr? (.ref a) "keys") Q E s:=by
 obtain⟨hp,g,d,tk,os⟩:=s
 have hT:∀tk',(⟨hp,g,d,tk',os⟩:Shared).TypeIs (.ref a) "zip":=fun _=>⟨_,hx,rfl⟩
 have f1:=sub_AttributeError
 have f3:=F.slot_zip_getattribute.lookup
 have f4:=F.slot_zip_getattribute.bind (.ref a)
 have f5:=nJ
 unfold getAttr? getAttrBy? getAttrBy
 repeat(any_goals (first|assumption|exact hT _|((with_reducible show wpAny _ _ (call (Value.builtin "zip.__getattribute__") _ _) _ _ _);refine call_meets F.slot_zip_getattribute (hT _) jB (F.args_zip_getattribute_2 _ _) (nV a fs _) ⟨hx,hA,fun h' tk' e hx'=>?_⟩)|wp_step))
 obtain⟨t',u',he⟩:=hx'.there
 show wpAny _ _ (getattributeRaised _ _ _ _ _ _ _) _ _ _
 unfold getattributeRaised
 repeat(any_goals (first|assumption|wp_step))
 exact h _ _ hx'.keeps
end
end L2
set_option Elab.async false
set_option linter.all false
set_option maxRecDepth 100000
set_option maxHeartbeats 4000000
namespace L2
open PySem PySem.Spec PyProof.Rows
section
variable {prog:Program} {w:World} {A:Around} {E:Value→Shared→Prop} {s:Shared}
structure ZipSt (h:Heap) (d z TI TO i1 i2 l1 l2:Addr) (k:Nat) (xs ys:Array Value):Prop where
 ti:IsPair h TI (.ref i1) (.ref i2)
 a1:h.IsListIter i1 l1 k
 a2:h.IsListIter i2 l2 k
 b1:h.IsList l1 xs
 b2:h.IsList l2 ys
 st:(∃a b,IsZip h z TI TO .none∧IsPair h TO a b)∨∃(T:Addr) (b:Bool) (ot:Obj),dC h z TI TO (rawInt T) b∧h.get? T=some ot∧T≠z∧T≠i1∧T≠i2∧T≠d
structure eE (d z TI TO i1 i2 l1 l2:Addr):Prop where
 z:z≠d
 TI:TI≠d
 TO:TO≠d
 i1:i1≠d
 i2:i2≠d
 l1:l1≠d
 l2:l2≠d
theorem ZipSt.keep {h h':Heap}{d z TI TO i1 i2 l1 l2:Addr}{k:Nat}{xs ys:Array Value}(Z:ZipSt h d z TI TO i1 i2 l1 l2 k xs ys)(O:eE d z TI TO i1 i2 l1 l2)(kp:∀c o,c≠d→h.get? c=some o→h'.get? c=some o):ZipSt h' d z TI TO i1 i2 l1 l2 k xs ys:=by
 refine⟨kp _ _ O.TI Z.ti,Z.a1.at fun o e=>kp _ o O.i1 e,Z.a2.at fun o e=>kp _ o O.i2 e,?_,?_,?_⟩
 ·obtain⟨o,ho,r⟩:=Z.b1;exact⟨o,kp _ _ O.l1 ho,r⟩
 ·obtain⟨o,ho,r⟩:=Z.b2;exact⟨o,kp _ _ O.l2 ho,r⟩
 ·rcases Z.st with⟨a,b,h1,h2⟩|⟨T,b,ot,h1,h2,h3⟩
  ·exact .inl ⟨a,b,kp _ _ O.z h1,kp _ _ O.TO h2⟩
  ·exact .inr ⟨T,b,ot,kp _ _ O.z h1,kp _ _ h3.2.2.2 h2,h3⟩
theorem mN {d z TI TO i1 i2 l1 l2:Addr}{k:Nat}{xs ys:Array Value}{x y:Value}{od:Obj}{Q:Option Value→Shared→Prop}(D:ZipApart z TI TO i1 i2 l1 l2)(O:eE d z TI TO i1 i2 l1 l2)(hd:s.heap.get? d=some od)
  (Z:ZipSt s.heap d z TI TO i1 i2 l1 l2 k xs ys) (hx:xs[k]?=some x) (hy:ys[k]?=some y)
  (hQ:∀h',ZipSt h' d z TI TO i1 i2 l1 l2 (k+1) xs ys→IsPair h' s.heap.objs.size x y→(∀c o,c≠z→c≠TO→c≠i1→c≠i2→s.heap.get? c=some o→h'.get? c=some o)→Q (some (.ref s.heap.objs.size)) {s with heap:=h'}):
  wpAny (model prog w) A (pyNext (.ref z)) Q E s:=by
 have lt:∀{c:Addr} {o:Obj},s.heap.get? c=some o→s.heap.objs.size≠c:=fun{c o} e=>Nat.ne_of_gt (Heap.lt_size e)
 rcases Z.st with⟨a,b,h1,h2⟩|⟨T,b,ot,h1,h2,h3,h4,h5,h6⟩
 ·refine wpAny_pyNext_zip_item D h1 Z.ti h2 Z.a1 Z.a2 Z.b1 Z.b2 hx hy fun h' q1 q2 q3 q4 q5 q6 q7=>hQ h' ⟨q7 _ _ D.TIz D.TITO D.TIi1 D.TIi2 Z.ti,q3,q4,?_,?_,?_⟩ q5 q7
  ·obtain⟨o,ho,r⟩:=Z.b1;exact⟨o,q7 _ _ D.l1z D.l1TO D.l1i1 D.l1i2 ho,r⟩
  ·obtain⟨o,ho,r⟩:=Z.b2;exact⟨o,q7 _ _ D.l2z D.l2TO D.l2i1 D.l2i2 ho,r⟩
  ·obtain⟨o1,e1,_⟩:=Z.a1
   obtain⟨o2,e2,_⟩:=Z.a2
   exact .inr ⟨_,false,_,q1,q5,lt h1,lt e1,lt e2,lt hd⟩
 ·refine lp D h1 h2 Z.ti Z.a1 Z.a2 Z.b1 Z.b2 hx hy fun h' q1 q3 q4 q5 q7=>hQ h' ⟨q7 _ _ D.TIz D.TIi1 D.TIi2 Z.ti,q3,q4,?_,?_,.inr ⟨T,true,ot,q1,q7 _ _ h3 h4 h5 h2,h3,h4,h5,h6⟩⟩ q5 fun c o c1 _ c3 c4 e=>q7 c o c1 c3 c4 e
  ·obtain⟨o,ho,r⟩:=Z.b1;exact⟨o,q7 _ _ D.l1z D.l1i1 D.l1i2 ho,r⟩
  ·obtain⟨o,ho,r⟩:=Z.b2;exact⟨o,q7 _ _ D.l2z D.l2i1 D.l2i2 ho,r⟩
theorem oK {d z TI TO i1 i2 l1 l2:Addr}{k:Nat}{xs ys:Array Value}{Q:Option Value→Shared→Prop}(hh:A.handled=none)(D:ZipApart z TI TO i1 i2 l1 l2)
  (Z:ZipSt s.heap d z TI TO i1 i2 l1 l2 k xs ys) (hend:xs[k]?=none∨ys[k]?=none)
  (hQ:∀h',(∀c o,c≠z→c≠TO→c≠i1→c≠i2→s.heap.get? c=some o→h'.get? c=some o)→Q none {s with heap:=h'}):wpAny (model prog w) A (pyNext (.ref z)) Q E s:=by
 rcases Z.st with⟨a,b,h1,h2⟩|⟨T,b,ot,h1,h2,h3,h4,h5,h6⟩
 ·exact wpAny_pyNext_zip_end hh D h1 Z.ti h2 Z.a1 Z.a2 Z.b1 Z.b2 hend hQ
 ·exact oB hh D h1 h2 Z.ti Z.a1 Z.a2 Z.b1 Z.b2 hend fun h' q=>hQ h' fun c o c1 _ c3 c4 e=>q c o c1 c3 c4 e
end
section
variable {prog:Program} {w:World} {KT:Type} [DecidableEq KT] {knd:KeyKind prog w KT} {A:Around} {E:Value→Shared→Prop}
def bQ (knd:KeyKind prog w KT)(u:Value×Value)(kv:KT×Value):Prop:=knd.is kv.1 u.1=true∧u.2=kv.2
theorem jq {d z TI TO i1 i2 l1 l2:Addr}{xs ys:List Value}{res:Value}(hh:A.handled=none)(D:ZipApart z TI TO i1 i2 l1 l2)(O:eE d z TI TO i1 i2 l1 l2):
  ∀(more:List (KT×Value)) (i:Nat) (s:Shared) (kvs:List (KT×Value)) (R:Result→Shared→Prop),
   ZipSt s.heap d z TI TO i1 i2 l1 l2 i xs.toArray ys.toArray→Paired (bQ knd) ((xs.zip ys).drop i) more→s.heap.DictOf knd d kvs→kvs.length+more.length≤sizeLine→
   (∀h' tk,(∀b o,b≠d→b≠z→b≠TO→b≠i1→b≠i2→s.heap.get? b=some o→h'.get? b=some o)→h'.DictOf knd d (more.foldl (fun a x=>stored a x.1 x.2) kvs)→R (.ok (.ret res)) {s with heap:=h',toks:=tk})→
   codeAny (model prog w) A (.builtin "dict.update.loop" ⟨[.ref d,.ref z,rawInt (i:Int),res],[]⟩) R s:=by
 intro more
 induction more with
 |nil=>
  intro i s kvs R Z hp hd hz hR
  have hend:xs.toArray[i]?=none∨ys.toArray[i]?=none:=by
   have hn:(xs.zip ys).drop i=[]:=by cases hp':(xs.zip ys).drop i with
    |nil=>rfl
    |cons x r=>rw[hp'] at hp;cases hp
   have hl:=List.drop_eq_nil_iff.mp hn
   rw[List.length_zip] at hl
   by_cases h:xs.length≤i
   ·exact .inl (by simp;lia)
   ·exact .inr (by simp;lia)
  refine codeAny_builtin E2 ?_
  rw[Around.under_plainId r6 _]
  show wpAny _ A.in1 (pyNext (.ref z)>>=_) _ _ s
  refine wpAny_bind (oK (A:=A.in1) hh D Z hend fun h' kp=>?_)
  show wpAny _ A.in1 (Builtin.Dict.addKeywords d []>>=_) _ _ _
  refine wpAny_bind (wpAny_pure (wpAny_pure ?_))
  refine hR h' s.toks (fun b o _ h1 h2 h3 h4 e=>kp b o h1 h2 h3 h4 e) ?_
  obtain⟨od,es,ep,e,r⟩:=hd
  exact⟨od,es,ep,kp d od (Ne.symm O.z) (Ne.symm O.TO) (Ne.symm O.i1) (Ne.symm O.i2) e,r⟩
 |cons kv more ih=>
  intro i s kvs R Z hp hd hz hR
  obtain⟨x,y,hx,hy,hk,hp1⟩:∃x y,xs.toArray[i]?=some x∧ys.toArray[i]?=some y∧bQ knd (x,y) kv∧Paired (bQ knd) ((xs.zip ys).drop (i+1)) more:=by
   cases hp':(xs.zip ys).drop i with
   |nil=>rw[hp'] at hp;cases hp
   |cons u r=>
    rw[hp'] at hp
    cases hp with
    |cons h1 h2=>
     have z1:(xs.zip ys)[i]?=some u:=by
      have z:=congrArg List.head? hp'
      simpa using z
     obtain⟨q1,q2⟩:=List.getElem?_zip_eq_some.mp z1
     refine⟨u.1,u.2,by simpa using q1,by simpa using q2,h1,?_⟩
     have z:=congrArg List.tail hp'
     rw[List.tail_drop] at z
     rw[z];exact h2
  obtain⟨hkey,hv⟩:=hk
  obtain⟨od,es,ep,eod,rod⟩:=id hd
  refine codeAny_builtin E2 ?_
  rw[Around.under_plainId r6 _]
  show wpAny _ A.in1 (pyNext (.ref z)>>=_) _ _ s
  refine wpAny_bind (mN D O eod Z hx hy fun h' Z' hT kp=>?_)
  refine wpAny_bind (wpAny_holding (wpAny_bind (wpAny_tryCatch ?_)))
  unfold Builtin.Dict.pairItems
  refine wpAny_bind (wpAny_typeOf (s:={s with heap:=h'}) ⟨_,hT,rfl⟩ ?_)
  rw[if_pos (by decide)]
  refine wpAny_bind (wpAny_seqItems (s:={s with heap:=h'}) hT rfl ?_)
  refine wpAny_pure ?_
  show wpAny _ A.in1 (holding [x,y] (dictSet d x y)) _ _ _
  have hd':h'.DictOf knd d kvs:=⟨od,es,ep,kp d od (Ne.symm O.z) (Ne.symm O.TO) (Ne.symm O.i1) (Ne.symm O.i2) eod,rod⟩
  refine wpAny_holding (wpAny_dictSet_pairs (s:={s with heap:=h'}) (kvs:=kvs) hkey hd' (fun h'' dd hs''=>?_) (by simp only[List.length_cons] at hz;lia))
  have kp2:∀b o,b≠d→b≠z→b≠TO→b≠i1→b≠i2→s.heap.get? b=some o→h''.get? b=some o:=fun b o h0 h1 h2 h3 h4 e=>hs''.extBut b o h0 (kp b o h1 h2 h3 h4 e)
  refine wpAny_pure ⟨plainId_quiet r6 _,?_⟩
  have ey:y=kv.2:=hv
  rw[ey] at dd
  refine ih (i+1) _ (stored kvs kv.1 kv.2) R (Z'.keep O fun c o hc e=>hs''.extBut c o hc e) hp1 dd ?_ (fun h3 tk k3 d3=>hR h3 tk (fun b o h0 h1 h2 h3 h4 e=>k3 b o h0 h1 h2 h3 h4 (kp2 b o h0 h1 h2 h3 h4 e)) d3)
  have z:=stored_length_le kvs kv.1 kv.2
  simp only[List.length_cons] at hz
  lia
end
end L2
set_option Elab.async false
set_option linter.all false
set_option maxRecDepth 100000
set_option maxHeartbeats 4000000
namespace L2
open PySem PySem.Spec PyProof.Rows
section
variable {prog:Program} {w:World} {KT:Type} [DecidableEq KT] {knd:KeyKind prog w KT} {A:Around} {E:Value→Shared→Prop}
theorem cN {z TI TO i1 i2 l1 l2:Addr}{xs ys:List Value}{more:List (KT×Value)}{a b:Value}{s:Shared}{Q:Value→Shared→Prop}(hh:A.handled=none)(D:ZipApart z TI TO i1 i2 l1 l2)
  (hz:IsZip s.heap z TI TO .none) (hTI:IsPair s.heap TI (.ref i1) (.ref i2)) (hTO:IsPair s.heap TO a b) (h1:s.heap.IsListIter i1 l1 0) (h2:s.heap.IsListIter i2 l2 0) (hl1:s.heap.IsList l1 xs.toArray) (hl2:s.heap.IsList l2 ys.toArray)
  (hlen:more.length≤sizeLine) (hp:Paired (bQ knd) (xs.zip ys) more)
  (h:∀h' tk,h'.DictOf knd s.heap.objs.size (more.foldl (fun a x=>stored a x.1 x.2) [])→(∀b o,b≠z→b≠TO→b≠i1→b≠i2→s.heap.get? b=some o→h'.get? b=some o)→Q (.ref s.heap.objs.size) {s with heap:=h',toks:=tk}):
  wpAny (model prog w) A (call (.type "dict") [.ref z]) Q E s:=by
 refine callType_codes (Q₁:=fun obj s₁=>obj= .ref s.heap.objs.size∧s₁={s with heap:=s.heap.push {cls:= .type "dict",data:= .dict #[]}}) F.kt_called_dict (F.kt_typeCall_dict_1 _) F.entry_dict_init (kt_code_dict_new _ ⟨rfl,rfl⟩) ?_
 rintro obj s₁ ⟨rfl,rfl⟩
 have hnew:(s.heap.push {cls:= .type "dict",data:= .dict #[]}).DictOf knd s.heap.objs.size []:=Heap.DictOf.new s.heap
 have ne:∀{c:Addr} {o:Obj},s.heap.get? c=some o→c≠s.heap.objs.size:=fun{c o} e=>Nat.ne_of_lt (Heap.lt_size e)
 obtain⟨o1,e1,r1⟩:=id h1
 obtain⟨o2,e2,r2⟩:=id h2
 obtain⟨o3,e3,r3⟩:=id hl1
 obtain⟨o4,e4,r4⟩:=id hl2
 have O:eE s.heap.objs.size z TI TO i1 i2 l1 l2:=⟨ne hz,ne hTI,ne hTO,ne e1,ne e2,ne e3,ne e4⟩
 refine⟨hnew.typeIs,F.args_dict_init_2 _ _,?_⟩
 unfold Builtin.«dict.__init__»
 refine wpAny_bind ?_
 unfold Builtin.Dict.selfAndRest
 refine wpAny_bind (wpAny_notOrdered_dict hnew.typeIs ?_)
 show wpAny _ _ (pure (s.heap.objs.size,[Value.ref z])) _ _ _
 refine wpAny_pure ?_
 show wpAny _ _ (Builtin.Dict.updateFrom "dict.__init__" s.heap.objs.size (.ref z) [] .none) _ _ _
 unfold Builtin.Dict.updateFrom
 have hz1:(s.heap.push {cls:= .type "dict",data:= .dict #[]}).get? z=some _:=Heap.get?_push_of_some _ hz
 refine wpAny_bind (wpAny_typeOf (s:={s with heap:=s.heap.push {cls:= .type "dict",data:= .dict #[]}}) ⟨_,hz1,rfl⟩ ?_)
 rw[if_pos (by decide)]
 refine wpAny_bind (gj (s:={s with heap:=s.heap.push {cls:= .type "dict",data:= .dict #[]}}) hz1 hh fun h2 tk2 k2=>?_)
 rw[if_pos (show((none:Option Value).isNone)=true from rfl)]
 have up:∀b ob,s.heap.get? b=some ob→h2.get? b=some ob:=fun b ob e=>k2 b ob (Heap.get?_push_of_some _ e)
 have hd2:h2.DictOf knd s.heap.objs.size []:=let ⟨od,es,ep,e,r⟩:=hnew;⟨od,es,ep,k2 _ _ e,r⟩
 refine wpAny_bind (wpAny_rule (wpAny_bind (wpAny_pyIter_zip (f0:= .none) (up _ _ hz) ?_)))
 refine wpAny_pure ⟨plainId_quiet r6 _,?_⟩
 refine jq (knd:=knd) (xs:=xs) (ys:=ys) (A:=A.in1) hh D O more 0 _ [] _ ⟨up _ _ hTI,⟨o1,up _ _ e1,r1⟩,⟨o2,up _ _ e2,r2⟩,⟨o3,up _ _ e3,r3⟩,⟨o4,up _ _ e4,r4⟩,.inl ⟨a,b,up _ _ hz,up _ _ hTO⟩⟩ (by rw[List.drop_zero];exact hp) hd2 (by simpa using hlen) fun h3 tk k3 d3=>⟨rfl,h h3 tk d3 fun b ob c1 c2 c3 c4 e=>k3 b ob (ne e) c1 c2 c3 c4 (up b ob e)⟩
end
section
variable {X:Cx} {a b:Expr} {t:TA} {p pos p2 pos2:Pos}
def AX (K:PySem.W.Frag)(t:TA):TE:=fun σ H Q=>t σ H fun vs H1=>∃(l m:Addr) (ks:List d7) (ys:List V),vs=[.ref l,.ref m]∧SqL K H1 l (ks.map kV)∧SqL K H1 m ys∧∀d,H1 d=none→Q (.ref d) (i7 H1 d (.dK (P5 (ks.zip ys))))
theorem mQ {P : Program} {w : World} : ∀ {ks : List d7} {ys : List V} {us vs : List Value}, Vals (ks.map kV) us → Vals ys vs → ∃ more, Paired (bQ (h8 P w)) (us.zip vs) more ∧ KV (ks.zip ys) more
 := by
  intro ks ys us vs hu hv
  induction ks generalizing ys us vs with
  | nil => cases hu; exact ⟨[], .nil, .nil⟩
  | cons k ks ih => cases hu with
    | cons r t => cases hv with
      | nil => exact ⟨[], .nil, .nil⟩
      | cons r' t' =>
        obtain ⟨more, h1, h2⟩ := ih t t'
        exact ⟨(k, _) :: more, .cons ⟨W2 r, rfl⟩ h1, .cons ⟨rfl, r'⟩ h2⟩
theorem zc (hgd:Gl X "dict")(hmd:X.mg "dict"=none)(hgz:Gl X "zip")(hmz:X.mg "zip"=none)(hc:X.calm=true)(ha:PA X [a,b] t)(hs:starEach [a,b] X.env=[(false,eval a X.env),(false,eval b X.env)])(hs2:starEach [b] X.env=[(false,eval b X.env)])
  (hs3:starEach [Expr.Call (.Name "zip" p2) [a,b] [] pos2] X.env=[(false,eval (Expr.Call (.Name "zip" p2) [a,b] [] pos2) X.env)]):PE X (.Call (.Name "dict" p) [.Call (.Name "zip" p2) [a,b] [] pos2] [] pos) (AX X.K t):=by
 intro pins s σ H Q I h
 refine wpAny_Call_Name_kw (R8 I hgd hmd Boot.«dict» (PyProof.Rows.callWith_type1 ?_ hs3 rfl) (by decide) (by decide))
 rw[hs3]
 show wpAny _ _ (spliced [(false,eval (Expr.Call (.Name "zip" p2) [a,b] [] pos2) X.env)]) _ _ s
 refine Calls.spliced_cons ?_
 refine wpAny_Call_Name_kw (R8 I hgz hmz Boot.«zip» (PyProof.Rows.callWith_type1 (B5 (ha pos2 pins s σ H _ I h) fun us s1 ⟨vs,H1,I1,r1,q1⟩=>?_) (by rw[hs,hs2]) (by rw[hs2];rfl)) (by decide) (by decide))
 obtain⟨l,m,ks,ys,e,hq,hq',q⟩:=q1
 subst e
 obtain⟨u,v,rfl,ru,rv⟩:=M9 r1
 cases ru
 cases rv
 obtain⟨its,rv,pl,hz⟩:=I1.list hq
 obtain⟨its',rv',pl',hz'⟩:=I1.list hq'
 obtain⟨more,g1,g2⟩:=mQ (P:=X.prog) (w:=X.w) rv rv'
 refine call_zip_2 pl.isList pl'.isList fun h' z1 z2 z3 z4 z5 hsz hk=>?_
 refine Calls.spliced_nil ?_
 have ll:(l:Nat)<(s1.heap.objs.size:Nat):=by obtain⟨o,e,_⟩:=pl.isList;exact Heap.lt_size e
 have lm:(m:Nat)<(s1.heap.objs.size:Nat):=by obtain⟨o,e,_⟩:=pl'.isList;exact Heap.lt_size e
 have D:ZipApart (s1.heap.objs.size+4) (s1.heap.objs.size+2) (s1.heap.objs.size+3) s1.heap.objs.size (s1.heap.objs.size+1) l m:=by
  constructor<;>first|exact Nat.ne_of_lt (Nat.lt_of_lt_of_le ll (by lia))|exact Nat.ne_of_lt (Nat.lt_of_lt_of_le lm (by lia))|(intro z;have z':(_:Nat)=(_:Nat):=z;lia)
 have hml:more.length≤sizeLine:=by
  have e1:=KV.length g2
  rw[List.length_zip] at e1
  lia
 refine cN (knd:=h8 X.prog X.w) (s:={s1 with heap:=h'}) (I.ok.hd hc) D z1 z2 z3 z4 z5 ?_ ?_ hml g1 fun h3 tk d3 k3=>?_
 ·obtain⟨o,e,r⟩:=pl.isList;exact⟨o,hk _ _ e,r⟩
 ·obtain⟨o,e,r⟩:=pl'.isList;exact⟨o,hk _ _ e,r⟩
 have hdn:s1.heap.objs.size≤h'.objs.size:=by rw[hsz];lia
 refine⟨.ref h'.objs.size,_,I1.laid (a:=h'.objs.size) (t':=tk) (fun b o e=>?_) hdn (bZ (kvs:=P5 (ks.zip ys)) ?_ ?_ (KV.puts g2 .nil) d3),rfl,q _ (I1.hok.fresh hdn)⟩
 ·have hb:(b:Nat)<(s1.heap.objs.size:Nat):=Heap.lt_size e
  exact k3 b o (Nat.ne_of_lt (Nat.lt_of_lt_of_le hb (by lia))) (Nat.ne_of_lt (Nat.lt_of_lt_of_le hb (by lia))) (Nat.ne_of_lt (Nat.lt_of_lt_of_le hb (by lia))) (Nat.ne_of_lt (Nat.lt_of_lt_of_le hb (by lia))) (hk _ _ e)
 ·have z:=R3 (ks.zip ys) []
  unfold P5
  have e1:=KV.length g2
  simp only[List.length_nil] at z
  lia
 ·exact beq_eq_false_iff_ne.mpr (Ne.symm (Nat.ne_of_lt (Nat.lt_of_lt_of_le I1.big hdn)))
theorem Bf (K:PySem.W.Frag)(hmd:X.mg "dict"=none)(hmz:X.mg "zip"=none)(hc:X.calm=true)(ha:QA X [a,b] t)(hgd:Gl X "dict":=by rfl)(hgz:Gl X "zip":=by rfl)(h:i8 a=true:=by rfl)(h':i8 b=true:=by rfl)(hK:X.K=K:=by rfl):
  QE X (.Call (.Name "dict" p) [.Call (.Name "zip" p2) [a,b] [] pos2] [] pos) (AX K t):=⟨hK▸zc hgd hmd hgz hmz hc ha.r (by rw[E5 h,E5 h'];rfl) (E5 h') (E5 rfl)⟩
theorem Aw {K:PySem.W.Frag}{σ:L2.St}{H:Hp}{Q:VK}{t:TA}(q:t σ H fun vs H1=>∃(l m:Addr) (ks:List d7) (ys:List V),vs=[.ref l,.ref m]∧SqL K H1 l (ks.map kV)∧SqL K H1 m ys∧∀d,H1 d=none→Q (.ref d) (i7 H1 d (.dK (P5 (ks.zip ys))))):AX K t σ H Q:=q
end
end L2
set_option Elab.async false
set_option linter.all false
set_option maxRecDepth 100000
set_option maxHeartbeats 4000000
namespace L2
open PySem PySem.Spec PyProof.Rows
open PySem.AutoSeq1 (wpAny_loadPart')
open PySem.MeetsSeq PySem.MeetsSeq2 PySem.MeetsSeq3
def EqL (K:PySem.W.Frag)(H:Hp)(x y:V)(b:Bool):Prop:=∃(a c:Addr) (xs ys:List V),x= .ref a∧y= .ref c∧SqL K H a xs∧SqL K H c ys∧xs.all p5=true∧ys.all p5=true∧b=E3 xs ys
section
variable {X:Cx} {pins:List (Addr×Obj)} {σ:St} {H:Hp} {s:Shared} {A:Around}
theorem EqL.at_ {x y:V}{u v:Value}{b:Bool}(I:Inv X pins σ H s)(h:EqL X.K H x y b)(rx:RelV x u)(ry:RelV y v)(hu:A.units+8<cLine):SeqAt.EqAt A s u v b:=by
 obtain⟨a,c,xs,ys,rfl,rfl,ha,hc,fx,fy,rfl⟩:=h
 cases rx
 cases ry
 obtain⟨its,r1,p1,z1⟩:=I.list ha
 obtain⟨its',r2,p2,z2⟩:=I.list hc
 by_cases hac:a=c
 ·subst hac
  have e:=I.list_inj ha hc
  subst e
  rw[D3 fx]
  exact SeqAt.EqAt.same _
 ·have l1:=r1.length
  have l2:=r2.length
  by_cases hl:xs.length=ys.length
  ·have q:=SeqAt.RcAt.lists (A:=A) (e:=fun j=>N6 (xs.getD j .non) (ys.getD j .non)) p1.isList p2.isList (by simp;lia) (by lia) fun j g1 g2=>by
    have g1':j<its.length:=by simpa using g1
    have g2':j<its'.length:=by simpa using g2
    have x1:xs[j]?=some (xs[j]'(by lia)):=by simp [show j<xs.length by lia]
    have y1:ys[j]?=some (ys[j]'(by lia)):=by simp [show j<ys.length by lia]
    obtain⟨u1,hu1,ru1⟩:=r1.get x1
    obtain⟨u2,hu2,ru2⟩:=r2.get y1
    have e1:its.toArray[j]=u1:=by
     have:=List.getElem?_eq_getElem g1'
     rw[hu1] at this
     simpa using(Option.some.inj this).symm
    have e2:its'.toArray[j]=u2:=by
     have:=List.getElem?_eq_getElem g2'
     rw[hu2] at this
     simpa using(Option.some.inj this).symm
    rw[e1,e2]
    have d1:xs.getD j .non=xs[j]'(by lia):=by rw[List.getD_eq_getElem?_getD,x1];rfl
    have d2:ys.getD j .non=ys[j]'(by lia):=by rw[List.getD_eq_getElem?_getD,y1];rfl
    rw[d1,d2]
    exact E8 ru1 ru2 (List.all_eq_true.mp fx _ (List.getElem_mem _)) (List.all_eq_true.mp fy _ (List.getElem_mem _))
   have e3:its.toArray.size=min xs.length ys.length:=by simp;lia
   have z:=B8 xs ys
   rw[show(xs.length==ys.length)=true by simpa using hl,Bool.and_true] at z
   rw[e3,z] at q
   exact .of_refs hac q
  ·rw[ai hl]
   exact .of_refs hac (SeqAt.RcAt.lists_lengths p1.isList p2.isList (by simp;lia) (by lia))
end
section
variable {X:Cx}
def jZ (K:PySem.W.Frag):V→List V→Hp→VK→Prop:=fun x vs H Q=>∃(l:Addr) (xs:List V) (y:V) (f:V→Bool),x= .ref l∧vs=[y]∧H l=some (.lst xs)∧(∀z∈xs,EqL K H z y (f z))∧Q (.int (xs.countP f:Nat)) H
theorem aZ {k:Nat}(hr:Room k X.A):rp X "list.count" (jZ X.K):=by
 intro pins s σ H x vs v us Q I rx rv h
 obtain⟨l,xs,y,f,rfl,rfl,hl,he,q⟩:=h
 cases rx
 obtain⟨u,rfl,ru⟩:=D4 rv
 obtain⟨hz,its,n,r,hle,e⟩:=I.lstM hl
 refine call_meets F.slot_list_count ⟨_,e,rfl⟩ F.entry_list_count (F.args_list_count_2 _ _) (SeqAt.list_countAt l its.toArray n _ _ u (f∘xM)) ⟨e,fun w hw=>?_,?_⟩
 ·obtain⟨z,hz',rz⟩:=aU r (show w∈its by simpa using hw)
  have g:=EqL.at_ (A:=X.A.in1) I (he z hz') rz ru (by have:=hr.un;show X.A.units+1+8<cLine;lia)
  rw[show(f∘xM) w=f z by show f (xM w)=f z;rw[fw rz]]
  exact g
 ·refine⟨.int (xs.countP f:Nat),H,I.tok _,⟨s.toks,?_⟩,q⟩
  show Value.int (its.countP (f∘xM):Nat) _=_
  rw[yK r]
theorem bf {X:Cx}{k:Nat}(K:PySem.W.Frag)(hr:Room k X.A)(h:X.K=K:=by rfl):rp X "list.count" (jZ K):=h▸aZ hr
theorem fL {X:Cx}:rp X "list.pop" zr:=xC
theorem AH {pos:Pos}:QE X (.Dict [] [] pos) qa:=⟨qr⟩
end
section
variable {P:Program} {w:World}
end
section
variable {X:Cx}
end
section
variable {K:PySem.W.Frag} {H:Hp} {Q:VK} {x y:V}
end
end L2
set_option Elab.async false
set_option linter.all false
set_option maxRecDepth 100000
set_option maxHeartbeats 4000000
namespace PySem
section
variable {prog:Program} {w:World} {K:Type} [DecidableEq K] {A:Around} {E:Value→Shared→Prop} {s:Shared}
theorem K5 {knd:HeapKind prog w K}{d a:Addr}{xs:List (K×Addr×Value)}{k:K}{v:Value}{Q:Value→Shared→Prop}(hu:knd.room A)(hkey:knd.is s.heap k a)(hm:s.heap.DictOfH knd d xs)
  (hthere:∀p,atKey xs k=some p→Q p.2 {s with toks:=s.toks+knd.draws k})
  (hQ:atKey xs k=none→∀h',h'.DictOfH knd d (storedH xs k a v)→Heap.SameBut d s.heap h'→Q v {s with heap:=h',toks:=s.toks+knd.draws k})
  (hsz:xs.length≤sizeLine):
  wpAny (model prog w) A (dictSetDefault d (.ref a) v) Q E s:=by
 obtain⟨o,es,ep,ho,hc,hd,he,his,hn⟩:=hm
 unfold dictSetDefault
 try with_reducible refine wpAny_holding ?_
 refine wpAny_bind (knd.pyHash hu hkey ?_)
 refine wpAny_bind (wpAny_dictFind_heap (s:={s with toks:=s.toks+knd.draws k}) hu hkey ho hd he his hn ?_ ?_)
 ·intro hno
  have hnot:k∉xs.map (·.1):=not_mem_keys_of_get hno
  refine wpAny_bind (wpAny_rule (wpAny_bind (wpAny_updateDictKeys (hz:=by have e:=size_of_entries he;lia) (s:={s with toks:=s.toks+knd.draws k}) ho hd (wpAny_pure (hQ (atKey_none_of_get hno) _ ⟨_,_,ep+1,Heap.get?_update_self _ ho (Obj.isFreed_of_dict (Obj.data_mapDictKeys hd _)),
   hc.mapDictKeys _,Obj.data_mapDictKeys hd _,?_,?_,?_⟩ (Heap.SameBut.update ..))))))
  ·rw[storedH_new (atKey_none_of_get hno)]
   simp [he,entryOfKey]
  ·rw[storedH_new (atKey_none_of_get hno)]
   intro x hx
   rcases List.mem_append.mp hx with hx|hx
   ·exact knd.keeps (his x hx) ho hd (Heap.SameBut.update ..)
   ·simp only[List.mem_singleton] at hx
    subst hx
    exact knd.keeps hkey ho hd (Heap.SameBut.update ..)
  ·rw[storedH_new (atKey_none_of_get hno)]
   rw[List.map_append,List.nodup_append]
   refine⟨hn,by simp,?_⟩
   intro x hx y hy
   simp only[List.map_cons,List.map_nil,List.mem_singleton] at hy
   subst hy
   exact fun e=>hnot (e▸hx)
 ·intro j p hj
  refine wpAny_bind (wpAny_dictEntries (s:={s with toks:=s.toks+knd.draws k}) ho hd ?_)
  rw[entry_at he j,hj]
  exact wpAny_bind (wpAny_rule (wpAny_pure (hthere _ (atKey_of_get hn hj))))
theorem P0 (knd:HeapKind prog w K)(d a:Addr)(hd:(d==sysModules)=false)(dflt:Value):
  MeetsIn prog w (Builtin.«dict.setdefault» ⟨[.ref d,.ref a,dflt],[]⟩) (fun A R s=>knd.room A.in1∧∃k xs,knd.is s.heap k a∧s.heap.DictOfH knd d xs∧xs.length≤sizeLine∧
   (∀p,atKey xs k=some p→R (.ok (.ret p.2)) {s with toks:=s.toks+knd.draws k})∧
   (atKey xs k=none→∀h',h'.DictOfH knd d (storedH xs k a dflt)→Heap.SameBut d s.heap h'→R (.ok (.ret dflt)) {s with heap:=h',toks:=s.toks+knd.draws k})):=
 .of_wp fun A R s ⟨hu,k,xs,hk,hm,hz,h1,h2⟩=>by
  unfold Builtin.«dict.setdefault»
  refine wpAny_bind ?_
  unfold Builtin.Dict.keyAndDefault
  refine wpAny_bind (wpAny_notOrdered_dict hm.typeIs ?_)
  show wpAny _ _ (pure (d,Value.ref a,some dflt)) _ _ s
  refine wpAny_pure ?_
  show wpAny _ _ (if(d==sysModules)=true then _ else(dictSetDefault d (.ref a) dflt>>=_)) _ _ s
  rw[if_neg (by rw[hd];exact Bool.false_ne_true)]
  exact wpAny_bind (K5 hu hk hm (fun p hp=>wpAny_pure ⟨_,rfl,h1 p hp⟩) (fun hn h' hm' hs'=>wpAny_pure ⟨dflt,rfl,h2 hn h' hm' hs'⟩) hz)
end
end PySem
namespace L2
open PySem PySem.Spec PyProof.Rows
section
variable {X:Cx}
def sC:V→List V→Hp→VK→Prop:=fun x vs H Q=>∃(d t:Addr) (kvs:List (List d7×V)) (k:List d7) (v:V),x= .ref d∧vs=[.ref t,v]∧H d=some (.dT kvs)∧H t=some (.tup (k.map kV))∧kvs.length<sizeLine∧
 (match i9 kvs k with|some u=>Q u H|none=>Q v (i7 H d (.dT (z0 kvs k v))))
theorem U5 {k:Nat}(hr:Room k X.A):rp X "dict.setdefault" sC:=by
 intro pins s σ H x vs v us Q I rx rv h
 obtain⟨d,t,kvs,k',y,rfl,rfl,e,et,hl,q⟩:=h
 cases rx
 obtain⟨u1,u2,rfl,r1,r2⟩:=M9 rv
 cases r1
 obtain⟨z,hd,xs,rel,dd⟩:=ui I.hok e
 have hz:xs.length≤sizeLine:=by rw[←Paired.length rel];exact z
 have hl':(z0 kvs k' y).length≤sizeLine:=by have:=F7 kvs k' y;lia
 refine call_meetsIn F.slot_dict_setdefault dd.typeIs F.entry_dict_setdefault (F.args_dict_setdefault_3 _ _ _) (P0 (tupleKind (h8 X.prog X.w)) d t hd u2) ⟨tupleKind_room_in1 (by have:=hr.un;lia),k',xs,S5 I.hok et,dd,hz,fun p hp=>?_,fun hn h' dd' hs=>?_⟩
 ·have hw:(atKey xs k').map (·.2)=some p.2:=by rw[hp];rfl
  have ro:=rel.val k'
  rw[hw] at ro
  cases hv:i9 kvs k' with
  |none=>rw[hv] at ro;cases ro
  |some w'=>
   rw[hv] at ro q
   exact⟨w',H,I.tok _,ro,q⟩
 ·have ro:=rel.val k'
  rw[hn] at ro
  cases hv:i9 kvs k' with
  |some w'=>rw[hv] at ro;cases ro
  |none=>
   rw[hv] at q
   refine⟨y,_,?_,r2,q⟩
   obtain⟨o',es,ep,hq,h2,h3,h4,_,h5⟩:=dd'
   refine ao I (by rw[e];exact True.intro) hs ⟨o',hq⟩ ⟨hl',hd,_,(rel.put k' et r2).keeps fun c ys ec=>?_,o',es,ep,hq,h2,h3,h4,h5⟩
   rw[b0 (ud ec e (fun z=>nomatch z))]
   exact ec
end
section
variable {X:Cx}
def nQ (K:PySem.W.Frag):List V→Hp→VK→Prop:=fun xs H Q=>∃(t:Addr) (a b:Str),xs=[.ref t]∧SqT K H t [.str a,.str b]∧Q (.str (if a.cps.toList<b.cps.toList then b else a)) H
theorem lN (hc:X.calm=true):CallR X (.builtin "max") (nQ X.K):=by
 intro pins s σ H xs us Q I r h
 obtain⟨t,a,b,rfl,ht,q⟩:=h
 obtain⟨u,rfl,ru⟩:=D4 r
 cases ru
 obtain⟨its,rv,p,hz⟩:=I.tuple ht
 obtain⟨_,_,rfl,⟨t1,rfl⟩,⟨t2,rfl⟩⟩:=M9 rv
 refine call_max_walk (wpAny_pyIter_tuple (show s.heap.IsTuple t #[Value.str a t1,Value.str b t2] from p) ?_)
 have hlt:t<s.heap.objs.size:=by
  obtain⟨o,e,_⟩:=(show s.heap.IsTuple t #[Value.str a t1,Value.str b t2] from p)
  exact Heap.lt_size e
 have kp:∀c o,s.heap.get? c=some o→(s.heap.push {cls:= .type "tuple_iterator",data:= .fields #[.ref t,.int 0 0]}).get? c=some o:=fun c o e=>Heap.get?_push_of_some _ e
 refine⟨s.heap.objs.size,[s.heap.objs.size,t],[s.heap.objs.size],2,_,_,fun i j=>decide ((if j=0 then a else b).cps.toList<(if i=0 then a else b).cps.toList),rfl,Walks.tuple (A:=X.A.in1) (show X.A.in1.handled=none from I.ok.hd hc) s.heap.objs.size t (Nat.ne_of_lt hlt) #[Value.str a t1,Value.str b t2],⟨⟨_,Heap.get?_push_size _ rfl,rfl,rfl⟩,let ⟨o,e,r⟩:=p;⟨o,kp _ _ e,r⟩⟩,fun c hc'=>?_,by decide,?_,?_⟩
 ·show c<(s.heap.push _).objs.size
  rcases List.mem_cons.mp hc' with rfl|hc'
  ·simp [Heap.push]
  ·rw[List.mem_singleton.mp hc']
   have z:s.heap.objs.size<(s.heap.push {cls:= .type "tuple_iterator",data:= .fields #[.ref t,.int 0 0]}).objs.size:=by simp [Heap.push]
   exact Nat.lt_trans hlt z
 ·intro i j vi vj s' Q' E' hi hj hQ
  have key:∀(i:Nat) (v:Value),(#[Value.str a t1,Value.str b t2]:Array Value)[i]?=some v→∃tk,v= .str (if i=0 then a else b) tk:=fun i v h=>by
   match i,h with
   |0,h=>exact⟨t1,by simpa using h.symm⟩
   |1,h=>exact⟨t2,by simpa using h.symm⟩
   |n+2,h=>simp at h
  obtain⟨k1,rfl⟩:=key i vi hi
  obtain⟨k2,rfl⟩:=key j vj hj
  exact richCompare_gives (op:= .Gt) (typeIs_str _ _ _) (typeIs_str _ _ _) F.slot_str_gt F.entry_str_gt (F.args_str_gt_2 _ _) (gives_str_gt _ _ _ _) (fun e=>nomatch e) hQ
 ·intro v h' tk hv hk
  have I2:Inv X pins σ H {s with heap:=h',toks:=tk}:=I.kept fun c o e=>hk c o (fun z=>by rw[List.mem_singleton.mp z] at e;exact absurd (Heap.lt_size e) (Nat.lt_irrefl _)) (kp c o e)
  refine⟨_,H,I2,?_,q⟩
  by_cases hl:a.cps.toList<b.cps.toList
  ·have e:argBest (fun i j=>decide ((if j=0 then a else b).cps.toList<(if i=0 then a else b).cps.toList)) (2 -1)=1:=by show(if decide (a.cps.toList<b.cps.toList)=true then 1 else 0)=1;rw[if_pos (decide_eq_true hl)]
   rw[e] at hv
   rw[if_pos hl]
   exact⟨t2,by simpa using hv.symm⟩
  ·have e:argBest (fun i j=>decide ((if j=0 then a else b).cps.toList<(if i=0 then a else b).cps.toList)) (2 -1)=0:=by show(if decide (a.cps.toList<b.cps.toList)=true then 1 else 0)=0;rw[if_neg (by rw[decide_eq_false hl];decide)]
   rw[e] at hv
   rw[if_neg hl]
   exact⟨t1,by simpa using hv.symm⟩
theorem yH (K:PySem.W.Frag)(hc:X.calm=true)(h:X.K=K:=by rfl):CallR X (.builtin "max") (nQ K):=h▸lN hc
end
theorem wj {K:PySem.W.Frag}{H:Hp}{Q:VK}{t:Addr}{a b:Str}(h:SqT K H t [.str a,.str b])(q:Q (.str (if a.cps.toList<b.cps.toList then b else a)) H):nQ K [.ref t] H Q:=⟨t,a,b,rfl,h,q⟩
structure FunD (K:PySem.W.Frag) (x qual:Str) (st:Stmt) (T:Addr) (f:Addr) (fd:FuncData):Prop where
 ex:∃(oc:Value) (od:Option Addr) (kV doc pm:Value) (an:Option Addr) (cdv ct:Value) (osl:Array (Option Value)),
  fd=PySem.W.fnOf x qual (D9 st) (C1 st) (d8 st) (.ref T) kV doc pm an cdv ct∧K.lookup f=some ⟨oc,od,.func fd,osl⟩∧PySem.W.codeIn K cdv qual=true
 kp:PySem.W.keepIn K (.ref f)=true
section
variable {P:Program} {w:World} {K:PySem.W.Frag} {mg:Str→Option Value} {base:Heap}
theorem FunD.ok {x qual:Str}{st:Stmt}{T f:Addr}{fd:FuncData}{N ps:List Str}{k:Nat}{sp:Sp}(F:FunD K x qual st T f fd)(S:i6 N ps (d8 st))(len:∀vs H Q E,sp vs H Q E→vs.length=ps.length)
  (hbody:∀(cdv:Value) (A:Around) (outer:List Env) (s:Shared) (H:Hp) (vs:List V) (Q:VK) (E:XK),Room k (A.deeper (envOfC qual (d8 st) s.heap.objs.size f cdv))→sp vs H Q E→
   ∃t,PSs (jd D5 P w K mg base N qual (d8 st) f cdv A outer s H E).nox (C1 st) t∧t {nx:=fun _ H'=>Q .non H',rt:=Q} (ae N vs) H):A6 P w K mg base D5 (k+1) f fd ps sp:=by
 obtain⟨oc,od,kV,doc,pm,an,cdv,ct,osl,rfl,lk,hcd⟩:=F.ex
 refine uj lk hcd S len fun A outer s H vs Q E hr hsp=>?_
 obtain⟨t,h,q⟩:=hbody cdv A outer s H vs Q E hr hsp
 exact⟨t,h.nox,q⟩
theorem rW {x qual:Str}{st:Stmt}{T f:Addr}{oc:Value}{od an:Option Addr}{osl:Array (Option Value)}{kV doc pm cdv ct:Value}(l:K.lookup f=some ⟨oc,od,.func (PySem.W.fnOf x qual (D9 st) (C1 st) (d8 st) (.ref T) kV doc pm an cdv ct),osl⟩)
  (c:PySem.W.codeIn K cdv qual=true) (k:PySem.W.keepIn K (.ref f)=true):FunD K x qual st T f (PySem.W.fnOf x qual (D9 st) (C1 st) (d8 st) (.ref T) kV doc pm an cdv ct):=⟨⟨oc,od,kV,doc,pm,an,cdv,ct,osl,rfl,l,c⟩,k⟩
end
end L2
set_option Elab.async false
set_option linter.all false
set_option maxRecDepth 100000
set_option maxHeartbeats 4000000
namespace L2
open PySem PySem.Spec PyProof.Rows
open PySem.AutoSeq1 (wpAny_loadPart')
open PySem.MeetsSeq PySem.MeetsSeq2 PySem.MeetsSeq3
section
variable {P:Program} {w:World}
end
section
variable {X:Cx}
end
end L2
set_option Elab.async false
set_option linter.all false
set_option maxRecDepth 100000
set_option maxHeartbeats 4000000
namespace L2
open PySem PySem.Spec PyProof.Rows
section
variable {α β:Type}
theorem qg (g:α→β)(xs:Array α)(a b:Nat):(xs.swapIfInBounds a b).map g=(xs.map g).swapIfInBounds a b:=by
 by_cases h1:a<xs.size
 ·by_cases h2:b<xs.size
  ·refine Array.ext_getElem? fun k=>?_
   rw[Array.getElem?_map,getElem?_swapIB h1 h2,getElem?_swapIB (by simpa using h1) (by simpa using h2),Array.getElem?_map,Array.getElem?_map,Array.getElem?_map]
   repeat' split
   all_goals rfl
  ·rw[Array.swapIfInBounds_def,Array.swapIfInBounds_def,dif_pos h1,dif_neg h2,dif_pos (by simpa using h1),dif_neg (by simpa using h2)]
 ·rw[Array.swapIfInBounds_def,Array.swapIfInBounds_def,dif_neg h1,dif_neg (by simpa using h1)]
theorem aC (g:α→β)(u v:Nat→Nat):∀(l:List Nat) (xs:Array α),(l.foldl (fun z k=>z.swapIfInBounds (u k) (v k)) xs).map g=l.foldl (fun z k=>z.swapIfInBounds (u k) (v k)) (xs.map g)
 |[],_=>rfl
 |k::l,xs=>by
  rw[List.foldl_cons,List.foldl_cons,aC g u v l,qg]
theorem jA (g:α→β)(xs:Array α)(i j d:Nat):(mirror xs i j d).map g=mirror (xs.map g) i j d:=aC g _ _ _ _
theorem jv (g:α→β)(xs:Array α)(c d:Nat):(bubble xs c d).map g=bubble (xs.map g) c d:=aC g _ _ _ _
end
def AQ (rk:Value→Int)(p:Keyed):Keyed:=(.int (rk p.1) 0,p.2)
def kA (rk:Value→Int)(st:SortSt)(i:Nat):Int:=K ((arrOf st).map (AQ rk)) i
structure TB (kd:SortKind) (base:Array Keyed) (st:SortSt):Prop where
 pm:(arrOf st).Perm base
 kd:kindOf st=kd
 fl:failedOf st=none
 pe:pendingOf st= #[]
def bh (prog:Program)(w:World)(A:Around)(s:Shared)(rk:Value→Int)(kd:SortKind)(base:Array Keyed):Prop:=
 ∀(x y:Value) (E:Value→Shared→Prop) (Q:Bool→Shared→Prop),(∃p∈base.toList,p.1=x)→(∃p∈base.toList,p.1=y)→Q (decide (rk x<rk y)) s→wpAny (model prog w) A (keyLt' kd x y) Q E s
section
variable {prog:Program} {w:World} {A:Around} {E:Value→Shared→Prop} {s:Shared} {rk:Value→Int} {kd:SortKind} {base:Array Keyed} {st:SortSt}
theorem TB.sz (h:TB kd base st):(arrOf st).size=base.size:=h.pm.size_eq
theorem TB.put (h:TB kd base st){xs:Array Keyed}(p:xs.Perm (arrOf st)):TB kd base (setArr st xs):=⟨p.trans h.pm,h.kd,h.fl,h.pe⟩
theorem jO {i:Nat}(h:i<(arrOf st).size):kA rk st i=rk (arrOf st)[i].1:=by
 unfold kA K
 rw[Array.getElem?_map,Array.getElem?_eq_getElem h];rfl
theorem iE {i j:Nat}(h:j≤(arrOf st).size)(k:Nat):kA rk (setArr st (mirror (arrOf st) i j ((j -i)/2))) k=if i≤k∧k<j then kA rk st (i+j -1 -k) else kA rk st k:=by
 show K ((mirror (arrOf st) i j ((j -i)/2)).map (AQ rk)) k=_
 rw[jA,K_mirror (by simpa using h)];rfl
theorem br {i j:Nat}(h:j≤(arrOf st).size)(e:∀k,i≤k→k<j→kA rk st k=kA rk st (j -1))(k:Nat):kA rk (setArr st (mirror (arrOf st) i j ((j -i)/2))) k=kA rk st k:=by
 rw[iE h]
 split
 ·next z=>rw[e _ (by lia) (by lia),e k z.1 z.2]
 ·rfl
theorem qN {c d:Nat}(hc:c<(arrOf st).size)(hd:d≤c)(k:Nat):kA rk (setArr st (bubble (arrOf st) c d)) k=if k=c -d then kA rk st c else if c -d<k∧k≤c then kA rk st (k -1) else kA rk st k:=by
 show K ((bubble (arrOf st) c d).map (AQ rk)) k=_
 rw[jv,K_bubble (by simpa using hc) hd];rfl
def Asc (rk:Value→Int)(st:SortSt)(n:Nat):Prop:=∀i j,i≤j→j<n→kA rk st i≤kA rk st j
def Dsc (rk:Value→Int)(st:SortSt)(n:Nat):Prop:=∀i j,i≤j→j<n→kA rk st j≤kA rk st i
theorem Asc.one:Asc rk st 1:=fun i j h1 h2=>by
 rw[show i=j by lia];exact Int.le_refl _
theorem Asc.next {n:Nat}(h:Asc rk st n)(h1:1≤n)(hx:¬kA rk st n<kA rk st (n -1)):Asc rk st (n+1):=fun i j hij hj=>by
 rcases Nat.lt_or_ge j n with z|z
 ·exact h i j hij z
 ·have e:j=n:=by lia
  subst e
  rcases Nat.lt_or_ge i j with y|y
  ·have:=h i (j -1) (by lia) (by lia)
   lia
  ·rw[show i=j by lia];exact Int.le_refl _
theorem Dsc.next {st2:SortSt}{n:Nat}(h:Dsc rk st n)(h1:1≤n)(hx:kA rk st n≤kA rk st (n -1))(e:∀k,kA rk st2 k=kA rk st k):Dsc rk st2 (n+1):=fun i j hij hj=>by
 rw[e,e]
 rcases Nat.lt_or_ge j n with z|z
 ·exact h i j hij z
 ·have e:j=n:=by lia
  subst e
  rcases Nat.lt_or_ge i j with y|y
  ·have:=h i (j -1) (by lia) (by lia)
   lia
  ·rw[show i=j by lia];exact Int.le_refl _
theorem fY (hL:bh prog w A s rk kd base)(hB:TB kd base st){i j:Nat}{Q:Option Bool→SortSt→Prop}(hi:i<base.size)(hj:j<base.size)(h:Q (some (decide (kA rk st i<kA rk st j))) st):wpS (model prog w) A E s (ltAt' i j) Q st:=by
 have z:=hB.sz
 have hi':i<(arrOf st).size:=by lia
 have hj':j<(arrOf st).size:=by lia
 have mem:∀k (hk:k<(arrOf st).size),∃p∈base.toList,p.1=(arrOf st)[k].1:=fun k hk=>⟨_,(Array.perm_iff_toList_perm.mp hB.pm).mem_iff.mp (by simp),rfl⟩
 rw[jO hi',jO hj'] at h
 rw[ltAt'_eq]
 refine wpS_bind (wpS_get ?_)
 show wpS _ _ _ _ (do let u←elem' (arrOf st) i;let v←elem' (arrOf st) j;lt' u v) Q st
 rw[elem'_eq,elem'_eq,Array.getElem?_eq_getElem hi',Array.getElem?_eq_getElem hj']
 refine wpS_bind (wpS_pure (wpS_bind (wpS_pure ?_)))
 rw[lt'_eq]
 refine wpS_bind (wpS_get ?_)
 rw[hB.kd]
 exact wpS_bind (wpS_lift (wpAny_attempt (hL _ _ _ _ (mem i hi') (mem j hj') ⟨rfl,wpS_pure h⟩)))
theorem qk (hL:bh prog w A s rk kd base)(hB:TB kd base st){a n:Nat}{Q:AscSt→SortSt→Prop}(ha:1≤a)(han:a≤n)(hn:n≤base.size)(hs:Asc rk st a)
  (h:∀m,a≤m→m≤n→Asc rk st m→(m=n∨kA rk st m<kA rk st (m -1))→Q (none,m) st):wpS (model prog w) A E s (ascLoop a n) Q st:=by
 unfold ascLoop
 refine wpS_forRange (I:=fun k c z=>z=st∧c=(none,k)∧Asc rk st k) (fun k c z h1 h2 h3=>?_) (fun c z h3=>?_) ⟨rfl,rfl,hs⟩
 ·obtain⟨rfl,rfl,h4⟩:=h3
  dsimp only
  refine wpS_bind (fY hL hB (by lia) (by lia) ?_)
  by_cases e:kA rk z k<kA rk z (k -1)
  ·rw[decide_eq_true e]
   exact wpS_pure (h k h1 (by lia) h4 (.inr e))
  ·rw[decide_eq_false e]
   exact wpS_pure ⟨rfl,rfl,h4.next (by lia) e⟩
 ·obtain⟨rfl,rfl,h4⟩:=h3
  have e:max a n=n:=by lia
  rw[e] at h4⊢
  exact h n han (Nat.le_refl _) h4 (.inl rfl)
theorem kK (hL:bh prog w A s rk kd base)(hB:TB kd base st){m n:Nat}{Q:Option Nat→SortSt→Prop}(h1:1≤m)(hmn:m≤n)(hn:n≤base.size)(hs:Dsc rk st m)
  (h:∀k st',TB kd base st'→1≤k→k≤n→Asc rk st' k→Q (some k) st'):wpS (model prog w) A E s (tail3 m n) Q st:=by
 unfold tail3
 have hz:m≤(arrOf st).size:=by rw[hB.sz];lia
 have hB2:=hB.put (mirror_perm (arrOf st) 0 m ((m -0)/2))
 refine wpS_bind (wpS_reverse (wpS_bind (qk hL hB2 h1 hmn hn (fun i j hij hj=>?_) fun k k1 k2 k3 _=>wpS_pure (h k _ hB2 (by lia) k2 k3))))
 rw[iE hz,iE hz,if_pos ⟨Nat.zero_le _,by lia⟩,if_pos ⟨Nat.zero_le _,hj⟩]
 exact hs _ _ (by lia) (by lia)
theorem su (hL:bh prog w A s rk kd base)(hB:TB kd base st){m n:Nat}{Q:DescSt→SortSt→Prop}(h1:1≤m)(hmn:m≤n)(hn:n≤base.size)(hs:Dsc rk st m)
  (h:∀k q st',TB kd base st'→m≤k→k≤n→Dsc rk st' k→q+1≤k→(∀i,k -(q+1)≤i→i<k→kA rk st' i=kA rk st' (k -1))→Q (none,k,q) st'):wpS (model prog w) A E s (descLoop m n) Q st:=by
 unfold descLoop
 refine wpS_forRange (I:=fun k c z=>∃q,c=(none,k,q)∧TB kd base z∧Dsc rk z k∧q+1≤k∧∀i,k -(q+1)≤i→i<k→kA rk z i=kA rk z (k -1)) (fun k c z a1 a2 a3=>?_) (fun c z a3=>?_) ⟨0,rfl,hB,hs,h1,fun i b1 b2=>by rw[show i=m -1 by lia]⟩
 ·obtain⟨q,rfl,b1,b2,b3,b4⟩:=a3
  dsimp only
  have hz:k≤(arrOf z).size:=by rw[b1.sz];lia
  have one:∀z':SortSt,∀i,k+1 -(0+1)≤i→i<k+1→kA rk z' i=kA rk z' (k+1 -1):=fun z' i c1 c2=>by rw[show i=k+1 -1 by lia]
  refine wpS_bind (fY hL b1 (by lia) (by lia) ?_)
  by_cases e:kA rk z k<kA rk z (k -1)
  ·rw[decide_eq_true e]
   dsimp only
   rw[if_pos rfl]
   by_cases hq:q>0
   ·rw[if_pos hq]
    exact wpS_bind (wpS_reverse (wpS_pure ⟨0,rfl,b1.put (mirror_perm _ _ _ _),b2.next (by lia) (Int.le_of_lt e) (br hz b4),by lia,one _⟩))
   ·rw[if_neg hq]
    exact wpS_pure ⟨0,rfl,b1,b2.next (by lia) (Int.le_of_lt e) (fun _=>rfl),by lia,one _⟩
  ·rw[decide_eq_false e]
   dsimp only
   rw[if_neg (by decide)]
   refine wpS_bind (fY hL b1 (by lia) (by lia) ?_)
   by_cases e2:kA rk z (k -1)<kA rk z k
   ·rw[decide_eq_true e2]
    exact wpS_pure (h k q z b1 a1 (by lia) b2 b3 b4)
   ·rw[decide_eq_false e2]
    have e3:kA rk z k=kA rk z (k -1):=by lia
    refine wpS_pure ⟨q+1,rfl,b1,b2.next (by lia) (by lia) (fun _=>rfl),by lia,fun i c1 c2=>?_⟩
    rw[show k+1 -1=k by lia]
    rcases Nat.lt_or_ge i k with y|y
    ·rw[e3];exact b4 i (by lia) y
    ·rw[show i=k by lia]
 ·obtain⟨q,rfl,b1,b2,b3,b4⟩:=a3
  have e:max m n=n:=by lia
  rw[e] at b2 b3 b4⊢
  exact h n q z b1 hmn (Nat.le_refl _) b2 b3 b4
theorem kF (hL:bh prog w A s rk kd base)(hB:TB kd base st){m n:Nat}{Q:Option Nat→SortSt→Prop}(hmn:m+1≤n)(hn:n≤base.size)(hs:Dsc rk st (m+1))
  (h:∀k st',TB kd base st'→1≤k→k≤n→Asc rk st' k→Q (some k) st'):wpS (model prog w) A E s (descPart m n) Q st:=by
 unfold descPart
 refine wpS_bind (wpS_lift (wpAny_rule ⟨rfl,wpS_bind (su hL hB (by lia) hmn hn hs fun k q z b1 a1 a2 b2 b3 b4=>?_)⟩))
 dsimp only
 by_cases hq:q>0
 ·rw[if_pos hq]
  have hz:k≤(arrOf z).size:=by rw[b1.sz];lia
  refine wpS_bind (wpS_reverse (kK hL (b1.put (mirror_perm _ _ _ _)) (by lia) a2 hn (fun i j hij hj=>?_) h))
  rw[br hz b4,br hz b4]
  exact b2 i j hij hj
 ·rw[if_neg hq]
  exact kK hL b1 (by lia) a2 hn b2 h
theorem wd (hL:bh prog w A s rk kd base)(hB:TB kd base st){n:Nat}{Q:Option Nat→SortSt→Prop}(h1:1≤n)(hn:n≤base.size)
  (h:∀k st',TB kd base st'→1≤k→k≤n→Asc rk st' k→Q (some k) st'):wpS (model prog w) A E s (countRun' 0 n) Q st:=by
 rw[countRun0_eq]
 refine wpS_bind (qk hL hB (Nat.le_refl 1) h1 hn Asc.one fun m m1 m2 hs hor=>?_)
 dsimp only
 by_cases e:m=n
 ·rw[if_pos (by simpa using e)]
  exact wpS_pure (h m st hB m1 m2 hs)
 ·rw[if_neg (by simpa using e)]
  have hlt:=hor.resolve_left e
  by_cases hg:m>1
  ·rw[if_pos hg]
   refine wpS_bind (fY hL hB (by lia) (by lia) ?_)
   by_cases r:kA rk st 0<kA rk st (m -1)
   ·rw[decide_eq_true r]
    exact wpS_pure (h m st hB m1 m2 hs)
   ·rw[decide_eq_false r]
    have hz:m≤(arrOf st).size:=by rw[hB.sz];lia
    have all:∀k,0≤k→k<m→kA rk st k=kA rk st (m -1):=fun k _ hk=>by
     have c1:=hs 0 k (by lia) hk
     have c2:=hs k (m -1) (by lia) (by lia)
     lia
    refine wpS_bind (wpS_reverse (kF hL (hB.put (mirror_perm _ _ _ _)) (by lia) hn ?_ h))
    refine Dsc.next (st:=st) (fun i j hij hj=>?_) (by lia) (Int.le_of_lt hlt) (br hz all)
    rw[all i (Nat.zero_le _) (by lia),all j (Nat.zero_le _) hj];exact Int.le_refl _
  ·rw[if_neg hg]
   have e1:m=1:=by lia
   subst e1
   refine kF hL hB (by lia) hn (Dsc.next (st:=st) (fun i j hij hj=>?_) (Nat.le_refl 1) (Int.le_of_lt hlt) fun _=>rfl) h
   rw[show i=j by lia];exact Int.le_refl _
theorem xu (hL:bh prog w A s rk kd base)(hB:TB kd base st){n ok:Nat}{Q:Bool→SortSt→Prop}(hn:n≤base.size)(hok:ok≤n)(hs:Asc rk st ok)
  (h:∀st',TB kd base st'→Asc rk st' n→Q true st'):wpS (model prog w) A E s (binarySort' 0 n ok) Q st:=by
 rw[binarySort'_eq]
 simp only[Nat.zero_add]
 refine wpS_bind (wpS_mono (wpS_forRange (I:=fun k c z=>c=(none,())∧TB kd base z∧Asc rk z (min k n)) (Q:=fun c z=>c=(none,())∧TB kd base z∧Asc rk z n) (fun k c z a1 a2 a3=>?_) (fun c z a3=>?_) ⟨rfl,hB,fun i j hij hj=>?_⟩) fun c z a3=>?_)
 ·obtain⟨rfl,b1,b2⟩:=a3
  rw[show min k n=k by lia] at b2
  refine wpS_bind (wpS_mono (wpS_forRange (I:=fun x c y=>y=z∧∃l r,c=(none,l,r)∧l≤r∧r≤k∧r -l≤k -x∧(∀i,i<l→kA rk z i≤kA rk z k)∧(∀i,r≤i→i<k→kA rk z k<kA rk z i))
   (Q:=fun c y=>y=z∧∃l r,c=(none,l,r)∧l≤k∧(∀i,i<l→kA rk z i≤kA rk z k)∧(∀i,l≤i→i<k→kA rk z k<kA rk z i)) (fun x c y c1 c2 c3=>?_) (fun c y c3=>?_) ⟨rfl,0,k,rfl,Nat.zero_le _,Nat.le_refl _,by lia,fun i q=>absurd q (by lia),fun i q1 q2=>absurd q2 (by lia)⟩) fun c y c3=>?_)
  ·obtain⟨rfl,l,r,rfl,d1,d2,d3,d4,d5⟩:=c3
   dsimp only
   by_cases g:l≥r
   ·rw[if_pos g]
    have e:l=r:=by lia
    subst e
    exact wpS_pure ⟨rfl,l,l,rfl,d2,d4,d5⟩
   ·rw[if_neg g]
    refine wpS_bind (fY hL b1 (by lia) (by lia) ?_)
    by_cases e:kA rk y k<kA rk y ((l+r)/2)
    ·rw[decide_eq_true e]
     refine wpS_pure ⟨rfl,l,(l+r)/2,rfl,by lia,by lia,by lia,d4,fun i q1 q2=>?_⟩
     have:=b2 ((l+r)/2) i q1 q2
     lia
    ·rw[decide_eq_false e]
     refine wpS_pure ⟨rfl,(l+r)/2+1,r,rfl,by lia,by lia,by lia,fun i q1=>?_,d5⟩
     have:=b2 i ((l+r)/2) (by lia) (by lia)
     lia
  ·obtain⟨rfl,l,r,rfl,d1,d2,d3,d4,d5⟩:=c3
   have e:l=r:=by lia
   subst e
   exact⟨rfl,l,l,rfl,d2,d4,d5⟩
  ·obtain⟨rfl,l,r,rfl,d1,d4,d5⟩:=c3
   show wpS _ _ _ _ (do moveDown' k l;pure (ForInStep.yield (none,()))) _ y
   rw[moveDown'_eq]
   refine wpS_bind (wpS_modify (wpS_pure ⟨rfl,b1.put (bubble_perm _ _ _),fun i j hij hj=>?_⟩))
   have hk:k<(arrOf y).size:=by rw[b1.sz];lia
   rw[qN hk (by lia),qN hk (by lia),show k -(k -l)=l by lia]
   have f1:=fun i (q:i<l)=>d4 i q
   have f2:=fun i (q1:l≤i) (q2:i<k)=>d5 i q1 q2
   by_cases i1:i=l
   ·rw[if_pos i1]
    by_cases j1:j=l
    ·rw[if_pos j1];exact Int.le_refl _
    ·rw[if_neg j1,if_pos ⟨by lia,by lia⟩]
     exact Int.le_of_lt (d5 (j -1) (by lia) (by lia))
   ·rw[if_neg i1]
    by_cases i2:l<i∧i≤k
    ·rw[if_pos i2,if_neg (by lia),if_pos ⟨by lia,by lia⟩]
     exact b2 _ _ (by lia) (by lia)
    ·rw[if_neg i2]
     have il:i<l:=by lia
     by_cases j1:j=l
     ·rw[if_pos j1];exact d4 i il
     ·rw[if_neg j1]
      by_cases j2:l<j∧j≤k
      ·rw[if_pos j2];exact b2 _ _ (by lia) (by lia)
      ·rw[if_neg j2];exact b2 _ _ hij (by lia)
 ·obtain⟨hc,b1,b2⟩:=a3
  rw[show min (max (max ok 1) n) n=n by lia] at b2
  exact⟨hc,b1,b2⟩
 ·by_cases e:ok=0
  ·rw[show i=j by lia];exact Int.le_refl _
  ·exact hs i j hij (by lia)
 ·obtain⟨rfl,b1,b2⟩:=a3
  exact wpS_pure (h z b1 b2)
end
end L2
set_option Elab.async false
set_option linter.all false
set_option maxRecDepth 100000
set_option maxHeartbeats 4000000
namespace L2
open PySem PySem.Spec PyProof.Rows
section
variable {prog:Program} {w:World} {A:Around} {E:Value→Shared→Prop} {s:Shared} {rk:Value→Int} {kd:SortKind} {base:Array Keyed} {st:SortSt}
structure TD (rk:Value→Int) (base:Array Keyed) (st:SortSt):Prop where
 pm:(arrOf st).Perm base
 fl:failedOf st=none
 pe:pendingOf st= #[(0,base.size,0)]
 up:Asc rk st base.size
theorem TB.end_ (h:TB kd base st)(up:Asc rk st base.size):TD rk base (setPending st ((pendingOf st).push (0,base.size,0))):=⟨h.pm,h.fl,by show(pendingOf st).push _=_;rw[h.pe];rfl,up⟩
theorem wc (hL:bh prog w A s rk kd base)(hB:TB kd base st){Q:Unit→SortSt→Prop}(h2:2≤base.size)(h64:base.size<64)
  (h:∀st',(arrOf st').Perm base→failedOf st'=none→Asc rk st' base.size→Q () st'):wpS (model prog w) A E s sortRuns' Q st:=by
 rw[sortRuns'_eq]
 refine wpS_bind (wpS_get ?_)
 dsimp only
 have hm:minRun' base.size base.size 0=base.size:=by
  generalize hb:base.size=b at h2 h64
  match b,h2,h64 with
  |f+1,_,h64=>rw[minRun'_succ,if_pos h64]
 simp only[hB.sz,hm]
 refine wpS_bind (wpS_mono (wpS_forRange (I:=fun k c z=>(k=0∧c=(none,0)∧TB kd base z)∨(1≤k∧c=(none,base.size)∧TD rk base z)) (Q:=fun c z=>c=(none,base.size)∧TD rk base z) (fun k c z _ hk hI=>?_) (fun c z hI=>?_) (.inl ⟨rfl,rfl,hB⟩)) fun c z hI=>?_)
 ·rcases hI with⟨rfl,rfl,b1⟩|⟨_,rfl,b1⟩
  ·dsimp only
   rw[if_neg (by lia)]
   simp only[Nat.sub_zero,Nat.min_self,Nat.zero_add]
   refine wpS_bind (wd hL b1 (by lia) (Nat.le_refl _) fun m z2 b2 m1 m2 u2=>?_)
   dsimp only
   have go:∀z3,TB kd base z3→Asc rk z3 base.size→wpS (model prog w) A E s (modify (fun q=>setPending q ((pendingOf q).push (0,base.size,0)))>>=fun _=>pure (ForInStep.yield ((none:Option Unit),base.size)))
     (fun r st'=>match r with| .done c'=>c'=(none,base.size)∧TD rk base st'| .yield c'=>(0+1=0∧c'=(none,0)∧TB kd base st')∨(1≤0+1∧c'=(none,base.size)∧TD rk base st')) z3:=fun z3 c1 c2=>
    wpS_bind (wpS_modify (wpS_pure (.inr ⟨Nat.le_refl 1,rfl,c1.end_ c2⟩)))
   by_cases e:m<base.size
   ·rw[if_pos e]
    refine wpS_bind (wpS_lift (wpAny_rule ⟨rfl,wpS_bind (xu hL b2 (Nat.le_refl _) m2 u2 fun z3 b3 u3=>?_)⟩))
    simp only[Bool.not_true,Bool.false_eq_true,if_false]
    refine wpS_bind (wpS_get ?_)
    rw[show(pendingOf z3).back?=none by rw[b3.pe];rfl]
    exact go z3 b3 u3
   ·rw[if_neg e]
    have e':m=base.size:=by lia
    subst e'
    refine wpS_bind (wpS_get ?_)
    rw[show(pendingOf z2).back?=none by rw[b2.pe];rfl]
    exact go z2 b2 u2
  ·dsimp only
   rw[if_pos (Nat.le_refl _)]
   exact wpS_pure ⟨rfl,b1⟩
 ·rcases hI with⟨e,_⟩|⟨_,hc,b1⟩
  ·lia
  ·exact⟨hc,b1⟩
 ·obtain⟨rfl,b1⟩:=hI
  dsimp only
  refine wpS_bind (wpS_mono (wpS_forRange (I:=fun _ c y=>y=z∧c=(none,())) (Q:=fun c y=>y=z∧c=(none,())) (fun k c y _ _ hI=>?_) (fun _ _ q=>q) ⟨rfl,rfl⟩) fun c y hI=>?_)
  ·obtain⟨rfl,rfl⟩:=hI
   refine wpS_bind (wpS_get ?_)
   rw[if_pos (by rw[b1.pe];exact Nat.le_refl 1)]
   exact wpS_pure ⟨rfl,rfl⟩
  ·obtain⟨rfl,rfl⟩:=hI
   exact wpS_pure (h _ b1.pm b1.fl b1.up)
end
def M3:V→List Nat
 | .str a=>a.cps.toList
 | .bl b=>[b.toNat]
 |_=>[]
abbrev A1 (xs:List V):List (List Nat):=xs.map M3
def SameT (x y:V):Prop:=(∃a b,x= .str a∧y= .str b)∨(∃a b,x= .bl a∧y= .bl b)
theorem O5 {a b:Str}(h:a.cps.toList=b.cps.toList):a=b:=by
 cases a;cases b
 congr
 exact Array.toList_inj.mp h
theorem SameT.eq {x y:V}(h:SameT x y):N6 x y=decide (M3 x=M3 y):=by
 rcases h with⟨a,b,rfl,rfl⟩|⟨a,b,rfl,rfl⟩
 ·show(a==b)=decide (a.cps.toList=b.cps.toList)
  rw[Bool.eq_iff_iff,beq_iff_eq,decide_eq_true_eq]
  exact⟨fun e=>by rw[e],O5⟩
 ·cases a<;>cases b<;>rfl
theorem SameT.flat {x y:V}(h:SameT x y):p5 x=true∧p5 y=true:=by
 rcases h with⟨a,b,rfl,rfl⟩|⟨a,b,rfl,rfl⟩<;>exact⟨rfl,rfl⟩
theorem cT (a b:Bool):Gives (Builtin.«int.__lt__» ⟨[.bool a,.bool b],[]⟩) (.val (.bool (decide (a.toNat<b.toNat)))):=by
 cases a<;>cases b<;>exact .of_eq rfl
section
variable {P:Program} {w:World} {A:Around} {E:Value→Shared→Prop} {s:Shared}
theorem rK {x y:V}{u v:Value}{fl:Bool}{Q:Bool→Shared→Prop}(h:SameT x y)(rx:RelV x u)(ry:RelV y v)(hf:fl=true→∃a,x= .str a)(q:Q (decide (M3 x<M3 y)) s):wpAny (model P w) A (oneLt' fl u v) Q E s:=by
 rcases h with⟨a,b,rfl,rfl⟩|⟨a,b,rfl,rfl⟩
 ·obtain⟨t1,rfl⟩:=(show ∃t,u=Value.str a t from rx)
  obtain⟨t2,rfl⟩:=(show ∃t,v=Value.str b t from ry)
  cases fl with
  |true=>exact oneLt_str q
  |false=>
   rw[oneLt'_eq]
   simp only[Bool.false_eq_true,if_false]
   exact wpAny_bind (richCompare_gives (op:= .Lt) (typeIs_str _ _ _) (typeIs_str _ _ _) F.slot_str_lt F.entry_str_lt (F.args_str_lt_2 _ _) (gives_str_lt _ _ _ _) (fun e=>nomatch e) (wpAny_truthy_bool q))
 ·cases fl with
  |true=>obtain⟨a',e⟩:=hf rfl;cases e
  |false=>
   cases rx
   cases ry
   rw[oneLt'_eq]
   simp only[Bool.false_eq_true,if_false]
   have e:decide (M3 (.bl a)<M3 (.bl b))=decide (a.toNat<b.toNat):=by cases a<;>cases b<;>decide
   rw[e] at q
   exact wpAny_bind (richCompare_gives (op:= .Lt) (PyProof.Rows.typeIs_bool _ _) (PyProof.Rows.typeIs_bool _ _) F.slot_bool_lt F.entry_int_lt (F.args_int_lt_2 _ _) (cT _ _) (fun e=>nomatch e) (wpAny_truthy_bool q))
def dP (b:Bool)(x:(Value×Value)×Nat)(_:Option Bool×Unit):Sem (ForInStep (Option Bool×Unit)):=do
 let e←eqBool x.1.1 x.1.2
 if(!e)=true then do
  let z←oneLt' (b&&x.2==0) x.1.1 x.1.2
  pure (ForInStep.done (some z,()))
 else pure (ForInStep.yield (none,()))
theorem iH (b:Bool)(x y:Value):keyLt' (tuples' b) x y=(do
  let xs←Builtin.List.listItems x
  let ys←Builtin.List.listItems y
  for ((p,q),i) in (xs.toList.zip ys.toList).zipIdx do
   if !(←eqBool p q) then return←oneLt' (b&&i==0) p q
  return xs.size<ys.size):=rfl
theorem dq (b:Bool)(x y:Value):keyLt' (tuples' b) x y=(do
  let xs←Builtin.List.listItems x
  let ys←Builtin.List.listItems y
  let r←forIn (xs.toList.zip ys.toList).zipIdx ((none:Option Bool),()) (dP b)
  match r.1 with
  |some a=>pure a
  |none=>pure (decide (xs.size<ys.size))):=by
 rw[iH]
 congr 1
 funext xs
 congr 1
 funext ys
 have e:(fun(x:(Value×Value)×Nat) (_:Option Bool×Unit)=>(match x with
   |((p,q),i)=>do
    let c←eqBool p q
    if(!c)=true then do
     let d←oneLt' (b&&i==0) p q
     pure (ForInStep.done (some d,()))
    else pure (ForInStep.yield (none,())):Sem (ForInStep (Option Bool×Unit))))=dP b:=by
  funext x r
  obtain⟨⟨p,q⟩,i⟩:=x
  rfl
 rw[←e]
 congr 1
 funext r
 obtain⟨r1,r2⟩:=r
 cases r1<;>rfl
theorem ia:∀{xs ys:List V} {us vs:List Value} (k:Nat) {Q:Option Bool×Unit→Shared→Prop},Paired SameT xs ys→Vals xs us→Vals ys vs→(k=0→∀x∈xs.head?,∃a,x=V.str a)→
  (A1 xs=A1 ys→Q (none,()) s)→(A1 xs≠A1 ys→Q (some (decide (A1 xs<A1 ys)),()) s)→wpAny (model P w) A (forIn ((us.zip vs).zipIdx k) ((none:Option Bool),()) (dP true)) Q E s
 |_,_,_,_,k,Q,.nil,.nil,.nil,_,h1,_=>by
  show wpAny (model P w) A (forIn [] _ _) Q E s
  rw[List.forIn_nil]
  exact wpAny_pure (h1 rfl)
 |_,_,_,_,k,Q,.cons (a:=x) (b:=y) (l₁:=xs) (l₂:=ys) st r,.cons (b:=u) rx t1,.cons (b:=v) ry t2,hk,h1,h2=>by
  rw[List.zip_cons_cons,List.zipIdx_cons,List.forIn_cons]
  refine wpAny_bind (wpAny_bind (EqP.of (E8 rx ry st.flat.1 st.flat.2) _ _ ?_))
  rw[st.eq]
  by_cases e:M3 x=M3 y
  ·rw[decide_eq_true e]
   refine wpAny_pure ?_
   refine ia (k+1) r t1 t2 (fun z=>absurd z (by lia)) (fun z=>h1 (by show M3 x::A1 xs=M3 y::A1 ys;rw[e,z])) (fun z=>?_)
   have h3:=h2 (fun z2=>z (List.cons.inj (show M3 x::A1 xs=M3 y::A1 ys from z2)).2)
   have e3:decide (A1 (x::xs)<A1 (y::ys))=decide (A1 xs<A1 ys):=by
    rw[Bool.eq_iff_iff,decide_eq_true_eq,decide_eq_true_eq]
    show M3 x::A1 xs<M3 y::A1 ys↔_
    rw[List.cons_lt_cons_iff,e]
    exact⟨fun z=>z.elim (fun z=>absurd z (List.lt_irrefl _)) (fun z=>z.2),fun z=> .inr ⟨rfl,z⟩⟩
   rw[e3] at h3
   exact h3
  ·rw[decide_eq_false e]
   show wpAny _ _ (oneLt' (true&&k==0) u v>>=fun z=>pure (ForInStep.done (some z,()))) _ _ s
   refine wpAny_bind (rK st rx ry (fun z=>?_) (wpAny_pure (wpAny_pure ?_)))
   ·exact hk (by simpa using z) x rfl
   ·have h3:=h2 (fun z2=>e (List.cons.inj (show M3 x::A1 xs=M3 y::A1 ys from z2)).1)
    have e3:decide (A1 (x::xs)<A1 (y::ys))=decide (M3 x<M3 y):=by
     rw[Bool.eq_iff_iff,decide_eq_true_eq,decide_eq_true_eq]
     show M3 x::A1 xs<M3 y::A1 ys↔_
     rw[List.cons_lt_cons_iff]
     exact⟨fun z=>z.elim id (fun z=>absurd z.1 e),.inl⟩
    rw[e3] at h3
    exact h3
theorem rE {a b:Addr}{xs ys:List V}{us vs:List Value}{Q:Bool→Shared→Prop}(ha:s.heap.IsTuple a us.toArray)(hb:s.heap.IsTuple b vs.toArray)(rx:Vals xs us)(ry:Vals ys vs)(hp:Paired SameT xs ys)(hf:∀x∈xs.head?,∃a,x=V.str a)
  (q:Q (decide (A1 xs<A1 ys)) s):wpAny (model P w) A (keyLt' (tuples' true) (.ref a) (.ref b)) Q E s:=by
 rw[dq]
 obtain⟨o1,e1,_,n1,d1⟩:=id ha
 obtain⟨o2,e2,_,n2,d2⟩:=id hb
 refine wpAny_bind (listItems_at e1 d1 (wpAny_bind (listItems_at e2 d2 (wpAny_bind (ia 0 hp rx ry (fun _=>hf) (fun e=>?_) (fun e=>?_))))))
 ·have l1:=rx.length
  have l2:=ry.length
  have l3:=hp.length
  show wpAny _ _ (pure (decide (us.toArray.size<vs.toArray.size))) _ _ s
  rw[show decide (us.toArray.size<vs.toArray.size)=decide (A1 xs<A1 ys) by
   rw[e,decide_eq_false (List.lt_irrefl _),decide_eq_false (by simp;lia)]]
  exact wpAny_pure q
 ·exact wpAny_pure q
end
end L2
set_option Elab.async false
set_option linter.all false
set_option maxRecDepth 100000
set_option maxHeartbeats 4000000
namespace L2
open PySem PySem.Spec PyProof.Rows
abbrev lF:=List (List Nat)
def uU (ks:List lF)(k:lF):Int:=(ks.countP (fun x=>decide (x<k)):Nat)
theorem qt {a b c:lF}(h1:a<b)(h2:b<c):a<c:=List.lt_trans h1 h2
theorem zK {a b c:lF}(h1:a<b)(h2:¬c<b):a<c:=Decidable.byContradiction fun z=>h2 (List.lt_of_le_of_lt (List.not_lt.mp z) h1)
theorem xF (a:lF):¬a<a:=List.lt_irrefl a
theorem sA {a b:lF}(h1:¬a<b)(h2:¬b<a):a=b:=List.le_antisymm (List.not_lt.mp h2) (List.not_lt.mp h1)
theorem aB {α:Type}{p q:α→Bool}:∀{l:List α},(∀x∈l,p x=true→q x=true)→(∃x∈l,q x=true∧p x=false)→l.countP p<l.countP q
 |[],_,h=>by obtain⟨_,h,_⟩:=h;cases h
 |a::l,h1,h2=>by
  have le:l.countP p≤l.countP q:=List.countP_mono_left fun x hx=>h1 x (List.mem_cons_of_mem _ hx)
  by_cases e:q a=true∧p a=false
  ·rw[List.countP_cons_of_pos e.1,List.countP_cons_of_neg (by rw[e.2];decide)]
   lia
  ·have ih:l.countP p<l.countP q:=by
    refine aB (fun x hx=>h1 x (List.mem_cons_of_mem _ hx)) ?_
    obtain⟨x,hx,h3⟩:=h2
    rcases List.mem_cons.mp hx with rfl|hx
    ·exact absurd h3 e
    ·exact⟨x,hx,h3⟩
   have ha:=h1 a List.mem_cons_self
   cases hp:p a with
   |true=>rw[List.countP_cons_of_pos hp,List.countP_cons_of_pos (ha hp)];lia
   |false=>
    rw[List.countP_cons_of_neg (by rw[hp];decide)]
    have:l.countP q≤(a::l).countP q:=by rw[List.countP_cons];lia
    lia
theorem uM {ks:List lF}{a b:lF}(ha:a∈ks):decide (uU ks a<uU ks b)=decide (a<b):=by
 rw[Bool.eq_iff_iff,decide_eq_true_eq,decide_eq_true_eq]
 unfold uU
 constructor
 ·intro h
  by_cases z:a<b
  ·exact z
  ·exfalso
   have le:ks.countP (fun x=>decide (x<b))≤ks.countP (fun x=>decide (x<a)):=List.countP_mono_left fun x _ hx=>by
    rw[decide_eq_true_eq] at hx⊢
    exact zK hx z
   lia
 ·intro h
  have lt:ks.countP (fun x=>decide (x<a))<ks.countP (fun x=>decide (x<b)):=aB (fun x _ hx=>by
   rw[decide_eq_true_eq] at hx⊢
   exact qt hx h) ⟨a,ha,decide_eq_true h,decide_eq_false (xF a)⟩
  lia
theorem zE {ks:List lF}{a b:lF}(hb:b∈ks)(h:uU ks a≤uU ks b):¬b<a:=fun z=>by
 have e:=uM (ks:=ks) (b:=a) hb
 rw[decide_eq_true z] at e
 have:=of_decide_eq_true e
 lia
section
variable {P:Program} {w:World} {A:Around} {E:Value→Shared→Prop} {s:Shared}
theorem ft {β:Type}{f:Value→Sem β}{g:Value→β}:∀{l:List Value} {Q:List β→Shared→Prop},(∀v∈l,∀Q':β→Shared→Prop,Q' (g v) s→wpAny (model P w) A (f v) Q' E s)→Q (l.map g) s→wpAny (model P w) A (l.mapM f) Q E s
 |[],Q,_,q=>by rw[List.mapM_nil];exact wpAny_pure q
 |v::l,Q,h,q=>by
  rw[List.mapM_cons]
  exact wpAny_bind (h v List.mem_cons_self _ (wpAny_bind (ft (fun u hu=>h u (List.mem_cons_of_mem _ hu)) (wpAny_pure q))))
def aK (h:Heap):Value→Option Value
 | .ref a=>match h.get? a with
  |some o=>match o.data with
   | .seq xs _=>xs[0]?
   |_=>none
  |none=>none
 |_=>none
theorem oS {h:Heap}{a:Addr}{o:Obj}{xs:Array Value}{n:Nat}(e:h.get? a=some o)(d:o.data= .seq xs n):aK h (.ref a)=xs[0]?:=by
 simp only[aK,e,d]
theorem jG (v:Value):firstOfTuple' v=(do
  if(←typeOf v) != .type "tuple" then return none
  return (←Builtin.List.listItems v)[0]?):=rfl
theorem ow {a:Addr}{us:List Value}{Q:Option Value→Shared→Prop}(h:s.heap.IsTuple a us.toArray)(q:Q (aK s.heap (.ref a)) s):wpAny (model P w) A (firstOfTuple' (.ref a)) Q E s:=by
 rw[jG]
 obtain⟨o,e,hc,n,d⟩:=id h
 refine wpAny_bind (wpAny_typeOf (T:="tuple") ⟨o,e,hc⟩ ?_)
 rw[if_neg (by decide)]
 refine wpAny_bind (listItems_at e d (wpAny_pure ?_))
 rw[oS e d] at q
 exact q
theorem ke {vs:List Value}{Q:SortKind→Shared→Prop}(hne:vs≠[])(h:∀v∈vs,∃(a:Addr) (us:List Value) (x:Str) (t:Tok),v= .ref a∧s.heap.IsTuple a us.toArray∧us[0]?=some (.str x t))(q:Q (tuples' true) s):wpAny (model P w) A (keyKind' vs.toArray) Q E s:=by
 have hf:∀v∈vs,∃(x:Str) (t:Tok),aK s.heap v=some (.str x t):=fun v hv=>by
  obtain⟨a,us,x,t,rfl,hi,hu⟩:=h v hv
  obtain⟨o,e,hc,n,d⟩:=id hi
  refine⟨x,t,?_⟩
  rw[oS e d]
  simpa using hu
 rw[keyKind'_eq,List.mapM_toArray]
 refine wpAny_bind (wpAny_map (ft (g:=aK s.heap) (fun v hv Q' q'=>?_) ?_))
 ·obtain⟨a,us,x,t,rfl,hi,_⟩:=h v hv
  exact ow hi q'
 rw[if_pos (by
  simp only[List.all_toArray,List.all_map,List.all_eq_true]
  intro v hv
  obtain⟨x,t,e⟩:=hf v hv
  show(aK s.heap v).isSome=true
  rw[e];rfl)]
 refine wpAny_bind (wpAny_rule ?_)
 obtain⟨fs,efs,hfs,hfn⟩:∃fs:List Value,((vs.map (aK s.heap)).toArray.filterMap id)=fs.toArray∧(∀v∈fs,∃(x:Str) (t:Tok),v= .str x t)∧fs≠[]:=by
  refine⟨(vs.map (aK s.heap)).filterMap id,by simp,fun v hv=>?_,?_⟩
  ·obtain⟨o,ho,e⟩:=List.mem_filterMap.mp hv
   obtain⟨u,hu,rfl⟩:=List.mem_map.mp ho
   obtain⟨x,t,e2⟩:=hf u hu
   rw[e2] at e
   exact⟨x,t,(Option.some.inj e).symm⟩
  ·obtain⟨v,r,rfl⟩:=List.exists_cons_of_ne_nil hne
   obtain⟨x,t,e⟩:=hf v List.mem_cons_self
   rw[List.map_cons,List.filterMap_cons_some (b:= .str x t) e]
   exact List.cons_ne_nil _ _
 rw[efs,oneTypeOnly'_eq,List.mapM_toArray]
 refine wpAny_bind (wpAny_bind (wpAny_map (ft (g:=fun _=>Value.type "str") (fun v hv Q' q'=>?_) ?_)))
 ·obtain⟨x,t,rfl⟩:=hfs v hv
  exact wpAny_typeOf (typeIs_str s x t) q'
 obtain⟨v,r,rfl⟩:=List.exists_cons_of_ne_nil hfn
 have h0:((v::r).map fun _=>Value.type "str").toArray[0]?=some (Value.type "str"):=by simp
 rw[h0]
 have ha:(((v::r).map fun _=>Value.type "str").toArray.all fun x=>x==Value.type "str")=true:=by
  simp only[List.all_toArray,List.all_map,List.all_eq_true]
  intro _ _
  rfl
 dsimp only
 rw[if_pos ha]
 exact wpAny_pure (wpAny_pure q)
structure AV (h:Heap) (kf:Value→lF) (v:Value):Prop where
 at_:∃(a:Addr) (us:List Value) (xs:List V) (x:Str) (r:List V),v= .ref a∧h.IsTuple a us.toArray∧Vals xs us∧xs= .str x::r∧kf v=A1 xs
def vn (h:Heap)(v u:Value):Prop:=∀(a b:Addr) (us vs:List Value) (xs ys:List V),v= .ref a→u= .ref b→h.IsTuple a us.toArray→h.IsTuple b vs.toArray→Vals xs us→Vals ys vs→Paired SameT xs ys
theorem tY {vs:List Value}{kf:Value→lF}(h1:∀v∈vs,AV s.heap kf v)(h2:∀v∈vs,∀u∈vs,vn s.heap v u):bh P w A s (fun v=>uU (vs.map kf) (kf v)) (tuples' true) (pairsOf vs):=by
 intro x y E' Q hx hy q
 have mem:∀z,(∃p∈(pairsOf vs).toList,p.1=z)→z∈vs:=fun z hz=>by
  obtain⟨p,hp,rfl⟩:=hz
  rw[pairsOf_toList] at hp
  exact(mem_zip_self hp).2
 have mx:=mem x hx
 have my:=mem y hy
 rw[uM (List.mem_map.mpr ⟨x,mx,rfl⟩)] at q
 obtain⟨a,us,xs,n1,r1,rfl,i1,v1,e1,k1⟩:=(h1 x mx).at_
 obtain⟨b,vs',ys,n2,r2,rfl,i2,v2,e2,k2⟩:=(h1 y my).at_
 rw[k1,k2] at q
 exact rE i1 i2 v1 v2 (h2 _ mx _ my _ _ _ _ _ _ rfl rfl i1 i2 v1 v2) (fun x hx=>by rw[e1] at hx;exact⟨n1,(Option.some.inj hx).symm⟩) q
theorem jQ {a : Addr} {vs : List Value} {n : Nat} {kd : SortKind} {rk : Value → Int} {Q : Fin → Shared → Prop} (ho : s.heap.get? a = some (seqObj "list" vs.toArray n)) (h64 : vs.length < 64)
    (hk : 2 ≤ vs.length → ∀ h6 : Heap, h6 = ((s.heap.update a (Obj.mapSeq fun _ => #[])).push (seqObj "tuple" vs.toArray 0)).push (seqObj "list" #[] 0) → (∀ Q' : SortKind → Shared → Prop, Q' kd { s with heap := h6 } → wpAny (model P w) A (keyKind' vs.toArray) Q' E { s with heap := h6 }) ∧ bh P w A { s with heap := h6 } rk kd (pairsOf vs))
    (h : ∀ out : Array Value, out.toList.Perm vs → (∀ (i j : Nat) (u v : Value), i ≤ j → out[i]? = some u → out[j]? = some v → rk u ≤ rk v) → Q (.done (.ret .none)) { s with heap := sortedHeap s.heap a vs out }) :
    wpAny (model P w) A (Builtin.«list.sort» ⟨[.ref a], []⟩) Q E s := by
  have hlt : a < s.heap.objs.size := Heap.lt_size ho
  have h64' : (64 : Nat) ≤ sizeLine := by decide
  have psz := pairsOf_size vs
  rw [list_sort_plain]
  refine wpAny_bind (listItems_at ho rfl (wpAny_bind (listUpdate_at ho rfl ?_)))
  obtain ⟨e1, o1⟩ : ∃ e1, (s.heap.update a (Obj.mapSeq fun _ => #[])).get? a = some (seqObj "list" #[] e1) := ⟨_, get?_update_seq ho (fun _ => #[])⟩
  refine wpAny_bind (seqEpoch_at o1 rfl (wpAny_bind (wpAny_newTuple (wpAny_bind (wpAny_newList (wpAny_holding ?_))))))
  obtain ⟨h6, e6⟩ : ∃ h6 : Heap, h6 = ((s.heap.update a (Obj.mapSeq fun _ => #[])).push (seqObj "tuple" vs.toArray 0)).push (seqObj "list" #[] 0) := ⟨_, rfl⟩
  have o6 : h6.get? a = some (seqObj "list" #[] e1) := by
    rw [e6]
    exact Heap.get?_push_of_some _ (Heap.get?_push_of_some _ o1)
  show wpAny (model P w) A _ Q E { s with heap := ((s.heap.update a (Obj.mapSeq fun _ => #[])).push (seqObj "tuple" vs.toArray 0)).push (seqObj "list" #[] 0) }
  rw [← e6]
  dsimp only
  have same : ∀ p ∈ (pairsOf vs).toList, p.1 = p.2 := fun p hp => by
    rw [pairsOf_toList] at hp
    exact (mem_zip_self hp).1
  have fin : ∀ st' : SortSt, (arrOf st').Perm (pairsOf vs) → Asc rk st' (pairsOf vs).size → Q (.done (.ret .none)) { s with heap := sortedHeap s.heap a vs ((arrOf st').map (·.2)) } := fun st' pm up => by
    have pl := Array.perm_iff_toList_perm.mp pm
    refine h _ ?_ fun i j u v hij hu hv => ?_
    · rw [Array.toList_map]
      refine (pl.map (·.2)).trans (List.Perm.of_eq ?_)
      rw [pairsOf_toList]
      exact List.map_snd_zip (Nat.le_refl _)
    · rw [Array.getElem?_map] at hu hv
      obtain ⟨p, hp, rfl⟩ := Option.map_eq_some_iff.mp hu
      obtain ⟨q, hq, rfl⟩ := Option.map_eq_some_iff.mp hv
      have li : i < (arrOf st').size := by
        rcases Nat.lt_or_ge i (arrOf st').size with z | z
        · exact z
        · rw [Array.getElem?_eq_none z] at hp; cases hp
      have lj : j < (arrOf st').size := by
        rcases Nat.lt_or_ge j (arrOf st').size with z | z
        · exact z
        · rw [Array.getElem?_eq_none z] at hq; cases hq
      have z := up i j hij (by rw [← pm.size_eq]; exact lj)
      rw [jO li, jO lj] at z
      rw [Array.getElem?_eq_getElem li] at hp
      rw [Array.getElem?_eq_getElem lj] at hq
      have m1 : p ∈ (pairsOf vs).toList := pl.mem_iff.mp (by rw [← Option.some.inj hp]; simp)
      have m2 : q ∈ (pairsOf vs).toList := pl.mem_iff.mp (by rw [← Option.some.inj hq]; simp)
      rw [← same p m1, ← same q m2, ← Option.some.inj hp, ← Option.some.inj hq]
      exact z
  by_cases h2 : vs.toArray.size < 2
  · rw [if_pos h2, if_pos h2]
    refine wpAny_bind (wpAny_pure ?_)
    rw [StateT.run_pure]
    refine wpAny_bind (wpAny_pure ?_)
    dsimp only
    refine wpAny_bind (seqEpoch_at o6 rfl ?_)
    refine wpAny_bind (listUpdate_at o6 rfl ?_ (hsz2 := by rw [Array.size_map]; show (pairsOf vs).size ≤ _; lia))
    simp only [bne_self_eq_false, Bool.false_eq_true, if_false]
    have z := fin (SortSt.mk' general' (vs.toArray.zip vs.toArray) #[] 7 none) (Array.Perm.refl _) (fun i j hij hj => by
      have : vs.toArray.size = vs.length := by simp
      rw [show i = j by lia]; exact Int.le_refl _)
    unfold sortedHeap at z
    rw [← e6] at z
    exact wpAny_pure z
  · rw [if_neg h2, if_neg h2]
    have hl2 : 2 ≤ vs.length := by have : vs.toArray.size = vs.length := by simp
                                   lia
    obtain ⟨hk1, hk2⟩ := hk hl2 h6 e6
    refine wpAny_bind (hk1 _ ?_)
    refine wpAny_bind (wpAny_mono (wc (base := pairsOf vs) (st := SortSt.mk' kd (vs.toArray.zip vs.toArray) #[] 7 none) (Q := fun _ st' => (arrOf st').Perm (pairsOf vs) ∧ failedOf st' = none ∧ Asc rk st' (pairsOf vs).size) hk2 ⟨Array.Perm.refl _, rfl, rfl, rfl⟩ (by lia) (by lia) fun st' a1 a2 a3 => ⟨a1, a2, a3⟩) ?_ fun _ _ e => e)
    rintro ⟨⟨⟩, st'⟩ s' ⟨rfl, pm, fl, up⟩
    dsimp only
    refine wpAny_bind (seqEpoch_at o6 rfl ?_)
    refine wpAny_bind (listUpdate_at o6 rfl ?_ (hsz2 := by rw [Array.size_map, pm.size_eq]; lia))
    rw [fl]
    simp only [bne_self_eq_false, Bool.false_eq_true, if_false]
    have z := fin st' pm up
    unfold sortedHeap at z
    rw [← e6] at z
    exact wpAny_pure z
end
end L2
set_option Elab.async false
set_option linter.all false
set_option maxRecDepth 100000
set_option maxHeartbeats 4000000
namespace L2
open PySem PySem.Spec PyProof.Rows
section
variable {P:Program} {w:World} {A:Around} {E:Value→Shared→Prop} {s:Shared}
theorem mO {l:Addr}{vs:List Value}{kd:SortKind}{rk:Value→Int}{Q:Value→Shared→Prop}(hl:s.heap.IsList l vs.toArray)(h64:vs.length<64)
  (hk:2≤vs.length→∀h6:Heap,(∀b o,s.heap.get? b=some o→h6.get? b=some o)→(∀(A':Around) (E':Value→Shared→Prop) (Q':SortKind→Shared→Prop),Q' kd {s with heap:=h6}→wpAny (model P w) A' (keyKind' vs.toArray) Q' E' {s with heap:=h6})∧∀A':Around,bh P w A' {s with heap:=h6} rk kd (pairsOf vs))
  (h:∀out:Array Value,out.toList.Perm vs→(∀(i j:Nat) (u v:Value),i≤j→out[i]?=some u→out[j]?=some v→rk u≤rk v)→Q (.ref (s.heap.objs.size+1)) {s with heap:=sortedAll s.heap vs out}):
  wpAny (model P w) A (call (.builtin "sorted") [.ref l]) Q E s:=by
 have h64':(64:Nat)≤sizeLine:=by decide
 refine Calls.call_function_entry kind_sorted plain_sorted entry_sorted (args_sorted1 _) ?_
 unfold Builtin.«sorted»
 refine wpAny_bind (m:=checkCount "sorted" 1 1 _) (wpAny_pure (wpAny_bind (collect_list hl ?_)))
 refine wpAny_bind (wpAny_newList ?_)
 obtain⟨h1,e1⟩:∃h1:Heap,h1=(s.heap.push (seqObj "list" #[] 0)).update s.heap.objs.size (Obj.mapSeq (·++vs.toArray)):=⟨_,rfl⟩
 have sz:h1.objs.size=s.heap.objs.size+1:=by rw[e1,Heap.size_update,size_push']
 have old:∀b o,s.heap.get? b=some o→h1.get? b=some o:=fun b o e=>by
  rw[e1,Heap.get?_update_ne _ _ _ _ (Nat.ne_of_lt (Heap.lt_size e))]
  exact Heap.get?_push_of_some _ e
 obtain⟨h2,e2⟩:∃h2:Heap,h2=h1.push (seqObj "list" vs.toArray 0):=⟨_,rfl⟩
 have o2:h2.get? (s.heap.objs.size+1)=some (seqObj "list" vs.toArray 0):=by rw[e2,←sz];exact Heap.get?_push_size _ rfl
 show wpAny _ _ _ _ _ {s with heap:=((s.heap.push (seqObj "list" #[] 0)).update s.heap.objs.size (Obj.mapSeq (·++vs.toArray))).push (seqObj "list" vs.toArray 0)}
 rw[←e1,sz]
 have h':∀out:Array Value,out.toList.Perm vs→(∀(i j:Nat) (u v:Value),i≤j→out[i]?=some u→out[j]?=some v→rk u≤rk v)→Q (.ref (s.heap.objs.size+1)) {s with heap:=sortedHeap h2 (s.heap.objs.size+1) vs out}:=fun out p1 p2=>by
  have z:=h out p1 p2
  unfold sortedAll at z
  rw[←e1,←e2] at z
  exact z
 rw[←e2]
 refine wpAny_bind (wpAny_holding (wpAny_call_entry slot_list_sort ⟨_,o2,rfl⟩ entry_list_sort (jQ (s:={s with heap:=h2}) (kd:=kd) (rk:=rk) o2 h64 (fun g2 h6 e6=>?_) fun out p1 p2=>⟨_,rfl,?_⟩) (args_list_sort _)))
 ·have keep:∀b o,s.heap.get? b=some o→h6.get? b=some o:=fun b o e=>by
   have lt:=Heap.lt_size e
   rw[e6]
   refine Heap.get?_push_of_some _ (Heap.get?_push_of_some _ ?_)
   show(h2.update (s.heap.objs.size+1) _).get? b=some o
   rw[Heap.get?_update_ne _ _ _ _ (Nat.ne_of_lt (Nat.lt_succ_of_lt lt)),e2]
   exact Heap.get?_push_of_some _ (old b o e)
  exact⟨(hk g2 h6 keep).1 _ _,(hk g2 h6 keep).2 _⟩
 ·exact wpAny_pure ⟨_,rfl,h' out p1 p2⟩
end
theorem aP {α β:Type}(f:α→β):∀{l m:List β},l.Perm m→∀ts:List α,m=ts.map f→∃ts':List α,l=ts'.map f∧ts'.Perm ts:=by
 intro l m p
 induction p with
 |nil=>intro ts e;exact⟨ts,e,.refl _⟩
 |cons x p ih=>
  intro ts e
  match ts,e with
  |t::r,e=>
   obtain⟨r',e1,p1⟩:=ih r (List.cons.inj e).2
   exact⟨t::r',by rw[e1,(List.cons.inj e).1];rfl,p1.cons t⟩
 |swap x y l=>
  intro ts e
  match ts,e with
  |t::u::r,e=>
   have e1:=(List.cons.inj e).1
   have e2:=(List.cons.inj (List.cons.inj e).2).1
   have e3:=(List.cons.inj (List.cons.inj e).2).2
   exact⟨u::t::r,by rw[e1,e2,e3];rfl,.swap t u r⟩
 |trans p1 p2 ih1 ih2=>
  intro ts e
  obtain⟨t2,e2,q2⟩:=ih2 ts e
  obtain⟨t1,e1,q1⟩:=ih1 t2 e2
  exact⟨t1,e1,q1.trans q2⟩
theorem lu {ts:List (Addr×List V)}:∀{us:List Value},Vals (ts.map fun t=>V.ref t.1) us→us=ts.map fun t=>Value.ref t.1:=by
 induction ts with
 |nil=>intro us h;cases h;rfl
 |cons t r ih=>
  intro us h
  cases h with
  |cons rx t2=>
   have e:_=Value.ref t.1:=rx
   rw[e,ih t2];rfl
theorem mM {x y:V}{u:Value}(h1:RelV x u)(h2:RelV y u):x=y:=by rw[←fw h1,←fw h2]
theorem G8:∀{xs ys:List V} {us:List Value},Vals xs us→Vals ys us→xs=ys
 |_,_,_,.nil,.nil=>rfl
 |_,_,_,.cons r1 t1,.cons r2 t2=>by rw[mM r1 r2,G8 t1 t2]
theorem du:∀ts:List (Addr×List V),Vals (ts.map fun t=>V.ref t.1) (ts.map fun t=>Value.ref t.1)
 |[]=> .nil
 |t::r=> .cons rfl (du r)
section
variable {X:Cx}
def cx (K:PySem.W.Frag):List V→Hp→VK→Prop:=fun xs H Q=>∃(p:Addr) (ts:List (Addr×List V)),xs=[.ref p]∧SqL K H p (ts.map fun t=>V.ref t.1)∧(∀t∈ts,SqT K H t.1 t.2∧∃x r,t.2=V.str x::r)∧(∀t∈ts,∀t'∈ts,Paired SameT t.2 t'.2)∧ts.length<64∧
 ∀ts':List (Addr×List V),ts'.Perm ts→ts'.Pairwise (fun a b=>¬A1 b.2<A1 a.2)→∀l,H l=none→Q (.ref l) (i7 H l (.lst (ts'.map fun t=>V.ref t.1)))
theorem ff:CallR X (.builtin "sorted") (cx X.K):=by
 intro pins s σ H xs us Q I r h
 obtain⟨p,ts,rfl,hx,htup,hsh,h64,q⟩:=h
 obtain⟨u,rfl,ru⟩:=D4 r
 cases ru
 have h64':(64:Nat)≤sizeLine:=by decide
 obtain⟨its,rv,ht,hz⟩:=I.list hx
 have ei:=lu rv
 subst ei
 let kf:Value→lF:=fun v=>match v with
  | .ref a=>match ts.find? (fun t=>t.1==a) with
   |some t=>A1 t.2
   |none=>[]
  |_=>[]
 have kfa:∀t∈ts,kf (.ref t.1)=A1 t.2:=fun t hm=>by
  show(match ts.find? (fun t'=>t'.1==t.1) with|some t=>A1 t.2|none=>[])=_
  cases e:ts.find? (fun t'=>t'.1==t.1) with
  |none=>exact absurd (List.find?_eq_none.mp e t hm) (by simp)
  |some t'=>
   have e1:t'.1=t.1:=by simpa using List.find?_some e
   have m':=List.mem_of_find?_eq_some e
   have z:=(htup t' m').1
   rw[e1] at z
   show A1 t'.2=A1 t.2
   rw[I.tuple_inj z (htup t hm).1]
 have key:∀h6:Heap,(∀b o,s.heap.get? b=some o→h6.get? b=some o)→∀v∈ts.map (fun t=>Value.ref t.1),∃(t:Addr×List V) (us:List Value),t∈ts∧v= .ref t.1∧h6.IsTuple t.1 us.toArray∧Vals t.2 us:=fun h6 keep v hv=>by
  obtain⟨t,hm,rfl⟩:=List.mem_map.mp hv
  obtain⟨us,r1,p1,z1⟩:=I.tuple (htup t hm).1
  obtain⟨o,e,hc,n,d⟩:=(show s.heap.IsTuple t.1 us.toArray from p1)
  exact⟨t,us,hm,rfl,⟨o,keep _ _ e,hc,n,d⟩,r1⟩
 have tinj:∀(h6:Heap) (a:Addr) (us vs:List Value),h6.IsTuple a us.toArray→h6.IsTuple a vs.toArray→us=vs:=fun h6 a us vs h1 h2=>by
  obtain⟨o,e,hc,n,d⟩:=h1
  obtain⟨o',e',hc',n',d'⟩:=h2
  rw[e] at e'
  cases e'
  rw[d] at d'
  cases d'
  rfl
 refine mO (s:=s) (kd:=tuples' true) (rk:=fun v=>uU ((ts.map fun t=>Value.ref t.1).map kf) (kf v)) ht.isList (by rw[List.length_map];exact h64) (fun h2 h6 keep=>⟨fun A' E' Q' q'=>ke (s:={s with heap:=h6}) (by intro z;rw[z] at h2;exact absurd h2 (by decide)) (fun v hv=>?_) q',fun A'=>tY (s:={s with heap:=h6}) (fun v hv=>⟨?_⟩) (fun v hv u hu a b us vs ys zs ea eb i1 i2 v1 v2=>?_)⟩) fun out pm up=>?_
 ·obtain⟨t,us,hm,rfl,i1,v1⟩:=key h6 keep v hv
  obtain⟨x,r,e⟩:=(htup t hm).2
  rw[e] at v1
  cases v1 with
  |cons rx t2=>
   obtain⟨tk,rfl⟩:=(show ∃tk,_=Value.str x tk from rx)
   exact⟨t.1,_,x,tk,rfl,i1,rfl⟩
 ·obtain⟨t,us,hm,rfl,i1,v1⟩:=key h6 keep v hv
  obtain⟨x,r,e⟩:=(htup t hm).2
  exact⟨t.1,us,t.2,x,r,rfl,i1,v1,e,kfa t hm⟩
 ·obtain⟨t,us1,hm,e1,j1,w1⟩:=key h6 keep v hv
  obtain⟨t',us2,hm',e2,j2,w2⟩:=key h6 keep u hu
  rw[ea] at e1
  rw[eb] at e2
  cases e1
  cases e2
  have q1:=tinj h6 _ _ _ i1 j1
  have q2:=tinj h6 _ _ _ i2 j2
  subst q1 q2
  have x1:ys=t.2:=by exact G8 v1 w1
  have x2:zs=t'.2:=by exact G8 v2 w2
  rw[x1,x2]
  exact hsh t hm t' hm'
 ·obtain⟨ts',e',p'⟩:=aP (fun t:Addr×List V=>Value.ref t.1) pm ts rfl
  obtain⟨e,he⟩:=sortedAll_at s.heap (ts.map fun t=>Value.ref t.1) out
  have hl':=p'.length_eq
  refine⟨.ref (s.heap.objs.size+1),_,I.newL (tk:=s.toks) (fun _ _=>sortedAll_old) (Nat.le_succ _) he (by rw[e'];exact du ts') (by rw[List.length_map];lia),rfl,q ts' p' ?_ _ (I.hok.fresh (Nat.le_succ _))⟩
  refine List.pairwise_iff_getElem.mpr fun i j hi hj hij=>?_
  have g:∀(k:Nat) (hk:k<ts'.length),out[k]?=some (Value.ref ts'[k].1):=fun k hk=>by
   rw[←Array.getElem?_toList,e',List.getElem?_map,List.getElem?_eq_getElem hk];rfl
  have z:=up i j _ _ (Nat.le_of_lt hij) (g i hi) (g j hj)
  have mi:ts'[i]∈ts:=p'.mem_iff.mp (List.getElem_mem hi)
  have mj:ts'[j]∈ts:=p'.mem_iff.mp (List.getElem_mem hj)
  have z2:=zE (List.mem_map.mpr ⟨_,List.mem_map.mpr ⟨_,mj,rfl⟩,rfl⟩) z
  rw[kfa _ mi,kfa _ mj] at z2
  exact z2
end
end L2
set_option Elab.async false
set_option linter.all false
set_option maxRecDepth 100000
set_option maxHeartbeats 4000000
namespace L2
open PySem PySem.Spec PyProof.Rows
abbrev Lk:=Str×Bool×Bool
def fQ (c:Lk):List V:=[.str c.1,.bl c.2.1,.bl c.2.2]
theorem xU (c d:Lk):E3 (fQ c) (fQ d)=decide (c=d):=by
 obtain⟨c1,c2,c3⟩:=c
 obtain⟨d1,d2,d3⟩:=d
 show(c1==d1&&(c2==d2&&(c3==d3&&true)))=_
 rw[Bool.eq_iff_iff]
 simp
theorem xp {c d:Lk}(h:fQ c=fQ d):c=d:=by
 obtain⟨c1,c2,c3⟩:=c
 obtain⟨d1,d2,d3⟩:=d
 have h1:=V.str.inj (List.cons.inj h).1
 have h2:=V.bl.inj (List.cons.inj (List.cons.inj h).2).1
 have h3:=V.bl.inj (List.cons.inj (List.cons.inj (List.cons.inj h).2).2).1
 rw[show c1=d1 from h1,show c2=d2 from h2,show c3=d3 from h3]
def dj (K:PySem.W.Frag)(H:Hp)(xs:List V)(cs:List Lk):Prop:=Paired (fun v c=>∃t,v=V.ref t∧SqT K H t (fQ c)) xs cs
structure LkV (K:PySem.W.Frag) (H:Hp) (u:V) (kd:Str) (cs:List Lk):Prop where
 ex:∃(a l:Addr) (xs:List V),u= .ref a∧SqT K H a [.str kd,.ref l]∧SqL K H l xs∧dj K H xs cs
section
variable {X:Cx} {pins:List (Addr×Obj)} {σ:St} {H:Hp} {s:Shared}
theorem qy (I : Inv X pins σ H s) : ∀ {xs : List V} {cs ds : List Lk}, dj X.K H xs cs → dj X.K H xs ds → cs = ds
 := by
  intro xs cs ds h1 h2
  induction h1 generalizing ds with
  | nil => cases h2; rfl
  | cons a r ih => cases h2 with
    | cons a' r' =>
      obtain ⟨t, e, h⟩ := a
      obtain ⟨t', e', h'⟩ := a'
      rw [e] at e'
      cases e'
      rw [xp (I.tuple_inj h h'), ih r']
theorem zq (I:Inv X pins σ H s){A:Around}{l m:Addr}{xs ys:List V}{cs ds:List Lk}(h1:SqL X.K H l xs)(h2:SqL X.K H m ys)(p1:dj X.K H xs cs)(p2:dj X.K H ys ds)(hu:A.units+48<cLine):EqP X.prog X.w A s (.ref l) (.ref m) (decide (cs=ds)):=by
 by_cases e:l=m
 ·subst e
  have ex:=I.list_inj h1 h2
  subst ex
  rw[decide_eq_true (qy I p1 p2)]
  exact .of (SeqAt.EqAt.same _)
 ·obtain⟨us,r1,q1,z1⟩:=I.list h1
  obtain⟨vs,r2,q2,z2⟩:=I.list h2
  have a1:=r1.length
  have a2:=r2.length
  have b1:=Paired.length p1
  have b2:=Paired.length p2
  by_cases hl:xs.length=ys.length
  ·have q:=RcP.lst (P:=X.prog) (w:=X.w) (A:=A) (f:=fun j=>decide (cs[j]?=ds[j]?)) q1.isList q2.isList (by simp;lia) (by lia) fun j g1 g2=>by
    have g1':j<us.length:=by simpa using g1
    have g2':j<vs.length:=by simpa using g2
    have x1:xs[j]?=some (xs[j]'(by lia)):=List.getElem?_eq_getElem _
    have y1:ys[j]?=some (ys[j]'(by lia)):=List.getElem?_eq_getElem _
    obtain⟨u1,hu1,ru1⟩:=r1.get x1
    obtain⟨u2,hu2,ru2⟩:=r2.get y1
    have e1:us.toArray[j]=u1:=by
     have:=List.getElem?_eq_getElem g1'
     rw[hu1] at this
     simpa using(Option.some.inj this).symm
    have e2:vs.toArray[j]=u2:=by
     have:=List.getElem?_eq_getElem g2'
     rw[hu2] at this
     simpa using(Option.some.inj this).symm
    obtain⟨c,hc,t1,et1,s1⟩:=k9 p1 x1
    obtain⟨d,hd,t2,et2,s2⟩:=k9 p2 y1
    rw[e1,e2,hc,hd]
    rw[et1] at ru1
    rw[et2] at ru2
    have z:=EqN.at_ (n:=0) (A:=A.in1) I (.inl (Eq1.tup s1 s2 rfl rfl)) ru1 ru2 (by show A.units+1+32+0<cLine;lia)
    rw[xU] at z
    rw[show decide (some c=some d)=decide (c=d) by simp]
    exact z
   have e3:(List.range us.toArray.size).all (fun j=>decide (cs[j]?=ds[j]?))=decide (cs=ds):=by
    rw[Bool.eq_iff_iff,List.all_eq_true,decide_eq_true_eq]
    constructor
    ·intro h
     refine List.ext_getElem? fun j=>?_
     rcases Nat.lt_or_ge j us.length with z|z
     ·exact of_decide_eq_true (h j (by simpa using z))
     ·rw[List.getElem?_eq_none (by lia),List.getElem?_eq_none (by lia)]
    ·rintro rfl j _
     exact decide_eq_true rfl
   rw[e3] at q
   exact .refs e q
  ·have hne:cs≠ds:=fun z=>hl (by rw[b1,b2,z])
   rw[decide_eq_false hne]
   exact .of (.of_refs e (SeqAt.RcAt.lists_lengths q1.isList q2.isList (by simp;lia) (by lia)))
end
section
variable {X:Cx}
def um (K:PySem.W.Frag):R2:=fun x y H Q=>∃(kd kd':Str) (cs ds:List Lk),LkV K H x kd cs∧LkV K H y kd' ds∧Q (.bl (decide (kd=kd')&&decide (cs=ds))) H
theorem tP (hu:X.A.units+64<cLine):OpR X (compareOp .Eq) (um X.K):=by
 intro pins s σ H x y v u Q I rx ry h
 obtain⟨kd,kd',cs,ds,⟨a,l,xs,rfl,t1,s1,p1⟩,⟨c,m,ys,rfl,t2,s2,p2⟩,k⟩:=h
 cases rx
 cases ry
 obtain⟨us,r1,q1,z1⟩:=I.tuple t1
 obtain⟨vs,r2,q2,z2⟩:=I.tuple t2
 obtain⟨u1,u2,rfl,⟨tk1,rfl⟩,e2⟩:=M9 r1
 obtain⟨v1,v2,rfl,⟨tk2,rfl⟩,f2⟩:=M9 r2
 cases e2
 cases f2
 have q:=RcP.tup (P:=X.prog) (w:=X.w) (A:=X.A) (f:=fun j=>if j=0 then decide (kd=kd') else decide (cs=ds)) (show s.heap.IsTuple a #[Value.str kd tk1,Value.ref l] from q1) (show s.heap.IsTuple c #[Value.str kd' tk2,Value.ref m] from q2) (by lia) fun j g1 g2=>by
  match j,g1,g2 with
  |0,_,_=>
   have z:=EqP.of (P:=X.prog) (w:=X.w) (E8 (A:=X.A.in1) (s:=s) (y:= .str kd) (x:= .str kd') ⟨tk1,rfl⟩ ⟨tk2,rfl⟩ rfl rfl)
   rw[show N6 (.str kd) (.str kd')=decide (kd=kd') from rfl] at z
   exact z
  |1,_,_=>exact zq (A:=X.A.in1) I s1 s2 p1 p2 (by show X.A.units+1+48<cLine;lia)
  |n+2,g1,_=>exact absurd g1 (by simp)
 have e:((List.range (min (#[Value.str kd tk1,Value.ref l]:Array Value).size (#[Value.str kd' tk2,Value.ref m]:Array Value).size)).all (fun j=>if j=0 then decide (kd=kd') else decide (cs=ds))&&(#[Value.str kd tk1,Value.ref l]:Array Value).size==(#[Value.str kd' tk2,Value.ref m]:Array Value).size)=(decide (kd=kd')&&decide (cs=ds)):=by
  show(([0,1]:List Nat).all _&&true)=_
  simp
 rw[e] at q
 exact q _ _ ⟨.bl _,H,I,rfl,k⟩
def uF (K:PySem.W.Frag):R2:=fun x y H Q=>dn K x y H Q∨um K x y H Q
theorem ym (K:PySem.W.Frag){k:Nat}(hr:Room k X.A)(h:X.K=K:=by rfl):OpR X (compareOp .Eq) (uF K):=(C6 K hr h).or (h▸tP hr.units)
def EqA (K:PySem.W.Frag)(H:Hp)(x y:V)(b:Bool):Prop:=(∃a c,x= .str a∧y= .str c∧b=decide (a=c))∨∃(kd kd':Str) (cs ds:List Lk),LkV K H x kd cs∧LkV K H y kd' ds∧b=(decide (kd=kd')&&decide (cs=ds))
theorem yg {K:PySem.W.Frag}{H:Hp}{Q:VK}{x y:V}{b:Bool}(h:EqA K H x y b)(q:Q (.bl b) H):uF K x y H Q:=by
 rcases h with⟨a,c,rfl,rfl,rfl⟩|⟨kd,kd',cs,ds,h1,h2,rfl⟩
 ·exact .inl (ag q)
 ·exact .inr ⟨kd,kd',cs,ds,h1,h2,q⟩
theorem LkV.mono {K:PySem.W.Frag}{H H':Hp}{u:V}{kd:Str}{cs:List Lk}(l:Le H H')(h:LkV K H u kd cs):LkV K H' u kd cs:=by
 obtain⟨a,m,xs,e,t,s,p⟩:=h
 exact⟨a,m,xs,e,l.tup t,l.lst s,Paired.imp' (fun _ _ ⟨t,e,z⟩=>⟨t,e,l.tup z⟩) p⟩
theorem EqA.mono {K:PySem.W.Frag}{H H':Hp}{x y:V}{b:Bool}(l:Le H H')(h:EqA K H x y b):EqA K H' x y b:=by
 rcases h with h|⟨kd,kd',cs,ds,h1,h2,e⟩
 ·exact .inl h
 ·exact .inr ⟨kd,kd',cs,ds,h1.mono l,h2.mono l,e⟩
theorem qz (K:PySem.W.Frag)(h:X.K=K:=by rfl):CallR X (.builtin "sorted") (cx K):=h▸ff
end
end L2
set_option Elab.async false
set_option linter.all false
set_option maxRecDepth 100000
set_option maxHeartbeats 4000000
namespace L2
open PySem PySem.Spec PyProof.Rows
open PySem.AutoSeq1 (wpAny_loadPart')
open PySem.MeetsSeq PySem.MeetsSeq2 PySem.MeetsSeq3
section
variable {P:Program} {w:World}
end
section
variable {X:Cx}
end
end L2
set_option Elab.async false
set_option linter.all false
set_option maxRecDepth 100000
set_option maxHeartbeats 4000000
namespace L2
open PySem PySem.Spec PyProof.Rows
structure FnIn (K:PySem.W.Frag) (n:Str) (st:Stmt) (f:Addr):Prop where
 a:PySem.W.nsIn K mainGlobals n=some (some (.ref f))
 F:∃fd,Fun K n n st f fd
theorem FnIn.mk' {K:PySem.W.Frag}{n:Str}{st:Stmt}{f:Addr}{oc:Value}{od an:Option Addr}{osl:Array (Option Value)}{kV doc pm cdv ct:Value}(a:PySem.W.nsIn K mainGlobals n=some (some (.ref f)))(l:K.lookup f=some ⟨oc,od,.func (PySem.W.fnOf n n (D9 st) (C1 st) (d8 st) .none kV doc pm an cdv ct),osl⟩)
  (c:PySem.W.codeIn K cdv n=true) (k:PySem.W.keepIn K (.ref f)=true):FnIn K n st f:=⟨a,_,vL l c k⟩
theorem u6 {P:Program}{w:World}{K:PySem.W.Frag}{mg:Str→Option Value}{base h:Heap}{CX:ig}{k:Nat}{n:Str}{st:Stmt}{ps:List Str}{sp:Sp}{f:Addr}(X:K.In h)(G:h.Ns mainGlobals mg)(a:FnIn K n st f)(ok:∀{f fd},Fun K n n st f fd→A6 P w K mg base CX k f fd ps sp)
  (b:∀(kV doc pm:Value) (an:Option Addr) (cdv ct:Value) (us:List Value),us.length=ps.length→bindArgs (PySem.W.fnOf n n (D9 st) (C1 st) (d8 st) .none kV doc pm an cdv ct) ⟨us,[]⟩=pure (ps.zip us)):V0 P w K mg base CX k n ps [] sp:=by
 obtain⟨fd,F⟩:=a.F
 exact⟨f,_,[],ok F,PySem.W.mg_of X G a.a,F.kp,F.binds b,.nil⟩
theorem xn {P:Program}{w:World}{K:PySem.W.Frag}{mg:Str→Option Value}{h:Heap}{CX:ig}{k:Nat}{st:Stmt}{p:Str}{sp:Sp}{f fa:Addr}(X:K.In h)(G:h.Ns mainGlobals mg)(hfa:mg "law"=some (.ref fa))(a:FnIn K "law" st f)(ok:∀{base f fd},Fun K "law" "law" st f fd→A6 P w K mg base CX k f fd [p] sp)
  (b:∀(kV doc pm:Value) (an:Option Addr) (cdv ct:Value) (s:Shared) (v:Value),BindsTo s (PySem.W.fnOf "law" "law" (D9 st) (C1 st) (d8 st) .none kV doc pm an cdv ct) ⟨[v],[]⟩ [(p,v)]):
  ∃fd:FuncData,(∀(s:Shared) (v:Value),BindsTo s fd ⟨[v],[]⟩ [(p,v)])∧∀base:Heap,K.In base→base.Ns mainGlobals mg→A6 P w K mg base CX k fa fd [p] sp:=by
 obtain⟨fd,F⟩:=a.F
 have e:=hfa.symm.trans (PySem.W.mg_of X G a.a)
 cases e
 obtain⟨oc,od,kV,doc,pm,an,cdv,ct,osl,rfl,lk,hcd⟩:=id F.ex
 exact⟨_,fun s v=>b _ _ _ _ _ _ s v,fun base _ _=>ok F⟩
section
variable {fd:FuncData} {ps:List Str} {us:List Value}
theorem uc {us:List Value}{n:Nat}(h:us.length=n+1):∃a r,us=a::r∧r.length=n:=by
 cases us with
 |nil=>cases h
 |cons a r=>exact⟨a,r,rfl,Nat.succ.inj h⟩
theorem Bw (h:us.length=1)(g:∀a:Value,bindArgs fd ⟨[a],[]⟩=pure (ps.zip [a])):bindArgs fd ⟨us,[]⟩=pure (ps.zip us):=by
 obtain⟨a,us,rfl,h1⟩:=uc h;cases us with
 |nil=>exact g a
 |cons _ _=>cases h1
theorem Bx (h:us.length=2)(g:∀a b:Value,bindArgs fd ⟨[a,b],[]⟩=pure (ps.zip [a,b])):bindArgs fd ⟨us,[]⟩=pure (ps.zip us):=by
 obtain⟨a,us,rfl,h1⟩:=uc h;obtain⟨b,us,rfl,h2⟩:=uc h1;cases us with
 |nil=>exact g a b
 |cons _ _=>cases h2
theorem Bt (h:us.length=3)(g:∀a b c:Value,bindArgs fd ⟨[a,b,c],[]⟩=pure (ps.zip [a,b,c])):bindArgs fd ⟨us,[]⟩=pure (ps.zip us):=by
 obtain⟨a,us,rfl,h1⟩:=uc h;obtain⟨b,us,rfl,h2⟩:=uc h1;obtain⟨c,us,rfl,h3⟩:=uc h2;cases us with
 |nil=>exact g a b c
 |cons _ _=>cases h3
theorem Bo (h:us.length=4)(g:∀a b c d:Value,bindArgs fd ⟨[a,b,c,d],[]⟩=pure (ps.zip [a,b,c,d])):bindArgs fd ⟨us,[]⟩=pure (ps.zip us):=by
 obtain⟨a,us,rfl,h1⟩:=uc h;obtain⟨b,us,rfl,h2⟩:=uc h1;obtain⟨c,us,rfl,h3⟩:=uc h2;obtain⟨d,us,rfl,h4⟩:=uc h3;cases us with
 |nil=>exact g a b c d
 |cons _ _=>cases h4
theorem BA (h:us.length=5)(g:∀a b c d e:Value,bindArgs fd ⟨[a,b,c,d,e],[]⟩=pure (ps.zip [a,b,c,d,e])):bindArgs fd ⟨us,[]⟩=pure (ps.zip us):=by
 obtain⟨a,us,rfl,h1⟩:=uc h;obtain⟨b,us,rfl,h2⟩:=uc h1;obtain⟨c,us,rfl,h3⟩:=uc h2;obtain⟨d,us,rfl,h4⟩:=uc h3;obtain⟨e,us,rfl,h5⟩:=uc h4;cases us with
 |nil=>exact g a b c d e
 |cons _ _=>cases h5
theorem BC (h:us.length=6)(g:∀a b c d e f:Value,bindArgs fd ⟨[a,b,c,d,e,f],[]⟩=pure (ps.zip [a,b,c,d,e,f])):bindArgs fd ⟨us,[]⟩=pure (ps.zip us):=by
 obtain⟨a,us,rfl,h1⟩:=uc h;obtain⟨b,us,rfl,h2⟩:=uc h1;obtain⟨c,us,rfl,h3⟩:=uc h2;obtain⟨d,us,rfl,h4⟩:=uc h3;obtain⟨e,us,rfl,h5⟩:=uc h4;obtain⟨f,us,rfl,h6⟩:=uc h5;cases us with
 |nil=>exact g a b c d e f
 |cons _ _=>cases h6
end
section
variable {J:It} {th:Hp→Hp} {g:V→St→Hp→(St→Hp→Prop)→Prop} {tb:TS} {nx:St→Hp→Prop} {rt:V→Hp→Prop} {σ:St} {H:Hp} {n:Nat}
end
end L2
set_option Elab.async false
set_option linter.all false
set_option maxRecDepth 100000
set_option maxHeartbeats 4000000
namespace L2
open PySem PySem.Spec PyProof.Rows
section
variable {X:Cx} {x:Str} {T:Addr} {np hpos pos:Pos} {b₀:Stmt} {body suite:List Stmt} {tb:(St→XK)→TS} {ts:TS}
end
theorem vR {α β:Type}{f:α→Option β}{g:α→β}{l:List α}(h:∀k∈l,f k=some (g k)):l.filterMap f=l.map g:=by
 induction l with
 |nil=>rfl
 |cons a r ih=>rw[List.filterMap_cons,h a List.mem_cons_self,List.map_cons,ih fun k hk=>h k (List.mem_cons_of_mem _ hk)]
theorem cX (its:List Value):slicePick its.toArray none none (some (-1))=its.reverse.toArray:=by
 have e:sliceRange (sliceBounds none none (some (-1)) its.toArray.size).1 (sliceBounds none none (some (-1)) its.toArray.size).2.1 (sliceBounds none none (some (-1)) its.toArray.size).2.2=(List.range its.length).map fun k=>its.length -1 -k:=by
  rw[←picked_rev]
  simp only[sliceBounds,List.size_toArray]
  rfl
 unfold slicePick
 rw[e]
 congr 1
 rw[List.filterMap_map]
 refine List.ext_getElem? fun j=>?_
 have hall:∀k∈List.range its.length,((fun i=>its.toArray[i]?)∘fun k=>its.length -1 -k) k=some (its.reverse.getD k .none):=fun k hk=>by
  have hk':=List.mem_range.mp hk
  show its.toArray[its.length -1 -k]?=_
  rw[List.getElem?_toArray,←List.getElem?_reverse hk',List.getD_eq_getElem?_getD,List.getElem?_eq_getElem (by rw[List.length_reverse];exact hk')];rfl
 rw[vR hall,List.getElem?_map]
 by_cases hj:j<its.length
 ·rw[List.getElem?_range hj,List.getElem?_eq_getElem (by rw[List.length_reverse];exact hj)]
  simp [List.getD_eq_getElem?_getD,List.getElem?_eq_getElem (l:=its.reverse) (i:=j) (by rw[List.length_reverse];exact hj)]
 ·rw[List.getElem?_eq_none (by rw[List.length_range];lia),List.getElem?_eq_none (by rw[List.length_reverse];lia)];rfl
def uD (K:PySem.W.Frag):V→Hp→VK→Prop:=fun x H Q=>∃a xs,x= .ref a∧SqL K H a xs∧∀p,H p=none→Q (.ref p) (i7 H p (.lst xs.reverse))
def qp (K:PySem.W.Frag)(te:TE):TE:=fun σ H Q=>te σ H fun x H1=>uD K x H1 Q
theorem oC {K:PySem.W.Frag}{te:TE}{σ:St}{H:Hp}{Q:VK}(q:te σ H fun x H1=>uD K x H1 Q):qp K te σ H Q:=q
theorem Vals.rev:∀{xs:List V} {us:List Value},Vals xs us→Vals xs.reverse us.reverse
 |_,_,.nil=> .nil
 |_,_,.cons a t=>by
  rw[List.reverse_cons,List.reverse_cons]
  exact(Vals.rev t).append (.cons a .nil)
section
variable {X:Cx} {e:Expr} {te:TE} {pos p2 p3 p4:Pos} {j:Nat}
theorem rF (he:PE X e te):PE X (.Subscript e (.Slice none none (some (.UnaryOp .USub (.Constant (.int 1) j p3) p4)) p2) pos) (qp X.K te):=by
 intro pins s σ H Q I h
 refine Subscript_ (B5 (he pins s σ H _ I h) fun v s1 ⟨x,H1,I1,r1,q1⟩=>?_)
 refine wpAny_Slice ?_
 rw[evalPart_none]
 refine wpAny_pure (wpAny_pure ?_)
 rw[evalPart_some]
 refine B5 (zj vA oa pins s1 σ H1 (fun y H2=>y= .int (-1)∧H2=H1) I1 ⟨1,rfl,rfl,rfl⟩) fun u s3 ⟨y,H3,I3,ru,e1,e2⟩=>?_
 subst e1 e2
 obtain⟨t,rfl⟩:=ru
 obtain⟨a,xs,rfl,hx,q⟩:=q1
 cases r1
 have I4:Inv X pins σ H3 {s3 with heap:=s3.heap.push {cls:= .type "slice",data:= .fields #[.none,.none,.int (-1) t]}}:=I3.kept (t':=s3.toks) fun b ob q=>Heap.get?_push_of_some _ q
 obtain⟨its,r,ht,hz⟩:=I4.list hx
 have hlen:=r.length
 refine tail_any (ops:=[.ref a,.ref s3.heap.objs.size]) (T:="list") ht.isList.typeIs slot_list_getitem.lookup ?_ (by with_unfolding_all rfl)
 refine wpAny_getItem_list_slice ht.isList (Heap.IsSliceOf.new ..) .none .none (.int (-1) t) (by decide) ?_ (by rw[List.size_toArray]<;>lia)
 rw[cX]
 refine⟨.ref _,_,I4.laid (t':=s3.toks) (o:= .lst xs.reverse) (fun b ob q=>Heap.get?_push_of_some _ q) (Nat.le_refl _) ?_,rfl,q _ (I4.hok.fresh (Nat.le_refl _))⟩
 exact⟨by rw[List.length_reverse];exact hz,_,0,Vals.rev r,Heap.get?_push_size _ rfl⟩
theorem uh (K:PySem.W.Frag)(he:QE X e te)(h:X.K=K:=by rfl):QE X (.Subscript e (.Slice none none (some (.UnaryOp .USub (.Constant (.int 1) j p3) p4)) p2) pos) (qp K te):=⟨h▸rF he.r⟩
end
section
variable {X:Cx} {pins:List (Addr×Obj)} {σ:St} {H:Hp} {s:Shared} {h':Heap}
end
section
variable {X:Cx}
end
section
variable {K:PySem.W.Frag} {H:Hp} {Q:VK}
end
end L2
set_option Elab.async false
set_option linter.all false
set_option maxRecDepth 100000
set_option maxHeartbeats 4000000
namespace L2
open PySem PySem.Spec PyProof.Rows
open PySem.AutoSeq1 (wpAny_loadPart')
abbrev V2 (ss:List Str):List (List Nat):=ss.map (·.cps.toList)
theorem eX {ss ts:List Str}(h:V2 ss=V2 ts):ss=ts:=by
 induction ss generalizing ts with
 |nil=>cases ts with
  |nil=>rfl
  |cons _ _=>cases h
 |cons a r ih=>cases ts with
  |nil=>cases h
  |cons b t=>rw[O5 (List.cons.inj h).1,ih (List.cons.inj h).2]
theorem zd {a b:Str}{ss ts:List Str}:decide (V2 (a::ss)<V2 (b::ts))=if a=b then decide (V2 ss<V2 ts) else decide (a.cps.toList<b.cps.toList):=by
 by_cases e:a=b
 ·rw[if_pos e,Bool.eq_iff_iff,decide_eq_true_eq,decide_eq_true_eq]
  show a.cps.toList::V2 ss<b.cps.toList::V2 ts↔_
  rw[List.cons_lt_cons_iff,e]
  exact⟨fun z=>z.elim (fun z=>absurd z (List.lt_irrefl _)) (fun z=>z.2),fun z=> .inr ⟨rfl,z⟩⟩
 ·rw[if_neg e,Bool.eq_iff_iff,decide_eq_true_eq,decide_eq_true_eq]
  show a.cps.toList::V2 ss<b.cps.toList::V2 ts↔_
  rw[List.cons_lt_cons_iff]
  exact⟨fun z=>z.elim id (fun z=>absurd (O5 z.1) e),.inl⟩
theorem bU {a b:List Str}(h:a.map V.str=b.map V.str):a=b:=by
 induction a generalizing b with
 |nil=>cases b with
  |nil=>rfl
  |cons _ _=>cases h
 |cons x r ih=>cases b with
  |nil=>cases h
  |cons y t=>rw[V.str.inj (List.cons.inj h).1,ih (List.cons.inj h).2]
theorem vU {P:Program}{w:World}(l m:Addr)(us vs:List Value)(ss ts:List Str)(n1 n2:Nat)(d1 d2:Option Addr)(s1 s2:Array (Option Value))(r1:Vals (ss.map V.str) us)(r2:Vals (ts.map V.str) vs):
  MeetsIn P w (Builtin.«tuple.__lt__» ⟨[.ref l,.ref m],[]⟩) (fun A R s=>
   s.heap.get? l=some {cls:= .type "tuple",dict:=d1,data:= .seq us.toArray n1,slots:=s1}∧s.heap.get? m=some {cls:= .type "tuple",dict:=d2,data:= .seq vs.toArray n2,slots:=s2}∧
   R (.ok (.ret (.bool (decide (V2 ss<V2 ts))))) s):=
 .of_wp fun A R s hyp=>by
  obtain⟨hp,gg,dr,tk,os⟩:=s
  obtain⟨e1,e2,fin⟩:=hyp
  have sub:=AutoSeq1.sub_tuple_tuple
  have l1:=r1.length
  have l2:=r2.length
  rw[List.length_map] at l1 l2
  wp_walk using wpAny_loadPart' e1,wpAny_loadPart' e2,wpAny_forIn_list _ (fun more acc st=>acc.1=none∧st=⟨hp,gg,dr,tk,os⟩∧∃(ss' ts':List Str) (us' vs':List Value),more=us'.zip vs'∧Vals (ss'.map V.str) us'∧Vals (ts'.map V.str) vs'∧ss.length+ts'.length=ts.length+ss'.length∧
   R (.ok (.ret (.bool (decide (V2 ss'<V2 ts'))))) ⟨hp,gg,dr,tk,os⟩) _
  case turn=>
   rintro⟨y,x⟩ more acc st ⟨ha,rfl,ss',ts',us',vs',hm,q1,q2,hl,hR⟩
   cases us' with
   |nil=>cases hm
   |cons u us'=>cases vs' with
   |nil=>cases hm
   |cons v vs'=>cases ss' with
   |nil=>cases q1
   |cons a ss'=>cases ts' with
   |nil=>cases q2
   |cons b ts'=>
    cases q1 with
    |cons ru q1=>
    cases q2 with
    |cons rv q2=>
    rw[List.zip_cons_cons] at hm
    injection hm with h1 h2
    cases h1
    obtain⟨t1,rfl⟩:=(show ∃t,y=Value.str a t from ru)
    obtain⟨t2,rfl⟩:=(show ∃t,x=Value.str b t from rv)
    rw[zd] at hR
    refine wpAny_bind (EqP.of (E8 (show RelV (.str a) _ from⟨t1,rfl⟩) (show RelV (.str b) _ from⟨t2,rfl⟩) rfl rfl) _ _ ?_)
    by_cases e:a=b
    ·rw[if_pos e] at hR
     rw[show N6 (.str a) (.str b)=true by rw[e];exact Z2 rfl]
     wp_walk
     exact⟨rfl,rfl,ss',ts',us',vs',h2,q1,q2,by rw[List.length_cons,List.length_cons] at hl;lia,hR⟩
    ·rw[if_neg e] at hR
     rw[show N6 (.str a) (.str b)=false by show(a==b)=false;simpa using e]
     refine(show wpAny _ _ (rule "tuple.compare.by-the-first-pair-that-differs">>=_) _ _ _ from wpAny_bind (wpAny_rule (wpAny_bind (richCompare_gives (op:= .Lt) (typeIs_str _ _ _) (typeIs_str _ _ _) F.slot_str_lt F.entry_str_lt (F.args_str_lt_2 _ _) (gives_str_lt _ _ _ _) (fun e=>nomatch e) ?_))))
     show wpAny _ _ _ _ _ _
     wp_walk
     exact⟨_,rfl,hR⟩
  case fin=>
   rintro⟨c1,c2⟩ st ⟨ha,rfl,ss',ts',us',vs',hm,q1,q2,hl,hR⟩
   simp only at ha
   subst ha
   have e:decide (us.toArray.size<vs.toArray.size)=decide (V2 ss'<V2 ts'):=by
    have k1:=q1.length
    have k2:=q2.length
    rw[List.length_map] at k1 k2
    have z:us'=[]∨vs'=[]:=by
     cases us' with
     |nil=>exact .inl rfl
     |cons _ _=>cases vs' with
      |nil=>exact .inr rfl
      |cons _ _=>cases hm
    rw[List.size_toArray,List.size_toArray,Bool.eq_iff_iff,decide_eq_true_eq,decide_eq_true_eq]
    rcases z with rfl|rfl
    ·have e1:ss'=[]:=List.eq_nil_of_length_eq_zero k1
     subst e1
     cases ts' with
     |nil=>exact⟨fun z=>absurd z (by simp at hl;lia),fun z=>absurd z (List.lt_irrefl _)⟩
     |cons b r=>exact⟨fun _=>List.nil_lt_cons _ _,fun _=>by simp at hl;lia⟩
    ·have e1:ts'=[]:=List.eq_nil_of_length_eq_zero k2
     subst e1
     exact⟨fun z=>absurd z (by simp at hl;lia),fun z=>absurd z (List.not_lt_nil _)⟩
   rw[←e] at hR
   wp_walk
   exact⟨_,rfl,by simpa [Builtin.Tuple.tupleCompareSizes] using hR⟩
  case h=>
   exact⟨rfl,rfl,ss,ts,us,vs,by simp,r1,r2,by lia,fin⟩
abbrev NT:=Str×List Str×List Str
abbrev qH:=List (List (List Nat))
def T6 (t:NT):qH:=[[t.1.cps.toList],V2 t.2.1,V2 t.2.2]
theorem qT {a b:NT}(h:T6 a=T6 b):a=b:=by
 obtain⟨a1,a2,a3⟩:=a
 obtain⟨b1,b2,b3⟩:=b
 have h1:=(List.cons.inj (List.cons.inj h).1).1
 have h2:=(List.cons.inj (List.cons.inj h).2).1
 have h3:=(List.cons.inj (List.cons.inj (List.cons.inj h).2).2).1
 have e1:a1=b1:=O5 h1
 have e2:a2=b2:=eX h2
 have e3:a3=b3:=eX h3
 rw[e1,e2,e3]
theorem yf {a b c:qH}(h1:a<b)(h2:¬c<b):a<c:=Decidable.byContradiction fun z=>h2 (List.lt_of_le_of_lt (List.not_lt.mp z) h1)
theorem rZ {a b:qH}(h1:¬a<b)(h2:¬b<a):a=b:=List.le_antisymm (List.not_lt.mp h2) (List.not_lt.mp h1)
def xO (ks:List qH)(k:qH):Int:=(ks.countP (fun x=>decide (x<k)):Nat)
theorem pJ {ks:List qH}{a b:qH}(ha:a∈ks):decide (xO ks a<xO ks b)=decide (a<b):=by
 rw[Bool.eq_iff_iff,decide_eq_true_eq,decide_eq_true_eq]
 unfold xO
 constructor
 ·intro h
  by_cases z:a<b
  ·exact z
  ·exfalso
   have le:ks.countP (fun x=>decide (x<b))≤ks.countP (fun x=>decide (x<a)):=List.countP_mono_left fun x _ hx=>by
    rw[decide_eq_true_eq] at hx⊢
    exact yf hx z
   lia
 ·intro h
  have lt:ks.countP (fun x=>decide (x<a))<ks.countP (fun x=>decide (x<b)):=aB (fun x _ hx=>by
   rw[decide_eq_true_eq] at hx⊢
   exact List.lt_trans hx h) ⟨a,ha,decide_eq_true h,decide_eq_false (List.lt_irrefl a)⟩
  lia
theorem vX {ks:List qH}{a b:qH}(hb:b∈ks)(h:xO ks a≤xO ks b):¬b<a:=fun z=>by
 have e:=pJ (ks:=ks) (b:=a) hb
 rw[decide_eq_true z] at e
 have:=of_decide_eq_true e
 lia
structure xP (h:Heap) (a:Addr) (t:NT):Prop where
 at_:∃(o i:Addr) (tk:Tok) (us vs:List Value),h.IsTuple a #[.str t.1 tk,.ref o,.ref i]∧h.IsTuple o us.toArray∧Vals (t.2.1.map V.str) us∧h.IsTuple i vs.toArray∧Vals (t.2.2.map V.str) vs
section
variable {P:Program} {w:World} {A:Around} {E:Value→Shared→Prop} {s:Shared}
theorem kI {o o':Addr}{ss ts:List Str}{us vs:List Value}(h:s.heap.IsTuple o us.toArray)(r:Vals (ss.map V.str) us)(h':s.heap.IsTuple o' vs.toArray)(r':Vals (ts.map V.str) vs)(hu:A.units+8<cLine):EqP P w A s (.ref o) (.ref o') (decide (ss=ts)):=by
 have fl:∀l:List Str,(l.map V.str).all p5=true:=fun l=>by rw[List.all_map];exact List.all_eq_true.mpr fun _ _=>rfl
 have ev:∀a b:List Str,E3 (a.map V.str) (b.map V.str)=decide (a=b):=fun a=>by
  induction a with
  |nil=>intro b;cases b<;>rfl
  |cons x r ih=>intro b;cases b with
   |nil=>rfl
   |cons y t=>
    show(x==y&&E3 (r.map V.str) (t.map V.str))=_
    rw[ih,Bool.eq_iff_iff]
    simp
 by_cases e:o=o'
 ·subst e
  have:us=vs:=by
   obtain⟨p,e1,_,n1,d1⟩:=h
   obtain⟨p',e2,_,n2,d2⟩:=h'
   rw[e1] at e2
   cases e2
   rw[d1] at d2
   cases d2
   rfl
  subst this
  have z:=G8 r r'
  have z2:ss=ts:=bU z
  rw[decide_eq_true z2]
  exact EqP.of (SeqAt.EqAt.same _)
 ·have l1:=r.length
  have l2:=r'.length
  rw[List.length_map] at l1 l2
  have q:=SeqAt.RcAt.tuples (A:=A) (e:=fun j=>N6 ((ss.map V.str).getD j .non) ((ts.map V.str).getD j .non)) h h' (by lia) fun j g1 g2=>by
   have g1':j<us.length:=by simpa using g1
   have g2':j<vs.length:=by simpa using g2
   obtain⟨u1,hu1,ru1⟩:=r.get (i:=j) (x:= .str (ss[j]'(by lia))) (by rw[List.getElem?_map,List.getElem?_eq_getElem (show j<ss.length by lia)];rfl)
   obtain⟨u2,hu2,ru2⟩:=r'.get (i:=j) (x:= .str (ts[j]'(by lia))) (by rw[List.getElem?_map,List.getElem?_eq_getElem (show j<ts.length by lia)];rfl)
   have e1:us.toArray[j]=u1:=by
    have:=List.getElem?_eq_getElem g1'
    rw[hu1] at this
    simpa using(Option.some.inj this).symm
   have e2:vs.toArray[j]=u2:=by
    have:=List.getElem?_eq_getElem g2'
    rw[hu2] at this
    simpa using(Option.some.inj this).symm
   rw[e1,e2]
   have d1:(ss.map V.str).getD j .non= .str (ss[j]'(by lia)):=by rw[List.getD_eq_getElem?_getD,List.getElem?_map,List.getElem?_eq_getElem (show j<ss.length by lia)];rfl
   have d2:(ts.map V.str).getD j .non= .str (ts[j]'(by lia)):=by rw[List.getD_eq_getElem?_getD,List.getElem?_map,List.getElem?_eq_getElem (show j<ts.length by lia)];rfl
   rw[d1,d2]
   exact E8 ru1 ru2 rfl rfl
  have e3:us.toArray.size=(ss.map V.str).length:=by simp [l1]
  have e4:vs.toArray.size=(ts.map V.str).length:=by simp [l2]
  rw[e3,e4,B8,ev] at q
  exact EqP.of (.of_refs e q)
theorem lg {o o':Addr}{ss ts:List Str}{us vs:List Value}{Q:Bool→Shared→Prop}(h:s.heap.IsTuple o us.toArray)(r:Vals (ss.map V.str) us)(h':s.heap.IsTuple o' vs.toArray)(r':Vals (ts.map V.str) vs)(hu:A.units+8<cLine)(q:Q (decide (V2 ss<V2 ts)) s):wpAny (model P w) A (oneLt' false (.ref o) (.ref o')) Q E s:=by
 obtain⟨⟨c1,d1,a1,s1⟩,o1,k1,n1,w1⟩:=id h
 obtain⟨⟨c2,d2,a2,s2⟩,o2,k2,n2,w2⟩:=id h'
 simp only at k1 w1 k2 w2
 subst k1 w1 k2 w2
 rw[oneLt'_eq]
 simp only[Bool.false_eq_true,if_false]
 refine wpAny_bind (wpAny_richCompare_same_room (op:= .Lt) ⟨_,o1,rfl⟩ ⟨_,o2,rfl⟩ PySem.F.slot_tuple_lt (call_meetsIn PySem.F.slot_tuple_lt ⟨_,o1,rfl⟩ PySem.F.entry_tuple_lt (PySem.F.args_tuple_lt_2 _ _) (vU o o' us vs ss ts n1 n2 d1 d2 s1 s2 r r') ⟨o1,o2,?_⟩) (by lia))
 exact⟨(fun z=>nomatch z),wpAny_truthy_bool q⟩
theorem sW {a b:Addr}{x y:NT}{Q:Bool→Shared→Prop}(ha:xP s.heap a x)(hb:xP s.heap b y)(hu:A.units+8<cLine)(q:Q (decide (T6 x<T6 y)) s):wpAny (model P w) A (keyLt' (tuples' true) (.ref a) (.ref b)) Q E s:=by
 obtain⟨x1,x2,x3⟩:=x
 obtain⟨y1,y2,y3⟩:=y
 obtain⟨o,i,tk,us,vs,h1,h2,h3,h4,h5⟩:=ha.at_
 obtain⟨o',i',tk',us',vs',g1,g2,g3,g4,g5⟩:=hb.at_
 have kk:decide (T6 (x1,x2,x3)<T6 (y1,y2,y3))=if x1=y1 then(if x2=y2 then(if x3=y3 then false else decide (V2 x3<V2 y3)) else decide (V2 x2<V2 y2)) else decide (x1.cps.toList<y1.cps.toList):=by
  have k0:T6 (x1,x2,x3)<T6 (y1,y2,y3)↔[x1.cps.toList]<[y1.cps.toList]∨[x1.cps.toList]=[y1.cps.toList]∧(V2 x2<V2 y2∨V2 x2=V2 y2∧(V2 x3<V2 y3∨V2 x3=V2 y3∧([]:qH)<[])):=List.cons_lt_cons_iff.trans (or_congr Iff.rfl (and_congr Iff.rfl (List.cons_lt_cons_iff.trans (or_congr Iff.rfl (and_congr Iff.rfl List.cons_lt_cons_iff)))))
  have f:([x1.cps.toList]:List (List Nat))<[y1.cps.toList]↔x1.cps.toList<y1.cps.toList:=List.cons_lt_cons_iff.trans ⟨fun z=>z.elim id fun z=>absurd z.2 (List.lt_irrefl _),.inl⟩
  rw[Bool.eq_iff_iff,decide_eq_true_eq,k0,f]
  by_cases e1:x1=y1
  ·subst e1
   rw[if_pos rfl]
   by_cases e2:x2=y2
   ·subst e2
    rw[if_pos rfl]
    by_cases e3:x3=y3
    ·subst e3
     rw[if_pos rfl]
     refine⟨fun z=>?_,fun z=>(nomatch z)⟩
     rcases z with z|⟨_,z|⟨_,z|⟨_,z⟩⟩⟩<;>exact absurd z (List.lt_irrefl _)
    ·rw[if_neg e3,decide_eq_true_eq]
     refine⟨fun z=>?_,fun z=> .inr ⟨rfl,.inr ⟨rfl,.inl z⟩⟩⟩
     rcases z with z|⟨_,z|⟨_,z|⟨z,_⟩⟩⟩
     ·exact absurd z (List.lt_irrefl _)
     ·exact absurd z (List.lt_irrefl _)
     ·exact z
     ·exact absurd (eX z) e3
   ·rw[if_neg e2,decide_eq_true_eq]
    refine⟨fun z=>?_,fun z=> .inr ⟨rfl,.inl z⟩⟩
    rcases z with z|⟨_,z|⟨z,_⟩⟩
    ·exact absurd z (List.lt_irrefl _)
    ·exact z
    ·exact absurd (eX z) e2
  ·rw[if_neg e1,decide_eq_true_eq]
   refine⟨fun z=>?_,fun z=> .inl z⟩
   rcases z with z|⟨z,_⟩
   ·exact z
   ·exact absurd (O5 (List.cons.inj z).1) e1
 rw[kk] at q
 rw[dq]
 obtain⟨p1,e1,_,n1,d1⟩:=id h1
 obtain⟨p2,e2,_,n2,d2⟩:=id g1
 refine wpAny_bind (listItems_at e1 d1 (wpAny_bind (listItems_at e2 d2 (wpAny_bind ?_))))
 show wpAny (model P w) A (forIn [((Value.str x1 tk,Value.str y1 tk'),0),((Value.ref o,Value.ref o'),1),((Value.ref i,Value.ref i'),2)] ((none:Option Bool),()) (dP true)) _ E s
 rw[List.forIn_cons]
 refine wpAny_bind (wpAny_bind (EqP.of (E8 (show RelV (.str x1) _ from⟨tk,rfl⟩) (show RelV (.str y1) _ from⟨tk',rfl⟩) rfl rfl) _ _ ?_))
 by_cases f1:x1=y1
 ·rw[show N6 (.str x1) (.str y1)=true by rw[f1];exact Z2 rfl]
  refine wpAny_pure ?_
  rw[if_pos f1] at q
  show wpAny (model P w) A (forIn [((Value.ref o,Value.ref o'),1),((Value.ref i,Value.ref i'),2)] ((none:Option Bool),()) (dP true)) _ E s
  rw[List.forIn_cons]
  refine wpAny_bind (wpAny_bind (kI h2 h3 g2 g3 hu _ _ ?_))
  by_cases f2:x2=y2
  ·rw[decide_eq_true f2]
   refine wpAny_pure ?_
   rw[if_pos f2] at q
   show wpAny (model P w) A (forIn [((Value.ref i,Value.ref i'),2)] ((none:Option Bool),()) (dP true)) _ E s
   rw[List.forIn_cons]
   refine wpAny_bind (wpAny_bind (kI h4 h5 g4 g5 hu _ _ ?_))
   by_cases f3:x3=y3
   ·rw[decide_eq_true f3]
    rw[if_pos f3] at q
    refine wpAny_pure ?_
    show wpAny (model P w) A (forIn [] _ _) _ E s
    rw[List.forIn_nil]
    exact wpAny_pure (wpAny_pure q)
   ·rw[decide_eq_false f3]
    rw[if_neg f3] at q
    show wpAny _ _ (oneLt' false (.ref i) (.ref i')>>=fun z=>pure (ForInStep.done (some z,()))) _ _ s
    exact wpAny_bind (lg h4 h5 g4 g5 hu (wpAny_pure (wpAny_pure (wpAny_pure q))))
  ·rw[decide_eq_false f2]
   rw[if_neg f2] at q
   show wpAny _ _ (oneLt' false (.ref o) (.ref o')>>=fun z=>pure (ForInStep.done (some z,()))) _ _ s
   exact wpAny_bind (lg h2 h3 g2 g3 hu (wpAny_pure (wpAny_pure (wpAny_pure q))))
 ·rw[show N6 (.str x1) (.str y1)=false by show(x1==y1)=false;simpa using f1]
  rw[if_neg f1] at q
  show wpAny _ _ (oneLt' true (.str x1 tk) (.str y1 tk')>>=fun z=>pure (ForInStep.done (some z,()))) _ _ s
  exact wpAny_bind (oneLt_str (wpAny_pure (wpAny_pure (wpAny_pure q))))
theorem iU {l:Addr}{vs:List Value}{kd:SortKind}{rk:Value→Int}{Q:Value→Shared→Prop}(hl:s.heap.IsList l vs.toArray)(h64:vs.length<64)
  (hk:2≤vs.length→∀h6:Heap,(∀b o,s.heap.get? b=some o→h6.get? b=some o)→(∀(A':Around) (E':Value→Shared→Prop) (Q':SortKind→Shared→Prop),Q' kd {s with heap:=h6}→wpAny (model P w) A' (keyKind' vs.toArray) Q' E' {s with heap:=h6})∧∀A':Around,A'.units≤A.units+4→bh P w A' {s with heap:=h6} rk kd (pairsOf vs))
  (h:∀out:Array Value,out.toList.Perm vs→(∀(i j:Nat) (u v:Value),i≤j→out[i]?=some u→out[j]?=some v→rk u≤rk v)→Q (.ref (s.heap.objs.size+1)) {s with heap:=sortedAll s.heap vs out}):
  wpAny (model P w) A (call (.builtin "sorted") [.ref l]) Q E s:=by
 have h64':(64:Nat)≤sizeLine:=by decide
 refine Calls.call_function_entry kind_sorted plain_sorted entry_sorted (args_sorted1 _) ?_
 unfold Builtin.«sorted»
 refine wpAny_bind (m:=checkCount "sorted" 1 1 _) (wpAny_pure (wpAny_bind (collect_list hl ?_)))
 refine wpAny_bind (wpAny_newList ?_)
 obtain⟨h1,e1⟩:∃h1:Heap,h1=(s.heap.push (seqObj "list" #[] 0)).update s.heap.objs.size (Obj.mapSeq (·++vs.toArray)):=⟨_,rfl⟩
 have sz:h1.objs.size=s.heap.objs.size+1:=by rw[e1,Heap.size_update,size_push']
 have old:∀b o,s.heap.get? b=some o→h1.get? b=some o:=fun b o e=>by
  rw[e1,Heap.get?_update_ne _ _ _ _ (Nat.ne_of_lt (Heap.lt_size e))]
  exact Heap.get?_push_of_some _ e
 obtain⟨h2,e2⟩:∃h2:Heap,h2=h1.push (seqObj "list" vs.toArray 0):=⟨_,rfl⟩
 have o2:h2.get? (s.heap.objs.size+1)=some (seqObj "list" vs.toArray 0):=by rw[e2,←sz];exact Heap.get?_push_size _ rfl
 show wpAny _ _ _ _ _ {s with heap:=((s.heap.push (seqObj "list" #[] 0)).update s.heap.objs.size (Obj.mapSeq (·++vs.toArray))).push (seqObj "list" vs.toArray 0)}
 rw[←e1,sz]
 have h':∀out:Array Value,out.toList.Perm vs→(∀(i j:Nat) (u v:Value),i≤j→out[i]?=some u→out[j]?=some v→rk u≤rk v)→Q (.ref (s.heap.objs.size+1)) {s with heap:=sortedHeap h2 (s.heap.objs.size+1) vs out}:=fun out p1 p2=>by
  have z:=h out p1 p2
  unfold sortedAll at z
  rw[←e1,←e2] at z
  exact z
 rw[←e2]
 refine wpAny_bind (wpAny_holding (wpAny_call_entry slot_list_sort ⟨_,o2,rfl⟩ entry_list_sort (jQ (s:={s with heap:=h2}) (kd:=kd) (rk:=rk) o2 h64 (fun g2 h6 e6=>?_) fun out p1 p2=>⟨_,rfl,?_⟩) (args_list_sort _)))
 ·have keep:∀b o,s.heap.get? b=some o→h6.get? b=some o:=fun b o e=>by
   have lt:=Heap.lt_size e
   rw[e6]
   refine Heap.get?_push_of_some _ (Heap.get?_push_of_some _ ?_)
   show(h2.update (s.heap.objs.size+1) _).get? b=some o
   rw[Heap.get?_update_ne _ _ _ _ (Nat.ne_of_lt (Nat.lt_succ_of_lt lt)),e2]
   exact Heap.get?_push_of_some _ (old b o e)
  exact⟨(hk g2 h6 keep).1 _ _,(hk g2 h6 keep).2 _ (by simp only[Around.in1_units];lia)⟩
 ·exact wpAny_pure ⟨_,rfl,h' out p1 p2⟩
end
section
variable {X:Cx}
def fV (K:PySem.W.Frag):List V→Hp→VK→Prop:=fun xs H Q=>∃(p:Addr) (ts:List (Addr×NT)),xs=[.ref p]∧SqL K H p (ts.map fun t=>V.ref t.1)∧(∀t∈ts,∃o i:Addr,SqT K H t.1 [.str t.2.1,.ref o,.ref i]∧SqT K H o (t.2.2.1.map V.str)∧SqT K H i (t.2.2.2.map V.str))∧ts.length<64∧
 ∀ts':List (Addr×NT),ts'.Perm ts→ts'.Pairwise (fun a b=>¬T6 b.2<T6 a.2)→∀l,H l=none→Q (.ref l) (i7 H l (.lst (ts'.map fun t=>V.ref t.1)))
theorem yE {ts:List (Addr×NT)}:∀{us:List Value},Vals (ts.map fun t=>V.ref t.1) us→us=ts.map fun t=>Value.ref t.1:=by
 induction ts with
 |nil=>intro us h;cases h;rfl
 |cons t r ih=>
  intro us h
  cases h with
  |cons rx t2=>
   have e:_=Value.ref t.1:=rx
   rw[e,ih t2];rfl
theorem zw:∀ts:List (Addr×NT),Vals (ts.map fun t=>V.ref t.1) (ts.map fun t=>Value.ref t.1):=by
 intro ts
 induction ts with
 |nil=>exact .nil
 |cons t r ih=>exact .cons rfl ih
theorem fO (hu:X.A.units+64<cLine):CallR X (.builtin "sorted") (fV X.K):=by
 intro pins s σ H xs us Q I r h
 obtain⟨p,ts,rfl,hx,htup,h64,q⟩:=h
 obtain⟨u,rfl,ru⟩:=D4 r
 cases ru
 have h64':(64:Nat)≤sizeLine:=by decide
 obtain⟨its,rv,ht,hz⟩:=I.list hx
 have ei:=yE rv
 subst ei
 have at0:∀t∈ts,xP s.heap t.1 t.2:=fun t hm=>by
  obtain⟨o,i,h1,h2,h3⟩:=htup t hm
  obtain⟨us1,r1,p1,_⟩:=I.tuple h1
  obtain⟨us2,r2,p2,_⟩:=I.tuple h2
  obtain⟨us3,r3,p3,_⟩:=I.tuple h3
  cases r1 with
  |cons ra r1=>cases r1 with
   |cons rb r1=>cases r1 with
    |cons rc r1=>
     cases r1
     obtain⟨tk,rfl⟩:=(show ∃tk,_=Value.str t.2.1 tk from ra)
     have eb:_=Value.ref o:=rb
     have ec:_=Value.ref i:=rc
     subst eb ec
     exact⟨o,i,tk,us2,us3,p1,p2,r2,p3,r3⟩
 have keepN:∀(h6:Heap),(∀b o,s.heap.get? b=some o→h6.get? b=some o)→∀t∈ts,xP h6 t.1 t.2:=fun h6 keep t hm=>by
  obtain⟨o,i,tk,us,vs,g1,g2,g3,g4,g5⟩:=(at0 t hm).at_
  have kp:∀{a:Addr} {xs:Array Value},s.heap.IsTuple a xs→h6.IsTuple a xs:=fun⟨o,e,hc,n,d⟩=>⟨o,keep _ _ e,hc,n,d⟩
  exact⟨o,i,tk,us,vs,kp g1,kp g2,g3,kp g4,g5⟩
 have tinj:∀(a:Addr) (x y:NT),xP s.heap a x→xP s.heap a y→x=y:=fun a x y hx hy=>by
  obtain⟨x1,x2,x3⟩:=x
  obtain⟨y1,y2,y3⟩:=y
  obtain⟨o,i,tk,us,vs,g1,g2,g3,g4,g5⟩:=hx.at_
  obtain⟨o',i',tk',us',vs',k1,k2,k3,k4,k5⟩:=hy.at_
  have uq:∀{a:Addr} {xs ys:Array Value},s.heap.IsTuple a xs→s.heap.IsTuple a ys→xs=ys:=fun⟨o,e,_,n,d⟩ ⟨o',e',_,n',d'⟩=>by
   rw[e] at e'
   cases e'
   rw[d] at d'
   cases d'
   rfl
  have z:=uq g1 k1
  simp only[Array.mk.injEq,List.cons.injEq,Value.str.injEq,Value.ref.injEq] at z
  obtain⟨⟨e1,_⟩,e2,e3,_⟩:=z
  subst e1 e2 e3
  have z2:=uq g2 k2
  have z3:=uq g4 k4
  have z2':us=us':=by simpa using z2
  have z3':vs=vs':=by simpa using z3
  subst z2' z3'
  have w2:x2=y2:=bU (G8 g3 k3)
  have w3:x3=y3:=bU (G8 g5 k5)
  rw[w2,w3]
 let kf:Value→qH:=fun v=>match v with
  | .ref a=>match ts.find? (fun t=>t.1==a) with
   |some t=>T6 t.2
   |none=>[]
  |_=>[]
 have kfa:∀t∈ts,kf (.ref t.1)=T6 t.2:=fun t hm=>by
  show(match ts.find? (fun t'=>t'.1==t.1) with|some t=>T6 t.2|none=>[])=_
  cases e:ts.find? (fun t'=>t'.1==t.1) with
  |none=>exact absurd (List.find?_eq_none.mp e t hm) (by simp)
  |some t'=>
   have e1:t'.1=t.1:=by simpa using List.find?_some e
   have m':=List.mem_of_find?_eq_some e
   have z:=at0 t' m'
   rw[e1] at z
   show T6 t'.2=T6 t.2
   rw[tinj _ _ _ z (at0 t hm)]
 refine iU (s:=s) (kd:=tuples' true) (rk:=fun v=>xO ((ts.map fun t=>Value.ref t.1).map kf) (kf v)) ht.isList (by rw[List.length_map];exact h64) (fun h2 h6 keep=>⟨fun A' E' Q' q'=>ke (s:={s with heap:=h6}) (by intro z;rw[z] at h2;exact absurd h2 (by decide)) (fun v hv=>?_) q',fun A' hA'=>?_⟩) fun out pm up=>?_
 ·obtain⟨t,hm,rfl⟩:=List.mem_map.mp hv
  obtain⟨o,i,tk,us,vs,g1,_⟩:=(keepN h6 keep t hm).at_
  exact⟨t.1,[.str t.2.1 tk,.ref o,.ref i],t.2.1,tk,rfl,g1,rfl⟩
 ·intro x y E' Q' hx hy q'
  have mem:∀z,(∃p∈(pairsOf (ts.map fun t=>Value.ref t.1)).toList,p.1=z)→∃t∈ts,z= .ref t.1:=fun z hz=>by
   obtain⟨p,hp,rfl⟩:=hz
   rw[pairsOf_toList] at hp
   obtain⟨t,hm,e⟩:=List.mem_map.mp (mem_zip_self hp).2
   exact⟨t,hm,e.symm⟩
  obtain⟨t,hm,rfl⟩:=mem x hx
  obtain⟨t',hm',rfl⟩:=mem y hy
  rw[pJ (List.mem_map.mpr ⟨_,List.mem_map.mpr ⟨t,hm,rfl⟩,rfl⟩),kfa t hm,kfa t' hm'] at q'
  exact sW (s:={s with heap:=h6}) (keepN h6 keep t hm) (keepN h6 keep t' hm') (by lia) q'
 ·obtain⟨ts',e',p'⟩:=aP (fun t:Addr×NT=>Value.ref t.1) pm ts rfl
  obtain⟨e,he⟩:=sortedAll_at s.heap (ts.map fun t=>Value.ref t.1) out
  have hl':=p'.length_eq
  refine⟨.ref (s.heap.objs.size+1),_,I.newL (tk:=s.toks) (fun _ _=>sortedAll_old) (Nat.le_succ _) he (by rw[e'];exact zw ts') (by rw[List.length_map];lia),rfl,q ts' p' ?_ _ (I.hok.fresh (Nat.le_succ _))⟩
  refine List.pairwise_iff_getElem.mpr fun i j hi hj hij=>?_
  have g:∀(k:Nat) (hk:k<ts'.length),out[k]?=some (Value.ref ts'[k].1):=fun k hk=>by
   rw[←Array.getElem?_toList,e',List.getElem?_map,List.getElem?_eq_getElem hk];rfl
  have z:=up i j _ _ (Nat.le_of_lt hij) (g i hi) (g j hj)
  have mi:ts'[i]∈ts:=p'.mem_iff.mp (List.getElem_mem hi)
  have mj:ts'[j]∈ts:=p'.mem_iff.mp (List.getElem_mem hj)
  have z2:=vX (List.mem_map.mpr ⟨_,List.mem_map.mpr ⟨_,mj,rfl⟩,rfl⟩) z
  rw[kfa _ mi,kfa _ mj] at z2
  exact z2
theorem oJ (K:PySem.W.Frag){k:Nat}(hr:Room k X.A)(h:X.K=K:=by rfl):CallR X (.builtin "sorted") (fV K):=h▸fO hr.units
end
end L2
set_option Elab.async false
set_option linter.all false
set_option maxRecDepth 100000
set_option maxHeartbeats 1000000
namespace K15
open PySem PySem.Spec PyProof.Rows L2
def aS (i:Nat):Stmt:=PySem.Challenge.pw_gluework_k15_likeness_found.main.body.getD i (.Pass ⟨0,0,0,0⟩)
abbrev cj:Stmt:=aS 1
theorem sc_things:i6 ["web"] ["web"] (d8 cj):=⟨rfl,rfl,rfl,by decide+kernel,rfl,by decide+kernel,by decide+kernel⟩
abbrev jk:Stmt:=aS 2
theorem sc_hold:i6 ["web","name"] ["web","name"] (d8 jk):=⟨rfl,rfl,rfl,by decide+kernel,rfl,by decide+kernel,by decide+kernel⟩
abbrev L8:Stmt:=aS 3
theorem sc_tie_renamed:i6 ["tie","names"] ["tie","names"] (d8 L8):=⟨rfl,rfl,rfl,by decide+kernel,rfl,by decide+kernel,by decide+kernel⟩
abbrev F0:Stmt:=aS 5
theorem sc_likeness:i6 ["web","other","fixed"] ["web","other","fixed"] (d8 F0):=⟨rfl,rfl,rfl,by decide+kernel,rfl,by decide+kernel,by decide+kernel⟩
abbrev ez:Stmt:=aS 6
theorem sc_looks:i6 ["web"] ["web"] (d8 ez):=⟨rfl,rfl,rfl,by decide+kernel,rfl,by decide+kernel,by decide+kernel⟩
abbrev S0:Stmt:=aS 7
theorem sc_tie_looks:i6 ["web","name","ties"] ["web","name"] (d8 S0):=⟨rfl,rfl,rfl,by decide+kernel,rfl,by decide+kernel,by decide+kernel⟩
abbrev L4:Stmt:=aS 8
theorem sc_first_found:i6 ["piece","web","piece_looks","web_looks","fixed","told"] ["piece","web","piece_looks","web_looks","fixed"] (d8 L4):=⟨rfl,rfl,rfl,by decide+kernel,rfl,by decide+kernel,by decide+kernel⟩
abbrev eR:Stmt:=aS 9
theorem sc_found:i6 ["piece","web","piece_looks","web_looks","fixed","most","told","choices","places","names"] ["piece","web","piece_looks","web_looks","fixed","most"] (d8 eR):=⟨rfl,rfl,rfl,by decide+kernel,rfl,by decide+kernel,by decide+kernel⟩
abbrev cz:Stmt:=aS 10
theorem sc_may_be:i6 ["name","image","fixed"] ["name","image","fixed"] (d8 cz):=⟨rfl,rfl,rfl,by decide+kernel,rfl,by decide+kernel,by decide+kernel⟩
abbrev F9:Stmt:=aS 11
theorem sc_point_choices:i6 ["piece_looks","web_looks","fixed","choices","name","look","alike"] ["piece_looks","web_looks","fixed"] (d8 F9):=⟨rfl,rfl,rfl,by decide+kernel,rfl,by decide+kernel,by decide+kernel⟩
abbrev O6:Stmt:=aS 12
theorem sc_tie_places:i6 ["piece","web","fixed","places","name","tie","there","image","other"] ["piece","web","fixed"] (d8 O6):=⟨rfl,rfl,rfl,by decide+kernel,rfl,by decide+kernel,by decide+kernel⟩
abbrev cf:Stmt:=aS 13
theorem sc_enough:i6 ["lists"] ["lists"] (d8 cf):=⟨rfl,rfl,rfl,by decide+kernel,rfl,by decide+kernel,by decide+kernel⟩
abbrev fu:Stmt:=aS 14
theorem sc_lines:i6 ["piece","choices","places","most","names","told","waiting","begun","image"] ["piece","choices","places","most"] (d8 fu):=⟨rfl,rfl,rfl,by decide+kernel,rfl,by decide+kernel,by decide+kernel⟩
abbrev cb:Stmt:=aS 15
theorem sc_images:i6 ["piece","choices","places","begun","names","name","put","unlike"] ["piece","choices","places","begun"] (d8 cb):=⟨rfl,rfl,rfl,by decide+kernel,rfl,by decide+kernel,by decide+kernel⟩
abbrev L6:Stmt:=aS 16
theorem sc_tie_choices:i6 ["piece","places","put","name","ends"] ["piece","places","put","name"] (d8 L6):=⟨rfl,rfl,rfl,by decide+kernel,rfl,by decide+kernel,by decide+kernel⟩
abbrev X7:Stmt:=aS 17
theorem sc_has_room:i6 ["piece","places","put","name","image","longer","due"] ["piece","places","put","name","image"] (d8 X7):=⟨rfl,rfl,rfl,by decide+kernel,rfl,by decide+kernel,by decide+kernel⟩
abbrev O4:Stmt:=aS 19
theorem sc__law_cells:i6 ["_law_script","_law_start","_law_many"] ["_law_script","_law_start","_law_many"] (d8 O4):=⟨rfl,rfl,rfl,by decide+kernel,rfl,by decide+kernel,by decide+kernel⟩
abbrev K0:Stmt:=aS 20
theorem sc__law_cell_at:i6 ["_law_script","_law_k"] ["_law_script","_law_k"] (d8 K0):=⟨rfl,rfl,rfl,by decide+kernel,rfl,by decide+kernel,by decide+kernel⟩
abbrev O0:Stmt:=aS 21
theorem sc__law_names:i6 ["_law_cell","_law_many","_law_letters","_law_size","_law_at","_law_signs","_law_names_here","_law_k","_law_name","_law_j"] ["_law_cell","_law_many"] (d8 O0):=⟨rfl,rfl,rfl,by decide+kernel,rfl,by decide+kernel,by decide+kernel⟩
abbrev O8:Stmt:=aS 22
theorem sc__law_kinds:i6 ["_law_cell","_law_letters","_law_size","_law_at","_law_kinds_here","_law_k","_law_kind","_law_j"] ["_law_cell"] (d8 O8):=⟨rfl,rfl,rfl,by decide+kernel,rfl,by decide+kernel,by decide+kernel⟩
abbrev X8:Stmt:=aS 23
theorem sc__law_web:i6 ["_law_cells_here","_law_names_here","_law_kinds_here","_law_most","_law_points","_law_ties","_law_k","_law_cell","_law_ends","_law_start"] ["_law_cells_here","_law_names_here","_law_kinds_here","_law_most"] (d8 X8):=⟨rfl,rfl,rfl,by decide+kernel,rfl,by decide+kernel,by decide+kernel⟩
abbrev K3:Stmt:=aS 24
theorem sc__law_renamed:i6 ["_law_web_here","_law_names_here","_law_naming","_law_name","_law_new","_law_points","_law_ties","_law_tie"] ["_law_web_here","_law_names_here"] (d8 K3):=⟨rfl,rfl,rfl,by decide+kernel,rfl,by decide+kernel,by decide+kernel⟩
abbrev J0:Stmt:=aS 25
theorem sc__law_changed:i6 ["_law_web_here","_law_kinds_here","_law_cell","_law_points","_law_ties","_law_way","_law_spot","_law_name","_law_other","_law_kind","_law_start","_law_end"] ["_law_web_here","_law_kinds_here","_law_cell"] (d8 J0):=⟨rfl,rfl,rfl,by decide+kernel,rfl,by decide+kernel,by decide+kernel⟩
abbrev L7:Stmt:=aS 26
theorem sc__law_walked:i6 ["_law_web_here","_law_other","_law_found","_law_name","_law_tie"] ["_law_web_here","_law_other","_law_found"] (d8 L7):=⟨rfl,rfl,rfl,by decide+kernel,rfl,by decide+kernel,by decide+kernel⟩
abbrev J6:Stmt:=aS 27
theorem sc__law_counted:i6 ["_law_web_here","_law_found","_law_spot","_law_out","_law_into"] ["_law_web_here"] (d8 J6):=⟨rfl,rfl,rfl,by decide+kernel,rfl,by decide+kernel,by decide+kernel⟩
abbrev nN:Stmt:=aS 28
theorem sc_law:i6 ["_law_script","_law_cells_here","_law_kinds_here","_law_web_here","_law_other","_law_before","_law_changed_here","_law_found"] ["_law_script"] (d8 nN):=⟨rfl,rfl,rfl,by decide+kernel,rfl,by decide+kernel,by decide+kernel⟩
structure Txt (K:PySem.W.Frag) (mg:Str→Option Value):Prop where
 b_all:mg "all"=none
 b_dict:mg "dict"=none
 b_int:mg "int"=none
 b_isinstance:mg "isinstance"=none
 b_len:mg "len"=none
 b_list:mg "list"=none
 b_max:mg "max"=none
 b_range:mg "range"=none
 b_reversed:mg "reversed"=none
 b_sorted:mg "sorted"=none
 b_tuple:mg "tuple"=none
 b_zip:mg "zip"=none
def ua (H:Hp)(Q:VK)(P:List Str→Prop):Prop:=∀(p:Addr) (H':Hp) (ss:List Str),H p=none→Same H H'→H' p=some (.lst (ss.map V.str))→P ss→Q (.ref p) H'
def h9 (W:x5):List Str:=W.pts.map (·.1)++W.ts.map (·.1)
structure WebIs (n:Nat) (K:PySem.W.Frag) (H:Hp) (a p q:Addr) (kvs:List (d7×V)) (W:x5):Prop where
 at_:WebAt K H a p q kvs W
 hp:H p=some (.dK (i0 W.pts))
 hq:H q=some (.dK kvs)
 ne:p≠q
 nd:(h9 W).Nodup
 len:(h9 W).length≤n
 ends:∀x∈W.ts,x.2.2.1∈W.pts.map (·.1)∧x.2.2.2∈W.pts.map (·.1)
 nl:∀x∈h9 W,x.length≤100
theorem WebIs.same {n:Nat}{K:PySem.W.Frag}{H H':Hp}{a p q:Addr}{kvs:List (d7×V)}{W:x5}(h:WebIs n K H a p q kvs W)(s:Same H H'):WebIs n K H' a p q kvs W:=⟨h.at_.mono s.le,s _ _ h.hp,s _ _ h.hq,h.ne,h.nd,h.len,h.ends,h.nl⟩
def V8 (K:PySem.W.Frag):Sp:=fun vs H Q _=>∃(a:Addr) (ns:List Int),vs=[.ref a,.int 4,.int 10]∧SqL K H a (ns.map V.int)∧ns.length≤63∧∀(p:Addr) (H':Hp) (cs:List Int),H p=none→Same H H'→H' p=some (.lst (cs.map V.int))→cs.length≤10→(∀c∈cs,0≤c)→Q (.ref p) H'
def Q1 (K:PySem.W.Frag):Sp:=fun vs H Q _=>∃(a:Addr) (ns:List Int) (k:Int),vs=[.ref a,.int k]∧SqL K H a (ns.map V.int)∧ns.length≤63∧0≤k∧∀m:Int,0≤m→Q (.int m) H
def V3 (K:PySem.W.Frag):Sp:=fun vs H Q _=>∃c n:Int,vs=[.int c,.int n]∧0≤c∧0≤n∧n≤26∧ua H Q fun ss=>ss.length=n.toNat∧ss.Nodup∧∀s∈ss,s.length≤20
def U9 (K:PySem.W.Frag):Sp:=fun vs H Q _=>∃c:Int,vs=[.int c]∧0≤c∧ua H Q fun ss=>ss.length=2
def aW (K:PySem.W.Frag):Sp:=fun vs H Q _=>∃(a b c:Addr) (cs:List Int) (ss ks:List Str),vs=[.ref a,.ref b,.ref c,.int 6]∧SqL K H a (cs.map V.int)∧SqL K H b (ss.map V.str)∧SqL K H c (ks.map V.str)∧cs.length≤10∧ss.length=10∧ks.length=2∧ss.Nodup∧(∀s∈ss,s.length≤100)∧∀(a p q:Addr) (kvs:List (d7×V)) (W:x5) (H':Hp),Same H H'→WebIs 10 K H' a p q kvs W→W.pts.length≤6→Q (.ref a) H'
local macro_rules| `(tactic|walk_at "b")=> `(tactic|(intro _ _ _ _ _ _ us hl;first|exact bn0 hl rfl|exact Bw hl fun _=>rfl|exact Bx hl fun _ _=>rfl|exact Bt hl fun _ _ _=>rfl|exact Bo hl fun _ _ _ _=>rfl|exact BA hl fun _ _ _ _ _=>rfl|exact BC hl fun _ _ _ _ _ _=>rfl))
local macro_rules| `(tactic|walk_at "E")=> `(tactic|first
 |(with_reducible (first|refine r_par ?_|refine r_raise ?_|refine r_fs ?_|refine r_callE ?_|refine zp ?_|refine wH ?_|refine Bs ?_|refine Ar ?_|refine yl ?_|refine yk ?_|refine wt ?_|refine uW ?_|refine yb ?_|refine vB ?_|refine Ag ?_|refine rM ?_|refine mK ?_|refine zM ?_|refine Aw ?_|refine wx ?_|refine yO ?_|refine zf ?_|refine xD ?_|refine Az ?_|refine zm ?_|refine yL ?_|refine ze ?_|refine Ap ?_|refine vd ?_|refine r_orV ?_|refine r_notV ?_|refine AZ ?_|refine yV ?_|refine uR ?_|refine xc ?_|refine AO ?_|refine Ba ?_|refine oU ?_|refine vf ?_|refine yD ?_|refine r_chain ?_|refine lZ ?_|refine Ak ?_|refine ou ?_|refine r_lt_str ?_|refine fZ ?_|refine r_eq_bl ?_|refine gc ?_|refine r_in_sgn ?_|refine r_notIn_sgn ?_|refine r_is ?_|refine pj ?_|refine w_eq_bl ?_|refine ag ?_|refine fT ?_|refine gJ ?_|refine sk ?_|refine gK ?_|refine fU ?_|refine ko ?_|refine gO ?_|refine yP ?_|refine r_enum2 ?_|refine vm ?_|refine r_enum ?_|refine ya ?_|refine se ?_|refine uV ?_|refine As ?_|refine yn ?_|refine r_un ?_|refine r_neg ?_|refine xT ?_|refine r_it_str ?_|refine yt ?_|refine yj ?_|refine Ah ?_|refine AB ?_|refine yh ?_|refine yR ?_))
 |((with_reducible refine' yG ?h ?_);(case h=>rfl))
 |with_reducible refine wK _ ?_
 |((with_reducible refine' mR ?c ?_);(case c=>(unfold CMul;omega)))
 |((with_reducible refine' Bp ?c ?_);(case c=>(first|omega|(dsimp only<;>omega)|(unfold CMul;omega)|(unfold yZ;omega)|(unfold xZ;decide)|exact Int.pow_pos (by decide)))))
local macro_rules| `(tactic|walk_at "R")=> `(tactic|first|with_reducible refine V4 ?_|with_reducible refine r_try ?_|walk_at "E")
local macro_rules| `(tactic|walk_at "r")=> `(tactic|repeat walk_at "R")
local macro_rules| `(tactic|walk_at "e")=> `(tactic|repeat walk_at "E")
local macro_rules| `(tactic|walk_at "l")=> `(tactic|first|exact Or.inl rfl|exact Or.inr rfl)
section
variable {P:Program} {w:World} {K:PySem.W.Frag} {mg:Str→Option Value} {base:Heap}
def lI (i:Int):Nat:=("abcdefghijklmnopqrstuvwxyz":Str).cps.toList.getD i.toNat 0
theorem pq (i:Int)(h0:0≤i)(h1:i<26):kl ("abcdefghijklmnopqrstuvwxyz":Str).cps.toList i=some (lI i):=by
 have hl:("abcdefghijklmnopqrstuvwxyz":Str).cps.toList.length=26:=by decide+kernel
 obtain⟨v,hv,hv2⟩:=eF (xs:=("abcdefghijklmnopqrstuvwxyz":Str).cps.toList) h0 (by rw[hl];exact h1)
 rw[hv]
 unfold lI
 rw[List.getD_eq_getElem?_getD,hv2];rfl
theorem hU {f:Nat→Str}:∀{n:Nat},(∀i j,i<n→j<n→f i=f j→i=j)→((List.range n).map f).Nodup
 |0,_=>List.nodup_nil
 |n+1,h=>by
  rw[List.range_succ,List.map_append]
  refine bG (hU fun i j hi hj=>h i j (by omega) (by omega)) fun m=>?_
  obtain⟨i,hi,e⟩:=List.mem_map.mp m
  have hi':=List.mem_range.mp hi
  have z:=h i n (by omega) (by omega) e
  omega
theorem dJ:("abcdefghijklmnopqrstuvwxyz":Str).length≤sizeLine:=by decide+kernel
abbrev kSL:Str:="abcdefghijklmnopqrstuvwxyz"
theorem bX (ss:List Str):(ss.map V.str).all p5=true:=by
 rw[List.all_map,List.all_eq_true];intro _ _;rfl
theorem K8 {K:PySem.W.Frag}{H:Hp}{d:Addr}{k1 k2 kv:_}{x:Str×B6}(h:H d=some (.dK k1))(t:TieAt K H kv x):TieAt K (i7 H d (.dK k2)) kv x:=by
 obtain⟨e,a,ea,s⟩:=t
 refine⟨e,a,ea,?_⟩
 rcases s with s|s
 ·refine .inl ?_
  by_cases z:a=d
  ·subst z
   rcases s with s|⟨_,s⟩<;>(rw[h] at s;cases s)
  ·unfold Rd
   rw[b0 z];exact s
 ·exact .inr s
theorem y9 {H H1:Hp}{d:Addr}{o:HO}(s:Same H H1)(h:H d=none):Same H (i7 H1 d o):=fun b u e=>by
 rw[b0 (d0 e h)];exact s _ _ e
theorem x6 {ss:List Str}{i:Int}(h0:0≤i)(h1:i<ss.length):∃x,kl (ss.map V.str) i=some (.str x)∧x∈ss:=by
 obtain⟨v,hv,hv2⟩:=eF (xs:=ss.map V.str) h0 (by rw[List.length_map];exact h1)
 rw[List.getElem?_map] at hv2
 obtain⟨x,hx,e⟩:=Option.map_eq_some_iff.mp hv2
 exact⟨x,by rw[hv,e],List.mem_of_getElem? hx⟩
theorem x8 {α:Type}(l:List (Str×α)):(l.map (·.1)).map (Sum.inr:Str→d7)=l.map fun x=>Sum.inr x.1:=by rw[List.map_map];rfl
theorem G7 {l:List Str}{n:Str}(h:(Sum.inr n:d7)∈l.map (Sum.inr:Str→d7)):n∈l:=by
 obtain⟨x,hx,e⟩:=List.mem_map.mp h
 rw[←Sum.inr.inj e];exact hx
theorem A7 {kvs:List (d7×V)}{k:d7}(h:k∉kvs.map (·.1)):i9 kvs k=none:=by
 cases e:i9 kvs k with
 |none=>rfl
 |some v=>exact absurd (kS e) h
theorem oQ {a:List (Str×Str)}{b:List (Str×B6)}{n:Str}{t:B6}(h:(a.map (·.1)++b.map (·.1)).Nodup)(f:n∉a.map (·.1)++b.map (·.1)):(a.map (·.1)++(b++[(n,t)]).map (·.1)).Nodup:=by
 rw[List.map_append,←List.append_assoc];exact bG h f
theorem eL {a:List (Str×Str)}{b:List (Str×B6)}{n s:Str}(h:(a.map (·.1)++b.map (·.1)).Nodup)(f:n∉a.map (·.1)++b.map (·.1)):((a++[(n,s)]).map (·.1)++b.map (·.1)).Nodup:=by
 have z:=bG h f
 refine(List.Perm.nodup_iff ?_).mpr z
 rw[List.map_append,List.append_assoc,List.append_assoc]
 exact List.Perm.append_left _ List.perm_append_comm
theorem kH {a:List (Str×Str)}{b:List (Str×B6)}{n:Str}{t:B6}{l:List Str}(h:∀x∈a.map (·.1)++b.map (·.1),x∈l)(f:n∈l):∀x∈a.map (·.1)++(b++[(n,t)]).map (·.1),x∈l:=by
 intro x hx
 rw[List.map_append,←List.append_assoc] at hx
 rcases List.mem_append.mp hx with h'|h'
 ·exact h x h'
 ·have:x=n:=by simpa using h'
  rw[this];exact f
theorem kN {a:List (Str×Str)}{b:List (Str×B6)}{n s:Str}{l:List Str}(h:∀x∈a.map (·.1)++b.map (·.1),x∈l)(f:n∈l):∀x∈(a++[(n,s)]).map (·.1)++b.map (·.1),x∈l:=by
 intro x hx
 rw[List.map_append,List.append_assoc] at hx
 rcases List.mem_append.mp hx with h'|h'
 ·exact h x (List.mem_append_left _ h')
 ·rcases List.mem_append.mp h' with h2|h2
  ·have:x=n:=by simpa using h2
   rw[this];exact f
  ·exact h x (List.mem_append_right _ h2)
theorem j0 {α β:Type}{F:α→β→Prop}:∀{l:List α} {m:List β} {a:α} {b:β},Paired F l m→F a b→Paired F (l++[a]) (m++[b])
 |_,_,_,_,.nil,h=> .cons h .nil
 |_,_,_,_,.cons r t,h=> .cons r (j0 t h)
theorem eO:∀{kvs:List (d7×V)} {kv:d7×V},(kvs.map (·.1)).Nodup→kv∈kvs→i9 kvs kv.1=some kv.2
 |p::r,kv,nd,h=>by
  have nd':=List.nodup_cons.mp (show(p.1::r.map (·.1)).Nodup from nd)
  rcases List.mem_cons.mp h with z|z
  ·rw[z];exact u5 rfl
  ·rw[u4 fun e=>nd'.1 (by rw[e];exact List.mem_map.mpr ⟨kv,z,rfl⟩)]
   exact eO nd'.2 z
theorem hE:∀{r a:List (d7×V)},((a++r).map (·.1)).Nodup→r.foldl (fun a x=>z0 a x.1 x.2) a=a++r
 |[],a,_=>by simp
 |p::r,a,nd=>by
  rw[List.foldl_cons]
  have nd':((a++[p]++r).map (·.1)).Nodup:=by rw[List.append_assoc];exact nd
  have hf:p.1∉a.map (·.1):=fun m=>by
   rw[List.map_append] at nd
   exact(List.nodup_append.mp nd).2.2 p.1 m p.1 (by simp) rfl
  rw[D7 p.2 (A7 hf),hE (r:=r) (a:=a++[(p.1,p.2)]) nd',List.append_assoc];rfl
theorem gU {kvs:List (d7×V)}(nd:(kvs.map (·.1)).Nodup):P5 kvs=kvs:=by
 unfold P5
 rw[hE (by simpa using nd)];rfl
theorem PrV.mono {K:PySem.W.Frag}{H H':Hp}{x:V}{kv:d7×V}(l:Le H H')(h:PrV K H x kv):PrV K H' x kv:=let ⟨t,e,s⟩:=h;⟨t,e,l.tup s⟩
theorem q9 (pts:List (Str×Str)):(i0 pts).length=pts.length:=by unfold i0;rw[List.length_map]
theorem eU {pts:List (Str×Str)}{i:Nat}{kv:d7×V}(h:(i0 pts)[i]?=some kv):∃x,pts[i]?=some x∧kv=(Sum.inr x.1,.str x.2):=by
 unfold i0 at h
 rw[List.getElem?_map] at h
 obtain⟨x,hx,e⟩:=Option.map_eq_some_iff.mp h
 exact⟨x,hx,e.symm⟩
theorem S9 {D d:Addr}{kvs:List (d7×V)}{o:Obj}{u:HO}{H H1:Hp}(h:H d=some (.dK kvs))(s:Same (B1 d o kvs H) H1)(hD:H1 D=none):Same H (thaw d (i7 H1 D u)):=
 Same.thaw h fun b v z=>by rw[b0 (d0 (s _ _ z) hD)];exact s _ _ z
theorem bS {D d:Addr}{kvs:List (d7×V)}{o:Obj}{u:HO}{H H1:Hp}(s:Same (B1 d o kvs H) H1)(hD:H1 D=none):(thaw d (i7 H1 D u)) D=some u:=by
 have hDq:D≠d:=fun z=>by rw[z,s _ _ c9] at hD;cases hD
 rw[G6 hDq,c9]
theorem oI {D d:Addr}{u:HO}{H1:Hp}(hD:H1 D=none):Le H1 (thaw d (i7 H1 D u)):=by
 have s:Same H1 (i7 H1 D u):=fun b v z=>by rw[b0 (d0 z hD)];exact z
 exact s.le.trans ki
theorem sZ {pts:List (Str×Str)}(h:(pts.map (·.1)).Nodup):((i0 pts).map (·.1)).Nodup:=by
 rw[C5,←x8]
 refine List.Pairwise.map _ ?_ h
 exact fun a b h z=>h (Sum.inr.inj z)
theorem Q7 {α:Type}:∀{l:List (Str×α)} {n:Str} {x y:α},(l.map (·.1)).Nodup→(n,x)∈l→(n,y)∈l→x=y
 |p::r,n,x,y,nd,hx,hy=>by
  have nd':=List.nodup_cons.mp (show(p.1::r.map (·.1)).Nodup from nd)
  rcases List.mem_cons.mp hx with zx|zx
  ·rcases List.mem_cons.mp hy with zy|zy
   ·have:=zx.trans zy.symm
    exact(Prod.mk.inj this).2
   ·exact absurd (List.mem_map.mpr ⟨(n,y),zy,by rw[←zx]⟩) nd'.1
  ·rcases List.mem_cons.mp hy with zy|zy
   ·exact absurd (List.mem_map.mpr ⟨(n,x),zx,by rw[←zy]⟩) nd'.1
   ·exact Q7 nd'.2 zx zy
theorem U4 {K:PySem.W.Frag}{H:Hp}{kvs:List (d7×V)}{ts:List (Str×B6)}{n:Str}{t:B6}(w:TiesIs K H kvs ts)(nd:(ts.map (·.1)).Nodup)(h:(n,t)∈ts):∃a,i9 kvs (Sum.inr n:d7)=some (.ref a)∧SqT K H a (D0 t):=by
 obtain⟨a,x,h1,h2,h3⟩:=TiesIs.val (ts:=ts) w (List.mem_map.mpr ⟨(n,t),h,rfl⟩)
 rw[Q7 nd h h2];exact⟨a,h1,h3⟩
theorem J2 {pts:List (Str×Str)}{n k:Str}(nd:(pts.map (·.1)).Nodup)(h:(n,k)∈pts):i9 (i0 pts) (Sum.inr n:d7)=some (.str k):=
 eO (kv:=(Sum.inr n,.str k)) (sZ nd) (List.mem_map.mpr ⟨(n,k),h,rfl⟩)
theorem ic {n:Str}:∀{gs:List Str},wM (.str n) (gs.map V.str)=decide (n∈gs)
 |[]=>rfl
 |g::r=>by
  show(N6 (.str g) (.str n)||wM (.str n) (r.map V.str))=_
  rw[ic (gs:=r),show N6 (.str g) (.str n)=decide (g=n) by unfold N6;rw[Bool.eq_iff_iff];simp]
  rw[Bool.eq_iff_iff]
  simp
  constructor
  ·rintro(h|h)
   ·exact .inl h.symm
   ·exact .inr h
  ·rintro(h|h)
   ·exact .inl h.symm
   ·exact .inr h
theorem W5 {K:PySem.W.Frag}{H:Hp}{Q:VK}{l:Addr}{gs:List Str}{n:Str}(h:SqL K H l (gs.map V.str))(q:Q (.bl (!decide (n∈gs))) H):eZ K (.str n) (.ref l) H Q:=
 .inr (.inl ⟨l,_,rfl,.inl h,rfl,bX _,by rw[if_pos rfl,ic];exact q⟩)
theorem K2 {K:PySem.W.Frag}{H:Hp}{d:Addr}{k1 k2:List (d7×V)}{kvs:List (d7×V)}{ts:List (Str×B6)}(h:H d=some (.dK k1))(w:TiesIs K H kvs ts):TiesIs K (i7 H d (.dK k2)) kvs ts:=Paired.imp' (fun _ _ z=>K8 h z) w
theorem bO {pts:List (Str×Str)}{n:Str}:(i9 (i0 pts) (Sum.inr n:d7)).isSome=decide (n∈pts.map (·.1)):=by
 rw[←J3,Bool.eq_iff_iff,List.any_eq_true,decide_eq_true_eq]
 constructor
 ·rintro⟨kv,hkv,e⟩
  obtain⟨x,hx,rfl⟩:=List.mem_map.mp hkv
  exact List.mem_map.mpr ⟨x,hx,Sum.inr.inj (of_decide_eq_true e)⟩
 ·intro m
  obtain⟨x,hx,rfl⟩:=List.mem_map.mp m
  exact⟨_,List.mem_map.mpr ⟨x,hx,rfl⟩,decide_eq_true rfl⟩
theorem dA {K:PySem.W.Frag}{H:Hp}{kvs:List (d7×V)}{ts:List (Str×B6)}{n:Str}(w:TiesIs K H kvs ts):(i9 kvs (Sum.inr n:d7)).isSome=decide (n∈ts.map (·.1)):=by
 by_cases hn:n∈ts.map (·.1)
 ·obtain⟨a,x,h1,_⟩:=TiesIs.val (ts:=ts) w hn
  rw[h1,decide_eq_true hn];rfl
 ·cases e:i9 kvs (Sum.inr n:d7) with
  |none=>simp [hn]
  |some v=>
   have z:=kS e
   rw[w.keys,←x8] at z
   exact absurd (G7 z) hn
theorem Y7 {pts:List (Str×Str)}:(i0 pts).map (fun kv=>kV kv.1)=(pts.map (·.1)).map V.str:=by unfold i0;rw[List.map_map,List.map_map];rfl
theorem iN {K:PySem.W.Frag}{H:Hp}{kb:List (d7×V)}:∀{ka:List (d7×V)},(∀kv∈ka,∃y,i9 kb kv.1=some y∧Eq1 K H kv.2 y true)→EqH K H kb ka true
 |[],_=> .nil
 |kv::r,h=>by
  obtain⟨y,h1,h2⟩:=h kv List.mem_cons_self
  exact EqH.hit (e:=true) (b:=true) h1 h2 (iN fun x hx=>h x (List.mem_cons_of_mem _ hx))
theorem jN {K:PySem.W.Frag}{H:Hp}(s:Str):Eq1 K H (.str s) (.str s) true:=by
 have z:=Eq1.flat (K:=K) (H:=H) (x:= .str s) (y:= .str s) rfl rfl
 rw[Z2 rfl] at z;exact z
theorem pD {K:PySem.W.Frag}{H:Hp}{a b:Addr}{t:B6}(h:SqT K H a (D0 t))(h':SqT K H b (D0 t)):Eq1 K H (.ref a) (.ref b) true:=by
 have z:=Eq1.tup h h' rfl rfl
 rw[D3 rfl] at z;exact z
theorem sh {K:PySem.W.Frag}{H:Hp}{p p':Addr}{pts pts':List (Str×Str)}(hne:p≠p')(h1:Rd H p (.dK (i0 pts)))(h2:Rd H p' (.dK (i0 pts')))(pm:pts.Perm pts')(nd:(pts'.map (·.1)).Nodup):EqD K H p p' true:=
 .inr ⟨hne,_,_,true,h1,h2,iN fun kv hkv=>by
  obtain⟨x,hx,rfl⟩:=List.mem_map.mp hkv
  exact⟨_,J2 nd (pm.mem_iff.mp hx),jN _⟩,by rw[q9,q9,pm.length_eq];simp⟩
theorem pE {K:PySem.W.Frag}{H:Hp}{q q':Addr}{kvs kvs':List (d7×V)}{ts ts':List (Str×B6)}(hne:q≠q')(h1:Rd H q (.dK kvs))(h2:Rd H q' (.dK kvs'))(w:TiesIs K H kvs ts)(w':TiesIs K H kvs' ts')(pm:ts.Perm ts')(nd:(ts'.map (·.1)).Nodup):EqD K H q q' true:=
 .inr ⟨hne,_,_,true,h1,h2,iN fun kv hkv=>by
  obtain⟨i,hi⟩:=List.getElem?_of_mem hkv
  obtain⟨x,hx,ex,b,eb,sb⟩:=w.get hi
  obtain⟨c,e1,e2⟩:=U4 w' nd (pm.mem_iff.mp (List.mem_of_getElem? hx))
  refine⟨.ref c,by rw[ex];exact e1,?_⟩
  rw[eb];exact pD sb e2,by rw[w.length,w'.length,pm.length_eq];simp⟩
theorem vy (ns:List Int):∃cs:List Int,W4 (ns.map V.int) (some 4) (some 14)=cs.map V.int∧cs.length≤10:=by
 unfold W4
 have e1:HT.sIx (ns.map V.int).length 0 (some ((4:Nat):Int))=min 4 (ns.map V.int).length:=HT.sIx_nat _ _ _
 have e2:HT.sIx (ns.map V.int).length (ns.map V.int).length (some ((14:Nat):Int))=min 14 (ns.map V.int).length:=HT.sIx_nat _ _ _
 rw[show(some (4:Int))=some ((4:Nat):Int) from rfl,show(some (14:Int))=some ((14:Nat):Int) from rfl,e1,e2,←List.map_drop,←List.map_take]
 exact⟨_,rfl,by rw[List.length_take,List.length_drop];omega⟩
abbrev Z6 (P:Program)(w:World)(K:PySem.W.Frag)(mg:Str→Option Value)(base:Heap):Prop:=V0 P w K mg base D5 1 "_law_cells" ["_law_script","_law_start","_law_many"] [] (V8 K)
theorem cO {f:Addr}{fd:FuncData}(T:Txt K mg)(F:Fun K "_law_cells" "_law_cells" O4 f fd):A6 P w K mg base D5 1 f fd ["_law_script","_law_start","_law_many"] (V8 K):=by
 refine F.ok sc__law_cells (fun vs H Q E h=>?_) (fun cdv A outer s H vs Q E hr h=>?_)
 ·obtain⟨a,ns,rfl,_⟩:=h
  rfl
 ·obtain⟨a,ns,rfl,hA,hl,k⟩:=h
  have hN:=sc__law_cells.nd
  have hu:=A3 hr
  refine⟨_,QSs.r (C2 (z9 (Q2 (own:=["_law_cell"]) (js:=[]) (by kernel_rfl) rfl (S4 K (xY (yu K) (qV 0) (xN (qV 1)) (xN (D6 (S7 K) (qV 1) (qV 2))))) (fun _ _ _ _=>(M8 (i:=0) (show List.Nodup (["_law_cell"]:List Str) by decide+kernel) rfl (by walk_at "l"))) (fun _ _ _ _=>gR) (fun _ _ _ _=>(D6 z8 (qV 0) (D6 nP d9 d9)))))),?_⟩
  walk_at "r"
  refine pR hA (fun p1 n1=>?_)
  obtain⟨H1,e1,f1,m1,_⟩:=b5 (o:= .lst _) n1
  rw[e1]
  obtain⟨cs,hcs,hcl⟩:=vy ns
  rw[show(4:Int)+10=14 from rfl,hcs] at f1
  refine y4 (SqL.of f1) ?_
  refine y6 (n:=cs.length) (fun i out H'=>Same H1 H'∧out=(cs.take i).map fun x=>V.int (x % 10 ^ 60)) ⟨Same.refl _,rfl⟩ (fun i out H' hi hp=>⟨_,.int (cs[i]),SqL.of (hp.1 _ _ f1),by rw[List.getElem?_map,List.getElem?_eq_getElem hi];rfl⟩) ?_ ?_
  ·rintro N i v out H2 H3 hi ⟨s1,rfl⟩ y hN'
   obtain⟨rfl,hx⟩:=Itl.get y (SqL.of (s1 _ _ f1))
   rw[List.getElem?_map,List.getElem?_eq_getElem hi] at hx
   cases hx
   walk_at "r"
   refine⟨rfl,?_⟩
   walk_at "r"
   refine⟨d6 (by rw[List.length_map,List.length_take];omega),hN' _ _ ⟨s1,?_⟩⟩
   exact U8 (fun x:Int=>V.int (x % 10 ^ 60)) (List.getElem?_eq_getElem hi)
  ·rintro out H2 ⟨s1,rfl⟩
   refine⟨⟨_,SqL.of (s1 _ _ f1),by rw[List.length_map];exact Nat.le_refl _⟩,fun D hD=>⟨d6 (by rw[List.length_map,List.length_take];omega),?_⟩⟩
   rw[List.take_of_length_le (Nat.le_refl _)]
   obtain⟨H3,e3,f3,m3,_⟩:=b5 (o:= .lst (cs.map fun x=>V.int (x % 10 ^ 60))) hD
   refine k D _ (cs.map fun x=>x % 10 ^ 60) ((m1.trans s1).free hD) ?_ ?_ (by rw[List.length_map];exact hcl) (fun c hc=>?_)
   ·show Same _ (i7 _ D _)
    rw[e3];exact m1.trans (s1.trans m3)
   ·show i7 _ D _ D=_
    rw[c9,List.map_map];rfl
   ·obtain⟨x,_,rfl⟩:=List.mem_map.mp hc
    exact Int.emod_nonneg _ (by decide)
abbrev S3 (P:Program)(w:World)(K:PySem.W.Frag)(mg:Str→Option Value)(base:Heap):Prop:=V0 P w K mg base D5 1 "_law_cell_at" ["_law_script","_law_k"] [] (Q1 K)
theorem aY {f:Addr}{fd:FuncData}(T:Txt K mg)(F:Fun K "_law_cell_at" "_law_cell_at" K0 f fd):A6 P w K mg base D5 1 f fd ["_law_script","_law_k"] (Q1 K):=by
 refine F.ok sc__law_cell_at (fun vs H Q E h=>?_) (fun cdv A outer s H vs Q E hr h=>?_)
 ·obtain⟨a,ns,k',rfl,_⟩:=h
  rfl
 ·obtain⟨a,ns,k',rfl,hA,hl,h0,k⟩:=h
  have hN:=sc__law_cell_at.nd
  have hu:=A3 hr
  refine⟨_,QSs.r (v8 (bD (p6 jg (qV 1) (qB (B4 K P w) T.b_len Boot.«len» (h7 (qV 0) i5)) (i3 _)) (C2 (z9 (D6 z8 (p8 (p7 K hu) (qV 0) (qV 1) (fun _ _=>rfl)) (D6 nP d9 d9)))) cR)
   (C2 (z9 d9))),?_⟩
  walk_at "r"
  refine A4 (v9 hA ?_)
  rw[List.length_map]
  walk_at "r"
  refine C8 (fun h1=>?_) (fun h1=>?_)
  ·walk_at "r"
   obtain⟨v,hv,hv2⟩:=eF (xs:=ns.map V.int) h0 (by rw[List.length_map];exact h1)
   rw[List.getElem?_map] at hv2
   obtain⟨x,hx,rfl⟩:=Option.map_eq_some_iff.mp hv2
   refine i4 hA hv ?_
   walk_at "r"
   exact k _ (Int.emod_nonneg _ (by decide))
  ·walk_at "r"
   exact k 0 (by omega)
def fg (l:List Nat):Str:=⟨l.toArray⟩
theorem dB (l:List Nat)(c:Nat):fg l++(⟨#[c]⟩:Str)=fg (l++[c]):=by
 unfold fg
 show(⟨l.toArray++ #[c]⟩:Str)=_
 congr 1
 simp
theorem qX {l m:List Nat}(h:fg l=fg m):l=m:=by
 have:=congrArg (fun s:Str=>s.cps.toList) h
 simpa [fg] using this
theorem gw (l:List Nat):(fg l).length=l.length:=by
 show l.toArray.size=_
 simp
def aJ (s:Str)(i:Int):Nat:=s.cps.toList.getD i.toNat 0
theorem ve (s:Str)(i:Int)(h0:0≤i)(h1:i<s.cps.toList.length):kl s.cps.toList i=some (aJ s i):=by
 obtain⟨v,hv,hv2⟩:=eF (xs:=s.cps.toList) h0 h1
 rw[hv]
 unfold aJ
 rw[List.getD_eq_getElem?_getD,hv2];rfl
abbrev kSM:Str:=kSL++("0123456789.":Str)
theorem nz:∀i j:Nat,i<26→j<26→aJ kSL i=aJ kSL j→i=j:=by
 have h:∀i,i<26→∀j,j<26→aJ kSL (i:Nat)=aJ kSL (j:Nat)→i=j:=by decide+kernel
 exact fun i j hi hj=>h i hi j hj
theorem lQ:∀i j:Nat,i<37→j<37→aJ kSM i=aJ kSM j→i=j:=by
 have h:∀i,i<37→∀j,j<37→aJ kSM (i:Nat)=aJ kSM (j:Nat)→i=j:=by decide+kernel
 exact fun i j hi hj=>h i hi j hj
def Z0 (S:Str)(c at_:Int)(k i:Nat):List Nat:=(List.range i).map fun j:Nat=>if(j:Int)=at_ then aJ S ((c/400+5*(k:Int)) % (S.length:Int)) else lI ((c/400+3*(j:Int)) % 26)
theorem cn (S:Str)(c at_:Int)(k i:Nat):Z0 S c at_ k (i+1)=Z0 S c at_ k i++[if((i:Int))=at_ then aJ S ((c/400+5*(k:Int)) % (S.length:Int)) else lI ((c/400+3*(i:Int)) % 26)]:=by
 unfold Z0
 rw[List.range_succ,List.map_append];rfl
theorem dM (S:Str)(c at_:Int)(k i:Nat):(Z0 S c at_ k i).length=i:=by
 unfold Z0;rw[List.length_map,List.length_range]
def oz (S:Str)(c at_:Int)(n k:Nat):Str:=fg (Z0 S c at_ k n)
theorem sg {S:Str}{c at_:Int}{n m:Nat}(hS:S=kSL∨S=kSM)(h0:0≤at_)(h1:at_<n)(hm:m≤26):((List.range m).map (oz S c at_ n)).Nodup:=hU fun i j hi hj e=>by
 have z:=qX e
 have z2:=congrArg (fun l=>l[at_.toNat]?) z
 unfold Z0 at z2
 simp only[List.getElem?_map,List.getElem?_range (show at_.toNat<n by omega),Option.map_some,Option.some.injEq] at z2
 rw[if_pos (by omega),if_pos (by omega)] at z2
 rcases hS with rfl|rfl
 ·have hl:(kSL.length:Int)=26:=by decide+kernel
  rw[hl] at z2
  have e1:(c/400+5*(i:Int)) % 26=(((c/400+5*(i:Int)) % 26).toNat:Int):=by omega
  have e2:(c/400+5*(j:Int)) % 26=(((c/400+5*(j:Int)) % 26).toNat:Int):=by omega
  rw[e1,e2] at z2
  have z3:=nz _ _ (by omega) (by omega) z2
  omega
 ·have hl:(kSM.length:Int)=37:=by decide+kernel
  rw[hl] at z2
  have e1:(c/400+5*(i:Int)) % 37=(((c/400+5*(i:Int)) % 37).toNat:Int):=by omega
  have e2:(c/400+5*(j:Int)) % 37=(((c/400+5*(j:Int)) % 37).toNat:Int):=by omega
  rw[e1,e2] at z2
  have z3:=lQ _ _ (by omega) (by omega) z2
  omega
abbrev ab (P:Program)(w:World)(K:PySem.W.Frag)(mg:Str→Option Value)(base:Heap):Prop:=V0 P w K mg base D5 1 "_law_names" ["_law_cell","_law_many"] [] (V3 K)
theorem cS {f:Addr}{fd:FuncData}(T:Txt K mg)(F:Fun K "_law_names" "_law_names" O0 f fd):A6 P w K mg base D5 1 f fd ["_law_cell","_law_many"] (V3 K):=by
 refine F.ok sc__law_names (fun vs H Q E h=>?_) (fun cdv A outer s H vs Q E hr h=>?_)
 ·obtain⟨c,n,rfl,_⟩:=h
  rfl
 ·obtain⟨c,n,rfl,h0,h1,h2,k⟩:=h
  have hN:=sc__law_names.nd
  have hu:=A3 hr
  refine⟨_,QSs.r (v8 (l0 (i:=2) hN rfl (by walk_at "l") nL)
   (v8 (l0 (i:=3) hN rfl (by walk_at "l") (D6 (S7 K) d9 (D6 z8 (qV 0) d9)))
   (v8 (l0 (i:=4) hN rfl (by walk_at "l") (D6 z8 (D6 z7 (qV 0) d9) (qV 3)))
   (v8 (l0 (i:=5) hN rfl (by walk_at "l") (qV 2))
   (v8 (bD (p6 yU (qV 4) d9 (i3 _)) (C2 (l0 (i:=5) hN rfl (by walk_at "l") (D6 (S7 K) (qV 2) nL))) cR)
   (v8 (l0 (i:=6) hN rfl (by walk_at "l") (aX i5))
   (v8 (X3 PassesOwn.never rfl (mI T.b_range (h7 (qV 1) i5)) (M8 (i:=7) hN rfl (by walk_at "l"))
    (v8 (l0 (i:=8) hN rfl (by walk_at "l") nL)
   (v8 (X3 PassesOwn.never rfl (mI T.b_range (h7 (qV 3) i5)) (M8 (i:=9) hN rfl (by walk_at "l"))
    (C2 (bD (p6 (C6 K hr) (qV 9) (qV 4) (i3 _)) (C2 (l0 (i:=8) hN rfl (by walk_at "l") (D6 (S7 K) (qV 8) (p8 (p7 K hu) (qV 5) (D6 z8 (D6 (S7 K) (D6 z7 (qV 0) d9) (D6 Y9 d9 (qV 7))) (qB (B4 K P w) T.b_len Boot.«len» (h7 (qV 5) i5))) (fun _ _=>rfl))))) (C2 (l0 (i:=8) hN rfl (by walk_at "l") (D6 (S7 K) (qV 8) (p8 (p7 K hu) (qV 2) (D6 z8 (D6 (S7 K) (D6 z7 (qV 0) d9) (D6 Y9 d9 (qV 9))) d9) (fun _ _=>rfl))))))))
   (C2 (xa (qM PySem.F.plainAttrs_list PySem.F.slot_list_append PySem.F.type_list_append x9 K (qV 6) (h7 (qV 8) i5)))))))
   (C2 (z9 (qV 6)))))))))),?_⟩
  refine V4 ?_
  walk_at "e"
  refine V4 ?_
  walk_at "e"
  refine V4 ?_
  walk_at "e"
  refine V4 ?_
  walk_at "e"
  have hat0:0≤c/20 % (1+c % 20):=Int.emod_nonneg _ (by omega)
  have hat1:c/20 % (1+c % 20)<1+c % 20:=Int.emod_lt_of_pos _ (by omega)
  generalize hat:c/20 % (1+c % 20)=at_ at hat0 hat1⊢
  refine uJ (fun σ H'=>H'=H∧∃S,(S=kSL∨S=kSM)∧σ=[some (.int c),some (.int n),some (.str kSL),some (.int (1+c % 20)),some (.int at_),some (.str S),none,none,none,none]) ?_ ?_
  ·rintro σ H0 ⟨rfl,S,hS,rfl⟩
   have hSl:S.cps.toList.length=S.length:=by show _=S.cps.size;simp
   have hSz:0<S.length∧S.length≤37:=by rcases hS with rfl|rfl<;>decide+kernel
   refine V4 ?_
   walk_at "e"
   refine⟨d6 (by simp),fun lo no=>?_⟩
   obtain⟨H1,e1,f1,m1,_⟩:=b5 (o:= .lst _) no
   rw[e1]
   walk_at "e"
   refine V4 ?_
   walk_at "e"
   refine T8 (by omega) (by omega) ?_
   refine aw (n:=n.toNat) (fun i σ H'=>(∃v1 v2 v3,σ=[some (.int c),some (.int n),some (.str kSL),some (.int (1+c % 20)),some (.int at_),some (.str S),some (.ref lo),v1,v2,v3])∧Same H0 H'∧H' lo=some (.lst (((List.range i).map (oz S c at_ (1+c % 20).toNat)).map V.str)))
    ⟨⟨_,_,_,rfl⟩,m1,f1⟩ (fun i σ H' hi _=>by exact hi) ?_ ?_
   ·rintro i v σ H2' H2 hi ⟨⟨v1,v2,v3,rfl⟩,s2,g2⟩ ⟨rfl,rfl⟩
    refine V4 ?_
    walk_at "e"
    refine V4 ?_
    walk_at "e"
    refine T8 (by omega) (by omega) ?_
    refine aw (n:=(1+c % 20).toNat) (fun j σ H'=>(∃v3,σ=[some (.int c),some (.int n),some (.str kSL),some (.int (1+c % 20)),some (.int at_),some (.str S),some (.ref lo),some (.int (0+(i:Int))),some (.str (fg (Z0 S c at_ i j))),v3])∧H'=H2)
     ⟨⟨_,rfl⟩,rfl⟩ (fun i σ H' hi _=>by exact hi) ?_ ?_
    ·rintro j v σ H3 H4 hj ⟨⟨v3,rfl⟩,rfl⟩ ⟨rfl,rfl⟩
     have hnl:=gw (Z0 S c at_ i j)
     rw[dM] at hnl
     walk_at "e"
     refine C8 (fun hb=>?_) (fun hb=>?_)
     ·walk_at "e"
      refine A4 (mB (d6 (by omega)) ?_)
      walk_at "e"
      have q0:0≤(c/400+5*(0+(i:Int))) % (S.length:Int):=Int.emod_nonneg _ (by omega)
      have q1:(c/400+5*(0+(i:Int))) % (S.length:Int)<(S.length:Int):=Int.emod_lt_of_pos _ (by omega)
      refine cy (d6 (by omega)) (ve S _ q0 (by rw[hSl];exact q1)) ?_
      refine U3 (j:=⟨#[aJ S ((c/400+5*(0+(i:Int))) % (S.length:Int))]⟩) (d6 (by rw[bA];omega)) ?_
      walk_at "e"
      refine⟨⟨some (.int (0+(j:Int))),?_⟩,rfl⟩
      rw[cn,if_pos (by omega),←dB,Int.zero_add];rfl
     ·walk_at "e"
      refine cy dJ (pq ((c/400+3*(0+(j:Int))) % 26) (by omega) (by omega)) ?_
      refine U3 (j:=⟨#[lI ((c/400+3*(0+(j:Int))) % 26)]⟩) (d6 (by rw[bA];omega)) ?_
      walk_at "e"
      refine⟨⟨some (.int (0+(j:Int))),?_⟩,rfl⟩
      rw[cn,if_neg (by omega),←dB,Int.zero_add (j:Int)];rfl
    ·rintro σ H3 ⟨⟨v3,rfl⟩,rfl⟩
     refine⟨Nat.le_refl _,?_⟩
     walk_at "e"
     refine⟨.inl ⟨rfl,_,SqL.of g2⟩,?_⟩
     walk_at "e"
     refine⟨lo,_,_,rfl,rfl,g2,dv (by rw[List.length_map,List.length_map,List.length_range];omega),?_⟩
     refine⟨⟨_,_,_,rfl⟩,y9 s2 no,?_⟩
     rw[c9,List.range_succ,List.map_append,List.map_append];rfl
   ·rintro σ H2 ⟨⟨v1,v2,v3,rfl⟩,s2,g2⟩
    refine⟨Nat.le_refl _,?_⟩
    walk_at "e"
    refine k lo H2 _ no s2 g2 ⟨by rw[List.length_map,List.length_range],sg hS hat0 (by omega) (by omega),fun s hs=>?_⟩
    obtain⟨i,_,rfl⟩:=List.mem_map.mp hs
    unfold oz
    rw[gw,dM];omega
  ·intro nx hn
   walk_at "e"
   refine C8 (fun h=>?_) (fun h=>?_)
   ·walk_at "e"
    refine U3 (by decide+kernel) ?_
    walk_at "e"
    exact hn _ _ ⟨rfl,kSM,.inr rfl,rfl⟩
   ·walk_at "e"
    exact hn _ _ ⟨rfl,kSL,.inl rfl,rfl⟩
abbrev Y8 (P:Program)(w:World)(K:PySem.W.Frag)(mg:Str→Option Value)(base:Heap):Prop:=V0 P w K mg base D5 1 "_law_kinds" ["_law_cell"] [] (U9 K)
theorem cZ {f:Addr}{fd:FuncData}(T:Txt K mg)(F:Fun K "_law_kinds" "_law_kinds" O8 f fd):A6 P w K mg base D5 1 f fd ["_law_cell"] (U9 K):=by
 refine F.ok sc__law_kinds (fun vs H Q E h=>?_) (fun cdv A outer s H vs Q E hr h=>?_)
 ·obtain⟨c,rfl,_⟩:=h
  rfl
 ·obtain⟨c,rfl,h0,k⟩:=h
  have hN:=sc__law_kinds.nd
  have hu:=A3 hr
  refine⟨_,QSs.r (v8 (l0 (i:=1) hN rfl (by walk_at "l") nL)
   (v8 (l0 (i:=2) hN rfl (by walk_at "l") (D6 (S7 K) d9 (D6 z8 (qV 0) d9)))
   (v8 (l0 (i:=3) hN rfl (by walk_at "l") (D6 z8 (D6 z7 (qV 0) d9) (qV 2)))
   (v8 (l0 (i:=4) hN rfl (by walk_at "l") (aX i5))
   (v8 (X3 PassesOwn.never rfl (mI T.b_range (h7 d9 i5)) (M8 (i:=5) hN rfl (by walk_at "l"))
    (v8 (l0 (i:=6) hN rfl (by walk_at "l") nL)
   (v8 (X3 PassesOwn.never rfl (mI T.b_range (h7 (qV 2) i5)) (M8 (i:=7) hN rfl (by walk_at "l"))
    (C2 (l0 (i:=6) hN rfl (by walk_at "l") (D6 (S7 K) (qV 6) (p8 (p7 K hu) (qV 1) (D6 z8 (D6 (S7 K) (D6 (S7 K) (D6 z7 (qV 0) d9) (qV 7)) (D6 Y9 (D6 Y9 d9 (qV 5)) (cK ml T.b_int Boot.«int» (h7 (bW (C6 K hr) (qV 7) (qV 3) (i3 _)) i5)))) d9) (fun _ _=>rfl))))))
   (C2 (xa (qM PySem.F.plainAttrs_list PySem.F.slot_list_append PySem.F.type_list_append x9 K (qV 4) (h7 (qV 6) i5)))))))
   (C2 (z9 (qV 4)))))))),?_⟩
  walk_at "r"
  have hat0:0≤c/8 % (1+c % 8):=Int.emod_nonneg _ (by omega)
  have hat1:c/8 % (1+c % 8)<1+c % 8:=Int.emod_lt_of_pos _ (by omega)
  generalize hat:c/8 % (1+c % 8)=at_ at hat0 hat1⊢
  refine⟨d6 (by simp),fun lo no=>?_⟩
  obtain⟨H1,e1,f1,m1,_⟩:=b5 (o:= .lst _) no
  rw[e1]
  walk_at "r"
  refine T8 (by omega) (by omega) ?_
  refine aw (n:=2) (fun i σ H'=>(∃v1 v2 v3,σ=[some (.int c),some (.str kSL),some (.int (1+c % 8)),some (.int at_),some (.ref lo),v1,v2,v3])∧Same H H'∧∃ss:List Str,H' lo=some (.lst (ss.map V.str))∧ss.length=i)
   ⟨⟨_,_,_,rfl⟩,m1,[],f1,rfl⟩ (fun i σ H' hi _=>by exact hi) ?_ ?_
  ·rintro i v σ H2' H2 hi ⟨⟨v1,v2,v3,rfl⟩,s2,ss,g2,hl⟩ ⟨rfl,rfl⟩
   walk_at "r"
   refine T8 (by omega) (by omega) ?_
   refine aw (n:=(1+c % 8).toNat) (fun j σ H'=>(∃(b:Str) (v3:Option V),σ=[some (.int c),some (.str kSL),some (.int (1+c % 8)),some (.int at_),some (.ref lo),some (.int (0+(i:Int))),some (.str b),v3]∧b.length=j)∧H'=H2)
    ⟨⟨_,_,rfl,rfl⟩,rfl⟩ (fun i σ H' hi _=>by exact hi) ?_ ?_
   ·rintro j v σ H3 H4 hj ⟨⟨b,v3,rfl,hb⟩,rfl⟩ ⟨rfl,rfl⟩
    walk_at "r"
    refine .inr ⟨_,rfl,?_⟩
    generalize hm:(if decide (0+(j:Int)=at_)=true then(1:Int) else 0)=m
    have hm0:0≤m∧m≤1:=by subst hm;split<;>omega
    walk_at "r"
    refine cy dJ (pq ((c/64+(0+(j:Int))+9*(0+(i:Int))*m) % 26) (by omega) (by omega)) ?_
    refine U3 (j:=⟨#[lI ((c/64+(0+(j:Int))+9*(0+(i:Int))*m) % 26)]⟩) (d6 (by rw[bA];omega)) ?_
    walk_at "r"
    exact⟨⟨_,_,rfl,by rw[rJ,bA];omega⟩,rfl⟩
   ·rintro σ H3 ⟨⟨b,v3,rfl,hb⟩,rfl⟩
    refine⟨Nat.le_refl _,?_⟩
    walk_at "r"
    refine⟨.inl ⟨rfl,_,SqL.of g2⟩,?_⟩
    walk_at "r"
    refine⟨lo,_,_,rfl,rfl,g2,dv (by rw[List.length_map];omega),?_⟩
    refine⟨⟨_,_,_,rfl⟩,y9 s2 no,ss++[b],?_,by rw[List.length_append,hl];rfl⟩
    rw[c9,List.map_append];rfl
  ·rintro σ H2 ⟨⟨v1,v2,v3,rfl⟩,s2,ss,g2,hl⟩
   refine⟨Nat.le_refl _,?_⟩
   walk_at "r"
   exact k lo H2 ss no s2 g2 hl
abbrev cD (P:Program)(w:World)(K:PySem.W.Frag)(mg:Str→Option Value)(base:Heap):Prop:=V0 P w K mg base D5 1 "_law_web" ["_law_cells_here","_law_names_here","_law_kinds_here","_law_most"] [] (aW K)
theorem gy {f:Addr}{fd:FuncData}(T:Txt K mg)(F:Fun K "_law_web" "_law_web" X8 f fd):A6 P w K mg base D5 1 f fd ["_law_cells_here","_law_names_here","_law_kinds_here","_law_most"] (aW K):=by
 refine F.ok sc__law_web (fun vs H Q E h=>?_) (fun cdv A outer s H vs Q E hr h=>?_)
 ·obtain⟨a,b,c,cs,ss,ks,rfl,_⟩:=h
  rfl
 ·obtain⟨a,b,c,cs,ss,ks,rfl,hA,hB,hC,hn,hl,hk,hkl,hsl,k⟩:=h
  have hN:=sc__law_web.nd
  have hu:=A3 hr
  refine⟨_,QSs.r (v8 (l0 (i:=4) hN rfl (by walk_at "l") ug)
   (v8 (l0 (i:=5) hN rfl (by walk_at "l") ug)
   (v8 (X3 PassesOwn.never rfl (mI T.b_range (h7 (qB (B4 K P w) T.b_len Boot.«len» (h7 (qV 0) i5)) i5)) (M8 (i:=6) hN rfl (by walk_at "l"))
    (v8 (l0 (i:=7) hN rfl (by walk_at "l") (p8 (p7 K hu) (qV 0) (qV 6) (fun _ _=>rfl)))
   (v8 (l0 (i:=8) hN rfl (by walk_at "l") (qB (z6 K rfl) T.b_sorted Boot.«sorted» (h7 (qV 4) i5)))
   (C2 (bD (rB (iQ (p6 (C6 K hr) (qB (B4 K P w) T.b_len Boot.«len» (h7 (qV 8) i5)) d9 (i3 _)) (cA (rB (oi (p6 jg (D6 z8 (qV 7) d9) d9 (i3 _)) (jo (p6 jg (qB (B4 K P w) T.b_len Boot.«len» (h7 (qV 8) i5)) (qV 3) (i3 _)))))))) (C2 (Y0 (p8 (p7 K hu) (qV 2) (D6 z7 (D6 z8 (D6 z7 (qV 7) d9) d9) d9) (fun _ _=>rfl)) (kE (qV 4) (p8 (p7 K hu) (qV 1) (qV 6) (fun _ _=>rfl)) (t7 P w hu)))) (v8 (l0 (i:=9) hN rfl (by walk_at "l") (p8 (p7 K hu) (qV 8) (D6 z8 (D6 z7 (qV 7) d9) (qB (B4 K P w) T.b_len Boot.«len» (h7 (qV 8) i5))) (fun _ _=>rfl)))
   (C2 (Y0 (O1 (h7 (p8 (p7 K hu) (qV 2) (D6 z7 (D6 z8 (D6 z7 (qV 7) d9) d9) d9) (fun _ _=>rfl)) (h7 (qV 9) (h7 (p8 (p7 K hu) (qV 8) (D6 z8 (D6 z7 (qV 7) d9) (qB (B4 K P w) T.b_len Boot.«len» (h7 (qV 8) i5))) (fun _ _=>rfl)) i5)))) (kE (qV 5) (p8 (p7 K hu) (qV 1) (qV 6) (fun _ _=>rfl)) (t7 P w hu))))))))))
   (C2 (z9 (O1 (h7 (qV 4) (h7 (qV 5) i5)))))))),?_⟩
  walk_at "r"
  intro p np
  obtain⟨H1,e1,f1,m1,o1⟩:=b5 (o:= .dK []) np
  rw[e1]
  walk_at "r"
  intro q nq
  obtain⟨H2,e2,f2,m2,o2⟩:=b5 (o:= .dK []) nq
  rw[e2]
  have hpq:p≠q:=fun z=>by rw[←z,f1] at nq;cases nq
  have nq0:H q=none:=m1.free nq
  walk_at "r"
  refine A4 (v9 ((m1.trans m2).seq hA) ?_)
  rw[List.length_map]
  refine T8 (by omega) (by omega) ?_
  refine aw (n:=cs.length) (fun i σ H'=>∃(pts:List (Str×Str)) (kvs:List (d7×V)) (ts:List (Str×B6)) (v1 v2 v3 v4:Option V),σ=[some (.ref a),some (.ref b),some (.ref c),some (.int 6),some (.ref p),some (.ref q),v1,v2,v3,v4]∧Same H H'∧H' p=some (.dK (i0 pts))∧H' q=some (.dK kvs)∧TiesIs K H' kvs ts∧(pts.map (·.1)++ts.map (·.1)).Nodup∧(∀x∈pts.map (·.1)++ts.map (·.1),x∈ss.take i)∧(pts.length+ts.length=i∧pts.length≤6)∧∀x∈ts,x.2.2.1∈pts.map (·.1)∧x.2.2.2∈pts.map (·.1))
   ⟨[],[],[],_,_,_,_,rfl,m1.trans m2,m2 _ _ f1,f2,.nil,List.nodup_nil,(fun _ h=>nomatch h),⟨rfl,Nat.zero_le _⟩,fun _ h=>nomatch h⟩ (fun i σ H' hi _=>by show i<_;omega) ?_ ?_
  ·rintro i v σ H3' H3 hi ⟨pts,kvs,ts,v1,v2,v3,v4,rfl,s3,g3,t3,w3,d1,d2,l1,l2⟩ ⟨rfl,rfl⟩
   obtain⟨nm,hnm,hnm'⟩:∃nm,(ss.map V.str)[i]?=some (.str nm)∧ss[i]?=some nm:=⟨ss[i],by rw[List.getElem?_map,List.getElem?_eq_getElem (by omega)];rfl,List.getElem?_eq_getElem (by omega)⟩
   have hci:(cs.map V.int)[i]?=some (.int cs[i]):=by rw[List.getElem?_map,List.getElem?_eq_getElem hi];rfl
   have e7:ss.take (i+1)=ss.take i++[nm]:=by rw[List.take_succ,hnm'];rfl
   have nin:nm∉ss.take i:=fun m=>by
    have z:(ss.take (i+1)).Nodup:=hkl.sublist (List.take_sublist _ _)
    rw[e7] at z
    exact(List.nodup_append.mp z).2.2 nm m nm (by simp) rfl
   have fresh:nm∉pts.map (·.1)++ts.map (·.1):=fun m=>nin (d2 nm m)
   have sub1:∀x∈pts.map (·.1)++ts.map (·.1),x∈ss.take (i+1):=fun x hx=>by rw[e7];exact List.mem_append_left _ (d2 x hx)
   walk_at "r"
   refine i4 (xs:=cs.map V.int) (s3.seq hA) (i:=0+(i:Int)) (by rw[Int.zero_add];exact b9 (j:=i) hci) ?_
   walk_at "r"
   refine u7 (ss:=pts.map (·.1)) (.inl g3) (by rw[C5,x8]) (by rw[List.length_map];omega) (fun s1 a1 a2 l1' n1=>?_)
   obtain⟨H6,e6,f6,m6,_⟩:=b5 (o:= .lst _) n1
   rw[e6]
   have s6:=s3.trans m6
   have g6:=m6 _ _ g3
   have t6:=m6 _ _ t3
   have w6:=w3.mono m6.le
   have ha1l:=a1.length_eq
   rw[List.length_map] at ha1l
   walk_at "r"
   refine A4 (v9 (SqL.of f6) ?_)
   rw[List.length_map,ha1l]
   walk_at "r"
   refine C8 (fun hz=>?_) (fun hz=>?_)
   ·walk_at "r"
    obtain⟨kd,hkd,_⟩:=x6 (ss:=ks) (i:=cs[i]/5 % 3/2) (by omega) (by omega)
    refine i4 (s6.seq hC) hkd ?_
    walk_at "r"
    refine i4 (xs:=ss.map V.str) (s6.seq hB) (i:=0+(i:Int)) (by rw[Int.zero_add];exact b9 (j:=i) hnm) ?_
    refine E6 (k6 (k:=Sum.inr nm) g6 (d6 (by unfold i0;rw[List.length_map];omega)) ?_)
    have ep:z0 (i0 pts) (Sum.inr nm:d7) (.str kd)=i0 (pts++[(nm,kd)]):=by
     rw[D7 _ (A7 (by rw[C5,←x8];exact fun m=>fresh (List.mem_append_left _ (G7 m))))]
     unfold i0;rw[List.map_append];rfl
    refine⟨pts++[(nm,kd)],kvs,ts,_,_,_,_,rfl,y9 s6 np,by rw[c9,ep],by rw[b0 (Ne.symm hpq)];exact t6,Paired.imp' (fun _ _ z=>K8 g6 z) w6,?_,?_,?_,?_⟩
    ·exact eL d1 fresh
    ·exact kN sub1 (by rw[e7];simp)
    ·rw[List.length_append,List.length_singleton];omega
    ·intro x hx
     rw[List.map_append]
     exact⟨List.mem_append_left _ (l2 x hx).1,List.mem_append_left _ (l2 x hx).2⟩
   ·walk_at "r"
    refine C8 (fun h3=>?_) (fun h3=>?_)
    ·walk_at "r"
     refine A4 (v9 (SqL.of f6) ?_)
     rw[List.length_map,ha1l]
     walk_at "r"
     refine C8 (fun h4=>?_) (fun h4=>?_)
     ·walk_at "r"
      obtain⟨kd,hkd,_⟩:=x6 (ss:=ks) (i:=cs[i]/5 % 3/2) (by omega) (by omega)
      refine i4 (s6.seq hC) hkd ?_
      walk_at "r"
      refine i4 (xs:=ss.map V.str) (s6.seq hB) (i:=0+(i:Int)) (by rw[Int.zero_add];exact b9 (j:=i) hnm) ?_
      refine E6 (k6 (k:=Sum.inr nm) g6 (d6 (by unfold i0;rw[List.length_map];omega)) ?_)
      have ep:z0 (i0 pts) (Sum.inr nm:d7) (.str kd)=i0 (pts++[(nm,kd)]):=by
       rw[D7 _ (A7 (by rw[C5,←x8];exact fun m=>fresh (List.mem_append_left _ (G7 m))))]
       unfold i0;rw[List.map_append];rfl
      refine⟨pts++[(nm,kd)],kvs,ts,_,_,_,_,rfl,y9 s6 np,by rw[c9,ep],by rw[b0 (Ne.symm hpq)];exact t6,Paired.imp' (fun _ _ z=>K8 g6 z) w6,?_,?_,?_,?_⟩
      ·exact eL d1 fresh
      ·exact kN sub1 (by rw[e7];simp)
      ·rw[List.length_append,List.length_singleton];omega
      ·intro x hx
       rw[List.map_append]
       exact⟨List.mem_append_left _ (l2 x hx).1,List.mem_append_left _ (l2 x hx).2⟩
     ·have hpos:0<pts.length:=by omega
      walk_at "r"
      refine A4 (v9 (SqL.of f6) ?_)
      rw[List.length_map,ha1l]
      walk_at "r"
      obtain⟨o1,ho1,hm1⟩:=x6 (ss:=s1) (i:=cs[i]/15 % (pts.length:Int)) (Int.emod_nonneg _ (by omega)) (by rw[ha1l];exact Int.emod_lt_of_pos _ (by omega))
      refine i4 (SqL.of f6) ho1 ?_
      walk_at "r"
      obtain⟨kd,hkd,_⟩:=x6 (ss:=ks) (i:=cs[i]/5 % 3/2) (by omega) (by omega)
      refine i4 (s6.seq hC) hkd ?_
      walk_at "r"
      refine A4 (v9 (SqL.of f6) ?_)
      rw[List.length_map,ha1l]
      walk_at "r"
      obtain⟨o2,ho2,hm2⟩:=x6 (ss:=s1) (i:=cs[i]/150 % (pts.length:Int)) (Int.emod_nonneg _ (by omega)) (by rw[ha1l];exact Int.emod_lt_of_pos _ (by omega))
      refine i4 (SqL.of f6) ho2 ?_
      walk_at "r"
      refine⟨d6 (by simp),fun l9 n9=>?_⟩
      obtain⟨H9,e9,f9,m9,_⟩:=b5 (o:= .tup _) n9
      rw[e9]
      have s9:=s6.trans m9
      have g9:=m9 _ _ g6
      have t9:=m9 _ _ t6
      have w9:=w6.mono m9.le
      walk_at "r"
      refine i4 (xs:=ss.map V.str) (s9.seq hB) (i:=0+(i:Int)) (by rw[Int.zero_add];exact b9 (j:=i) hnm) ?_
      refine E6 (k6 (k:=Sum.inr nm) t9 (d6 (by have z:=w9.length;omega)) ?_)
      have ek:z0 kvs (Sum.inr nm:d7) (.ref l9)=kvs++[(Sum.inr nm,.ref l9)]:=D7 _ (A7 (by rw[w9.keys,←x8];exact fun m=>fresh (List.mem_append_right _ (G7 m))))
      refine⟨pts,_,ts++[(nm,(kd,o1,o2))],_,_,_,_,rfl,y9 s9 nq0,by rw[b0 hpq];exact g9,c9,?_,?_,?_,?_,?_⟩
      ·rw[ek]
       exact j0 (Paired.imp' (fun _ _ z=>K8 t9 z) w9) (K8 t9 ⟨rfl,l9,rfl,SqT.of f9⟩)
      ·exact oQ d1 fresh
      ·exact kH sub1 (by rw[e7];simp)
      ·rw[List.length_append,List.length_singleton];omega
      ·intro x hx
       rcases List.mem_append.mp hx with h'|h'
       ·exact l2 x h'
       ·rw[List.mem_singleton.mp h'];exact⟨a1.mem_iff.mp hm1,a1.mem_iff.mp hm2⟩
    ·have hpos:0<pts.length:=by omega
     walk_at "r"
     refine A4 (v9 (SqL.of f6) ?_)
     rw[List.length_map,ha1l]
     walk_at "r"
     obtain⟨o1,ho1,hm1⟩:=x6 (ss:=s1) (i:=cs[i]/15 % (pts.length:Int)) (Int.emod_nonneg _ (by omega)) (by rw[ha1l];exact Int.emod_lt_of_pos _ (by omega))
     refine i4 (SqL.of f6) ho1 ?_
     walk_at "r"
     obtain⟨kd,hkd,_⟩:=x6 (ss:=ks) (i:=cs[i]/5 % 3/2) (by omega) (by omega)
     refine i4 (s6.seq hC) hkd ?_
     walk_at "r"
     refine A4 (v9 (SqL.of f6) ?_)
     rw[List.length_map,ha1l]
     walk_at "r"
     obtain⟨o2,ho2,hm2⟩:=x6 (ss:=s1) (i:=cs[i]/150 % (pts.length:Int)) (Int.emod_nonneg _ (by omega)) (by rw[ha1l];exact Int.emod_lt_of_pos _ (by omega))
     refine i4 (SqL.of f6) ho2 ?_
     walk_at "r"
     refine⟨d6 (by simp),fun l9 n9=>?_⟩
     obtain⟨H9,e9,f9,m9,_⟩:=b5 (o:= .tup _) n9
     rw[e9]
     have s9:=s6.trans m9
     have g9:=m9 _ _ g6
     have t9:=m9 _ _ t6
     have w9:=w6.mono m9.le
     walk_at "r"
     refine i4 (xs:=ss.map V.str) (s9.seq hB) (i:=0+(i:Int)) (by rw[Int.zero_add];exact b9 (j:=i) hnm) ?_
     refine E6 (k6 (k:=Sum.inr nm) t9 (d6 (by have z:=w9.length;omega)) ?_)
     have ek:z0 kvs (Sum.inr nm:d7) (.ref l9)=kvs++[(Sum.inr nm,.ref l9)]:=D7 _ (A7 (by rw[w9.keys,←x8];exact fun m=>fresh (List.mem_append_right _ (G7 m))))
     refine⟨pts,_,ts++[(nm,(kd,o1,o2))],_,_,_,_,rfl,y9 s9 nq0,by rw[b0 hpq];exact g9,c9,?_,?_,?_,?_,?_⟩
     ·rw[ek]
      exact j0 (Paired.imp' (fun _ _ z=>K8 t9 z) w9) (K8 t9 ⟨rfl,l9,rfl,SqT.of f9⟩)
     ·exact oQ d1 fresh
     ·exact kH sub1 (by rw[e7];simp)
     ·rw[List.length_append,List.length_singleton];omega
     ·intro x hx
      rcases List.mem_append.mp hx with h'|h'
      ·exact l2 x h'
      ·rw[List.mem_singleton.mp h'];exact⟨a1.mem_iff.mp hm1,a1.mem_iff.mp hm2⟩
  ·rintro σ H3 ⟨pts,kvs,ts,v1,v2,v3,v4,rfl,s3,g3,t3,w3,d1,d2,l1,l2⟩
   refine⟨by show cs.length≤_;omega,?_⟩
   walk_at "r"
   refine⟨d6 (by simp),fun l9 n9=>?_⟩
   obtain⟨H9,e9,f9,m9,_⟩:=b5 (o:= .tup _) n9
   rw[e9]
   have hlen:=w3.length
   exact k l9 p q kvs ⟨pts,ts⟩ H9 (s3.trans m9) ⟨⟨SqT.of f9,.inl (m9 _ _ g3),.inl (m9 _ _ t3),w3.mono m9.le⟩,m9 _ _ g3,m9 _ _ t3,hpq,d1,by show(pts.map (·.1)++ts.map (·.1)).length≤10;rw[List.length_append,List.length_map,List.length_map];omega,l2,fun x hx=>hsl x (List.mem_of_mem_take (d2 x hx))⟩ l1.2
def AS (a b:Str):Prop:=a.cps.toList<b.cps.toList
theorem aj:∀{ss:List Str},rf ss=true→ss.Pairwise AS
 |[],_=> .nil
 |[_],_=>List.pairwise_singleton _ _
 |x::y::r,h=>by
  rw[dD,Bool.and_eq_true] at h
  have ih:=aj h.2
  have hxy:x.cps.toList<y.cps.toList:=of_decide_eq_true h.1
  refine List.pairwise_cons.mpr ⟨fun z hz=>?_,ih⟩
  rcases List.mem_cons.mp hz with e|e
  ·rw[e];exact hxy
  ·exact List.lt_trans hxy ((List.pairwise_cons.mp ih).1 z e)
theorem gI:∀{a b:List Str},a.Pairwise AS→b.Pairwise AS→a.Perm b→a=b
 |[],b,_,_,p=>(List.Perm.nil_eq p)
 |x::r,[],_,_,p=>(List.Perm.eq_nil p)
 |x::r,y::t,h1,h2,p=>by
  have h1':=List.pairwise_cons.mp h1
  have h2':=List.pairwise_cons.mp h2
  have e:x=y:=Classical.byContradiction fun ne=>by
   have m1:x∈y::t:=p.mem_iff.mp List.mem_cons_self
   have m2:y∈x::r:=p.mem_iff.mpr List.mem_cons_self
   rcases List.mem_cons.mp m1 with z|z
   ·exact ne z
   ·rcases List.mem_cons.mp m2 with z'|z'
    ·exact ne z'.symm
    ·have q1:y.cps.toList<x.cps.toList:=h2'.1 x z
     have q2:x.cps.toList<y.cps.toList:=h1'.1 y z'
     exact List.lt_asymm q1 q2
  subst e
  rw[gI h1'.2 h2'.2 (List.Perm.cons_inv p)]
theorem u9 {a b:List Str}(h1:sortedS a=true)(h2:sortedS b=true)(nd:a.Nodup)(p:a.Perm b):a=b:=
 gI (aj (bC h1 nd)) (aj (bC h2 (p.nodup_iff.mp nd))) p
structure Ordr (W:x5) (s1 s2:List Str):Prop where
 p1:s1.Perm (W.pts.map (·.1))
 p2:s2.Perm (W.ts.map (·.1))
 o1:sortedS s1=true
 o2:sortedS s2=true
theorem Ordr.mem {W:x5}{s1 s2:List Str}(h:Ordr W s1 s2){n:Str}:n∈s1++s2↔n∈h9 W:=by
 unfold h9
 rw[List.mem_append,List.mem_append,h.p1.mem_iff,h.p2.mem_iff]
theorem Ordr.perm {W:x5}{s1 s2:List Str}(h:Ordr W s1 s2):(s1++s2).Perm (h9 W):=h.p1.append h.p2
theorem Ordr.len {W:x5}{s1 s2:List Str}(h:Ordr W s1 s2):(s1++s2).length=(h9 W).length:=h.perm.length_eq
def g7 (kvm:List (d7×V))(n:Str):Str:=match i9 kvm (Sum.inr n:d7) with
 |some (.str s)=>s
 |_=>""
theorem eM {kvm:List (d7×V)}{n s:Str}(h:i9 kvm (Sum.inr n:d7)=some (.str s)):g7 kvm n=s:=by unfold g7;rw[h]
def TxtAt (kvm:List (d7×V))(n:Str):Prop:=∃s,i9 kvm (Sum.inr n:d7)=some (.str s)
theorem TxtAt.at_ {kvm:List (d7×V)}{n:Str}(h:TxtAt kvm n):i9 kvm (Sum.inr n:d7)=some (.str (g7 kvm n)):=by
 obtain⟨s,hs⟩:=h
 rw[eM hs];exact hs
theorem rq {H:Hp}{Q:VK}{d:Addr}{kvm:List (d7×V)}{n:Str}(hD:Rd H d (.dK kvm))(h:TxtAt kvm n)(q:Q (.str (g7 kvm n)) H):iD K (.ref d) (.str n) H Q:=
 r9 (by have z:=Q3 (k:=Sum.inr n) hD;rw[h.at_] at z;exact z) q
def ee (K:PySem.W.Frag):Sp:=fun vs H Q _=>∃(a p q:Addr) (kvs:List (d7×V)) (W:x5),vs=[.ref a]∧WebAt K H a p q kvs W∧(h9 W).length≤60∧∀(l:Addr) (H':Hp) (s1 s2:List Str),H l=none→Same H H'→H' l=some (.lst ((s1++s2).map V.str))→Ordr W s1 s2→Q (.ref l) H'
def T1 (K:PySem.W.Frag):Sp:=fun vs H Q _=>∃(t d:Addr) (x:B6) (kvm:List (d7×V)),vs=[.ref t,.ref d]∧SqT K H t (D0 x)∧Rd H d (.dK kvm)∧TxtAt kvm x.2.1∧TxtAt kvm x.2.2∧∀(l:Addr) (H':Hp),H l=none→Same H H'→H' l=some (.tup (D0 (x.1,g7 kvm x.2.1,g7 kvm x.2.2)))→Q (.ref l) H'
theorem y7 (W:x5):(h9 W).length=W.pts.length+W.ts.length:=by unfold h9;rw[List.length_append,List.length_map,List.length_map]
abbrev au (P:Program)(w:World)(K:PySem.W.Frag)(mg:Str→Option Value)(base:Heap):Prop:=V0 P w K mg base D5 1 "things" ["web"] [] (ee K)
theorem nH {f:Addr}{fd:FuncData}(T:Txt K mg)(F:Fun K "things" "things" cj f fd):A6 P w K mg base D5 1 f fd ["web"] (ee K):=by
 refine F.ok sc_things (fun vs H Q E h=>?_) (fun cdv A outer s H vs Q E hr h=>?_)
 ·obtain⟨a,p,q,kvs,W,rfl,_⟩:=h
  rfl
 ·obtain⟨a,p,q,kvs,W,rfl,hW,h1,k⟩:=h
  rw[y7] at h1
  have hN:=sc_things.nd
  have hu:=A3 hr
  refine⟨_,QSs.r (C2 (z9 (D6 (S7 K) (qB (z6 K rfl) T.b_sorted Boot.«sorted» (h7 (p8 (p7 K hu) (qV 0) d9 (fun _ _=>rfl)) i5)) (qB (z6 K rfl) T.b_sorted Boot.«sorted» (h7 (p8 (p7 K hu) (qV 0) d9 (fun _ _=>rfl)) i5))))),?_⟩
  walk_at "r"
  refine b7 hW.tup (b9 (j:=0) rfl) ?_
  walk_at "r"
  refine u7 (ss:=W.pts.map (·.1)) hW.pts (by rw[C5,x8]) (by rw[List.length_map];omega) (fun s1 a1 a2 l1 n1=>?_)
  obtain⟨H1,e1,f1,m1,_⟩:=b5 (o:= .lst _) n1
  rw[e1]
  have W1:=hW.mono m1.le
  walk_at "r"
  refine b7 W1.tup (b9 (j:=1) rfl) ?_
  walk_at "r"
  refine u7 (ss:=W.ts.map (·.1)) W1.ties (by rw[W1.ts.keys,x8]) (by rw[List.length_map];omega) (fun s2 b1 b2 l2 n2=>?_)
  obtain⟨H2,e2,f2,m2,_⟩:=b5 (o:= .lst _) n2
  rw[e2]
  have g1:=a1.length_eq
  have g2:=b1.length_eq
  rw[List.length_map] at g1 g2
  refine gk (m2 _ _ f1) f2 (d6 (by rw[List.length_map,List.length_map];omega)) (fun l3 n3=>?_)
  obtain⟨H3,e3,f3,m3,_⟩:=b5 (o:= .lst _) n3
  rw[e3]
  refine k l3 H3 s1 s2 (m1.free (m2.free n3)) (m1.trans (m2.trans m3)) ?_ ⟨a1,b1,a2,b2⟩
  rw[f3,List.map_append]
abbrev V6 (P:Program)(w:World)(K:PySem.W.Frag)(mg:Str→Option Value)(base:Heap):Prop:=V0 P w K mg base D5 1 "tie_renamed" ["tie","names"] [] (T1 K)
theorem bP {f:Addr}{fd:FuncData}(T:Txt K mg)(F:Fun K "tie_renamed" "tie_renamed" L8 f fd):A6 P w K mg base D5 1 f fd ["tie","names"] (T1 K):=by
 refine F.ok sc_tie_renamed (fun vs H Q E h=>?_) (fun cdv A outer s H vs Q E hr h=>?_)
 ·obtain⟨t,d,x,kvm,rfl,_⟩:=h
  rfl
 ·obtain⟨t,d,⟨x1,x2,x3⟩,kvm,rfl,hT,hD,k1,k2,k⟩:=h
  have hN:=sc_tie_renamed.nd
  have hu:=A3 hr
  refine⟨_,QSs.r (C2 (z9 (O1 (h7 (p8 (p7 K hu) (qV 0) d9 (fun _ _=>rfl)) (h7 (p8 (p7 K hu) (qV 1) (p8 (p7 K hu) (qV 0) d9 (fun _ _=>rfl)) (fun _ _=>rfl)) (h7 (p8 (p7 K hu) (qV 1) (p8 (p7 K hu) (qV 0) d9 (fun _ _=>rfl)) (fun _ _=>rfl)) i5)))))),?_⟩
  walk_at "r"
  refine b7 hT (b9 (j:=0) rfl) ?_
  walk_at "r"
  refine b7 hT (b9 (j:=1) rfl) ?_
  refine rq hD k1 ?_
  walk_at "r"
  refine b7 hT (b9 (j:=2) rfl) ?_
  refine rq hD k2 ?_
  walk_at "r"
  refine⟨d6 (by simp),fun l9 n9=>?_⟩
  obtain⟨H9,e9,f9,m9,_⟩:=b5 (o:= .tup _) n9
  rw[e9]
  exact k l9 H9 n9 m9 f9
structure FitP (P W:x5) (kvm:List (d7×V)):Prop where
 len:kvm.length=(h9 P).length
 txt:∀n∈h9 P,TxtAt kvm n
 nd:((h9 P).map (g7 kvm)).Nodup
 pts:∀x∈P.pts,(g7 kvm x.1,x.2)∈W.pts
 ts:∀x∈P.ts,(g7 kvm x.1,(x.2.1,g7 kvm x.2.2.1,g7 kvm x.2.2.2))∈W.ts
theorem fi:∀{kvs:List (d7×V)} {k:d7} {v:V},i9 kvs k=some v→(k,v)∈kvs
 |p::r,k,v,h=>by
  by_cases e:p.1=k
  ·rw[u5 e] at h
   rw[←e,←Option.some.inj h];exact List.mem_cons_self
  ·rw[u4 e] at h
   exact List.mem_cons_of_mem _ (fi h)
theorem kQ {pts:List (Str×Str)}{n:Str}{v:V}(h:i9 (i0 pts) (Sum.inr n:d7)=some v):∃k,v= .str k∧(n,k)∈pts:=by
 obtain⟨x,hx,e⟩:=List.mem_map.mp (fi h)
 obtain⟨x1,x2⟩:=x
 have e1:=(Prod.mk.inj e).1
 have e2:=(Prod.mk.inj e).2
 exact⟨x2,e2.symm,by rw[←Sum.inr.inj e1];exact hx⟩
theorem y8 {W:x5}(h:(h9 W).Nodup):(W.pts.map (·.1)).Nodup:=(List.nodup_append.mp h).1
theorem F8 {W:x5}(h:(h9 W).Nodup):(W.ts.map (·.1)).Nodup:=(List.nodup_append.mp h).2.1
theorem Y6 {pts:List (Str×Str)}{n s:Str}(h:n∉pts.map (·.1)):z0 (i0 pts) (Sum.inr n:d7) (.str s)=i0 (pts++[(n,s)]):=by
 rw[D7 _ (A7 (by rw[C5,←x8];exact fun m=>h (G7 m)))]
 unfold i0;rw[List.map_append];rfl
theorem A0 {ms:List (Str×Str)}{n m:Str}(nd:(ms.map (·.1)).Nodup)(h:(n,m)∈ms):g7 (i0 ms) n=m:=eM (J2 nd h)
def dg (x:Str):List Str→List Str
 |[]=>[x]
 |y::r=>if ltCps y.cps.toList x.cps.toList=true then y::dg x r else x::y::r
def Q4:List Str→List Str
 |[]=>[]
 |x::r=>dg x (Q4 r)
theorem ef (x:Str):∀l,(dg x l).Perm (x::l)
 |[]=> .refl _
 |y::r=>by
  unfold dg
  split
  ·exact((ef x r).cons y).trans (.swap _ _ _)
  ·exact .refl _
theorem M4:∀l,(Q4 l).Perm l
 |[]=> .refl _
 |x::r=>(ef x _).trans ((M4 r).cons x)
theorem ib {a b:Str}(h:ltCps a.cps.toList b.cps.toList=true):ltCps b.cps.toList a.cps.toList=false:=by
 rw[ltCps_eq] at h⊢
 exact decide_eq_false (List.lt_asymm (of_decide_eq_true h))
theorem iA {x:Str}:∀{l:List Str} {p:Str},risingS p l=true→ltCps x.cps.toList p.cps.toList=false→risingS p (dg x l)=true
 |[],p,_,h=>by unfold dg;unfold risingS;rw[h];rfl
 |y::r,p,h1,h=>by
  have h1':(!ltCps y.cps.toList p.cps.toList&&risingS y r)=true:=h1
  rw[Bool.and_eq_true] at h1'
  unfold dg
  split
  ·next e=>
   show(!ltCps y.cps.toList p.cps.toList&&risingS y (dg x r))=true
   rw[h1'.1,iA h1'.2 (ib e)];rfl
  ·next e=>
   show(!ltCps x.cps.toList p.cps.toList&&(!ltCps y.cps.toList x.cps.toList&&risingS y r))=true
   rw[h,h1'.2];simpa using e
theorem Z7:∀l,sortedS (Q4 l)=true
 |[]=>rfl
 |x::r=>by
  have ih:=Z7 r
  show sortedS (dg x (Q4 r))=true
  cases e:Q4 r with
  |nil=>rfl
  |cons y t=>
   rw[e] at ih
   unfold dg
   split
   ·next z=>exact iA ih (ib z)
   ·next z=>
    show(!ltCps y.cps.toList x.cps.toList&&risingS y t)=true
    rw[show risingS y t=true from ih];simpa using z
def p9 (ts:List (Str×B6))(n:Str):B6:=match ts.find? (fun x=>decide (x.1=n)) with
 |some x=>x.2
 |none=>("","","")
theorem N0:∀{ts:List (Str×B6)} {n:Str} {t:B6},(ts.map (·.1)).Nodup→(n,t)∈ts→p9 ts n=t
 |[],_,_,_,h=>nomatch h
 |x::r,n,t,nd,h=>by
  unfold p9
  have nd':=List.nodup_cons.mp (show(x.1::r.map (·.1)).Nodup from nd)
  by_cases e:x.1=n
  ·rw[List.find?_cons_of_pos (by simpa using e)]
   rcases List.mem_cons.mp h with z|z
   ·rw[←z]
   ·exact absurd (List.mem_map.mpr ⟨_,z,rfl⟩) (e▸nd'.1)
  ·rw[List.find?_cons_of_neg (by simpa using e)]
   rcases List.mem_cons.mp h with z|z
   ·exact absurd (by rw[←z]) e
   ·exact N0 nd'.2 z
theorem S2 {ts:List (Str×B6)}{n:Str}(h:n∈ts.map (·.1)):(n,p9 ts n)∈ts:=by
 unfold p9
 cases e:ts.find? (fun x=>decide (x.1=n)) with
 |none=>
  obtain⟨x,hx,z⟩:=List.mem_map.mp h
  exact absurd (List.find?_eq_none.mp e x hx) (by simpa using z)
 |some x=>
  have z:x.1=n:=by simpa using List.find?_some e
  rw[←z];exact List.mem_of_find?_eq_some e
def F1 (fx:List (Str×Str))(n im:Str):Bool:=if n∈fx.map (·.1) then decide (im=g7 (i0 fx) n) else !decide (im∈fx.map (·.2))
def iB (L:Str→Str→Bool)(gp:List Str)(fx:List (Str×Str))(n:Str):List Str:=(gp.filter (L n)).filter (F1 fx n)
def jU (W:x5)(gt:List Str)(fx:List (Str×Str))(n:Str)(t:B6):List Str:=gt.filter fun im=>decide (p9 W.ts im=t)&&F1 fx n im
def gv (nm b:List Str)(x:Str):Str:=g7 (i0 (nm.zip b)) x
def lE (W:x5)(gt:List Str)(fx:List (Str×Str))(nm b:List Str)(x:Str×B6):List Str:=jU W gt fx x.1 (x.2.1,gv nm b x.2.2.1,gv nm b x.2.2.2)
def sm (a b:Str):Str:=if a.cps.toList<b.cps.toList then b else a
def R0 (ts:List (Str×B6))(n:Str):List (Str×B6):=ts.filter fun x=>decide (sm x.2.2.1 x.2.2.2=n)
def oh (ls:List (List Str)):Bool:=ls.all fun d=>decide (ls.count d≤d.length)
def E4 (L:Str→Str→Bool)(Pc W:x5)(gp gt:List Str)(fx:List (Str×Str))(nm b:List Str):List Str:=match nm[b.length]? with
 |none=>[]
 |some n=>if n∈Pc.ts.map (·.1) then(lE W gt fx nm b (n,p9 Pc.ts n)).filter (fun x=>!decide (x∈b))
  else((iB L gp fx n).filter (fun x=>!decide (x∈b))).filter fun im=>oh ((R0 Pc.ts n).map (lE W gt fx nm (b++[im])))
def aF (img:List Str→List Str):Nat→List Str→List (List Str)
 |0,b=>[b]
 |k+1,b=>(img b).flatMap fun x=>aF img k (b++[x])
def S8:List (List Str)→List Str→List (List Str)
 |[],b=>[b]
 |c::r,b=>c.flatMap fun x=>S8 r (b++[x])
def zP (img:List Str→List Str)(j:Nat)(row:List Str):Prop:=∀(i:Nat) (x:Str),j≤i→row[i]?=some x→x∈img (row.take i)
theorem Y5:∀{bs:List (List Str)} {b row:List Str},row∈S8 bs b→∃t,row=b++t∧t.length=bs.length∧∀(i:Nat) (x:Str) (c:List Str),t[i]?=some x→bs[i]?=some c→x∈c
 |[],b,row,h=>by
  rw[List.mem_singleton.mp h]
  exact⟨[],by simp,rfl,fun i x c hx _=>by simp at hx⟩
 |c::r,b,row,h=>by
  obtain⟨x,hx,h'⟩:=List.mem_flatMap.mp h
  obtain⟨t,e,hl,hm⟩:=Y5 h'
  refine⟨x::t,by rw[e];simp,by simp [hl],fun i y d hy hd=>?_⟩
  cases i with
  |zero=>cases hy;cases hd;exact hx
  |succ i=>exact hm i y d hy hd
theorem kR:∀{bs:List (List Str)} {b t:List Str},t.length=bs.length→(∀(i:Nat) (x:Str) (c:List Str),t[i]?=some x→bs[i]?=some c→x∈c)→b++t∈S8 bs b
 |[],b,[],_,_=>by simp [S8]
 |c::r,b,x::t,hl,hm=>by
  refine List.mem_flatMap.mpr ⟨x,hm 0 x c rfl rfl,?_⟩
  have z:=kR (bs:=r) (b:=b++[x]) (t:=t) (by simpa using hl) fun i y d hy hd=>hm (i+1) y d hy hd
  simpa using z
theorem T5 {α β:Type}(p:α→Bool)(F:α→List β):∀l:List α,(l.filter p).flatMap F=l.flatMap fun x=>if p x=true then F x else []
 |[]=>rfl
 |a::l=>by
  cases e:p a with
  |true=>rw[List.filter_cons_of_pos e,List.flatMap_cons,List.flatMap_cons,if_pos e,T5 p F l]
  |false=>rw[List.filter_cons_of_neg (by rw[e];decide),List.flatMap_cons,if_neg (by rw[e];decide),T5 p F l];rfl
theorem X4 {α β:Type}{F G:α→List β}:∀{l:List α},(∀x∈l,F x=G x)→l.flatMap F=l.flatMap G
 |[],_=>rfl
 |a::l,h=>by rw[List.flatMap_cons,List.flatMap_cons,h a List.mem_cons_self,X4 fun x hx=>h x (List.mem_cons_of_mem _ hx)]
theorem q8 {α:Type}{p q:α→Bool}:∀{l:List α},(∀x∈l,p x=q x)→l.filter p=l.filter q
 |[],_=>rfl
 |a::l,h=>by
  have z:=q8 (l:=l) fun x hx=>h x (List.mem_cons_of_mem _ hx)
  rw[List.filter_cons,List.filter_cons,h a List.mem_cons_self,z]
open Classical in
theorem pB {img:List Str→List Str}:∀{bs:List (List Str)} {b:List Str},(∀(j:Nat) (c:List Str),bs[j]?=some c→∀b':List Str,b'.length=b.length+j→img b'=c.filter fun x=>decide (x∈img b'))→
  aF img bs.length b=(S8 bs b).filter fun row=>decide (zP img b.length row)
 |[],b,_=>by
  show [b]=[b].filter _
  rw[List.filter_cons_of_pos (by
   refine decide_eq_true fun i x hi hx=>?_
   rw[List.getElem?_eq_none hi] at hx;cases hx)];rfl
 |c::r,b,h=>by
  show(img b).flatMap (fun x=>aF img r.length (b++[x]))=(c.flatMap fun x=>S8 r (b++[x])).filter _
  have h0:=h 0 c rfl b (by omega)
  have hF:∀x,aF img r.length (b++[x])=(S8 r (b++[x])).filter fun row=>decide (zP img (b++[x]).length row):=fun x=>
   pB fun j d hd b' hb=>h (j+1) d hd b' (by rw[hb,List.length_append,List.length_singleton];omega)
  rw[List.filter_flatMap,h0,T5]
  refine X4 fun x hx=>?_
  rw[hF x]
  by_cases hin:x∈img b
  ·rw[if_pos (decide_eq_true hin)]
   refine q8 fun row hrow=>?_
   obtain⟨t,e,_⟩:=Y5 hrow
   rw[Bool.eq_iff_iff,decide_eq_true_eq,decide_eq_true_eq]
   constructor
   ·intro ok i y hi hy
    by_cases z:i=b.length
    ·have e1:row[i]?=some x:=by rw[e,z];simp
     rw[e1] at hy;cases hy
     have e2:row.take i=b:=by rw[e,z];simp
     rw[e2];exact hin
    ·exact ok i y (by rw[List.length_append,List.length_singleton];omega) hy
   ·intro ok i y hi hy
    exact ok i y (by rw[List.length_append,List.length_singleton] at hi;omega) hy
  ·rw[if_neg (by rw[decide_eq_false hin];decide)]
   refine(List.filter_eq_nil_iff.mpr fun row hrow=>?_).symm
   obtain⟨t,e,_⟩:=Y5 hrow
   intro ok
   have z:=of_decide_eq_true ok b.length x (Nat.le_refl _) (by rw[e];simp)
   rw[show row.take b.length=b by rw[e];simp] at z
   exact hin z
theorem hV {c:List Str}{p:Str→Bool}:c.filter p=c.filter fun x=>decide (x∈c.filter p):=q8 fun x hx=>by
 rw[Bool.eq_iff_iff,decide_eq_true_eq,List.mem_filter]
 exact⟨fun h=>⟨hx,h⟩,fun h=>h.2⟩
theorem kr:∀(nm b:List Str),((nm.zip b).map (·.1)).Sublist nm
 |[],_=> .slnil
 |_::_,[]=>List.nil_sublist _
 |n::nm,x::b=>(kr nm b).cons_cons n
theorem cE {nm:List Str}(b:List Str)(nd:nm.Nodup):((nm.zip b).map (·.1)).Nodup:=nd.sublist (kr nm b)
theorem bx {nm b:List Str}{i:Nat}{n x:Str}(h1:nm[i]?=some n)(h2:b[i]?=some x):(n,x)∈nm.zip b:=by
 have z:(nm.zip b)[i]?=some (n,x):=by rw[List.getElem?_zip_eq_some];exact⟨h1,h2⟩
 exact List.mem_of_getElem? z
theorem dS {nm b:List Str}{i:Nat}{n x:Str}(nd:nm.Nodup)(h1:nm[i]?=some n)(h2:b[i]?=some x):gv nm b n=x:=A0 (cE b nd) (bx h1 h2)
theorem ph {nm row:List Str}(nd:nm.Nodup)(hl:row.length=nm.length):nm.map (gv nm row)=row:=by
 refine List.ext_getElem? fun i=>?_
 rw[List.getElem?_map]
 by_cases hi:i<nm.length
 ·rw[List.getElem?_eq_getElem hi,List.getElem?_eq_getElem (show i<row.length by omega)]
  exact congrArg some (dS nd (List.getElem?_eq_getElem hi) (List.getElem?_eq_getElem (by omega)))
 ·rw[List.getElem?_eq_none (by omega),List.getElem?_eq_none (by omega)];rfl
theorem dz:∀{l m:List Str},l.Nodup→(∀x∈l,x∈m)→l.length≤m.length
 |[],m,_,_=>Nat.zero_le _
 |x::r,m,nd,h=>by
  have nd':=List.nodup_cons.mp nd
  have hx:=h x List.mem_cons_self
  have z:=dz (l:=r) (m:=m.erase x) nd'.2 fun y hy=>(List.mem_erase_of_ne (fun e:y=x=>nd'.1 (by rw[←e];exact hy))).mpr (h y (List.mem_cons_of_mem _ hy))
  rw[List.length_erase_of_mem hx] at z
  have:0<m.length:=List.length_pos_of_mem hx
  rw[List.length_cons];omega
theorem dh {α:Type}(f:α→List Str)(d:List Str):∀ts:List α,(ts.map f).count d=(ts.filter fun t=>decide (f t=d)).length
 |[]=>rfl
 |t::r=>by
  rw[List.map_cons,List.count_cons,dh f d r,List.filter_cons]
  by_cases e:f t=d
  ·rw[if_pos (by simpa using e),if_pos (by simpa using e)];rfl
  ·rw[if_neg (by simpa using e),if_neg (by simpa using e)];rfl
theorem uy {α:Type}{ts:List α}{f:α→List Str}{r:α→Str}(hm:∀t∈ts,r t∈f t)(nd:(ts.map r).Nodup):oh (ts.map f)=true:=by
 unfold oh
 rw[List.all_eq_true]
 intro d hd
 rw[decide_eq_true_eq,dh]
 have z:((ts.filter fun t=>decide (f t=d)).map r).length≤d.length:=by
  refine dz (nd.sublist (List.filter_sublist.map r)) fun x hx=>?_
  obtain⟨t,ht,rfl⟩:=List.mem_map.mp hx
  rw[List.mem_filter] at ht
  rw[←of_decide_eq_true ht.2];exact hm t ht.1
 rw[List.length_map] at z;exact z
def eB (fx:List (Str×Str))(nm row:List Str):Prop:=∀x∈fx,gv nm row x.1=x.2
structure SrchP (L:Str→Str→Bool) (Pc W:x5) (s1 s2 gp gt:List Str) (fx:List (Str×Str)):Prop where
 o:Ordr Pc s1 s2
 o':Ordr W gp gt
 nd:(h9 Pc).Nodup
 nd':(h9 W).Nodup
 ends:∀x∈Pc.ts,x.2.2.1∈Pc.pts.map (·.1)∧x.2.2.2∈Pc.pts.map (·.1)
 fnd:(fx.map (·.1)).Nodup
 fin:∀x∈fx,x.1∈h9 Pc
 ls:∀n x,n∈Pc.pts.map (·.1)→x∈W.pts.map (·.1)→L n x=true→g7 (i0 W.pts) x=g7 (i0 Pc.pts) n
 lc:∀row,FitP Pc W (i0 ((s1++s2).zip row))→∀x∈Pc.pts,L x.1 (gv (s1++s2) row x.1)=true
section
variable {L:Str→Str→Bool} {Pc W:x5} {s1 s2 gp gt:List Str} {fx:List (Str×Str)}
def bg (s1 s2 gp gt:List Str):List (List Str):=List.replicate s1.length gp++List.replicate s2.length gt
theorem bB:(bg s1 s2 gp gt).length=(s1++s2).length:=by unfold bg;simp
theorem SrchP.nn (S:SrchP L Pc W s1 s2 gp gt fx):(s1++s2).Nodup:=S.o.perm.nodup_iff.mpr S.nd
theorem SrchP.is1 (S:SrchP L Pc W s1 s2 gp gt fx){i:Nat}{n:Str}(h:(s1++s2)[i]?=some n):(n∉Pc.ts.map (·.1)∧i<s1.length)∨(n∈Pc.ts.map (·.1)∧s1.length≤i):=by
 by_cases hi:i<s1.length
 ·refine .inl ⟨fun z=>?_,hi⟩
  rw[List.getElem?_append_left hi] at h
  have m1:n∈s1:=List.mem_of_getElem? h
  exact(List.nodup_append.mp S.nn).2.2 n m1 n (S.o.p2.mem_iff.mpr z) rfl
 ·rw[List.getElem?_append_right (by omega)] at h
  exact .inr ⟨S.o.p2.mem_iff.mp (List.mem_of_getElem? h),by omega⟩
theorem sL {L c:List Str}{p:Str→Bool}(e:L=c.filter p):L=c.filter fun x=>decide (x∈L):=by subst e;exact hV
theorem oH (S:SrchP L Pc W s1 s2 gp gt fx){j:Nat}{c b:List Str}(h:(bg s1 s2 gp gt)[j]?=some c)(hb:b.length=j):E4 L Pc W gp gt fx (s1++s2) b=c.filter fun x=>decide (x∈E4 L Pc W gp gt fx (s1++s2) b):=by
 have hj:j<(s1++s2).length:=by
  rw[←bB (gp:=gp) (gt:=gt)]
  rcases Nat.lt_or_ge j (bg s1 s2 gp gt).length with z|z
  ·exact z
  ·rw[List.getElem?_eq_none z] at h;cases h
 have hn:(s1++s2)[b.length]?=some ((s1++s2)[j]):=by rw[hb];exact List.getElem?_eq_getElem hj
 have hc:c=if j<s1.length then gp else gt:=by
  unfold bg at h
  by_cases z:j<s1.length
  ·rw[List.getElem?_append_left (by simpa using z),List.getElem?_replicate,if_pos z] at h
   rw[if_pos z];exact(Option.some.inj h).symm
  ·rw[List.getElem?_append_right (by simpa using z),List.length_replicate,List.getElem?_replicate,if_pos (by rw[List.length_append] at hj;omega)] at h
   rw[if_neg z];exact(Option.some.inj h).symm
 obtain⟨p,e⟩:∃p,E4 L Pc W gp gt fx (s1++s2) b=c.filter p:=by
  unfold E4
  rw[hn]
  dsimp only
  rcases S.is1 (i:=j) (List.getElem?_eq_getElem hj) with⟨h1,h2⟩|⟨h1,h2⟩
  ·rw[if_neg h1,hc,if_pos h2]
   unfold iB
   rw[List.filter_filter,List.filter_filter,List.filter_filter]
   exact⟨_,rfl⟩
  ·rw[if_pos h1,hc,if_neg (by omega)]
   unfold lE jU
   rw[List.filter_filter]
   exact⟨_,rfl⟩
 exact sL e
theorem X1 {n:Str}{l:List Str}(h:n∈l):∃i:Nat,l[i]?=some n:=List.getElem?_of_mem h
theorem SrchP.pt_idx (S:SrchP L Pc W s1 s2 gp gt fx){n:Str}(h:n∈Pc.pts.map (·.1)):∃i:Nat,i<s1.length∧(s1++s2)[i]?=some n:=by
 obtain⟨i,hi⟩:=X1 (S.o.p1.mem_iff.mpr h)
 have hl:i<s1.length:=by
  rcases Nat.lt_or_ge i s1.length with z|z
  ·exact z
  ·rw[List.getElem?_eq_none z] at hi;cases hi
 exact⟨i,hl,by rw[List.getElem?_append_left hl];exact hi⟩
theorem bt {nm row:List Str}{i j:Nat}{n:Str}(nd:nm.Nodup)(hl:row.length=nm.length)(h:nm[i]?=some n)(hij:i<j):gv nm (row.take j) n=gv nm row n:=by
 have hi:i<nm.length:=by
  rcases Nat.lt_or_ge i nm.length with z|z
  ·exact z
  ·rw[List.getElem?_eq_none z] at h;cases h
 have h2:row[i]?=some row[i]:=List.getElem?_eq_getElem (by omega)
 rw[dS nd h h2,dS nd h (b:=row.take j) (x:=row[i]) (by rw[List.getElem?_take,if_pos hij];exact h2)]
theorem wD {n x:Str}{nm row:List Str}(fnd:(fx.map (·.1)).Nodup)(d:eB fx nm row)(inj:∀y∈fx,gv nm row y.1=gv nm row n→y.1=n)(e:gv nm row n=x):F1 fx n x=true:=by
 unfold F1
 split
 ·next h=>
  obtain⟨y,hy,rfl⟩:=List.mem_map.mp h
  rw[A0 fnd (show(y.1,y.2)∈fx from hy),←e]
  exact decide_eq_true (d y hy)
 ·next h=>
  have z:x∉fx.map (·.2):=fun z=>by
   obtain⟨y,hy,ey⟩:=List.mem_map.mp z
   have z1:=d y hy
   rw[ey,←e] at z1
   exact h (by rw[←inj y hy z1];exact List.mem_map.mpr ⟨y,hy,rfl⟩)
  simpa using z
theorem zl {pts:List (Str×Str)}{g:List Str}{x kd:Str}(nd:(pts.map (·.1)).Nodup)(p:g.Perm (pts.map (·.1)))(h:x∈g)(hk:g7 (i0 pts) x=kd):(x,kd)∈pts:=by
 obtain⟨y,hy,rfl⟩:=List.mem_map.mp (p.mem_iff.mp h)
 rw[A0 nd (show(y.1,y.2)∈pts from hy)] at hk
 rw[←hk];exact hy
theorem ql {Q:x5}{kvm:List (d7×V)}{x y:Str}(nd:((h9 Q).map (g7 kvm)).Nodup)(hx:x∈h9 Q)(hy:y∈h9 Q)(e:g7 kvm x=g7 kvm y):x=y:=by
 obtain⟨i,hi⟩:=X1 hx
 obtain⟨j,hj⟩:=X1 hy
 have e1:((h9 Q).map (g7 kvm))[i]?=some (g7 kvm x):=by rw[List.getElem?_map,hi];rfl
 have e2:((h9 Q).map (g7 kvm))[j]?=some (g7 kvm x):=by rw[List.getElem?_map,hj,e];rfl
 have li:i<((h9 Q).map (g7 kvm)).length:=by
  rcases Nat.lt_or_ge i ((h9 Q).map (g7 kvm)).length with z|z
  ·exact z
  ·rw[List.getElem?_eq_none z] at e1;cases e1
 have z:=(List.getElem?_inj li nd).mp (e1.trans e2.symm)
 rw[z,hj] at hi
 exact(Option.some.inj hi).symm
theorem bw (S:SrchP L Pc W s1 s2 gp gt fx){i:Nat}{e:Str}(hi:i<s1.length)(he:e∈Pc.pts.map (·.1))(hle:¬(s1[i].cps.toList<e.cps.toList)):∃j:Nat,j≤i∧(s1++s2)[j]?=some e:=by
 obtain⟨j,hj,hjn⟩:=S.pt_idx he
 refine⟨j,?_,hjn⟩
 rcases Nat.lt_or_ge i j with z|z
 ·exfalso
  have nd1:s1.Nodup:=(List.nodup_append.mp S.nn).1
  have pw:=aj (bC S.o.o1 nd1)
  have w:=List.pairwise_iff_getElem.mp pw i j hi hj z
  rw[List.getElem?_append_left hj,List.getElem?_eq_getElem hj] at hjn
  rw[Option.some.inj hjn] at w
  exact hle w
 ·exact z
end
section
variable {L:Str→Str→Bool} {Pc W:x5} {s1 s2 gp gt:List Str} {fx:List (Str×Str)}
theorem uZ {j:Nat}{c:List Str}(h:(bg s1 s2 gp gt)[j]?=some c):(j<s1.length∧c=gp)∨(s1.length≤j∧c=gt):=by
 unfold bg at h
 by_cases z:j<s1.length
 ·rw[List.getElem?_append_left (by simpa using z),List.getElem?_replicate,if_pos z] at h
  exact .inl ⟨z,(Option.some.inj h).symm⟩
 ·rw[List.getElem?_append_right (by simpa using z),List.length_replicate,List.getElem?_replicate] at h
  split at h
  ·exact .inr ⟨by omega,(Option.some.inj h).symm⟩
  ·cases h
theorem N1 {α:Type}{l:List α}{i:Nat}{x:α}(h:l[i]?=some x):i<l.length:=by
 rcases Nat.lt_or_ge i l.length with z|z
 ·exact z
 ·rw[List.getElem?_eq_none z] at h;cases h
theorem mem_ch {n x:Str}:x∈iB L gp fx n↔x∈gp∧L n x=true∧F1 fx n x=true:=by
 unfold iB
 rw[List.mem_filter,List.mem_filter,and_assoc]
theorem mem_pl {n x:Str}{t:B6}:x∈jU W gt fx n t↔x∈gt∧p9 W.ts x=t∧F1 fx n x=true:=by
 unfold jU
 rw[List.mem_filter,Bool.and_eq_true,decide_eq_true_eq]
theorem wA (S:SrchP L Pc W s1 s2 gp gt fx){row:List Str}(hl:row.length=(s1++s2).length)(ok:zP (E4 L Pc W gp gt fx (s1++s2)) 0 row):FitP Pc W (i0 ((s1++s2).zip row))∧eB fx (s1++s2) row:=by
 have nn:=S.nn
 have key:∀(i:Nat) (n x:Str),(s1++s2)[i]?=some n→row[i]?=some x→x∉row.take i∧F1 fx n x=true∧(n∉Pc.ts.map (·.1)→(x,g7 (i0 Pc.pts) n)∈W.pts)∧(n∈Pc.ts.map (·.1)→(x,((p9 Pc.ts n).1,gv (s1++s2) row (p9 Pc.ts n).2.1,gv (s1++s2) row (p9 Pc.ts n).2.2))∈W.ts):=by
  intro i n x hn hx
  have hil:=N1 hn
  have h0:=ok i x (Nat.zero_le _) hx
  have hlt:(row.take i).length=i:=by rw[List.length_take];omega
  unfold E4 at h0
  rw[hlt,hn] at h0
  dsimp only at h0
  rcases S.is1 hn with⟨h1,h2⟩|⟨h1,h2⟩
  ·rw[if_neg h1,List.mem_filter,List.mem_filter,mem_ch] at h0
   refine⟨by simpa using h0.1.2,h0.1.1.2.2,fun _=>zl (y8 S.nd') S.o'.p1 h0.1.1.1 (S.ls n x ((List.mem_append.mp (S.o.mem.mp (List.mem_of_getElem? hn))).resolve_right h1) (S.o'.p1.mem_iff.mp h0.1.1.1) h0.1.1.2.1),fun z=>absurd z h1⟩
  ·rw[if_pos h1,List.mem_filter] at h0
   have hm:=mem_pl.mp (show x∈jU W gt fx n _ from h0.1)
   refine⟨by simpa using h0.2,hm.2.2,fun z=>absurd h1 z,fun _=>?_⟩
   have hin:=S2 h1
   have he:=S.ends _ hin
   obtain⟨j1,hj1,hk1⟩:=S.pt_idx he.1
   obtain⟨j2,hj2,hk2⟩:=S.pt_idx he.2
   have e1:=bt (j:=i) nn hl hk1 (by omega)
   have e2:=bt (j:=i) nn hl hk2 (by omega)
   have z:=S2 (S.o'.p2.mem_iff.mp hm.1)
   rw[hm.2.1] at z
   dsimp only at z e1 e2
   rw[e1,e2] at z
   exact z
 have rnd:row.Nodup:=by
  refine List.pairwise_iff_getElem.mpr fun i j hi hj hij e=>?_
  have z:=(key j ((s1++s2)[j]'(by omega)) row[j] (List.getElem?_eq_getElem (by omega)) (List.getElem?_eq_getElem hj)).1
  refine z (List.mem_of_getElem? (i:=i) ?_)
  rw[List.getElem?_take,if_pos hij,List.getElem?_eq_getElem hi,e]
 have gvk:∀n∈s1++s2,∃(i:Nat) (x:Str),(s1++s2)[i]?=some n∧row[i]?=some x∧gv (s1++s2) row n=x:=fun n hn=>by
  obtain⟨i,hi⟩:=X1 hn
  have hil:=N1 hi
  exact⟨i,row[i],hi,List.getElem?_eq_getElem (by omega),dS nn hi (List.getElem?_eq_getElem (by omega))⟩
 refine⟨⟨?_,fun n hn=>?_,?_,fun x hx=>?_,fun x hx=>?_⟩,fun x hx=>?_⟩
 ·rw[q9,List.length_zip,←S.o.len];omega
 ·obtain⟨i,x,h1,h2,_⟩:=gvk n (S.o.mem.mpr hn)
  exact⟨x,J2 (cE row nn) (bx h1 h2)⟩
 ·have e:=ph nn hl
  exact((S.o.perm.map (gv (s1++s2) row)).nodup_iff).mp (by rw[e];exact rnd)
 ·have hm:x.1∈h9 Pc:=List.mem_append_left _ (List.mem_map.mpr ⟨x,hx,rfl⟩)
  obtain⟨i,y,h1,h2,h3⟩:=gvk x.1 (S.o.mem.mpr hm)
  have hno:x.1∉Pc.ts.map (·.1):=fun z=>(List.nodup_append.mp S.nd).2.2 x.1 (List.mem_map.mpr ⟨x,hx,rfl⟩) x.1 z rfl
  have z:=(key i x.1 y h1 h2).2.2.1 hno
  rw[A0 (y8 S.nd) (show(x.1,x.2)∈Pc.pts from hx)] at z
  rw[show g7 (i0 ((s1++s2).zip row)) x.1=y from h3];exact z
 ·have hm:x.1∈Pc.ts.map (·.1):=List.mem_map.mpr ⟨x,hx,rfl⟩
  obtain⟨i,y,h1,h2,h3⟩:=gvk x.1 (S.o.mem.mpr (List.mem_append_right _ hm))
  have z:=(key i x.1 y h1 h2).2.2.2 hm
  rw[N0 (F8 S.nd) (show(x.1,x.2)∈Pc.ts from hx)] at z
  rw[show g7 (i0 ((s1++s2).zip row)) x.1=y from h3];exact z
 ·obtain⟨i,y,h1,h2,h3⟩:=gvk x.1 (S.o.mem.mpr (S.fin x hx))
  have z:=(key i x.1 y h1 h2).2.1
  unfold F1 at z
  rw[if_pos (List.mem_map.mpr ⟨x,hx,rfl⟩),A0 S.fnd (show(x.1,x.2)∈fx from hx)] at z
  rw[h3];exact of_decide_eq_true z
theorem jM (S:SrchP L Pc W s1 s2 gp gt fx){row:List Str}(f:FitP Pc W (i0 ((s1++s2).zip row)))(d:eB fx (s1++s2) row){n:Str}(hn:n∈h9 Pc):F1 fx n (gv (s1++s2) row n)=true:=
 wD S.fnd d (fun y hy e=>ql f.nd (S.fin y hy) hn e) rfl
theorem oM (S:SrchP L Pc W s1 s2 gp gt fx){row:List Str}(f:FitP Pc W (i0 ((s1++s2).zip row)))(d:eB fx (s1++s2) row){x:Str×Str}(hx:x∈Pc.pts):gv (s1++s2) row x.1∈iB L gp fx x.1:=by
 have z:=f.pts x hx
 exact mem_ch.mpr ⟨S.o'.p1.mem_iff.mpr (List.mem_map.mpr ⟨_,z,rfl⟩),S.lc row f x hx,jM S f d (List.mem_append_left _ (List.mem_map.mpr ⟨x,hx,rfl⟩))⟩
theorem pI (S:SrchP L Pc W s1 s2 gp gt fx){row:List Str}(f:FitP Pc W (i0 ((s1++s2).zip row)))(d:eB fx (s1++s2) row){x:Str×B6}(hx:x∈Pc.ts):gv (s1++s2) row x.1∈lE W gt fx (s1++s2) row x:=by
 have z:=f.ts x hx
 exact mem_pl.mpr ⟨S.o'.p2.mem_iff.mpr (List.mem_map.mpr ⟨_,z,rfl⟩),N0 (F8 S.nd') z,jM S f d (List.mem_append_right _ (List.mem_map.mpr ⟨x,hx,rfl⟩))⟩
theorem wo (S:SrchP L Pc W s1 s2 gp gt fx){row:List Str}(f:FitP Pc W (i0 ((s1++s2).zip row)))(d:eB fx (s1++s2) row):oh (Pc.pts.map fun x=>iB L gp fx x.1)=true:=by
 refine uy (r:=fun x=>gv (s1++s2) row x.1) (fun x hx=>oM S f d hx) ?_
 have z:=f.nd
 unfold h9 at z
 rw[List.map_append,List.map_map] at z
 exact(List.nodup_append.mp z).1
theorem kM (S:SrchP L Pc W s1 s2 gp gt fx){row:List Str}(hl:row.length=(s1++s2).length){i:Nat}{x:Str×B6}(h1:∃j:Nat,j<i∧(s1++s2)[j]?=some x.2.2.1)(h2:∃j:Nat,j<i∧(s1++s2)[j]?=some x.2.2.2):lE W gt fx (s1++s2) (row.take i) x=lE W gt fx (s1++s2) row x:=by
 obtain⟨j1,a1,b1⟩:=h1
 obtain⟨j2,a2,b2⟩:=h2
 unfold lE
 rw[bt S.nn hl b1 a1,bt S.nn hl b2 a2]
theorem xA (S:SrchP L Pc W s1 s2 gp gt fx){row:List Str}(hl:row.length=(s1++s2).length)(f:FitP Pc W (i0 ((s1++s2).zip row)))(d:eB fx (s1++s2) row):zP (E4 L Pc W gp gt fx (s1++s2)) 0 row:=by
 have nn:=S.nn
 have e:=ph nn hl
 have rnd:row.Nodup:=by
  rw[←e]
  exact((S.o.perm.map (gv (s1++s2) row)).nodup_iff).mpr f.nd
 intro i x _ hx
 have hil:=N1 hx
 have hn:(s1++s2)[i]?=some ((s1++s2)[i]'(by omega)):=List.getElem?_eq_getElem (by omega)
 generalize (s1++s2)[i]'(by omega)=n at hn
 have hg:gv (s1++s2) row n=x:=dS nn hn hx
 have hlt:(row.take i).length=i:=by rw[List.length_take];omega
 have hni:x∉row.take i:=fun z=>by
  obtain⟨j,hj⟩:=X1 z
  rw[List.getElem?_take] at hj
  split at hj
  ·next hji=>
   have z2:=(List.getElem?_inj (N1 hj) rnd).mp (hj.trans hx.symm)
   omega
  ·cases hj
 unfold E4
 rw[hlt,hn]
 dsimp only
 rcases S.is1 hn with⟨h1,h2⟩|⟨h1,h2⟩
 ·rw[if_neg h1]
  have hm:n∈Pc.pts.map (·.1):=by
   rcases List.mem_append.mp (S.o.mem.mp (List.mem_of_getElem? hn)) with z|z
   ·exact z
   ·exact absurd z h1
  obtain⟨y,hy,ey⟩:=List.mem_map.mp hm
  have hc:=oM S f d hy
  rw[ey,hg] at hc
  refine List.mem_filter.mpr ⟨List.mem_filter.mpr ⟨hc,by simpa using hni⟩,?_⟩
  have et:row.take i++[x]=row.take (i+1):=by rw[List.take_succ,hx];rfl
  rw[et]
  have hs1:s1[i]=n:=by
   rw[List.getElem?_append_left h2,List.getElem?_eq_getElem h2] at hn
   exact Option.some.inj hn
  refine uy (r:=fun t=>gv (s1++s2) row t.1) (fun t ht=>?_) ?_
  ·unfold R0 at ht
   rw[List.mem_filter,decide_eq_true_eq] at ht
   have he:=S.ends t ht.1
   have m1:¬(s1[i].cps.toList<t.2.2.1.cps.toList):=by
    rw[hs1,←ht.2]
    unfold sm
    split
    ·next z=>exact List.lt_asymm z
    ·exact List.lt_irrefl _
   have m2:¬(s1[i].cps.toList<t.2.2.2.cps.toList):=by
    rw[hs1,←ht.2]
    unfold sm
    split
    ·exact List.lt_irrefl _
    ·next z=>exact z
   obtain⟨j1,a1,b1⟩:=bw S h2 he.1 m1
   obtain⟨j2,a2,b2⟩:=bw S h2 he.2 m2
   rw[kM S hl ⟨j1,by omega,b1⟩ ⟨j2,by omega,b2⟩]
   exact pI S f d ht.1
  ·have z:=f.nd
   unfold h9 at z
   rw[List.map_append,List.map_map,List.map_map] at z
   exact((List.nodup_append.mp z).2.1).sublist (List.filter_sublist.map _)
 ·rw[if_pos h1]
  have hin:=S2 h1
  have he:=S.ends _ hin
  obtain⟨j1,hj1,hk1⟩:=S.pt_idx he.1
  obtain⟨j2,hj2,hk2⟩:=S.pt_idx he.2
  have hp:=pI S f d hin
  rw[←kM S hl (i:=i) ⟨j1,by omega,hk1⟩ ⟨j2,by omega,hk2⟩] at hp
  refine List.mem_filter.mpr ⟨?_,by simpa using hni⟩
  have hg':gv (s1++s2) row (n,p9 Pc.ts n).1=x:=hg
  rw[hg'] at hp;exact hp
open Classical in
noncomputable def aV (Pc W:x5)(s1 s2 gp gt:List Str)(fx:List (Str×Str)):List (List Str):=(S8 (bg s1 s2 gp gt) []).filter fun row=>decide (FitP Pc W (i0 ((s1++s2).zip row))∧eB fx (s1++s2) row)
theorem ij {row:List Str}(h:row∈S8 (bg s1 s2 gp gt) []):row.length=(s1++s2).length:=by
 obtain⟨t,e,hl,_⟩:=Y5 h
 rw[e,List.nil_append,hl,bB]
open Classical in
theorem qF (S:SrchP L Pc W s1 s2 gp gt fx):aF (E4 L Pc W gp gt fx (s1++s2)) (s1++s2).length []=aV Pc W s1 s2 gp gt fx:=by
 rw[←bB (gp:=gp) (gt:=gt),pB fun j c hc b' hb=>oH S hc (by rw[hb];simp)]
 unfold aV
 refine q8 fun row hrow=>?_
 have hl:=ij hrow
 rw[Bool.eq_iff_iff,decide_eq_true_eq,decide_eq_true_eq]
 exact⟨fun ok=>wA S hl ok,fun h=>xA S hl h.1 h.2⟩
open Classical in
theorem nI (S:SrchP L Pc W s1 s2 gp gt fx)(h:oh (Pc.pts.map fun x=>iB L gp fx x.1)=false):aV Pc W s1 s2 gp gt fx=[]:=by
 unfold aV
 refine List.filter_eq_nil_iff.mpr fun row _ z=>?_
 have z:=of_decide_eq_true z
 rw[wo S z.1 z.2] at h;cases h
end
def dQ (K:PySem.W.Frag):Sp:=fun vs H Q _=>∃(d:Addr) (n im:Str) (fx:List (Str×Str)),vs=[.str n,.str im,.ref d]∧H d=some (.dK (i0 fx))∧∀H',Same H H'→Q (.bl (F1 fx n im)) H'
theorem ik {pts:List (Str×Str)}{n:Str}(h:n∈pts.map (·.1)):i9 (i0 pts) (Sum.inr n:d7)=some (.str (g7 (i0 pts) n)):=by
 cases e:i9 (i0 pts) (Sum.inr n:d7) with
 |none=>have z:=bO (pts:=pts) (n:=n);rw[e,decide_eq_true h] at z;cases z
 |some v=>
  obtain⟨k',rfl,_⟩:=kQ e
  rw[eM e]
theorem qD {pts:List (Str×Str)}:(i0 pts).map (·.2)=(pts.map (·.2)).map V.str:=by unfold i0;rw[List.map_map,List.map_map];rfl
abbrev cH (P:Program)(w:World)(K:PySem.W.Frag)(mg:Str→Option Value)(base:Heap):Prop:=V0 P w K mg base D5 1 "may_be" ["name","image","fixed"] [] (dQ K)
theorem lq {f:Addr}{fd:FuncData}(T:Txt K mg)(F:Fun K "may_be" "may_be" cz f fd):A6 P w K mg base D5 1 f fd ["name","image","fixed"] (dQ K):=by
 refine F.ok sc_may_be (fun vs H Q E h=>?_) (fun cdv A outer s H vs Q E hr h=>?_)
 ·obtain⟨d,n,im,fx,rfl,_⟩:=h
  rfl
 ·obtain⟨d,n,im,fx,rfl,hd,k⟩:=h
  have hN:=sc_may_be.nd
  have hu:=A3 hr
  refine⟨_,QSs.r (v8 (bD (p6 (kIn K hu) (qV 0) (qV 2) (by rfl)) (C2 (z9 (bW (C6 K hr) (qV 1) (p8 (p7 K hu) (qV 2) (qV 0) (fun _ _=>rfl)) (i3 _)))) cR)
   (C2 (z9 (bW (iM K hu) (qV 1) (cK (K4 K rfl) T.b_list Boot.«list» (h7 (Ad PySem.F.plainAttrs_dict PySem.F.slot_dict_values PySem.F.type_dict_values G0 K (qV 2)) i5)) (by rfl))))),?_⟩
  walk_at "r"
  refine gu (Q3 (k:=Sum.inr n) (.inl hd)) ?_
  rw[bO]
  walk_at "r"
  refine C8 (fun h1=>?_) (fun h1=>?_)
  ·walk_at "r"
   refine r9 (v:= .str (g7 (i0 fx) n)) (by have z:=Q3 (k:=Sum.inr n) (.inl hd);rw[ik h1] at z;exact z) ?_
   walk_at "r"
   have e:F1 fx n im=decide (im=g7 (i0 fx) n):=by unfold F1;rw[if_pos h1]
   rw[←e];exact k H (Same.refl H)
  ·walk_at "r"
   refine⟨.inr (.inr (.inl ⟨rfl,.inl ⟨_,hd⟩⟩)),?_⟩
   walk_at "r"
   refine⟨d,_,rfl,rfl,.inl hd,fun v1 n1=>?_⟩
   obtain⟨H1,e1,f1,m1,_⟩:=b5 (o:= .ext (eu v1 d)) n1
   rw[e1]
   walk_at "r"
   refine T2 f1 (.inl (m1 _ _ hd)) (fun l2 n2=>?_)
   obtain⟨H2,e2,f2,m2,_⟩:=b5 (o:= .lst _) n2
   rw[e2]
   refine W5 (gs:=fx.map (·.2)) (SqL.of (by rw[f2,qD])) ?_
   have e:F1 fx n im=!decide (im∈fx.map (·.2)):=by unfold F1;rw[if_neg h1]
   rw[←e];exact k H2 (m1.trans m2)
def LstAt (H:Hp)(v:V)(l:List Str):Prop:=∃a,v= .ref a∧H a=some (.lst (l.map V.str))
theorem LstAt.same {H H':Hp}{v:V}{l:List Str}(h:LstAt H v l)(s:Same H H'):LstAt H' v l:=let ⟨a,e,z⟩:=h;⟨a,e,s _ _ z⟩
def ChAt (H:Hp)(F:Str×Str→List Str)(kvs:List (d7×V))(pts:List (Str×Str)):Prop:=Paired (fun kv x=>kv.1=Sum.inr x.1∧LstAt H kv.2 (F x)) kvs pts
theorem ChAt.same {H H':Hp}{F:Str×Str→List Str}{kvs:List (d7×V)}{pts:List (Str×Str)}(h:ChAt H F kvs pts)(s:Same H H'):ChAt H' F kvs pts:=Paired.imp' (fun _ _ z=>⟨z.1,z.2.same s⟩) h
theorem ChAt.keys {H:Hp}{F:Str×Str→List Str}:∀{kvs:List (d7×V)} {pts:List (Str×Str)},ChAt H F kvs pts→kvs.map (·.1)=(pts.map (·.1)).map Sum.inr
 |_,_,.nil=>rfl
 |_,_,.cons a t=>by rw[List.map_cons,a.1,ChAt.keys t];rfl
theorem mh {p:Str→Bool}{s:List Str}{i:Nat}{x:Str}(h:s[i]?=some x)(hp:p x=true):(s.take (i+1)).filter p=(s.take i).filter p++[x]:=by
 rw[List.take_succ,h,List.filter_append]
 show _++List.filter p [x]=_
 rw[List.filter_cons_of_pos hp];rfl
theorem jl {p:Str→Bool}{s:List Str}{i:Nat}{x:Str}(h:s[i]?=some x)(hp:p x=false):(s.take (i+1)).filter p=(s.take i).filter p:=by
 rw[List.take_succ,h,List.filter_append]
 show _++List.filter p [x]=_
 rw[List.filter_cons_of_neg (by rw[hp];decide)];simp
theorem aH {p:Str→Bool}{s:List Str}{i:Nat}:((s.take i).filter p).length≤s.length:=Nat.le_trans (List.length_filter_le _ _) (by rw[List.length_take];omega)
theorem J5 {p b:Addr}{o:Obj}{kvs:List (d7×V)}{H:Hp}(h:b≠p):B1 p o kvs H b=H b:=b0 h
theorem vk {p:Addr}{o:Obj}{kvs:List (d7×V)}{H:Hp}:B1 p o kvs H p=some (.frz o (.dK kvs)):=c9
theorem ck {p:Addr}{o:Obj}{kvs:List (d7×V)}{H H1:Hp}(s:Same H H1):Same (B1 p o kvs H) (B1 p o kvs H1):=fun b u hb=>by
 by_cases z:b=p
 ·rw[z,vk] at hb⊢;exact hb
 ·rw[J5 z] at hb⊢;exact s _ _ hb
theorem tD {kvs:List (d7×V)}{pp:List (Str×Str)}{i:Nat}{kv:d7×V}(h:kvs.map (·.1)=(pp.map (·.1)).map Sum.inr)(e:kvs[i]?=some kv):∃x,pp[i]?=some x∧kv.1=Sum.inr x.1:=by
 have z:(kvs.map (·.1))[i]?=some kv.1:=by rw[List.getElem?_map,e];rfl
 rw[h,List.getElem?_map,List.getElem?_map] at z
 cases e2:pp[i]? with
 |none=>rw[e2] at z;cases z
 |some x=>rw[e2] at z;exact⟨x,rfl,(Option.some.inj z).symm⟩
theorem tL {kvs:List (d7×V)}{k:d7}(h:k∈kvs.map (·.1)):∃u,i9 kvs k=some u:=by
 induction kvs with
 |nil=>cases h
 |cons p r ih=>
  by_cases e:p.1=k
  ·exact⟨p.2,u5 e⟩
  ·rw[u4 e]
   exact ih ((List.mem_cons.mp h).resolve_left fun z=>e z.symm)
def N2 (K:PySem.W.Frag):Sp:=fun vs H Q _=>∃(p g d:Addr) (kvp kvg:List (d7×V)) (pp gg fx:List (Str×Str)) (L:Str→Str→Bool) (gp:List Str),vs=[.ref p,.ref g,.ref d]∧H p=some (.dK kvp)∧kvp.map (·.1)=(pp.map (·.1)).map Sum.inr∧(pp.map (·.1)).Nodup∧pp.length≤30∧Rd H g (.dK kvg)∧kvg.map (·.1)=(gg.map (·.1)).map Sum.inr∧(gg.map (·.1)).Nodup∧gg.length≤30∧gp.Perm (gg.map (·.1))∧sortedS gp=true∧
 (∀(n:Str) (v:V) (m:Str) (u:V),(Sum.inr n,v)∈kvp→i9 kvg (Sum.inr m:d7)=some u→EqA K H u v (L n m))∧H d=some (.dK (i0 fx))∧d≠p∧
 ∀(c:Addr) (H':Hp) (kvs:List (d7×V)),H c=none→Same H H'→H' c=some (.dK kvs)→ChAt H' (fun x=>iB L gp fx x.1) kvs pp→Q (.ref c) H'
abbrev P8 (P:Program)(w:World)(K:PySem.W.Frag)(mg:Str→Option Value)(base:Heap):Prop:=V0 P w K mg base D5 2 "point_choices" ["piece_looks","web_looks","fixed"] [] (N2 K)
theorem aD {f:Addr}{fd:FuncData}(T:Txt K mg)(N4:cH P w K mg base)(F:Fun K "point_choices" "point_choices" F9 f fd):A6 P w K mg base D5 2 f fd ["piece_looks","web_looks","fixed"] (N2 K):=by
 refine F.ok sc_point_choices (fun vs H Q E h=>?_) (fun cdv A outer s H vs Q E hr h=>?_)
 ·obtain⟨p,g,d,kvp,kvg,pp,gg,fx,L,gp,rfl,_⟩:=h
  rfl
 ·obtain⟨p,g,d,kvp,kvg,pp,gg,fx,L,gp,rfl,hp,hkp,npp,lpp,hg,hkg,ngg,lgg,pgp,ogp,hEq,hd,hdp,k⟩:=h
  have lkp:kvp.length=pp.length:=by have z:=congrArg List.length hkp;rwa [List.length_map,List.length_map,List.length_map] at z
  have ngp:gp.Nodup:=pgp.nodup_iff.mpr ngg
  have lgp:gp.length≤30:=by rw[pgp.length_eq,List.length_map];exact lgg
  have hN:=sc_point_choices.nd
  have hu:=A3 hr
  refine⟨_,QSs.r (v8 (l0 (i:=3) hN rfl (by walk_at "l") ug)
   (v8 (X3 PassesOwn.never rfl (av (qV 0)) (xh K rfl (jy (M8 (i:=4) hN rfl (by walk_at "l")) (jy (M8 (i:=5) hN rfl (by walk_at "l")) vP)))
    (v8 (Q8 (i:=6) hN rfl (by walk_at "l") (own:=["image"]) (js:=[5,1]) (by kernel_rfl) rfl (S4 K (qB (z6 K rfl) T.b_sorted Boot.«sorted» (h7 (qV 1) i5))) (fun _ _ _ _=>(M8 (i:=0) (show List.Nodup (["image","look","web_looks"]:List Str) by decide+kernel) rfl (by walk_at "l"))) (fun _ _ _ _=>(eQ (p6 (ym K hr) (p8 (p7 K hu) (qV 2) (qV 0) (fun _ _=>rfl)) (qV 1) (i3 _)))) (fun _ _ _ _=>(qV 0)))
   (C2 (Y0 (Q2 (own:=["image"]) (js:=[4,2]) (by kernel_rfl) rfl (S4 K (qV 6)) (fun _ _ _ _=>(M8 (i:=0) (show List.Nodup (["image","name","fixed"]:List Str) by decide+kernel) rfl (by walk_at "l"))) (fun _ _ _ _=>(eQ (ah K (qC N4 (hr.mono (by decide)) p0 (h7 (qV 1) (h7 (qV 0) (h7 (qV 2) i5))))))) (fun _ _ _ _=>(qV 0))) (kE (qV 3) (qV 4) (t7 P w hu))))))
   (C2 (z9 (qV 3))))),?_⟩
  walk_at "r"
  intro c nc
  obtain⟨H1,e1,f1,m1,_⟩:=b5 (o:= .dK []) nc
  rw[e1]
  walk_at "r"
  have hp1:=m1 _ _ hp
  have hcp:c≠p:=(d0 hp nc).symm
  refine F6 hp1 (fun ndp o1=>?_)
  refine K9 (n:=kvp.length) (fun i σ H'=>∃(kvs:List (d7×V)) (v1 v2 v3:Option V),σ=[some (.ref p),some (.ref g),some (.ref d),some (.ref c),v1,v2,v3]∧Same (B1 p o1 kvp H) H'∧H' c=some (.dK kvs)∧ChAt H' (fun x=>iB L gp fx x.1) kvs (pp.take i)) ⟨[],none,none,none,rfl,?_,?_,.nil⟩ (fun i σ H' hi hp=>?_) ?_ ?_
  ·exact ck m1
  ·rw[J5 hcp];exact f1
  ·obtain⟨_,_,_,_,_,s,_⟩:=hp
   exact⟨s _ _ c9,hi⟩
  ·rintro bk i v σ H2' H2 hi ⟨kvs,v1,v2,v3,rfl,s2,hc2,ch2⟩ ⟨t,kv,hkv,nt,rfl,rfl⟩
   obtain⟨x,hx,ex⟩:=tD hkp hkv
   obtain⟨kk,look⟩:=kv
   have ex':kk=Sum.inr x.1:=ex
   subst ex'
   have hkm:=List.mem_of_getElem? hkv
   obtain⟨H3,e3,f3,m3,_⟩:=b5 (o:= .tup _) nt
   rw[e3]
   have s3:=s2.trans m3
   have hg3:Rd H3 g (.dK kvg):=((J1 hp).trans s3.le) _ _ rfl hg
   have hd3:H3 d=some (.dK (i0 fx)):=s3 _ _ (by rw[J5 hdp];exact hd)
   refine Y1 (SqT.of f3) rfl ?_
   walk_at "r"
   refine u7 (ss:=gg.map (·.1)) hg3 hkg (by rw[List.length_map];omega) (fun g1 a1 a2 l4 n4=>?_)
   have eg:g1=gp:=u9 a2 ogp (a1.nodup_iff.mpr ngg) (a1.trans pgp.symm)
   subst eg
   obtain⟨H4,e4,f4,m4,_⟩:=b5 (o:= .lst _) n4
   rw[e4]
   refine y4 (SqL.of f4) ?_
   refine y6 (n:=g1.length) (fun i out H'=>H'=H4∧out=((g1.take i).filter fun im=>L x.1 im).map V.str) ⟨rfl,rfl⟩ (fun i out H' hi hp=>⟨g1.map V.str,.str (g1[i]),SqL.of (by rw[hp.1];exact f4),by rw[List.getElem?_map,List.getElem?_eq_getElem hi];rfl⟩) ?_ ?_
   ·rintro N j v out H5 H5' hj ⟨rfl,rfl⟩ y hN'
    obtain⟨rfl,hy⟩:=Itl.get y (SqL.of f4)
    rw[List.getElem?_map] at hy
    obtain⟨im,him,rfl⟩:=Option.map_eq_some_iff.mp hy
    have hin:im∈gg.map (·.1):=a1.mem_iff.mp (List.mem_of_getElem? him)
    walk_at "r"
    refine⟨rfl,?_⟩
    walk_at "r"
    obtain⟨u,hu⟩:=tL (kvs:=kvg) (k:=Sum.inr im) (by rw[hkg];exact List.mem_map.mpr ⟨im,hin,rfl⟩)
    refine r9 (v:=u) (by have z:=Q3 (k:=Sum.inr im) (m4.rd hg3);rw[hu] at z;exact z) ?_
    walk_at "r"
    refine yg (((hEq x.1 look im u hkm hu).mono (J1 hp)).mono (s3.trans m4).le) ?_
    walk_at "r"
    refine L9 (fun h1=>?_) (fun h1=>?_)
    ·walk_at "r"
     refine⟨d6 (by rw[List.length_map];have:=aH (p:=fun im=>L x.1 im) (s:=g1) (i:=j);omega),hN' _ _ ⟨rfl,?_⟩⟩
     rw[mh him h1,List.map_append];rfl
    ·exact hN' _ _ ⟨rfl,by rw[jl him h1]⟩
   ·rintro out H5 ⟨rfl,rfl⟩
    refine⟨⟨_,SqL.of f4,by rw[List.length_map];exact Nat.le_refl _⟩,fun D hD=>⟨d6 (by rw[List.length_map];have:=aH (p:=fun im=>L x.1 im) (s:=g1) (i:=g1.length);omega),?_⟩⟩
    rw[List.take_of_length_le (Nat.le_refl _)]
    obtain⟨H6,e6,f6,m6,_⟩:=b5 (H:=H5) (o:= .lst ((g1.filter fun im=>L x.1 im).map V.str)) hD
    generalize hal:(g1.filter fun im=>L x.1 im)=al at e6 f6⊢
    have hall:al.length≤30:=by rw[←hal];exact Nat.le_trans (List.length_filter_le _ _) lgp
    change K6 _ _ _ (i7 H5 D _) _
    rw[e6]
    walk_at "r"
    refine y4 (SqL.of f6) ?_
    refine y6 (n:=al.length) (fun i out H'=>Same H6 H'∧out=((al.take i).filter (F1 fx x.1)).map V.str) ⟨Same.refl _,rfl⟩ (fun i out H' hi hp=>⟨_,.str (al[i]),SqL.of (hp.1 _ _ f6),by rw[List.getElem?_map,List.getElem?_eq_getElem hi];rfl⟩) ?_ ?_
    ·rintro N j v out H7 H7' hj ⟨s7,rfl⟩ y hN'
     obtain⟨rfl,hy⟩:=Itl.get y (SqL.of (s7 _ _ f6))
     rw[List.getElem?_map] at hy
     obtain⟨im,him,rfl⟩:=Option.map_eq_some_iff.mp hy
     walk_at "r"
     refine⟨rfl,?_⟩
     walk_at "r"
     refine⟨d,x.1,im,fx,rfl,s7 _ _ (m6 _ _ (m4 _ _ hd3)),fun H8 m8=>?_⟩
     walk_at "r"
     refine L9 (fun h1=>?_) (fun h1=>?_)
     ·walk_at "r"
      refine⟨d6 (by rw[List.length_map];have:=aH (p:=F1 fx x.1) (s:=al) (i:=j);omega),hN' _ _ ⟨s7.trans m8,?_⟩⟩
      rw[mh him h1,List.map_append];rfl
     ·exact hN' _ _ ⟨s7.trans m8,by rw[jl him h1]⟩
    ·rintro out H7 ⟨s7,rfl⟩
     refine⟨⟨_,SqL.of (s7 _ _ f6),by rw[List.length_map];exact Nat.le_refl _⟩,fun D2 hD2=>⟨d6 (by rw[List.length_map];have:=aH (p:=F1 fx x.1) (s:=al) (i:=al.length);omega),?_⟩⟩
     rw[List.take_of_length_le (Nat.le_refl _)]
     obtain⟨H8,e8,f8,m8,_⟩:=b5 (H:=H7) (o:= .lst ((al.filter (F1 fx x.1)).map V.str)) hD2
     have s38:=m4.trans (m6.trans (s7.trans m8))
     change tq _ _ (i7 H7 D2 _) _
     rw[e8]
     have hc8:H8 c=some (.dK kvs):=s38 _ _ (m3 _ _ hc2)
     have hlk:=Paired.length ch2
     rw[List.length_take] at hlk
     walk_at "r"
     refine E6 (k6 (k:=Sum.inr x.1) hc8 (d6 (by omega)) ?_)
     have fr:x.1∉(pp.take i).map (·.1):=fun z=>by
      have e7:pp.take (i+1)=pp.take i++[x]:=by rw[List.take_succ,hx];rfl
      have w:((pp.take (i+1)).map (·.1)).Nodup:=npp.sublist ((List.take_sublist _ _).map _)
      rw[e7,List.map_append] at w
      exact(List.nodup_append.mp w).2.2 x.1 z x.1 (by simp) rfl
     have ek:z0 kvs (Sum.inr x.1:d7) (.ref D2)=kvs++[(Sum.inr x.1,.ref D2)]:=D7 _ (A7 (by rw[ch2.keys];exact fun m=>fr (G7 m)))
     have hnc:(B1 p o1 kvp H) c=none:=by rw[J5 hcp];exact nc
     have cUp:∀{v:V} {l:List Str},LstAt H8 v l→LstAt (i7 H8 c (.dK (kvs++[(Sum.inr x.1,V.ref D2)]))) v l:=fun{v l} ⟨a,ea,z⟩=>⟨a,ea,by rw[b0 (fun q=>by rw[q,hc8] at z;cases z)];exact z⟩
     refine⟨kvs++[(Sum.inr x.1,.ref D2)],_,_,_,rfl,y9 (s3.trans s38) hnc,by rw[c9,ek],?_⟩
     rw[ek,show pp.take (i+1)=pp.take i++[x] by rw[List.take_succ,hx];rfl]
     refine j0 (Paired.imp' (fun _ _ z=>⟨z.1,cUp (z.2.same (m3.trans s38))⟩) ch2) ⟨rfl,cUp ⟨D2,rfl,?_⟩⟩
     rw[f8]
     show _=some (HO.lst ((iB L g1 fx x.1).map V.str))
     unfold iB
     rw[show(List.filter (L x.1) g1)=al from hal]
  ·rintro σ H2 ⟨kvs,v1,v2,v3,rfl,s2,hc2,ch2⟩
   refine⟨⟨s2 _ _ c9,Nat.le_refl _⟩,?_⟩
   walk_at "r"
   have hcp':thaw p H2 c=some (.dK kvs):=by rw[G6 hcp];exact hc2
   rw[List.take_of_length_le (by rw[lkp];exact Nat.le_refl _)] at ch2
   refine k c _ kvs nc (Same.thaw hp s2) hcp' (Paired.imp' (fun kv x z=>⟨z.1,?_⟩) ch2)
   obtain⟨a,ea,za⟩:=z.2
   have hap:a≠p:=fun q=>by rw[q,s2 _ _ c9] at za;cases za
   exact⟨a,ea,by rw[G6 hap];exact za⟩
abbrev k2 (a b:Str):List d7:=[Sum.inr a,Sum.inr b]
structure TH (HB H:Hp) (t:Addr) (kvs:List (List d7×V)) (F:Str→Str→List Str):Prop where
 at_:H t=some (.dT kvs)
 no:∀a b,i9 kvs (k2 a b)=none→F a b=[]
 so:∀a b v,i9 kvs (k2 a b)=some v→∃l,v= .ref l∧H l=some (.lst ((F a b).map V.str))∧HB l=none
 inj:∀a b a' b' v,i9 kvs (k2 a b)=some v→i9 kvs (k2 a' b')=some v→a=a'∧b=b'
theorem TH.same {HB H H2:Hp}{t:Addr}{kvs:List (List d7×V)}{F:Str→Str→List Str}(h:TH HB H t kvs F)(s:Same H H2):TH HB H2 t kvs F:=
 ⟨s _ _ h.at_,h.no,fun a b v e=>let ⟨l,q,z,f⟩:=h.so a b v e;⟨l,q,s _ _ z,f⟩,h.inj⟩
theorem TH.ext {HB H:Hp}{t:Addr}{kvs:List (List d7×V)}{F G:Str→Str→List Str}(h:TH HB H t kvs F)(e:∀a b,G a b=F a b):TH HB H t kvs G:=by
 have:G=F:=funext fun a=>funext fun b=>e a b
 rw[this];exact h
theorem TH.hit {HB H:Hp}{t l:Addr}{kvs:List (List d7×V)}{F G:Str→Str→List Str}{a' b' im:Str}(h:TH HB H t kvs F)(hv:i9 kvs (k2 a' b')=some (.ref l))(h1:G a' b'=F a' b'++[im])(h2:∀a b,¬(a=a'∧b=b')→G a b=F a b):
  TH HB (i7 H l (.lst ((F a' b').map V.str++[.str im]))) t kvs G:=by
 obtain⟨l',e',z',f'⟩:=h.so _ _ _ hv
 cases e'
 have htl:t≠l:=fun q=>by rw[←q,h.at_] at z';cases z'
 refine⟨by rw[b0 htl];exact h.at_,fun a b e=>?_,fun a b v e=>?_,h.inj⟩
 ·by_cases q:a=a'∧b=b'
  ·rw[q.1,q.2,hv] at e;cases e
  ·rw[h2 a b q];exact h.no a b e
 ·by_cases q:a=a'∧b=b'
  ·obtain⟨rfl,rfl⟩:=q
   rw[hv] at e
   cases e
   exact⟨l,rfl,by rw[c9,h1,List.map_append];rfl,f'⟩
  ·obtain⟨l2,e2,z2,f2⟩:=h.so a b v e
   refine⟨l2,e2,?_,f2⟩
   have:l2≠l:=fun w=>q (by
    rw[e2,w] at e
    exact h.inj a b a' b' _ e hv)
   rw[b0 this,h2 a b q];exact z2
theorem TH.miss {HB H:Hp}{t l:Addr}{kvs:List (List d7×V)}{F G:Str→Str→List Str}{a' b' im:Str}(h:TH HB H t kvs F)(hv:i9 kvs (k2 a' b')=none)(hl:HB l=none)(hno:∀a b,i9 kvs (k2 a b)≠some (.ref l))(hlt:l≠t)(h1:G a' b'=F a' b'++[im])(h2:∀a b,¬(a=a'∧b=b')→G a b=F a b):
  TH HB (i7 (i7 H t (.dT (z0 kvs (k2 a' b') (.ref l)))) l (.lst ([]++[.str im]))) t (z0 kvs (k2 a' b') (.ref l)) G:=by
 have hk:∀{a b:Str},¬(a=a'∧b=b')→k2 a b≠k2 a' b':=fun{a b} q w=>by
  have w1:=List.cons.inj w
  have w2:=List.cons.inj w1.2
  exact q ⟨Sum.inr.inj w1.1,Sum.inr.inj w2.1⟩
 refine⟨by rw[b0 hlt.symm,c9],fun a b e=>?_,fun a b v e=>?_,fun a b c d v e e'=>?_⟩
 ·by_cases q:a=a'∧b=b'
  ·rw[B9,if_pos (by rw[q.1,q.2])] at e;cases e
  ·rw[B9,if_neg (hk q)] at e
   rw[h2 a b q];exact h.no a b e
 ·by_cases q:a=a'∧b=b'
  ·obtain⟨rfl,rfl⟩:=q
   rw[B9,if_pos rfl] at e
   cases e
   exact⟨l,rfl,by rw[c9,h1,h.no _ _ hv];rfl,hl⟩
  ·rw[B9,if_neg (hk q)] at e
   obtain⟨l2,e2,z2,f2⟩:=h.so a b v e
   have w1:l2≠l:=fun w=>hno a b (by rw[e,e2,w])
   have w2:l2≠t:=fun w=>by rw[w,h.at_] at z2;cases z2
   exact⟨l2,e2,by rw[b0 w1,b0 w2,h2 a b q];exact z2,f2⟩
 ·by_cases q:a=a'∧b=b'
  ·by_cases q':c=a'∧d=b'
   ·exact⟨q.1.trans q'.1.symm,q.2.trans q'.2.symm⟩
   ·rw[B9,if_pos (by rw[q.1,q.2])] at e
    rw[B9,if_neg (hk q')] at e'
    cases e
    exact absurd e' (hno c d)
  ·by_cases q':c=a'∧d=b'
   ·rw[B9,if_pos (by rw[q'.1,q'.2])] at e'
    rw[B9,if_neg (hk q)] at e
    cases e'
    exact absurd e (hno a b)
   ·rw[B9,if_neg (hk q)] at e
    rw[B9,if_neg (hk q')] at e'
    exact h.inj a b c d v e e'
def PlAt (H:Hp)(v:V)(F:Str→Str→List Str):Prop:=∃(t:Addr) (kvs:List (List d7×V)),v= .ref t∧H t=some (.dT kvs)∧(∀a b,i9 kvs (k2 a b)=none→F a b=[])∧∀a b v,i9 kvs (k2 a b)=some v→LstAt H v (F a b)
theorem PlAt.same {H H':Hp}{v:V}{F:Str→Str→List Str}(h:PlAt H v F)(s:Same H H'):PlAt H' v F:=
 let ⟨t,kvs,e,a,n,z⟩:=h;⟨t,kvs,e,s _ _ a,n,fun x y v q=>(z x y v q).same s⟩
def PlsAt (H:Hp)(F:Str×B6→Str→Str→List Str)(kvs:List (d7×V))(ts:List (Str×B6)):Prop:=Paired (fun kv x=>kv.1=Sum.inr x.1∧PlAt H kv.2 (F x)) kvs ts
theorem PlsAt.keys {H:Hp}{F:Str×B6→Str→Str→List Str}:∀{kvs:List (d7×V)} {ts:List (Str×B6)},PlsAt H F kvs ts→kvs.map (·.1)=(ts.map (·.1)).map Sum.inr
 |_,_,.nil=>rfl
 |_,_,.cons a t=>by rw[List.map_cons,a.1,PlsAt.keys t];rfl
theorem PlsAt.same {H H':Hp}{F:Str×B6→Str→Str→List Str}{kvs:List (d7×V)}{ts:List (Str×B6)}(h:PlsAt H F kvs ts)(s:Same H H'):PlsAt H' F kvs ts:=Paired.imp' (fun _ _ z=>⟨z.1,z.2.same s⟩) h
theorem thaw_at {q a:Addr}{H:Hp}{o:Obj}{w u:HO}(hq:H q=some (.frz o w))(ha:H a=some u)(hu:∀o' w',u≠ .frz o' w'):thaw q H a=some u:=by
 have:a≠q:=fun z=>by rw[z,hq] at ha;cases ha;exact hu _ _ rfl
 rw[G6 this];exact ha
theorem LstAt.thaw {q:Addr}{H:Hp}{o:Obj}{w:HO}{v:V}{l:List Str}(hq:H q=some (.frz o w))(h:LstAt H v l):LstAt (thaw q H) v l:=let ⟨a,e,z⟩:=h;⟨a,e,thaw_at hq z (fun _ _ z=>nomatch z)⟩
theorem PlAt.thaw {q:Addr}{H:Hp}{o:Obj}{w:HO}{v:V}{F:Str→Str→List Str}(hq:H q=some (.frz o w))(h:PlAt H v F):PlAt (thaw q H) v F:=
 let ⟨t,kvs,e,a,n,z⟩:=h;⟨t,kvs,e,thaw_at hq a (fun _ _ z=>nomatch z),n,fun x y v q=>(z x y v q).thaw hq⟩
def V9 (K:PySem.W.Frag):Sp:=fun vs H Q _=>∃(a p q a' p' q' d:Addr) (kvs kvs':List (d7×V)) (Pc W:x5) (fx:List (Str×Str)) (gt:List Str),vs=[.ref a,.ref a',.ref d]∧WebAt K H a p q kvs Pc∧H q=some (.dK kvs)∧(Pc.ts.map (·.1)).Nodup∧Pc.ts.length≤30∧WebAt K H a' p' q' kvs' W∧(W.ts.map (·.1)).Nodup∧W.ts.length≤30∧gt.Perm (W.ts.map (·.1))∧sortedS gt=true∧H d=some (.dK (i0 fx))∧d≠q∧
 ∀(c:Addr) (H':Hp) (kvp:List (d7×V)),H c=none→Same H H'→H' c=some (.dK kvp)→PlsAt H' (fun x a b=>jU W gt fx x.1 (x.2.1,a,b)) kvp Pc.ts→Q (.ref c) H'
abbrev Z3 (P:Program)(w:World)(K:PySem.W.Frag)(mg:Str→Option Value)(base:Heap):Prop:=V0 P w K mg base D5 2 "tie_places" ["piece","web","fixed"] [] (V9 K)
theorem de {f:Addr}{fd:FuncData}(T:Txt K mg)(N4:cH P w K mg base)(F:Fun K "tie_places" "tie_places" O6 f fd):A6 P w K mg base D5 2 f fd ["piece","web","fixed"] (V9 K):=by
 refine F.ok sc_tie_places (fun vs H Q E h=>?_) (fun cdv A outer s H vs Q E hr h=>?_)
 ·obtain⟨a,p,q,a',p',q',d,kvs,kvs',Pc,W,fx,gt,rfl,_⟩:=h
  rfl
 ·obtain⟨a,p,q,a',p',q',d,kvs,kvs',Pc,W,fx,gt,rfl,hP,hq,ndP,lP,hW,ndW,lW,pgt,ogt,hd,hdq,k⟩:=h
  have lgt:gt.length≤30:=by rw[pgt.length_eq,List.length_map];exact lW
  have hkl:=hP.ts.length
  have hN:=sc_tie_places.nd
  have hu:=A3 hr
  refine⟨_,QSs.r (v8 (l0 (i:=3) hN rfl (by walk_at "l") ug)
   (v8 (X3 PassesOwn.never rfl (av (p8 (p7 K hu) (qV 0) d9 (fun _ _=>rfl))) (xh K rfl (jy (M8 (i:=4) hN rfl (by walk_at "l")) (jy (M8 (i:=5) hN rfl (by walk_at "l")) vP)))
    (v8 (l0 (i:=6) hN rfl (by walk_at "l") AH)
   (v8 (X3 PassesOwn.never rfl (S4 K (qB (z6 K rfl) T.b_sorted Boot.«sorted» (h7 (p8 (p7 K hu) (qV 1) d9 (fun _ _=>rfl)) i5))) (M8 (i:=7) hN rfl (by walk_at "l"))
    (v8 (l0 (i:=8) hN rfl (by walk_at "l") (p8 (p7 K hu) (p8 (p7 K hu) (qV 1) d9 (fun _ _=>rfl)) (qV 7) (fun _ _=>rfl)))
   (C2 (bD (rB (oi (p6 (C6 K hr) (p8 (p7 K hu) (qV 8) d9 (fun _ _=>rfl)) (p8 (p7 K hu) (qV 5) d9 (fun _ _=>rfl)) (i3 _)) (jo (ah K (qC N4 (hr.mono (by decide)) p0 (h7 (qV 4) (h7 (qV 7) (h7 (qV 2) i5)))))))) (C2 (xa (qM PySem.F.plainAttrs_list PySem.F.slot_list_append PySem.F.type_list_append x9 K (qM PySem.F.plainAttrs_dict PySem.F.slot_dict_setdefault PySem.F.type_dict_setdefault (U5 hr) K (qV 6) (h7 (xY (yu K) (qV 8) (xN d9) zU) (h7 (aX i5) i5))) (h7 (qV 7) i5)))) cR))))
   (C2 (Y0 (qV 6) (kE (qV 3) (qV 4) (t7 P w hu)))))))
   (C2 (z9 (qV 3))))),?_⟩
  walk_at "r"
  intro c nc
  obtain⟨H1,e1,f1,m1,_⟩:=b5 (o:= .dK []) nc
  rw[e1]
  have hcq:c≠q:=(d0 hq nc).symm
  walk_at "r"
  refine b7 (m1.tup hP.tup) (b9 (j:=1) rfl) ?_
  refine F6 (m1 _ _ hq) (fun ndq o1=>?_)
  refine K9 (n:=kvs.length) (fun i σ H'=>∃(kvp:List (d7×V)) (v1 v2 v3 v4 v5:Option V),σ=[some (.ref a),some (.ref a'),some (.ref d),some (.ref c),v1,v2,v3,v4,v5]∧Same (B1 q o1 kvs H) H'∧H' c=some (.dK kvp)∧PlsAt H' (fun x a b=>jU W gt fx x.1 (x.2.1,a,b)) kvp (Pc.ts.take i)) ⟨[],none,none,none,none,none,rfl,ck m1,by rw[J5 hcq];exact f1,.nil⟩ (fun i σ H' hi hp=>?_) ?_ ?_
  ·obtain⟨_,_,_,_,_,_,_,s,_⟩:=hp
   exact⟨s _ _ c9,hi⟩
  ·rintro bk i v σ H2' H2 hi ⟨kvp,v1,v2,v3,v4,v5,rfl,s2,hc2,pl2⟩ ⟨t,kv,hkv,nt,rfl,rfl⟩
   obtain⟨H3,e3,f3,m3,_⟩:=b5 (o:= .tup _) nt
   rw[e3]
   have s3:=s2.trans m3
   have le3:=(J1 (o:=o1) hq).trans s3.le
   have P3:=hP.mono le3
   have W3:=hW.mono le3
   have hd3:H3 d=some (.dK (i0 fx)):=s3 _ _ (by rw[J5 hdq];exact hd)
   obtain⟨x,hx,ex,tb,eb,sb⟩:=P3.ts.get hkv
   obtain⟨kk,kvv⟩:=kv
   have ex':kk=Sum.inr x.1:=ex
   have eb':kvv= .ref tb:=eb
   subst ex' eb'
   refine Y1 (SqT.of f3) rfl ?_
   walk_at "r"
   intro th nth
   obtain⟨H4,e4,f4,m4,_⟩:=b5 (o:= .dT []) nth
   rw[e4]
   walk_at "r"
   refine b7 (m4.tup W3.tup) (b9 (j:=1) rfl) ?_
   walk_at "r"
   refine u7 (ss:=W.ts.map (·.1)) (m4.rd W3.ties) (by rw[W3.ts.keys,x8]) (by rw[List.length_map];omega) (fun g1 a1 a2 l5 n5=>?_)
   have eg:g1=gt:=u9 a2 ogt (a1.nodup_iff.mpr ndW) (a1.trans pgt.symm)
   subst eg
   obtain⟨H5,e5,f5,m5,_⟩:=b5 (o:= .lst _) n5
   rw[e5]
   refine y4 (SqL.of f5) ?_
   have hl5:H3 l5=none:=m4.free n5
   refine K9 (n:=g1.length) (fun j σ H'=>∃(kt:List (List d7×V)) (w1 w2:Option V),σ=[some (.ref a),some (.ref a'),some (.ref d),some (.ref c),some (.str x.1),some (.ref tb),some (.ref th),w1,w2]∧Same H3 H'∧H' l5=some (.lst (g1.map V.str))∧kt.length≤j∧(∀A B,i9 kt (k2 A B)≠some (.ref l5))∧TH H3 H' th kt fun A B=>(g1.take j).filter fun im=>decide (p9 W.ts im=(x.2.1,A,B))&&F1 fx x.1 im) ⟨[],v4,v5,rfl,m4.trans m5,f5,Nat.le_refl _,(fun _ _ z=>nomatch z),⟨m5 _ _ f4,(fun _ _ _=>rfl),(fun _ _ _ z=>nomatch z),fun _ _ _ _ _ z _=>nomatch z⟩⟩ (fun j σ H' hj hp=>?_) ?_ ?_
   ·obtain⟨_,_,_,_,_,z,_⟩:=hp
    exact⟨g1.map V.str,.str (g1[j]),SqL.of z,by rw[List.getElem?_map,List.getElem?_eq_getElem hj];rfl⟩
   ·rintro bk2 j v σ H6' H6 hj ⟨kt,w1,w2,rfl,s6,hl6,lk6,nl6,th6⟩ y
    obtain⟨rfl,hy⟩:=Itl.get y (SqL.of hl6)
    rw[List.getElem?_map] at hy
    obtain⟨im,him,rfl⟩:=Option.map_eq_some_iff.mp hy
    have hin:im∈W.ts.map (·.1):=a1.mem_iff.mp (List.mem_of_getElem? him)
    have W6:=W3.mono s6.le
    obtain⟨aa,hv,hT⟩:=U4 W6.ts ndW (S2 hin)
    generalize hto:p9 W.ts im=to at hT
    obtain⟨t1,t2,t3⟩:=to
    walk_at "r"
    refine b7 W6.tup (b9 (j:=1) rfl) ?_
    walk_at "r"
    refine r9 (v:= .ref aa) (by have z:=Q3 (k:=Sum.inr im) W6.ties;rw[hv] at z;exact z) ?_
    walk_at "r"
    refine b7 hT (b9 (j:=0) rfl) ?_
    walk_at "r"
    refine b7 (s6.tup sb) (b9 (j:=0) rfl) ?_
    walk_at "r"
    have stay:(∀A B,(decide (p9 W.ts im=(x.2.1,A,B))&&F1 fx x.1 im)=false)→∀H7,Same H6 H7→∃(kt:List (List d7×V)) (w1 w2:Option V),[some (.ref a),some (.ref a'),some (.ref d),some (.ref c),some (.str x.1),some (.ref tb),some (.ref th),some (.str im),some (.ref aa)]=[some (.ref a),some (.ref a'),some (.ref d),some (.ref c),some (.str x.1),some (.ref tb),some (.ref th),w1,w2]∧Same H3 H7∧H7 l5=some (.lst (g1.map V.str))∧kt.length≤j+1∧(∀A B,i9 kt (k2 A B)≠some (.ref l5))∧TH H3 H7 th kt fun A B=>(g1.take (j+1)).filter fun im=>decide (p9 W.ts im=(x.2.1,A,B))&&F1 fx x.1 im:=fun hf H7 m7=>
     ⟨kt,_,_,rfl,s6.trans m7,m7 _ _ hl6,by omega,nl6,(th6.same m7).ext fun A B=>jl him (hf A B)⟩
    refine C8 (fun h1=>?_) (fun h1=>?_)
    ·walk_at "r"
     refine⟨d,x.1,im,fx,rfl,s6 _ _ hd3,fun H7 m7=>?_⟩
     walk_at "r"
     refine L9 (fun h2=>?_) (fun h2=>?_)
     ·walk_at "r"
      have th7:=th6.same m7
      refine⟨.inr (.inr (.inl ⟨rfl,.inr ⟨_,th7.at_⟩⟩)),?_⟩
      walk_at "r"
      refine af (m7.tup hT) (by rintro⟨z,_⟩;exact absurd (show(1:Nat)=0 from z) (by decide)) (fun l8 n8=>?_)
      obtain⟨H8,e8,f8,m8,_⟩:=b5 (o:= .tup [.str t2,.str t3]) n8
      rw[show W4 (D0 (t1,t2,t3)) (some 1) none=[V.str t2,.str t3] from rfl,e8]
      walk_at "r"
      refine⟨d6 (by simp),fun l9 n9=>?_⟩
      obtain⟨H9,e9,f9,m9,o9⟩:=b5 (o:= .lst []) n9
      rw[e9]
      have th9:=th7.same (m8.trans m9)
      have s39:=s6.trans (m7.trans (m8.trans m9))
      have hl9:H3 l9=none:=(s6.trans (m7.trans m8)).free n9
      have hl5':=(m7.trans (m8.trans m9)) _ _ hl6
      have g1':((g1.take (j+1)).filter fun im=>decide (p9 W.ts im=(x.2.1,t2,t3))&&F1 fx x.1 im)=((g1.take j).filter fun im=>decide (p9 W.ts im=(x.2.1,t2,t3))&&F1 fx x.1 im)++[im]:=mh him (by rw[hto,h2,decide_eq_true (by rw[show t1=x.2.1 from h1])];rfl)
      have g2':∀A B,¬(A=t2∧B=t3)→((g1.take (j+1)).filter fun im=>decide (p9 W.ts im=(x.2.1,A,B))&&F1 fx x.1 im)=((g1.take j).filter fun im=>decide (p9 W.ts im=(x.2.1,A,B))&&F1 fx x.1 im):=fun A B hno=>jl him (by
       rw[hto,decide_eq_false (fun z=>hno ?_)];rfl
       have z2:=(Prod.mk.inj z).2
       exact⟨(Prod.mk.inj z2).1.symm,(Prod.mk.inj z2).2.symm⟩)
      refine⟨th,l8,kt,k2 t2 t3,.ref l9,rfl,rfl,th9.at_,m9 _ _ f8,d6 (by omega),?_⟩
      cases hvk:i9 kt (k2 t2 t3) with
      |some v=>
       obtain⟨l,rfl,hl,hlb⟩:=th9.so _ _ _ hvk
       refine⟨.inl ⟨rfl,_,SqL.of hl⟩,?_⟩
       walk_at "r"
       refine⟨l,_,.str im,rfl,rfl,hl,d6 (by rw[List.length_map];have:=aH (p:=fun im=>decide (p9 W.ts im=(x.2.1,t2,t3))&&F1 fx x.1 im) (s:=g1) (i:=j);omega),?_⟩
       have hll:l5≠l:=fun z=>nl6 t2 t3 (by rw[hvk,z])
       exact⟨kt,_,_,rfl,y9 s39 hlb,by rw[b0 hll];exact hl5',by omega,nl6,th9.hit hvk g1' g2'⟩
      |none=>
       have hlt:l9≠th:=fun z=>by rw[z,th9.at_] at f9;cases f9
       have hno:∀A B,i9 kt (k2 A B)≠some (.ref l9):=fun A B z=>by
        obtain⟨l,e,hl,_⟩:=(th7.same m8).so _ _ _ z
        cases e
        rw[n9] at hl;cases hl
       have h59:l5≠l9:=fun z=>by
        have:=(m7.trans m8) _ _ hl6
        rw[z,n9] at this;cases this
       have h5t:l5≠th:=fun z=>by rw[z,th9.at_] at hl5';cases hl5'
       refine⟨.inl ⟨rfl,[],SqL.of (by rw[b0 hlt];exact f9)⟩,?_⟩
       walk_at "r"
       refine⟨l9,[],.str im,rfl,rfl,by rw[b0 hlt];exact f9,d6 (by simp),?_⟩
       have hnth:H3 th=none:=nth
       refine⟨z0 kt (k2 t2 t3) (.ref l9),_,_,rfl,y9 (y9 s39 hnth) hl9,by rw[b0 h59,b0 h5t];exact hl5',?_,fun A B z=>?_,th9.miss hvk hl9 hno hlt g1' g2'⟩
       ·have:=F7 kt (k2 t2 t3) (.ref l9);omega
       ·rw[B9] at z
        split at z
        ·cases z;exact h59 rfl
        ·exact nl6 A B z
     ·exact stay (fun A B=>by rw[h2,Bool.and_false]) H7 m7
    ·walk_at "r"
     exact stay (fun A B=>by rw[hto,decide_eq_false (fun z=>h1 (Prod.mk.inj z).1)];rfl) H6 (Same.refl _)
   ·rintro σ H6 ⟨kt,w1,w2,rfl,s6,hl6,lk6,nl6,th6⟩
    refine⟨⟨_,SqL.of hl6,by rw[List.length_map];exact Nat.le_refl _⟩,?_⟩
    rw[List.take_of_length_le (Nat.le_refl _)] at th6
    have hc6:H6 c=some (.dK kvp):=s6 _ _ (m3 _ _ hc2)
    have hlk:=Paired.length pl2
    rw[List.length_take] at hlk
    walk_at "r"
    refine E6 (k6 (k:=Sum.inr x.1) hc6 (d6 (by omega)) ?_)
    have e7:Pc.ts.take (i+1)=Pc.ts.take i++[x]:=by rw[List.take_succ,hx];rfl
    have fr:x.1∉(Pc.ts.take i).map (·.1):=fun z=>by
     have w:((Pc.ts.take (i+1)).map (·.1)).Nodup:=ndP.sublist ((List.take_sublist _ _).map _)
     rw[e7,List.map_append] at w
     exact(List.nodup_append.mp w).2.2 x.1 z x.1 (by simp) rfl
    have ek:z0 kvp (Sum.inr x.1:d7) (.ref th)=kvp++[(Sum.inr x.1,.ref th)]:=D7 _ (A7 (by rw[pl2.keys];exact fun m=>fr (G7 m)))
    have hnc:(B1 q o1 kvs H) c=none:=by rw[J5 hcq];exact nc
    have cL:∀{v:V} {l:List Str},LstAt H6 v l→LstAt (i7 H6 c (.dK (kvp++[(Sum.inr x.1,V.ref th)]))) v l:=fun{v l} ⟨a,ea,z⟩=>⟨a,ea,by rw[b0 (fun q=>by rw[q,hc6] at z;cases z)];exact z⟩
    have cP:∀{v:V} {F:Str→Str→List Str},PlAt H6 v F→PlAt (i7 H6 c (.dK (kvp++[(Sum.inr x.1,V.ref th)]))) v F:=fun{v F} ⟨t,kk,e,z,n,so⟩=>⟨t,kk,e,by rw[b0 (fun q=>by rw[q,hc6] at z;cases z)];exact z,n,fun A B v e=>cL (so A B v e)⟩
    refine⟨kvp++[(Sum.inr x.1,.ref th)],_,_,_,_,_,rfl,y9 (s3.trans s6) hnc,by rw[c9,ek],?_⟩
    rw[ek,e7]
    refine j0 (Paired.imp' (fun _ _ z=>⟨z.1,cP (z.2.same (m3.trans s6))⟩) pl2) ⟨rfl,cP ⟨th,kt,rfl,th6.at_,th6.no,fun A B v e=>?_⟩⟩
    obtain⟨l,e1,e2,_⟩:=th6.so A B v e
    exact⟨l,e1,e2⟩
  ·rintro σ H2 ⟨kvp,v1,v2,v3,v4,v5,rfl,s2,hc2,pl2⟩
   refine⟨⟨s2 _ _ c9,Nat.le_refl _⟩,?_⟩
   walk_at "r"
   have hfq:H2 q=some (.frz o1 (.dK kvs)):=s2 _ _ c9
   rw[List.take_of_length_le (by omega)] at pl2
   exact k c _ kvp nc (Same.thaw hq s2) (thaw_at hfq hc2 (fun _ _ z=>nomatch z)) (Paired.imp' (fun kv x z=>⟨z.1,z.2.thaw hfq⟩) pl2)
def fB:Nat→Nat→Nat
 |0,_=>1
 |k+1,r=>1+r*fB k (r -1)
def gB:Nat→Nat→Nat→Nat→Nat
 |0,k,_,r=>fB k r
 |j+1,k,s,r=>1+s*gB j k (s -1) r
theorem jV (k:Nat):∀{r r':Nat},r≤r'→fB k r≤fB k r':=by
 induction k with
 |zero=>intro r r' _;exact Nat.le_refl _
 |succ k ih=>
  intro r r' h
  exact Nat.add_le_add_left (Nat.mul_le_mul h (ih (Nat.sub_le_sub_right h 1))) 1
theorem tO (j k:Nat):∀{s s' r r':Nat},s≤s'→r≤r'→gB j k s r≤gB j k s' r':=by
 induction j with
 |zero=>intro s s' r r' _ h;exact jV k h
 |succ j ih=>
  intro s s' r r' h h'
  exact Nat.add_le_add_left (Nat.mul_le_mul h (ih (Nat.sub_le_sub_right h 1) h')) 1
theorem vz {td ty tx:TE}{σ:L2.St}{H:Hp}{Q:VK}(q:td σ H fun x H1=>∃a,x= .ref a∧xQ H1 a∧ty σ H1 fun y H2=>tx σ H2 fun z H3=>∃o,DGet H3 a y o∧Q (o.getD z) H3):iF td ty tx σ H Q:=q
abbrev LsAt (H:Hp)(xs:List V)(ls:List (List Str)):Prop:=Paired (LstAt H) xs ls
theorem LsAt.same {H H':Hp}{xs:List V}{ls:List (List Str)}(h:LsAt H xs ls)(s:Same H H'):LsAt H' xs ls:=Paired.imp' (fun _ _ z=>z.same s) h
theorem dY:∀l d:List Str,E3 (l.map V.str) (d.map V.str)=decide (l=d)
 |[],[]=>rfl
 |[],_::_=>by simp [E3]
 |_::_,[]=>by simp [E3]
 |x::l,y::d=>by
  show(N6 (.str x) (.str y)&&E3 (l.map V.str) (d.map V.str))=_
  rw[dY l d,Bool.eq_iff_iff]
  simp [N6]
def ky (H:Hp):V→List V
 | .ref a=>match H a with
  |some (.lst xs)=>xs
  |_=>[]
 |_=>[]
theorem fS {H:Hp}{v:V}{l:List Str}(h:LstAt H v l):ky H v=l.map V.str:=by
 obtain⟨a,rfl,z⟩:=h
 show(match H a with|some (.lst xs)=>xs|_=>[])=_
 rw[z]
theorem fR {H:Hp}{d:List Str}:∀{xs:List V} {ls:List (List Str)},LsAt H xs ls→xs.countP (fun z=>E3 (ky H z) (d.map V.str))=ls.count d
 |_,_,.nil=>rfl
 |_,l::_,.cons a t=>by
  rw[List.countP_cons,List.count_cons,fR t,fS a,dY]
  by_cases e:l=d
  ·rw[if_pos (decide_eq_true e),if_pos (by simpa using e)]
  ·rw[if_neg (by rw[decide_eq_false e];decide),if_neg (by simpa using e)]
def dO (K:PySem.W.Frag):Sp:=fun vs H Q _=>∃(l:Addr) (xs:List V) (ls:List (List Str)),vs=[.ref l]∧H l=some (.lst xs)∧LsAt H xs ls∧ls.length≤60∧∀H',Same H H'→Q (.bl (oh ls)) H'
abbrev cF (P:Program)(w:World)(K:PySem.W.Frag)(mg:Str→Option Value)(base:Heap):Prop:=V0 P w K mg base D5 1 "enough" ["lists"] [] (dO K)
theorem lX {f:Addr}{fd:FuncData}(T:Txt K mg)(F:Fun K "enough" "enough" cf f fd):A6 P w K mg base D5 1 f fd ["lists"] (dO K):=by
 refine F.ok sc_enough (fun vs H Q E h=>?_) (fun cdv A outer s H vs Q E hr h=>?_)
 ·obtain⟨l,xs,ls,rfl,_⟩:=h
  rfl
 ·obtain⟨l,xs,ls,rfl,hl,hx,hn,k⟩:=h
  have hxl:=Paired.length hx
  have hN:=sc_enough.nd
  have hu:=A3 hr
  refine⟨_,QSs.r (C2 (z9 (qB (AU K rfl) T.b_all Boot.«all» (h7 (Q2 (own:=["drawn"]) (js:=[0]) (by kernel_rfl) rfl (S4 K (qV 0)) (fun _ _ _ _=>(M8 (i:=0) (show List.Nodup (["drawn","lists"]:List Str) by decide+kernel) rfl (by walk_at "l"))) (fun _ _ _ _=>gR) (fun _ _ _ _=>(bW yx (qM PySem.F.plainAttrs_list PySem.F.slot_list_count PySem.F.type_list_count (bf K hr) K (qV 1) (h7 (qV 0) i5)) (qB (B4 K P w) T.b_len Boot.«len» (h7 (qV 0) i5)) (i3 _)))) i5)))),?_⟩
  walk_at "r"
  refine y4 (SqL.of hl) ?_
  refine y6 (n:=xs.length) (fun i out H'=>H'=H∧out=(ls.take i).map fun d=>V.bl (decide (ls.count d≤d.length))) ⟨rfl,rfl⟩ (fun i out H' hi hp=>⟨xs,xs[i],SqL.of (by rw[hp.1];exact hl),List.getElem?_eq_getElem hi⟩) ?_ ?_
  ·rintro N i v out H1' H1 hi ⟨rfl,rfl⟩ y hN'
   obtain⟨rfl,hy⟩:=Itl.get y (SqL.of hl)
   obtain⟨d,hd,a,rfl,hda⟩:=k9 hx hy
   walk_at "r"
   refine⟨rfl,?_⟩
   walk_at "r"
   refine⟨.inl ⟨rfl,_,SqL.of hl⟩,?_⟩
   walk_at "r"
   refine⟨l,xs,.ref a,fun z=>E3 (ky H1 z) (d.map V.str),rfl,rfl,hl,fun z hz=>?_,?_⟩
   ·obtain⟨j,hj⟩:=List.getElem?_of_mem hz
    obtain⟨e,he,b,rfl,hb⟩:=k9 hx hj
    exact⟨b,a,_,_,rfl,rfl,SqL.of hb,SqL.of hda,bX _,bX _,by show E3 (ky H1 (V.ref b)) _=_;rw[fS ⟨b,rfl,hb⟩]⟩
   ·rw[fR hx]
    walk_at "r"
    refine A4 (v9 (SqL.of hda) ?_)
    rw[List.length_map]
    walk_at "r"
    refine⟨d6 (by rw[List.length_map,List.length_take];omega),hN' _ _ ⟨rfl,?_⟩⟩
    have e:decide ((ls.count d:Int)≤(d.length:Int))=decide (ls.count d≤d.length):=by rw[Bool.eq_iff_iff];simp
    rw[e];exact U8 (fun d=>V.bl (decide (ls.count d≤d.length))) hd
  ·rintro out H1 ⟨rfl,rfl⟩
   refine⟨⟨_,SqL.of hl,Nat.le_refl _⟩,fun D hD=>⟨d6 (by rw[List.length_map,List.length_take];omega),?_⟩⟩
   rw[List.take_of_length_le (by omega)]
   obtain⟨H2,e2,f2,m2,_⟩:=b5 (H:=H1) (o:= .lst (ls.map fun d=>V.bl (decide (ls.count d≤d.length)))) hD
   walk_at "r"
   change tU K _ (i7 H1 D _) _
   rw[e2]
   refine yC (bs:=ls.map fun d=>decide (ls.count d≤d.length)) (SqL.of (by rw[f2,List.map_map];rfl)) ?_
   have e:(ls.map fun d=>decide (ls.count d≤d.length)).all id=oh ls:=by unfold oh;rw[List.all_map];rfl
   rw[e];exact k H2 m2
structure Sx (K:PySem.W.Frag) (H:Hp) (a p q c pl:Addr) (kvs kvc kvp:List (d7×V)) (L:Str→Str→Bool) (Pc W:x5) (s1 s2 gp gt:List Str) (fx:List (Str×Str)):Prop where
 S:SrchP L Pc W s1 s2 gp gt fx
 at_:WebAt K H a p q kvs Pc
 hq:H q=some (.dK kvs)
 l1:(h9 Pc).length≤30
 l2:(h9 W).length≤30
 big:gB Pc.pts.length Pc.ts.length W.pts.length W.ts.length≤1000000
 hc:H c=some (.dK kvc)
 ch:ChAt H (fun x=>iB L gp fx x.1) kvc Pc.pts
 hl:H pl=some (.dK kvp)
 pls:PlsAt H (fun x a b=>jU W gt fx x.1 (x.2.1,a,b)) kvp Pc.ts
theorem Sx.same {H H':Hp}{a p q c pl:Addr}{kvs kvc kvp:List (d7×V)}{L:Str→Str→Bool}{Pc W:x5}{s1 s2 gp gt:List Str}{fx:List (Str×Str)}(h:Sx K H a p q c pl kvs kvc kvp L Pc W s1 s2 gp gt fx)(s:Same H H'):Sx K H' a p q c pl kvs kvc kvp L Pc W s1 s2 gp gt fx:=
 ⟨h.S,h.at_.mono s.le,s _ _ h.hq,h.l1,h.l2,h.big,s _ _ h.hc,h.ch.same s,s _ _ h.hl,h.pls.same s⟩
theorem bR {α:Type}{R:V→Str×α→Prop}:∀{kvs:List (d7×V)} {ts:List (Str×α)} {x:Str×α},Paired (fun kv x=>kv.1=Sum.inr x.1∧R kv.2 x) kvs ts→(ts.map (·.1)).Nodup→x∈ts→∃v,i9 kvs (Sum.inr x.1:d7)=some v∧R v x
 |_,[],_,_,_,hx=>nomatch hx
 |kv::r,y::ts,x,.cons a t,nd,hx=>by
  have nd':=List.nodup_cons.mp (show(y.1::ts.map (·.1)).Nodup from nd)
  rcases List.mem_cons.mp hx with z|z
  ·subst z
   exact⟨kv.2,u5 a.1,a.2⟩
  ·obtain⟨v,h1,h2⟩:=bR t nd'.2 z
   refine⟨v,?_,h2⟩
   rw[u4 (by rw[a.1];exact fun e=>nd'.1 (List.mem_map.mpr ⟨x,z,(Sum.inr.inj e).symm⟩))];exact h1
def R9 (K:PySem.W.Frag):Sp:=fun vs H Q _=>∃(a p q c pl d:Addr) (kvs kvc kvp kvm:List (d7×V)) (L:Str→Str→Bool) (Pc W:x5) (s1 s2 gp gt:List Str) (fx:List (Str×Str)) (x:Str×B6),vs=[.ref a,.ref pl,.ref d,.str x.1]∧Sx K H a p q c pl kvs kvc kvp L Pc W s1 s2 gp gt fx∧x∈Pc.ts∧Rd H d (.dK kvm)∧TxtAt kvm x.2.2.1∧TxtAt kvm x.2.2.2∧
 ∀(v:V) (H':Hp),Same H H'→LstAt H' v (jU W gt fx x.1 (x.2.1,g7 kvm x.2.2.1,g7 kvm x.2.2.2))→Q v H'
abbrev L3 (P:Program)(w:World)(K:PySem.W.Frag)(mg:Str→Option Value)(base:Heap):Prop:=V0 P w K mg base D5 2 "tie_choices" ["piece","places","put","name"] [] (R9 K)
theorem cG {f:Addr}{fd:FuncData}(T:Txt K mg)(L5:V6 P w K mg base)(F:Fun K "tie_choices" "tie_choices" L6 f fd):A6 P w K mg base D5 2 f fd ["piece","places","put","name"] (R9 K):=by
 refine F.ok sc_tie_choices (fun vs H Q E h=>?_) (fun cdv A outer s H vs Q E hr h=>?_)
 ·obtain⟨a,p,q,c,pl,d,kvs,kvc,kvp,kvm,L,Pc,W,s1,s2,gp,gt,fx,x,rfl,_⟩:=h
  rfl
 ·obtain⟨a,p,q,c,pl,d,kvs,kvc,kvp,kvm,L,Pc,W,s1,s2,gp,gt,fx,x,rfl,X0,hx,hd,t1,t2,k⟩:=h
  obtain⟨aa,hv,hT⟩:=U4 X0.at_.ts (F8 X0.S.nd) (show(x.1,x.2)∈Pc.ts from hx)
  have hN:=sc_tie_choices.nd
  have hu:=A3 hr
  refine⟨_,QSs.r (v8 (l0 (i:=4) hN rfl (by walk_at "l") (xY (yu K) (qC L5 (hr.mono (by decide)) p0 (h7 (p8 (p7 K hu) (p8 (p7 K hu) (qV 0) d9 (fun _ _=>rfl)) (qV 3) (fun _ _=>rfl)) (h7 (qV 2) i5))) (xN d9) zU))
   (C2 (z9 (zJ hu (p8 (p7 K hu) (qV 1) (qV 3) (fun _ _=>rfl)) (qV 4) (aX i5))))),?_⟩
  walk_at "r"
  refine b7 X0.at_.tup (b9 (j:=1) rfl) ?_
  walk_at "r"
  refine r9 (v:= .ref aa) (by have z:=Q3 (k:=Sum.inr x.1) X0.at_.ties;rw[hv] at z;exact z) ?_
  walk_at "r"
  refine⟨aa,d,x.2,kvm,rfl,hT,hd,t1,t2,fun l1 H1 n1 m1 f1=>?_⟩
  walk_at "r"
  refine af (SqT.of f1) (by rintro⟨z,_⟩;exact absurd (show(1:Nat)=0 from z) (by decide)) (fun l2 n2=>?_)
  obtain⟨H2,e2,f2,m2,_⟩:=b5 (o:= .tup [.str (g7 kvm x.2.2.1),.str (g7 kvm x.2.2.2)]) n2
  rw[show W4 (D0 (x.2.1,g7 kvm x.2.2.1,g7 kvm x.2.2.2)) (some 1) none=[V.str (g7 kvm x.2.2.1),.str (g7 kvm x.2.2.2)] from rfl,e2]
  have X2:=X0.same (m1.trans m2)
  obtain⟨v,hv2,t,kt,rfl,ht,hno,hso⟩:=bR (R:=fun v (x:Str×B6)=>PlAt H2 v fun a b=>jU W gt fx x.1 (x.2.1,a,b)) (show Paired _ _ _ from X2.pls) (F8 X0.S.nd) hx
  walk_at "r"
  refine vz ?_
  walk_at "r"
  refine r9 (v:= .ref t) (by have z:=Q3 (k:=Sum.inr x.1) (.inl X2.hl);rw[hv2] at z;exact z) ?_
  refine⟨t,rfl,.inr ⟨_,.inl ht⟩,?_⟩
  walk_at "r"
  refine⟨d6 (by simp),fun l3 n3=>?_⟩
  obtain⟨H3,e3,f3,m3,_⟩:=b5 (o:= .lst []) n3
  rw[e3]
  refine⟨_,DGet.t (k:=k2 (g7 kvm x.2.2.1) (g7 kvm x.2.2.2)) (m3 _ _ ht) (m3 _ _ f2),?_⟩
  have m13:=m1.trans (m2.trans m3)
  cases hvk:i9 kt (k2 (g7 kvm x.2.2.1) (g7 kvm x.2.2.2)) with
  |none=>exact k _ H3 m13 ⟨l3,rfl,by rw[f3];have z:=hno _ _ hvk;dsimp only at z;rw[z];rfl⟩
  |some v=>exact k _ H3 m13 ((hso _ _ _ hvk).same m3)
theorem Z4:∀{nm b:List Str} {n x:Str},nm[b.length]?=some n→nm.zip (b++[x])=nm.zip b++[(n,x)]
 |[],b,n,x,h=>by simp at h
 |m::nm,[],n,x,h=>by
  have e:m=n:=by simpa using h
  subst e;simp
 |m::nm,y::b,n,x,h=>by
  have z:=Z4 (nm:=nm) (b:=b) (n:=n) (x:=x) (by simpa using h)
  show(m,y)::nm.zip (b++[x])=(m,y)::nm.zip b++[(n,x)]
  rw[z];rfl
theorem kc (nm:List Str):nm.map V.str=(nm.map (Sum.inr:Str→d7)).map kV:=by rw[List.map_map];rfl
theorem gx {nm b:List Str}(nd:nm.Nodup):P5 ((nm.map (Sum.inr:Str→d7)).zip (b.map V.str))=i0 (nm.zip b):=by
 have e:(nm.map (Sum.inr:Str→d7)).zip (b.map V.str)=i0 (nm.zip b):=by rw[List.zip_map];rfl
 rw[e,gU]
 rw[C5,←x8]
 exact List.Pairwise.map _ (fun a b h z=>h (Sum.inr.inj z)) (cE b nd)
theorem fo {mm:List (Str×Str)}{n:Str}(h:n∈mm.map (·.1)):TxtAt (i0 mm) n:=⟨_,ik h⟩
theorem fH {nm b:List Str}{i:Nat}{n:Str}(h:nm[i]?=some n)(hi:i<b.length):n∈(nm.zip b).map (·.1):=List.mem_map.mpr ⟨(n,b[i]),bx h (List.getElem?_eq_getElem hi),rfl⟩
theorem mX {nm b:List Str}{n:Str}(nd:nm.Nodup)(h:nm[b.length]?=some n):n∉(nm.zip b).map (·.1):=fun z=>by
 have w:=cE (b++[n]) nd
 rw[Z4 h,List.map_append] at w
 exact(List.nodup_append.mp w).2.2 n z n (by simp) rfl
def aQ (K:PySem.W.Frag):Sp:=fun vs H Q _=>∃(a p q c pl d:Addr) (kvs kvc kvp:List (d7×V)) (L:Str→Str→Bool) (Pc W:x5) (s1 s2 gp gt:List Str) (fx mm:List (Str×Str)) (n im:Str),vs=[.ref a,.ref pl,.ref d,.str n,.str im]∧Sx K H a p q c pl kvs kvc kvp L Pc W s1 s2 gp gt fx∧H d=some (.dK (i0 mm))∧mm.length≤60∧n∉mm.map (·.1)∧
 (∀x∈R0 Pc.ts n,x.2.2.1∈(mm++[(n,im)]).map (·.1)∧x.2.2.2∈(mm++[(n,im)]).map (·.1))∧
 ∀H',Same H H'→Q (.bl (oh ((R0 Pc.ts n).map fun x=>jU W gt fx x.1 (x.2.1,g7 (i0 (mm++[(n,im)])) x.2.2.1,g7 (i0 (mm++[(n,im)])) x.2.2.2)))) H'
theorem jP {α:Type}{p:α→Bool}{s:List α}{i:Nat}{x:α}(h:s[i]?=some x)(hp:p x=true):(s.take (i+1)).filter p=(s.take i).filter p++[x]:=by
 rw[List.take_succ,h,List.filter_append]
 show _++List.filter p [x]=_
 rw[List.filter_cons_of_pos hp];rfl
theorem jT {α:Type}{p:α→Bool}{s:List α}{i:Nat}{x:α}(h:s[i]?=some x)(hp:p x=false):(s.take (i+1)).filter p=(s.take i).filter p:=by
 rw[List.take_succ,h,List.filter_append]
 show _++List.filter p [x]=_
 rw[List.filter_cons_of_neg (by rw[hp];decide)];simp
theorem uB {α:Type}{p:α→Bool}{s:List α}{i:Nat}:((s.take i).filter p).length≤s.length:=Nat.le_trans (List.length_filter_le _ _) (by rw[List.length_take];omega)
abbrev cq (P:Program)(w:World)(K:PySem.W.Frag)(mg:Str→Option Value)(base:Heap):Prop:=V0 P w K mg base D5 3 "has_room" ["piece","places","put","name","image"] [] (aQ K)
theorem iy {f:Addr}{fd:FuncData}(T:Txt K mg)(N3:cF P w K mg base)(B2:L3 P w K mg base)(F:Fun K "has_room" "has_room" X7 f fd):A6 P w K mg base D5 3 f fd ["piece","places","put","name","image"] (aQ K):=by
 refine F.ok sc_has_room (fun vs H Q E h=>?_) (fun cdv A outer s H vs Q E hr h=>?_)
 ·obtain⟨a,p,q,c,pl,d,kvs,kvc,kvp,L,Pc,W,s1,s2,gp,gt,fx,mm,n,im,rfl,_⟩:=h
  rfl
 ·obtain⟨a,p,q,c,pl,d,kvs,kvc,kvp,L,Pc,W,s1,s2,gp,gt,fx,mm,n,im,rfl,X0,hd,lm,nn,he,k⟩:=h
  have hkl:=X0.at_.ts.length
  have l1:=X0.l1
  rw[y7] at l1
  have hN:=sc_has_room.nd
  have hu:=A3 hr
  refine⟨_,QSs.r (v8 (l0 (i:=5) hN rfl (by walk_at "l") (cK (aO K rfl) T.b_dict Boot.«dict» (h7 (qV 2) i5)))
   (v8 (Y0 (qV 4) (kE (qV 5) (qV 3) (t7 P w hu)))
   (v8 (Q8 (i:=6) hN rfl (by walk_at "l") (own:=["tie","told"]) (js:=[3]) (by kernel_rfl) rfl (av (p8 (p7 K hu) (qV 0) d9 (fun _ _=>rfl))) (fun _ _ _ _=>(xh K rfl (jy (M8 (i:=0) (show List.Nodup (["tie","told","name"]:List Str) by decide+kernel) rfl (by walk_at "l")) (jy (M8 (i:=1) (show List.Nodup (["tie","told","name"]:List Str) by decide+kernel) rfl (by walk_at "l")) vP)))) (fun _ _ _ _=>(eQ (p6 (C6 K hr) (qB (yH K rfl) T.b_max Boot.«max» (h7 (xY (yu K) (qV 1) (xN d9) zU) i5)) (qV 2) (i3 _)))) (fun _ _ _ _=>(qV 0)))
   (C2 (z9 (qC N3 (hr.mono (by decide)) p0 (h7 (Q2 (own:=["tie"]) (js:=[0,1,5]) (by kernel_rfl) rfl (S4 K (qV 6)) (fun _ _ _ _=>(M8 (i:=0) (show List.Nodup (["tie","piece","places","longer"]:List Str) by decide+kernel) rfl (by walk_at "l"))) (fun _ _ _ _=>gR) (fun _ _ _ _=>(qC B2 (hr.mono (by decide)) p0 (h7 (qV 1) (h7 (qV 2) (h7 (qV 3) (h7 (qV 0) i5))))))) i5))))))),?_⟩
  walk_at "r"
  refine C9 (.inl hd) (fun l1 n1=>?_)
  obtain⟨H1,e1,f1,m1,_⟩:=b5 (o:= .dK (i0 mm)) n1
  rw[e1]
  walk_at "r"
  refine E6 (k6 (k:=Sum.inr n) f1 (d6 (by rw[q9];omega)) ?_)
  rw[Y6 nn]
  have f2:(i7 H1 l1 (.dK (i0 (mm++[(n,im)])))) l1=some (.dK (i0 (mm++[(n,im)]))):=c9
  have m2:Same H (i7 H1 l1 (.dK (i0 (mm++[(n,im)])))):=y9 m1 n1
  generalize i7 H1 l1 (.dK (i0 (mm++[(n,im)])))=H2 at f2 m2⊢
  have X2:=X0.same m2
  walk_at "r"
  refine b7 X2.at_.tup (b9 (j:=1) rfl) ?_
  refine F6 X2.hq (fun ndq o3=>?_)
  refine y6 (n:=kvs.length) (fun i out H'=>Same (B1 q o3 kvs H2) H'∧out=((Pc.ts.take i).filter fun x=>decide (sm x.2.2.1 x.2.2.2=n)).map fun x=>V.str x.1) ⟨Same.refl _,rfl⟩ (fun i out H' hi hp=>⟨hp.1 _ _ c9,hi⟩) ?_ ?_
  ·rintro N i v out H3' H3 hi ⟨s3,rfl⟩ ⟨t,kv,hkv,nt,rfl,rfl⟩ hN'
   obtain⟨H4,e4,f4,m4,_⟩:=b5 (o:= .tup _) nt
   rw[e4]
   have le4:=(J1 (o:=o3) X2.hq).trans (s3.trans m4).le
   have P4:=X2.at_.mono le4
   obtain⟨x,hx,ex,tb,eb,sb⟩:=P4.ts.get hkv
   obtain⟨kk,kvv⟩:=kv
   have ex':kk=Sum.inr x.1:=ex
   have eb':kvv= .ref tb:=eb
   subst ex' eb'
   refine Y1 (SqT.of f4) rfl ?_
   walk_at "r"
   refine⟨rfl,?_⟩
   walk_at "r"
   refine af sb (by rintro⟨z,_⟩;exact absurd (show(1:Nat)=0 from z) (by decide)) (fun l5 n5=>?_)
   obtain⟨H5,e5,f5,m5,_⟩:=b5 (o:= .tup [.str x.2.2.1,.str x.2.2.2]) n5
   rw[show W4 (D0 x.2) (some 1) none=[V.str x.2.2.1,.str x.2.2.2] from rfl,e5]
   walk_at "r"
   refine wj (SqT.of f5) ?_
   walk_at "r"
   rw[show(if x.2.2.1.cps.toList<x.2.2.2.cps.toList then x.2.2.2 else x.2.2.1)=sm x.2.2.1 x.2.2.2 from rfl]
   refine C8 (fun h1=>?_) (fun h1=>?_)
   ·walk_at "r"
    refine⟨d6 (by rw[List.length_map];have:=uB (p:=fun x:Str×B6=>decide (sm x.2.2.1 x.2.2.2=n)) (s:=Pc.ts) (i:=i);omega),hN' _ _ ⟨s3.trans (m4.trans m5),?_⟩⟩
    rw[jP hx (decide_eq_true h1),List.map_append];rfl
   ·exact hN' _ _ ⟨s3.trans (m4.trans m5),by rw[jT hx (decide_eq_false h1)]⟩
  ·rintro out H3 ⟨s3,rfl⟩
   refine⟨⟨s3 _ _ c9,Nat.le_refl _⟩,fun D hD=>⟨d6 (by rw[List.length_map];have:=uB (p:=fun x:Str×B6=>decide (sm x.2.2.1 x.2.2.2=n)) (s:=Pc.ts) (i:=kvs.length);omega),?_⟩⟩
   rw[List.take_of_length_le (by omega)]
   change K6 _ _ _ (thaw q (i7 H3 D (.lst ((R0 Pc.ts n).map fun x=>V.str x.1)))) _
   have sM:=S9 X2.hq s3 hD (u:= .lst ((R0 Pc.ts n).map fun x=>V.str x.1))
   have fM:=bS s3 hD (u:= .lst ((R0 Pc.ts n).map fun x=>V.str x.1))
   generalize thaw q (i7 H3 D (.lst ((R0 Pc.ts n).map fun x=>V.str x.1)))=HM at sM fM⊢
   have XM:=X2.same sM
   have hdue:∀x∈R0 Pc.ts n,x∈Pc.ts:=fun x hx=>(List.mem_filter.mp hx).1
   have hdl:(R0 Pc.ts n).length≤30:=Nat.le_trans (List.length_filter_le _ _) (by omega)
   generalize R0 Pc.ts n=due at fM hdue hdl he k
   walk_at "r"
   refine y4 (SqL.of fM) ?_
   refine y6 (n:=due.length) (fun i out H'=>Same HM H'∧LsAt H' out ((due.take i).map fun x=>jU W gt fx x.1 (x.2.1,g7 (i0 (mm++[(n,im)])) x.2.2.1,g7 (i0 (mm++[(n,im)])) x.2.2.2))) ⟨Same.refl _,.nil⟩ (fun i out H' hi hp=>⟨_,.str (due[i]).1,SqL.of (hp.1 _ _ fM),by rw[List.getElem?_map,List.getElem?_eq_getElem hi];rfl⟩) ?_ ?_
   ·rintro N i v out H4' H4 hi ⟨s4,ls⟩ y hN'
    obtain⟨rfl,hy⟩:=Itl.get y (SqL.of (s4 _ _ fM))
    rw[List.getElem?_map] at hy
    obtain⟨x,hx,rfl⟩:=Option.map_eq_some_iff.mp hy
    have hxm:=List.mem_of_getElem? hx
    walk_at "r"
    refine⟨rfl,?_⟩
    walk_at "r"
    refine⟨a,p,q,c,pl,l1,kvs,kvc,kvp,_,L,Pc,W,s1,s2,gp,gt,fx,x,rfl,XM.same s4,hdue x hxm,.inl (s4 _ _ (sM _ _ f2)),fo (he x hxm).1,fo (he x hxm).2,fun v H5 m5 hv=>?_⟩
    have hll:=Paired.length ls
    rw[List.length_map,List.length_take] at hll
    refine⟨d6 (by omega),hN' _ _ ⟨s4.trans m5,?_⟩⟩
    rw[show due.take (i+1)=due.take i++[x] by rw[List.take_succ,hx];rfl,List.map_append]
    exact j0 (LsAt.same ls m5) hv
   ·rintro out H4 ⟨s4,ls⟩
    have hll:=Paired.length ls
    rw[List.length_map,List.length_take] at hll
    refine⟨⟨_,SqL.of (s4 _ _ fM),by rw[List.length_map];exact Nat.le_refl _⟩,fun D2 hD2=>⟨d6 (by omega),?_⟩⟩
    rw[List.take_of_length_le (Nat.le_refl _)] at ls
    obtain⟨H5,e5,f5,m5,_⟩:=b5 (H:=H4) (o:= .lst out) hD2
    change sS _ (i7 H4 D2 _) _
    rw[e5]
    walk_at "r"
    exact⟨D2,out,_,rfl,f5,LsAt.same ls m5,by rw[List.length_map];omega,fun H6 m6=>k H6 (m2.trans (sM.trans (s4.trans (m5.trans m6))))⟩
def di (K:PySem.W.Frag):Sp:=fun vs H Q _=>∃(a p q c pl bl:Addr) (kvs kvc kvp:List (d7×V)) (L:Str→Str→Bool) (Pc W:x5) (s1 s2 gp gt:List Str) (fx:List (Str×Str)) (b:List Str),vs=[.ref a,.ref c,.ref pl,.ref bl]∧Sx K H a p q c pl kvs kvc kvp L Pc W s1 s2 gp gt fx∧H bl=some (.lst (b.map V.str))∧b.length<(s1++s2).length∧ua H Q fun ss=>ss=E4 L Pc W gp gt fx (s1++s2) b
abbrev ir (P:Program)(w:World)(K:PySem.W.Frag)(mg:Str→Option Value)(base:Heap):Prop:=V0 P w K mg base D5 4 "images" ["piece","choices","places","begun"] [] (di K)
theorem mL {f:Addr}{fd:FuncData}(T:Txt K mg)(E1:au P w K mg base)(B2:L3 P w K mg base)(X9:cq P w K mg base)(F:Fun K "images" "images" cb f fd):A6 P w K mg base D5 4 f fd ["piece","choices","places","begun"] (di K):=by
 refine F.ok sc_images (fun vs H Q E h=>?_) (fun cdv A outer s H vs Q E hr h=>?_)
 ·obtain⟨a,p,q,c,pl,bl,kvs,kvc,kvp,L,Pc,W,s1,s2,gp,gt,fx,b,rfl,_⟩:=h
  rfl
 ·obtain⟨a,p,q,c,pl,bl,kvs,kvc,kvp,L,Pc,W,s1,s2,gp,gt,fx,b,rfl,X0,hb,hlb,k⟩:=h
  have S:=X0.S
  have nn:=S.nn
  have hnl:=S.o.len
  have l1:=X0.l1
  have l2:=X0.l2
  have lgt:gt.length≤30:=by rw[S.o'.p2.length_eq,List.length_map];rw[y7] at l2;omega
  have lgp:gp.length≤30:=by rw[S.o'.p1.length_eq,List.length_map];rw[y7] at l2;omega
  obtain⟨n,hn⟩:∃n,(s1++s2)[b.length]?=some n:=⟨_,List.getElem?_eq_getElem hlb⟩
  have hN:=sc_images.nd
  have hu:=A3 hr
  refine⟨_,QSs.r (v8 (l0 (i:=4) hN rfl (by walk_at "l") (qC E1 (hr.mono (by decide)) p0 (h7 (qV 0) i5)))
   (v8 (l0 (i:=5) hN rfl (by walk_at "l") (p8 (p7 K hu) (qV 4) (qB (B4 K P w) T.b_len Boot.«len» (h7 (qV 3) i5)) (fun _ _=>rfl)))
   (v8 (l0 (i:=6) hN rfl (by walk_at "l") (Bf K T.b_dict T.b_zip rfl (h7 (qV 4) (h7 (qV 3) i5))))
   (v8 (bD (p6 (kIn K hu) (qV 5) (p8 (p7 K hu) (qV 0) d9 (fun _ _=>rfl)) (by rfl)) (C2 (z9 (Q2 (own:=["image"]) (js:=[3]) (by kernel_rfl) rfl (S4 K (qC B2 (hr.mono (by decide)) p0 (h7 (qV 0) (h7 (qV 2) (h7 (qV 6) (h7 (qV 5) i5)))))) (fun _ _ _ _=>(M8 (i:=0) (show List.Nodup (["image","begun"]:List Str) by decide+kernel) rfl (by walk_at "l"))) (fun _ _ _ _=>(eQ (p6 (iM K hu) (qV 0) (qV 1) (by rfl)))) (fun _ _ _ _=>(qV 0))))) cR)
   (v8 (Q8 (i:=7) hN rfl (by walk_at "l") (own:=["image"]) (js:=[3]) (by kernel_rfl) rfl (S4 K (p8 (p7 K hu) (qV 1) (qV 5) (fun _ _=>rfl))) (fun _ _ _ _=>(M8 (i:=0) (show List.Nodup (["image","begun"]:List Str) by decide+kernel) rfl (by walk_at "l"))) (fun _ _ _ _=>(eQ (p6 (iM K hu) (qV 0) (qV 1) (by rfl)))) (fun _ _ _ _=>(qV 0)))
   (C2 (z9 (Q2 (own:=["image"]) (js:=[0,2,6,5]) (by kernel_rfl) rfl (S4 K (qV 7)) (fun _ _ _ _=>(M8 (i:=0) (show List.Nodup (["image","piece","places","put","name"]:List Str) by decide+kernel) rfl (by walk_at "l"))) (fun _ _ _ _=>(eQ (ah K (qC X9 (hr.mono (by decide)) p0 (h7 (qV 1) (h7 (qV 2) (h7 (qV 3) (h7 (qV 4) (h7 (qV 0) i5))))))))) (fun _ _ _ _=>(qV 0)))))))))),?_⟩
  walk_at "r"
  refine⟨a,p,q,kvs,Pc,rfl,X0.at_,by omega,fun ln H1 r1 r2 n1 m1 f1 or=>?_⟩
  have er1:r1=s1:=u9 or.o1 S.o.o1 (or.p1.nodup_iff.mpr (y8 S.nd)) (or.p1.trans S.o.p1.symm)
  have er2:r2=s2:=u9 or.o2 S.o.o2 (or.p2.nodup_iff.mpr (F8 S.nd)) (or.p2.trans S.o.p2.symm)
  subst er1 er2
  walk_at "r"
  refine A4 (v9 (SqL.of (m1 _ _ hb)) ?_)
  rw[List.length_map]
  refine i4 (SqL.of f1) (i:=(b.length:Int)) (v:= .str n) (b9 (j:=b.length) (by rw[List.getElem?_map,hn];rfl)) ?_
  walk_at "r"
  refine⟨ln,bl,(r1++r2).map Sum.inr,b.map V.str,rfl,by rw[←kc];exact SqL.of f1,SqL.of (m1 _ _ hb),fun d nd=>?_⟩
  rw[gx nn]
  obtain⟨H2,e2,f2,m2,_⟩:=b5 (o:= .dK (i0 ((r1++r2).zip b))) nd
  rw[e2]
  have m12:=m1.trans m2
  have X2:=X0.same m12
  have hb2:=m12 _ _ hb
  walk_at "r"
  refine b7 X2.at_.tup (b9 (j:=1) rfl) ?_
  walk_at "r"
  refine gu (Q3 (k:=Sum.inr n) X2.at_.ties) ?_
  rw[dA X2.at_.ts]
  walk_at "r"
  have hfil:∀(p:Str→Bool) (l:List Str),l.length≤30→∀i,((l.take i).filter p).length≤1000:=fun p l hl i=>Nat.le_trans aH (by omega)
  refine C8 (fun h1=>?_) (fun h1=>?_)
  ·have hle:r1.length≤b.length:=by
    rcases S.is1 hn with⟨z,_⟩|⟨_,z⟩
    ·exact absurd h1 z
    ·exact z
   have hin:=S2 h1
   have he:=S.ends _ hin
   obtain⟨j1,hj1,hk1⟩:=S.pt_idx he.1
   obtain⟨j2,hj2,hk2⟩:=S.pt_idx he.2
   walk_at "r"
   refine⟨a,p,q,c,pl,d,kvs,kvc,kvp,_,L,Pc,W,r1,r2,gp,gt,fx,(n,p9 Pc.ts n),rfl,X2,hin,.inl f2,fo (fH hk1 (by omega)),fo (fH hk2 (by omega)),fun v H3 m3 hv=>?_⟩
   obtain⟨lv,rfl,hlv⟩:=hv
   have etc:jU W gt fx n ((p9 Pc.ts n).1,g7 (i0 ((r1++r2).zip b)) (p9 Pc.ts n).2.1,g7 (i0 ((r1++r2).zip b)) (p9 Pc.ts n).2.2)=lE W gt fx (r1++r2) b (n,p9 Pc.ts n):=rfl
   dsimp only at hlv
   rw[etc] at hlv
   have hcl:(lE W gt fx (r1++r2) b (n,p9 Pc.ts n)).length≤30:=Nat.le_trans (List.length_filter_le _ _) lgt
   generalize htc:lE W gt fx (r1++r2) b (n,p9 Pc.ts n)=tc at hlv hcl
   refine y4 (SqL.of hlv) ?_
   refine y6 (n:=tc.length) (fun i out H'=>Same H3 H'∧out=((tc.take i).filter fun x=>!decide (x∈b)).map V.str) ⟨Same.refl _,rfl⟩ (fun i out H' hi hp=>⟨_,.str (tc[i]),SqL.of (hp.1 _ _ hlv),by rw[List.getElem?_map,List.getElem?_eq_getElem hi];rfl⟩) ?_ ?_
   ·rintro N i v out H4' H4 hi ⟨s4,rfl⟩ y hN'
    obtain⟨rfl,hy⟩:=Itl.get y (SqL.of (s4 _ _ hlv))
    rw[List.getElem?_map] at hy
    obtain⟨x,hx,rfl⟩:=Option.map_eq_some_iff.mp hy
    walk_at "r"
    refine⟨rfl,?_⟩
    walk_at "r"
    refine W5 (gs:=b) (SqL.of (s4 _ _ (m3 _ _ hb2))) ?_
    walk_at "r"
    refine L9 (fun h2=>?_) (fun h2=>?_)
    ·walk_at "r"
     refine⟨d6 (by rw[List.length_map];exact hfil _ _ hcl _),hN' _ _ ⟨s4,?_⟩⟩
     rw[mh hx h2,List.map_append];rfl
    ·exact hN' _ _ ⟨s4,by rw[jl hx h2]⟩
   ·rintro out H4 ⟨s4,rfl⟩
    refine⟨⟨_,SqL.of (s4 _ _ hlv),by rw[List.length_map];exact Nat.le_refl _⟩,fun D hD=>⟨d6 (by rw[List.length_map];exact hfil _ _ hcl _),?_⟩⟩
    rw[List.take_of_length_le (Nat.le_refl _)]
    obtain⟨H5,e5,f5,m5,_⟩:=b5 (H:=H4) (o:= .lst ((tc.filter fun x=>!decide (x∈b)).map V.str)) hD
    show Q _ (i7 H4 D _)
    rw[e5]
    refine k D H5 _ (m12.free (m3.free (s4.free hD))) (m12.trans (m3.trans (s4.trans m5))) f5 ?_
    unfold E4
    rw[hn]
    dsimp only
    rw[if_pos h1,htc]
  ·have hlt:b.length<r1.length:=by
    rcases S.is1 hn with⟨_,z⟩|⟨z,_⟩
    ·exact z
    ·exact absurd z h1
   have hm:n∈Pc.pts.map (·.1):=by
    rcases List.mem_append.mp (S.o.mem.mp (List.mem_of_getElem? hn)) with z|z
    ·exact z
    ·exact absurd z h1
   obtain⟨y,hy,ey⟩:=List.mem_map.mp hm
   obtain⟨v,hv,lv,rfl,hlv⟩:=bR (R:=fun v (x:Str×Str)=>LstAt H2 v (iB L gp fx x.1)) (show Paired _ _ _ from X2.ch) (y8 S.nd) hy
   rw[ey] at hv hlv
   have hcl:(iB L gp fx n).length≤30:=Nat.le_trans (List.length_filter_le _ _) (Nat.le_trans (List.length_filter_le _ _) lgp)
   generalize htc:iB L gp fx n=tc at hlv hcl
   walk_at "r"
   refine r9 (v:= .ref lv) (by have z:=Q3 (k:=Sum.inr n) (.inl X2.hc);rw[hv] at z;exact z) ?_
   refine y4 (SqL.of hlv) ?_
   refine y6 (n:=tc.length) (fun i out H'=>Same H2 H'∧out=((tc.take i).filter fun x=>!decide (x∈b)).map V.str) ⟨Same.refl _,rfl⟩ (fun i out H' hi hp=>⟨_,.str (tc[i]),SqL.of (hp.1 _ _ hlv),by rw[List.getElem?_map,List.getElem?_eq_getElem hi];rfl⟩) ?_ ?_
   ·rintro N i v out H4' H4 hi ⟨s4,rfl⟩ y hN'
    obtain⟨rfl,hy⟩:=Itl.get y (SqL.of (s4 _ _ hlv))
    rw[List.getElem?_map] at hy
    obtain⟨x,hx,rfl⟩:=Option.map_eq_some_iff.mp hy
    walk_at "r"
    refine⟨rfl,?_⟩
    walk_at "r"
    refine W5 (gs:=b) (SqL.of (s4 _ _ hb2)) ?_
    walk_at "r"
    refine L9 (fun h2=>?_) (fun h2=>?_)
    ·walk_at "r"
     refine⟨d6 (by rw[List.length_map];exact hfil _ _ hcl _),hN' _ _ ⟨s4,?_⟩⟩
     rw[mh hx h2,List.map_append];rfl
    ·exact hN' _ _ ⟨s4,by rw[jl hx h2]⟩
   ·rintro out H4 ⟨s4,rfl⟩
    refine⟨⟨_,SqL.of (s4 _ _ hlv),by rw[List.length_map];exact Nat.le_refl _⟩,fun D hD=>⟨d6 (by rw[List.length_map];exact hfil _ _ hcl _),?_⟩⟩
    rw[List.take_of_length_le (Nat.le_refl _)]
    obtain⟨H5,e5,f5,m5,_⟩:=b5 (H:=H4) (o:= .lst ((tc.filter fun x=>!decide (x∈b)).map V.str)) hD
    have hul:(tc.filter fun x=>!decide (x∈b)).length≤30:=Nat.le_trans (List.length_filter_le _ _) hcl
    generalize hun:(tc.filter fun x=>!decide (x∈b))=un at e5 f5 hul⊢
    change K6 _ _ _ (i7 H4 D _) _
    rw[e5]
    have m25:=s4.trans m5
    have X5:=X2.same m25
    walk_at "r"
    refine y4 (SqL.of f5) ?_
    refine y6 (n:=un.length) (fun i out H'=>Same H5 H'∧out=((un.take i).filter fun im=>oh ((R0 Pc.ts n).map (lE W gt fx (r1++r2) (b++[im])))).map V.str) ⟨Same.refl _,rfl⟩ (fun i out H' hi hp=>⟨_,.str (un[i]),SqL.of (hp.1 _ _ f5),by rw[List.getElem?_map,List.getElem?_eq_getElem hi];rfl⟩) ?_ ?_
    ·rintro N i v out H6' H6 hi ⟨s6,rfl⟩ y hN'
     obtain⟨rfl,hy⟩:=Itl.get y (SqL.of (s6 _ _ f5))
     rw[List.getElem?_map] at hy
     obtain⟨x,hx,rfl⟩:=Option.map_eq_some_iff.mp hy
     walk_at "r"
     refine⟨rfl,?_⟩
     walk_at "r"
     have hs1:r1[b.length]=n:=by
      rw[List.getElem?_append_left hlt,List.getElem?_eq_getElem hlt] at hn
      exact Option.some.inj hn
     have ends:∀t∈R0 Pc.ts n,t.2.2.1∈((r1++r2).zip b++[(n,x)]).map (·.1)∧t.2.2.2∈((r1++r2).zip b++[(n,x)]).map (·.1):=fun t ht=>by
      unfold R0 at ht
      rw[List.mem_filter,decide_eq_true_eq] at ht
      have he:=S.ends t ht.1
      rw[←Z4 hn]
      have q1:¬(r1[b.length].cps.toList<t.2.2.1.cps.toList):=by
       rw[hs1,←ht.2]
       unfold sm
       split
       ·next z=>exact List.lt_asymm z
       ·exact List.lt_irrefl _
      have q2:¬(r1[b.length].cps.toList<t.2.2.2.cps.toList):=by
       rw[hs1,←ht.2]
       unfold sm
       split
       ·exact List.lt_irrefl _
       ·next z=>exact z
      obtain⟨j1,a1,b1⟩:=bw S hlt he.1 q1
      obtain⟨j2,a2,b2⟩:=bw S hlt he.2 q2
      exact⟨fH b1 (by rw[List.length_append,List.length_singleton];omega),fH b2 (by rw[List.length_append,List.length_singleton];omega)⟩
     refine⟨a,p,q,c,pl,d,kvs,kvc,kvp,L,Pc,W,r1,r2,gp,gt,fx,(r1++r2).zip b,n,x,rfl,X5.same s6,s6 _ _ (m25 _ _ f2),by rw[List.length_zip];omega,mX nn hn,ends,fun H7 m7=>?_⟩
     have een:((R0 Pc.ts n).map fun t=>jU W gt fx t.1 (t.2.1,g7 (i0 ((r1++r2).zip b++[(n,x)])) t.2.2.1,g7 (i0 ((r1++r2).zip b++[(n,x)])) t.2.2.2))=(R0 Pc.ts n).map (lE W gt fx (r1++r2) (b++[x])):=by
      rw[←Z4 hn];rfl
     rw[een]
     walk_at "r"
     refine L9 (fun h2=>?_) (fun h2=>?_)
     ·walk_at "r"
      refine⟨d6 (by rw[List.length_map];exact hfil _ _ hul _),hN' _ _ ⟨s6.trans m7,?_⟩⟩
      rw[mh hx h2,List.map_append];rfl
     ·exact hN' _ _ ⟨s6.trans m7,by rw[jl hx h2]⟩
    ·rintro out H6 ⟨s6,rfl⟩
     refine⟨⟨_,SqL.of (s6 _ _ f5),by rw[List.length_map];exact Nat.le_refl _⟩,fun D2 hD2=>⟨d6 (by rw[List.length_map];exact hfil _ _ hul _),?_⟩⟩
     rw[List.take_of_length_le (Nat.le_refl _)]
     obtain⟨H7,e7,f7,m7,_⟩:=b5 (H:=H6) (o:= .lst ((un.filter fun im=>oh ((R0 Pc.ts n).map (lE W gt fx (r1++r2) (b++[im])))).map V.str)) hD2
     show Q _ (i7 H6 D2 _)
     rw[e7]
     refine k D2 H7 _ (m12.free (m25.free (s6.free hD2))) (m12.trans (m25.trans (s6.trans m7))) f7 ?_
     unfold E4
     rw[hn]
     dsimp only
     rw[if_neg h1,htc,hun]
def dI (img:List Str→List Str):Nat→List Str→Nat
 |0,_=>1
 |k+1,b=>1+((img b).map fun x=>dI img k (b++[x])).sum
theorem iI {α:Type}{f:α→Nat}{B:Nat}:∀{l:List α},(∀x∈l,f x≤B)→(l.map f).sum≤l.length*B
 |[],_=>by simp
 |x::l,h=>by
  have z:=iI (l:=l) fun y hy=>h y (List.mem_cons_of_mem _ hy)
  have z1:=h x List.mem_cons_self
  rw[List.map_cons,List.sum_cons,List.length_cons,Nat.add_mul];omega
theorem xG {img:List Str→List Str}{k:Nat}{b:List Str}:1≤dI img k b:=by
 cases k with
 |zero=>exact Nat.le_refl _
 |succ k=>show 1≤1+_;omega
theorem kL {α:Type}{f:α→Nat}:∀{l:List α},(∀x∈l,1≤f x)→l.length≤(l.map f).sum
 |[],_=>Nat.le_refl _
 |x::l,h=>by
  have z:=kL (l:=l) fun y hy=>h y (List.mem_cons_of_mem _ hy)
  have z1:=h x List.mem_cons_self
  rw[List.map_cons,List.sum_cons,List.length_cons];omega
theorem tG {L:Str→Str→Bool}{Pc W:x5}{s1 s2 gp gt:List Str}{fx:List (Str×Str)}(S:SrchP L Pc W s1 s2 gp gt fx)(b:List Str):(E4 L Pc W gp gt fx (s1++s2) b).length≤max W.pts.length W.ts.length:=by
 have h1:=S.o'.p1.length_eq
 have h2:=S.o'.p2.length_eq
 rw[List.length_map] at h1 h2
 unfold E4
 split
 ·simp
 ·split
  ·exact Nat.le_trans (List.length_filter_le _ _) (Nat.le_trans (List.length_filter_le _ _) (by omega))
  ·exact Nat.le_trans (List.length_filter_le _ _) (Nat.le_trans (List.length_filter_le _ _) (Nat.le_trans (List.length_filter_le _ _) (Nat.le_trans (List.length_filter_le _ _) (by omega))))
def gP (g b:List Str):Nat:=(g.filter fun x=>!decide (x∈b)).length
theorem qh (g b:List Str)(x:Str):(g.filter fun y=>!decide (y∈b++[x]))=(g.filter fun y=>!decide (y∈b)).filter fun y=>!decide (y=x):=by
 rw[List.filter_filter]
 refine q8 fun y _=>?_
 rw[Bool.eq_iff_iff]
 simp [and_comm]
theorem xK (g b:List Str)(x:Str):gP g (b++[x])≤gP g b:=by
 unfold gP
 rw[qh]
 exact List.length_filter_le _ _
theorem pC {g b:List Str}{x:Str}(hx:x∈g)(hb:x∉b):gP g (b++[x])≤gP g b -1:=by
 unfold gP
 rw[qh]
 have z:=List.length_filter_lt_length_iff_exists (l:=g.filter fun y=>!decide (y∈b)) (p:=fun y=>!decide (y=x))|>.mpr ⟨x,List.mem_filter.mpr ⟨hx,by simpa using hb⟩,by simp⟩
 omega
section
variable {L:Str→Str→Bool} {Pc W:x5} {s1 s2 gp gt:List Str} {fx:List (Str×Str)}
theorem gW {g b:List Str}{p:Str→Bool}:((g.filter p).filter fun x=>!decide (x∈b)).length≤gP g b:=by
 rw[List.filter_filter,q8 (q:=fun x=>p x&& !decide (x∈b)) fun x _=>Bool.and_comm _ _,←List.filter_filter]
 exact List.length_filter_le _ _
theorem Ax (S:SrchP L Pc W s1 s2 gp gt fx){b:List Str}(h:b.length<s1.length):(E4 L Pc W gp gt fx (s1++s2) b).length≤gP gp b∧∀x∈E4 L Pc W gp gt fx (s1++s2) b,x∈gp∧x∉b:=by
 unfold E4
 split
 ·exact⟨Nat.zero_le _,fun x hx=>nomatch hx⟩
 ·next n hn=>
  rcases S.is1 hn with⟨z,_⟩|⟨_,z⟩
  ·rw[if_neg z]
   constructor
   ·refine Nat.le_trans (List.length_filter_le _ _) ?_
    unfold iB
    rw[List.filter_filter (p:=F1 fx n)]
    exact gW
   ·intro x hx
    have h1:=List.mem_filter.mp (List.mem_filter.mp hx).1
    exact⟨(mem_ch.mp h1.1).1,by simpa using h1.2⟩
  ·omega
theorem AM (S:SrchP L Pc W s1 s2 gp gt fx){b:List Str}(h:s1.length≤b.length):(E4 L Pc W gp gt fx (s1++s2) b).length≤gP gt b∧∀x∈E4 L Pc W gp gt fx (s1++s2) b,x∈gt∧x∉b:=by
 unfold E4
 split
 ·exact⟨Nat.zero_le _,fun x hx=>nomatch hx⟩
 ·next n hn=>
  rcases S.is1 hn with⟨_,z⟩|⟨z,_⟩
  ·omega
  ·rw[if_pos z]
   constructor
   ·exact gW
   ·intro x hx
    have h1:=List.mem_filter.mp hx
    exact⟨(mem_pl.mp h1.1).1,by simpa using h1.2⟩
theorem xj (S:SrchP L Pc W s1 s2 gp gt fx)(k:Nat):∀{b:List Str},s1.length≤b.length→dI (E4 L Pc W gp gt fx (s1++s2)) k b≤fB k (gP gt b):=by
 induction k with
 |zero=>intro b _;exact Nat.le_refl _
 |succ k ih=>
  intro b h
  obtain⟨h1,h2⟩:=AM S h
  have z:=iI (f:=fun x=>dI (E4 L Pc W gp gt fx (s1++s2)) k (b++[x])) (B:=fB k (gP gt b -1)) (l:=E4 L Pc W gp gt fx (s1++s2) b) fun x hx=>Nat.le_trans (ih (by rw[List.length_append];omega)) (jV k (pC (h2 x hx).1 (h2 x hx).2))
  exact Nat.add_le_add_left (Nat.le_trans z (Nat.mul_le_mul_right _ h1)) 1
theorem vG (S:SrchP L Pc W s1 s2 gp gt fx)(k j:Nat):∀{b:List Str},b.length+j=s1.length→dI (E4 L Pc W gp gt fx (s1++s2)) (j+k) b≤gB j k (gP gp b) (gP gt b):=by
 induction j with
 |zero=>intro b h;rw[Nat.zero_add];exact xj S k (by omega)
 |succ j ih=>
  intro b h
  obtain⟨h1,h2⟩:=Ax S (b:=b) (by omega)
  have z:=iI (f:=fun x=>dI (E4 L Pc W gp gt fx (s1++s2)) (j+k) (b++[x])) (B:=gB j k (gP gp b -1) (gP gt b)) (l:=E4 L Pc W gp gt fx (s1++s2) b) fun x hx=>Nat.le_trans (ih (by rw[List.length_append];simp;omega)) (tO j k (pC (h2 x hx).1 (h2 x hx).2) (xK _ _ _))
  rw[show j+1+k=(j+k)+1 by omega]
  exact Nat.add_le_add_left (Nat.le_trans z (Nat.mul_le_mul_right _ h1)) 1
theorem wB (S:SrchP L Pc W s1 s2 gp gt fx):dI (E4 L Pc W gp gt fx (s1++s2)) (s1++s2).length []≤gB Pc.pts.length Pc.ts.length W.pts.length W.ts.length:=by
 have z:=vG S s2.length s1.length (b:=[]) (Nat.zero_add _)
 have e1:=S.o.p1.length_eq
 have e2:=S.o.p2.length_eq
 have e3:=S.o'.p1.length_eq
 have e4:=S.o'.p2.length_eq
 rw[List.length_map] at e1 e2 e3 e4
 have a0:∀g:List Str,gP g []=g.length:=fun g=>by unfold gP;rw[List.filter_eq_self.mpr fun x _=>by simp]
 rw[a0,a0,e3,e4] at z
 rw[List.length_append]
 rw[←e1,←e2]
 exact z
end
theorem oO:∀p:Nat,p<7→∀t:Nat,t<11→p+t≤10→(p=0→t=0)→gB p t p t≤1000000:=by decide+kernel
def rA (mo:Option Nat)(rows:List (List Str)):List (List Str):=match mo with
 |none=>rows
 |some k=>rows.take k
def BI (mo:Option Nat)(n:Int):Bool:=match mo with
 |none=>true
 |some k=>!decide (n=(k:Int))
def uQ (mv:V)(mo:Option Nat):Prop:=(mv= .non∧mo=none)∨(mv= .int 1∧mo=some 1)
def LoAt (H:Hp)(t w:Addr)(xs:List V)(ls:List (List Str)):Prop:=Paired (fun v l=>∃a,v=V.ref a∧a≠t∧a≠w∧H a=some (.lst (l.map V.str))) xs ls
theorem LoAt.same {H H':Hp}{t w:Addr}{xs:List V}{ls:List (List Str)}(h:LoAt H t w xs ls)(s:Same H H'):LoAt H' t w xs ls:=Paired.imp' (fun _ _ ⟨a,e,n,m,z⟩=>⟨a,e,n,m,s _ _ z⟩) h
theorem LoAt.upT {H:Hp}{t w:Addr}{xs:List V}{ls:List (List Str)}{u:HO}(h:LoAt H t w xs ls):LoAt (i7 H t u) t w xs ls:=Paired.imp' (fun _ _ ⟨a,e,n,m,z⟩=>⟨a,e,n,m,by rw[b0 n];exact z⟩) h
theorem LoAt.upW {H:Hp}{t w:Addr}{xs:List V}{ls:List (List Str)}{u:HO}(h:LoAt H t w xs ls):LoAt (i7 H w u) t w xs ls:=Paired.imp' (fun _ _ ⟨a,e,n,m,z⟩=>⟨a,e,n,m,by rw[b0 m];exact z⟩) h
theorem Z1 {α β:Type}{F:α→β→Prop}:∀{xs:List α} {ls:List β},Paired F xs ls→xs≠[]→∃xs' x ls' l,xs=xs'++[x]∧ls=ls'++[l]∧Paired F xs' ls'∧F x l
 |_,_,.nil,h=>absurd rfl h
 |[x],[l],.cons a .nil,_=>⟨[],x,[],l,rfl,rfl,.nil,a⟩
 |x::y::xs,l::m::ls,.cons a t,_=>by
  obtain⟨xs',x',ls',l',e1,e2,h1,h2⟩:=Z1 t (by simp)
  exact⟨x::xs',x',l::ls',l',by rw[e1];rfl,by rw[e2];rfl,.cons a h1,h2⟩
structure LI (mo:Option Nat) (K:PySem.W.Frag) (img:List Str→List Str) (n:Nat) (H0 H':Hp) (tl wl:Addr) (xt xw:List V) (rows bs:List (List Str)) (m:Nat):Prop where
 s:Same H0 H'
 ht:H' tl=some (.lst xt)
 hw:H' wl=some (.lst xw)
 lt:LoAt H' tl wl xt rows
 lw:LoAt H' tl wl xw bs
 bl:∀b∈bs,b.length≤n
 sum:m=(bs.map fun b=>dI img (n -b.length) b).sum
 all:rows++bs.reverse.flatMap (fun b=>aF img (n -b.length) b)=aF img n []
 big:rows.length+m≤1000000
 le1:mo=some 1→rows.length≤1
def gG (K:PySem.W.Frag):Sp:=fun vs H Q _=>∃(a p q c pl:Addr) (kvs kvc kvp:List (d7×V)) (L:Str→Str→Bool) (Pc W:x5) (s1 s2 gp gt:List Str) (fx:List (Str×Str)) (mv:V) (mo:Option Nat),vs=[.ref a,.ref c,.ref pl,mv]∧uQ mv mo∧Sx K H a p q c pl kvs kvc kvp L Pc W s1 s2 gp gt fx∧
 ∀(l:Addr) (H':Hp) (xs:List V),H l=none→Same H H'→H' l=some (.lst xs)→LsAt H' xs (rA mo (aV Pc W s1 s2 gp gt fx))→(aV Pc W s1 s2 gp gt fx).length≤1000000→Q (.ref l) H'
theorem eT {n:Nat}(h:n≤2000000):n<sizeLine:=Nat.lt_of_le_of_lt h (by decide)
theorem fe {H:Hp}{Q:VK}{i:Int}(q:Q (.bl true) H):Q9 K (.int i) .non H Q:= .inl (.inl (.inl ⟨rfl,by simpa using q⟩))
theorem lK {H:Hp}{Q:VK}{i:Int}{mv:V}{mo:Option Nat}(h:uQ mv mo)(q:Q (.bl (BI mo i)) H):Q9 K (.int i) mv H Q:=by
 rcases h with⟨rfl,rfl⟩|⟨rfl,rfl⟩
 ·exact fe q
 ·exact gJ q
theorem kj {img:List Str→List Str}:∀{k:Nat} {b:List Str},(aF img k b).length≤dI img k b
 |0,_=>Nat.le_refl _
 |k+1,b=>by
  show((img b).flatMap fun x=>aF img k (b++[x])).length≤1+((img b).map fun x=>dI img k (b++[x])).sum
  rw[List.length_flatMap]
  have z:((img b).map fun x=>(aF img k (b++[x])).length).sum≤((img b).map fun x=>dI img k (b++[x])).sum:=by
   generalize img b=l
   induction l with
   |nil=>exact Nat.le_refl _
   |cons x l ih=>
    rw[List.map_cons,List.map_cons,List.sum_cons,List.sum_cons]
    exact Nat.add_le_add kj ih
  omega
abbrev kP (P:Program)(w:World)(K:PySem.W.Frag)(mg:Str→Option Value)(base:Heap):Prop:=V0 P w K mg base D5 5 "lines" ["piece","choices","places","most"] [] (gG K)
theorem qi {f:Addr}{fd:FuncData}(T:Txt K mg)(E1:au P w K mg base)(cm:ir P w K mg base)(F:Fun K "lines" "lines" fu f fd):A6 P w K mg base D5 5 f fd ["piece","choices","places","most"] (gG K):=by
 refine F.ok sc_lines (fun vs H Q E h=>?_) (fun cdv A outer s H vs Q E hr h=>?_)
 ·obtain⟨a,p,q,c,pl,kvs,kvc,kvp,Lr,Pc,W,s1,s2,gp,gt,fx,mv,mo,rfl,_⟩:=h
  rfl
 ·obtain⟨a,p,q,c,pl,kvs,kvc,kvp,Lr,Pc,W,s1,s2,gp,gt,fx,mv,mo,rfl,hmo,X0,k⟩:=h
  have S:=X0.S
  have hnl:=S.o.len
  have l1:=X0.l1
  have l2:=X0.l2
  have l2':=l2
  rw[y7] at l2'
  have hext:=qF S
  have hM:=tG S
  have hbig:=X0.big
  have hnd0:=wB S
  have hN:=sc_lines.nd
  have hu:=A3 hr
  refine⟨_,QSs.r (v8 (l0 (i:=4) hN rfl (by walk_at "l") (qC E1 (hr.mono (by decide)) p0 (h7 (qV 0) i5)))
   (v8 (l0 (i:=5) hN rfl (by walk_at "l") (aX i5))
   (v8 (l0 (i:=6) hN rfl (by walk_at "l") (aX (h7 (aX i5) i5)))
   (v8 (vW PassesOwn.never (rB (oi (ah K (qV 6)) (jo (p6 (P2 K hr) (qB (B4 K P w) T.b_len Boot.«len» (h7 (qV 5) i5)) (qV 3) (i3 _))))) (v8 (l0 (i:=7) hN rfl (by walk_at "l") (Ad PySem.F.plainAttrs_list PySem.F.slot_list_pop PySem.F.type_list_pop fL K (qV 6)))
   (C2 (bD (p6 (C6 K hr) (qB (B4 K P w) T.b_len Boot.«len» (h7 (qV 7) i5)) (qB (B4 K P w) T.b_len Boot.«len» (h7 (qV 4) i5)) (i3 _)) (C2 (xa (qM PySem.F.plainAttrs_list PySem.F.slot_list_append PySem.F.type_list_append x9 K (qV 5) (h7 (qV 7) i5)))) (C2 (X3 PassesOwn.never rfl (iw K T.b_reversed (h7 (qC cm (hr.mono (by decide)) p0 (h7 (qV 0) (h7 (qV 1) (h7 (qV 2) (h7 (qV 7) i5))))) i5)) (M8 (i:=8) hN rfl (by walk_at "l"))
    (C2 (xa (qM PySem.F.plainAttrs_list PySem.F.slot_list_append PySem.F.type_list_append x9 K (qV 6) (h7 (D6 (S7 K) (qV 7) (aX (h7 (qV 8) i5))) i5))))))))))
   (C2 (z9 (qV 5))))))),?_⟩
  walk_at "r"
  refine⟨a,p,q,kvs,Pc,rfl,X0.at_,by omega,fun ln H1 r1 r2 n1 m1 f1 or=>?_⟩
  have er1:r1=s1:=u9 or.o1 S.o.o1 (or.p1.nodup_iff.mpr (y8 S.nd)) (or.p1.trans S.o.p1.symm)
  have er2:r2=s2:=u9 or.o2 S.o.o2 (or.p2.nodup_iff.mpr (F8 S.nd)) (or.p2.trans S.o.p2.symm)
  subst er1 er2
  walk_at "r"
  refine⟨d6 (by simp),fun tl ntl=>?_⟩
  obtain⟨H2,e2,f2,m2,_⟩:=b5 (o:= .lst []) ntl
  rw[e2]
  walk_at "r"
  refine⟨d6 (by simp),fun l3 n3=>?_⟩
  obtain⟨H3,e3,f3,m3,_⟩:=b5 (o:= .lst []) n3
  rw[e3]
  walk_at "r"
  refine⟨d6 (by simp),fun wl nwl=>?_⟩
  obtain⟨H4,e4,f4,m4,_⟩:=b5 (o:= .lst [.ref l3]) nwl
  rw[e4]
  walk_at "r"
  have f2':=m4 _ _ (m3 _ _ f2)
  have f3':=m4 _ _ f3
  have h3t:l3≠tl:=(d0 f2 n3).symm
  have h3w:l3≠wl:=d0 f3 nwl
  have htw:tl≠wl:=d0 (m3 _ _ f2) nwl
  have m14:=m2.trans (m3.trans m4)
  have nwl1:H1 wl=none:=m2.free (m3.free nwl)
  generalize hN:(r1++r2).length=n at*
  generalize himg:E4 Lr Pc W gp gt fx (r1++r2)=img at*
  refine⟨fun m σ H'=>∃(xt xw:List V) (rows bs:List (List Str)) (v1 v2:Option V),σ=[some (.ref a),some (.ref c),some (.ref pl),some mv,some (.ref ln),some (.ref tl),some (.ref wl),v1,v2]∧LI mo K img n H1 H' tl wl xt xw rows bs m,⟨_,[],[.ref l3],[],[[]],none,none,rfl,⟨m14,f2',f4,.nil,.cons ⟨l3,rfl,h3t,h3w,f3'⟩ .nil,(fun b hb=>by rw[List.mem_singleton.mp hb];exact Nat.zero_le _),rfl,by simp,?_,fun _=>Nat.zero_le _⟩⟩,?_⟩
  ·show 0+(dI img n []+0)≤1000000
   omega
  rintro m σ H5 ⟨xt,xw,rows,bs,v1,v2,rfl,L⟩
  have hbl:bs.length≤m:=by rw[L.sum];exact kL fun _ _=>xG
  have hwl:=Paired.length L.lw
  have htl:=Paired.length L.lt
  have hb5:=L.big
  walk_at "r"
  refine⟨!xw.isEmpty,.inl ⟨_,SqL.of L.hw,rfl⟩,?_⟩
  cases hxe:xw.isEmpty with
  |true=>
   walk_at "r"
   have hx0:xw=[]:=by simpa using hxe
   have hb0:bs=[]:=by
    have:bs.length=0:=by rw[←hwl,hx0];rfl
    exact List.eq_nil_of_length_eq_zero this
   have ha:=L.all
   rw[hb0] at ha
   simp only[List.reverse_nil,List.flatMap_nil,List.append_nil] at ha
   rw[hext] at ha
   have hle:=L.le1
   refine k tl H5 xt (m1.free ntl) (m1.trans L.s) L.ht ?_ ?_
   ·rw[←ha]
    have e:rA mo rows=rows:=by
     rcases hmo with⟨_,rfl⟩|⟨_,rfl⟩
     ·rfl
     ·exact List.take_of_length_le (hle rfl)
    rw[e]
    exact Paired.imp' (fun _ _ ⟨a,e,_,_,z⟩=>⟨a,e,z⟩) L.lt
   ·rw[←ha];omega
  |false=>
   have hxne:xw≠[]:=by
    intro z;rw[z] at hxe;cases hxe
   walk_at "r"
   refine A4 (v9 (SqL.of L.ht) ?_)
   walk_at "r"
   refine lK hmo ?_
   walk_at "r"
   refine L9 (fun hgo=>?_) (fun hgo=>?_)
   case refine_2=>
    walk_at "r"
    have hall:=L.all
    rw[hext] at hall
    have h1:mo=some 1∧rows.length=1:=by
     rcases hmo with⟨_,rfl⟩|⟨_,rfl⟩
     ·cases hgo
     ·refine⟨rfl,?_⟩
      have z:(!decide ((xt.length:Int)=((1:Nat):Int)))=false:=hgo
      simp at z
      omega
    have hel:=kj (img:=img) (k:=n) (b:=[])
    rw[hext] at hel
    refine k tl H5 xt (m1.free ntl) (m1.trans L.s) L.ht ?_ (by omega)
    rw[h1.1,←hall]
    show LsAt H5 xt (List.take 1 _)
    rw[List.take_append_of_le_length (by omega),List.take_of_length_le (by omega)]
    exact Paired.imp' (fun _ _ ⟨a,e,_,_,z⟩=>⟨a,e,z⟩) L.lt
   have hgo0:mo=some 1→rows.length=0:=fun e=>by
    have z:=L.le1 e
    subst e
    have z2:(!decide ((xt.length:Int)=((1:Nat):Int)))=true:=hgo
    simp at z2
    omega
   refine⟨fun σ' H'=>∃m',m'<m∧∃(xt xw:List V) (rows bs:List (List Str)) (v1 v2:Option V),σ'=[some (.ref a),some (.ref c),some (.ref pl),some mv,some (.ref ln),some (.ref tl),some (.ref wl),v1,v2]∧LI mo K img n H1 H' tl wl xt xw rows bs m',fun σ' H' z=>z,?_⟩
   obtain⟨xw',xv,bs',b,exw,ebs,lw',a5,rfl,hat,haw,hb⟩:=Z1 L.lw hxne
   have hmb:b∈bs:=by rw[ebs];simp
   have hbn:=L.bl b hmb
   have hsum:=L.sum
   rw[ebs,List.map_append,List.sum_append] at hsum
   have hs1:([b].map fun b=>dI img (n -b.length) b).sum=dI img (n -b.length) b:=by simp
   rw[hs1] at hsum
   have hall:=L.all
   rw[ebs,List.reverse_append,List.reverse_singleton,List.singleton_append,List.flatMap_cons] at hall
   have hb'l:bs'.length≤m:=by rw[ebs,List.length_append] at hbl;omega
   have hxw':=Paired.length lw'
   walk_at "r"
   refine⟨.inl ⟨rfl,_,SqL.of L.hw⟩,?_⟩
   walk_at "r"
   refine⟨wl,xw,.ref a5,rfl,rfl,L.hw,by rw[exw];simp,?_⟩
   rw[show xw.dropLast=xw' by rw[exw];simp]
   have s6:Same H1 (i7 H5 wl (.lst xw')):=y9 L.s nwl1
   have f6:(i7 H5 wl (.lst xw')) wl=some (.lst xw'):=c9
   have t6:(i7 H5 wl (.lst xw')) tl=some (.lst xt):=by rw[b0 htw];exact L.ht
   have b6:(i7 H5 wl (.lst xw')) a5=some (.lst (b.map V.str)):=by rw[b0 haw];exact hb
   have lt6:LoAt (i7 H5 wl (.lst xw')) tl wl xt rows:=L.lt.upW
   have lw6:LoAt (i7 H5 wl (.lst xw')) tl wl xw' bs':=LoAt.upW (show LoAt H5 tl wl xw' bs' from lw')
   generalize i7 H5 wl (.lst xw')=H6 at s6 f6 t6 b6 lt6 lw6⊢
   walk_at "r"
   refine A4 (v9 (SqL.of b6) ?_)
   rw[List.length_map]
   walk_at "r"
   refine A4 (v9 (SqL.of (s6 _ _ f1)) ?_)
   rw[List.length_map,hN]
   walk_at "r"
   refine C8 (fun h1=>?_) (fun h1=>?_)
   ·have h1':b.length=n:=by omega
    walk_at "r"
    refine⟨.inl ⟨rfl,_,SqL.of t6⟩,?_⟩
    walk_at "r"
    refine⟨tl,xt,.ref a5,rfl,rfl,t6,eT (by omega),?_⟩
    rw[h1',Nat.sub_self] at hsum hall
    have e1:dI img 0 b=1:=rfl
    have e2:aF img 0 b=[b]:=rfl
    rw[e1] at hsum
    rw[e2] at hall
    have ntl1:H1 tl=none:=ntl
    refine⟨m -1,by omega,xt++[.ref a5],xw',rows++[b],bs',_,_,rfl,⟨y9 s6 ntl1,c9,by rw[b0 htw.symm];exact f6,j0 lt6.upT ⟨a5,rfl,hat,haw,by rw[b0 hat];exact b6⟩,lw6.upT,fun b' hb'=>L.bl b' (by rw[ebs];exact List.mem_append_left _ hb'),by omega,by rw[List.append_assoc];exact hall,by rw[List.length_append,List.length_singleton];omega,fun e=>by rw[List.length_append,List.length_singleton,hgo0 e];exact Nat.le_refl _⟩⟩
   ·have h1':b.length<n:=by omega
    obtain⟨kk,hkk⟩:∃kk,n -b.length=kk+1:=⟨n -b.length -1,by omega⟩
    walk_at "r"
    refine⟨a,p,q,c,pl,a5,kvs,kvc,kvp,Lr,Pc,W,r1,r2,gp,gt,fx,b,rfl,X0.same (m1.trans s6),b6,by omega,fun li H7 ss n7 m7 f7 hss=>?_⟩
    rw[himg] at hss
    subst hss
    walk_at "r"
    refine⟨li,_,rfl,SqL.of f7,?_⟩
    have hil:=hM b
    have hlit:li≠tl:=(d0 t6 n7).symm
    have hliw:li≠wl:=(d0 f6 n7).symm
    refine K9 (n:=(img b).length) (fun i σ H'=>∃(xw2:List V) (v2:Option V),σ=[some (.ref a),some (.ref c),some (.ref pl),some mv,some (.ref ln),some (.ref tl),some (.ref wl),some (.ref a5),v2]∧Same H1 H'∧H' li=some (.lst ((img b).map V.str))∧H' tl=some (.lst xt)∧H' wl=some (.lst xw2)∧H' a5=some (.lst (b.map V.str))∧LoAt H' tl wl xt rows∧LoAt H' tl wl xw2 (bs'++((img b).reverse.take i).map fun x=>b++[x])) ⟨xw',v2,rfl,s6.trans m7,f7,m7 _ _ t6,m7 _ _ f6,m7 _ _ b6,lt6.same m7,by simpa using lw6.same m7⟩ (fun i σ H' hi hp=>?_) ?_ ?_
    ·obtain⟨_,_,_,_,z,_⟩:=hp
     exact⟨SqL.of z,by rw[List.length_map];exact hi⟩
    ·rintro bk i v σ H8' H8 hi ⟨xw2,v2',rfl,s8,g8,t8,w8,b8,lt8,lw8⟩ ⟨rfl,hv⟩
     rw[List.length_map] at hv
     have hrev:(img b).reverse[i]?=(img b)[(img b).length -1 -i]?:=List.getElem?_reverse hi
     rw[List.getElem?_map,←hrev] at hv
     obtain⟨x,hx,rfl⟩:=Option.map_eq_some_iff.mp hv
     have hl8:=Paired.length lw8
     rw[List.length_append,List.length_map,List.length_take] at hl8
     walk_at "r"
     refine⟨.inl ⟨rfl,_,SqL.of w8⟩,?_⟩
     walk_at "r"
     refine⟨d6 (by simp),fun l9 n9=>?_⟩
     obtain⟨H9,e9,f9,m9,_⟩:=b5 (o:= .lst [.str x]) n9
     rw[e9]
     refine gk (m9 _ _ b8) f9 (Nat.le_of_lt (d6 (by rw[List.length_map];simp;omega))) (fun l10 n10=>?_)
     obtain⟨H10,e10,f10,m10,_⟩:=b5 (o:= .lst (b.map V.str++[.str x])) n10
     rw[e10]
     have m810:=m9.trans m10
     have ht10:l10≠tl:=(d0 (m9 _ _ t8) n10).symm
     have hw10:l10≠wl:=(d0 (m9 _ _ w8) n10).symm
     walk_at "r"
     refine⟨wl,xw2,.ref l10,rfl,rfl,m810 _ _ w8,eT (by omega),?_⟩
     refine⟨xw2++[.ref l10],_,rfl,y9 (s8.trans m810) nwl1,by rw[b0 hliw];exact m810 _ _ g8,by rw[b0 htw];exact m810 _ _ t8,c9,by rw[b0 haw];exact m810 _ _ b8,(lt8.same m810).upW,?_⟩
     rw[List.take_succ,hx,List.map_append,←List.append_assoc]
     refine j0 (lw8.same m810).upW ⟨l10,rfl,ht10,hw10,?_⟩
     rw[b0 hw10,f10,List.map_append];rfl
    ·rintro σ H8 ⟨xw2,v2',rfl,s8,g8,t8,w8,b8,lt8,lw8⟩
     rw[List.take_of_length_le (by rw[List.length_reverse];exact Nat.le_refl _)] at lw8
     refine⟨by show(img b).length=((img b).map V.str).length;rw[List.length_map],?_⟩
     rw[hkk] at hsum hall
     have e1:dI img (kk+1) b=1+((img b).map fun x=>dI img kk (b++[x])).sum:=rfl
     have e2:aF img (kk+1) b=(img b).flatMap fun x=>aF img kk (b++[x]):=rfl
     rw[e1] at hsum
     rw[e2] at hall
     have ek:∀x:Str,n -(b++[x]).length=kk:=fun x=>by rw[List.length_append,List.length_singleton];omega
     have eS:(((img b).reverse.map fun x=>b++[x]).map fun b=>dI img (n -b.length) b).sum=((img b).map fun x=>dI img kk (b++[x])).sum:=by
      rw[List.map_map,List.map_reverse,List.sum_reverse]
      exact congrArg List.sum (List.map_congr_left fun x _=>by show dI img (n -(b++[x]).length) (b++[x])=_;rw[ek x])
     refine⟨m -1,by omega,xt,xw2,rows,bs'++(img b).reverse.map fun x=>b++[x],_,_,rfl,⟨s8,t8,w8,lt8,lw8,fun b' hb'=>?_,?_,?_,by omega,L.le1⟩⟩
     ·rcases List.mem_append.mp hb' with z|z
      ·exact L.bl b' (by rw[ebs];exact List.mem_append_left _ z)
      ·obtain⟨x,_,rfl⟩:=List.mem_map.mp z
       rw[List.length_append,List.length_singleton];omega
     ·rw[List.map_append,List.sum_append,eS];omega
     ·rw[List.reverse_append,←List.map_reverse,List.reverse_reverse,List.flatMap_append,List.flatMap_map]
      rw[←hall]
      congr 1
      congr 1
      exact X4 fun x _=>by rw[ek x]
def jJ (n:Str)(x:Str×B6):Bool:=decide (x.2.2.1=n)||decide (x.2.2.2=n)
def lk1 (n:Str)(t:B6):Lk:=(t.1,decide (t.2.1=n),decide (t.2.2=n))
def bI (W:x5)(n:Str):List Lk:=(W.ts.filter (jJ n)).map fun x=>lk1 n x.2
def zT (a b:Lk):Prop:=¬A1 (fQ b)<A1 (fQ a)
theorem qR {a b:Lk}(h1:zT a b)(h2:zT b a):a=b:=by
 have e:A1 (fQ a)=A1 (fQ b):=sA h2 h1
 obtain⟨a1,a2,a3⟩:=a
 obtain⟨b1,b2,b3⟩:=b
 have e1:a1.cps.toList=b1.cps.toList:=(List.cons.inj e).1
 have e2:[a2.toNat]=[b2.toNat]:=(List.cons.inj (List.cons.inj e).2).1
 have e3:[a3.toNat]=[b3.toNat]:=(List.cons.inj (List.cons.inj (List.cons.inj e).2).2).1
 have h4:a2=b2:=by cases a2<;>cases b2<;>first|rfl|(exact absurd e2 (by decide))
 have h5:a3=b3:=by cases a3<;>cases b3<;>first|rfl|(exact absurd e3 (by decide))
 rw[O5 e1,h4,h5]
theorem U2 {α:Type}{r:α→α→Prop}(anti:∀a b,r a b→r b a→a=b):∀{l m:List α},l.Perm m→l.Pairwise r→m.Pairwise r→l=m
 |[],m,p,_,_=>(List.nil_perm.mp p).symm
 |a::l,[],p,_,_=>absurd p.length_eq (by simp)
 |a::l,b::m,p,h1,h2=>by
  have g1:=List.pairwise_cons.mp h1
  have g2:=List.pairwise_cons.mp h2
  have e:a=b:=by
   rcases List.mem_cons.mp (p.mem_iff.mp List.mem_cons_self) with e|ha
   ·exact e
   ·rcases List.mem_cons.mp (p.mem_iff.mpr (List.mem_cons_self (a:=b))) with e|hb
    ·exact e.symm
    ·exact anti a b (g1.1 b hb) (g2.1 a ha)
  subst e
  rw[U2 anti (List.Perm.cons_inv p) g1.2 g2.2]
def wO:List V→Lk
 |[.str a,.bl b,.bl c]=>(a,b,c)
 |_=>("",false,false)
theorem rh (c:Lk):wO (fQ c)=c:=rfl
theorem aN {α β γ:Type}{R:β→γ→Prop}{f:α→β}{g:α→γ}:∀{l:List α},(∀u∈l,R (f u) (g u))→Paired R (l.map f) (l.map g)
 |[],_=> .nil
 |a::l,h=> .cons (h a List.mem_cons_self) (aN fun u hu=>h u (List.mem_cons_of_mem _ hu))
theorem N5 {α β γ:Type}{R:α→β→Prop}{f:α→γ}{g:β→γ}(h:∀a b,R a b→f a=g b):∀{l:List α} {m:List β},Paired R l m→l.map f=m.map g
 |_,_,.nil=>rfl
 |_,_,.cons a t=>by rw[List.map_cons,List.map_cons,h _ _ a,N5 h t]
def jK (K:PySem.W.Frag):Sp:=fun vs H Q _=>∃(a p q:Addr) (kvs:List (d7×V)) (W:x5) (n:Str),vs=[.ref a,.str n]∧WebAt K H a p q kvs W∧H q=some (.dK kvs)∧W.ts.length≤30∧
 ua H Q fun ss=>ss.Perm ((W.ts.filter (jJ n)).map (·.1))
theorem rG {n:Str}{a b:Str}:wM (.str n) [.str a,.str b]=(decide (a=n)||decide (b=n)):=by
 show(N6 (.str a) (.str n)||(N6 (.str b) (.str n)||false))=_
 rw[Bool.or_false]
 show((a==n)||(b==n))=_
 rw[Bool.eq_iff_iff]
 simp
def LkOk (K:PySem.W.Frag)(H:Hp)(W:x5)(v:V)(x:Str×Str):Prop:=∃cs,LkV K H v x.2 cs∧cs.Perm (bI W x.1)∧cs.Pairwise zT
theorem LkOk.mono {H H':Hp}{W:x5}{v:V}{x:Str×Str}(l:Le H H')(h:LkOk K H W v x):LkOk K H' W v x:=let ⟨cs,a,b,c⟩:=h;⟨cs,a.mono l,b,c⟩
def T7 (K:PySem.W.Frag)(H:Hp)(W:x5)(kvl:List (d7×V))(pts:List (Str×Str)):Prop:=Paired (fun kv x=>kv.1=Sum.inr x.1∧LkOk K H W kv.2 x) kvl pts
def Z5 (K:PySem.W.Frag):Sp:=fun vs H Q _=>∃(a p q:Addr) (kvs:List (d7×V)) (W:x5) (n:Str),vs=[.ref a,.str n]∧WebAt K H a p q kvs W∧H q=some (.dK kvs)∧W.ts.length≤30∧(W.ts.map (·.1)).Nodup∧
 ∀(l:Addr) (H':Hp) (xs:List V) (cs:List Lk),H l=none→Same H H'→H' l=some (.lst xs)→dj K H' xs cs→cs.Perm (bI W n)→cs.Pairwise zT→Q (.ref l) H'
def gz (K:PySem.W.Frag):Sp:=fun vs H Q _=>∃(a p q:Addr) (kvs:List (d7×V)) (W:x5),vs=[.ref a]∧WebIs 30 K H a p q kvs W∧
 ∀(d:Addr) (H':Hp) (kvl:List (d7×V)),H d=none→Same H H'→H' d=some (.dK kvl)→T7 K H' W kvl W.pts→Q (.ref d) H'
abbrev oF (P:Program)(w:World)(K:PySem.W.Frag)(mg:Str→Option Value)(base:Heap):Prop:=V0 P w K mg base D5 1 "hold" ["web","name"] [] (jK K)
theorem rR {f:Addr}{fd:FuncData}(T:Txt K mg)(F:Fun K "hold" "hold" jk f fd):A6 P w K mg base D5 1 f fd ["web","name"] (jK K):=by
 refine F.ok sc_hold (fun vs H Q E h=>?_) (fun cdv A outer s H vs Q E hr h=>?_)
 ·obtain⟨a,p,q,kvs,W,n,rfl,_⟩:=h
  rfl
 ·obtain⟨a,p,q,kvs,W,n,rfl,hW,hq,h2,k⟩:=h
  have hkl:=hW.ts.length
  have hN:=sc_hold.nd
  have hu:=A3 hr
  refine⟨_,QSs.r (C2 (z9 (qB (z6 K rfl) T.b_sorted Boot.«sorted» (h7 (Q2 (own:=["tie","told"]) (js:=[1]) (by kernel_rfl) rfl (av (p8 (p7 K hu) (qV 0) d9 (fun _ _=>rfl))) (fun _ _ _ _=>(xh K rfl (jy (M8 (i:=0) (show List.Nodup (["tie","told","name"]:List Str) by decide+kernel) rfl (by walk_at "l")) (jy (M8 (i:=1) (show List.Nodup (["tie","told","name"]:List Str) by decide+kernel) rfl (by walk_at "l")) vP)))) (fun _ _ _ _=>(eQ (p6 (kIn K hu) (qV 2) (xY (yu K) (qV 1) (xN d9) zU) (by rfl)))) (fun _ _ _ _=>(qV 0))) i5)))),?_⟩
  walk_at "r"
  refine b7 hW.tup (b9 (j:=1) rfl) ?_
  refine F6 hq (fun ndq o1=>?_)
  refine y6 (n:=kvs.length) (fun i out H'=>Same (B1 q o1 kvs H) H'∧out=((W.ts.take i).filter (jJ n)).map (fun x=>V.str x.1)) ⟨Same.refl _,rfl⟩ (fun i out H' hi hp=>⟨hp.1 _ _ c9,hi⟩) ?_ ?_
  ·rintro N i v out H1' H1 hi ⟨s1,rfl⟩ ⟨t,kv,hkv,nt,rfl,rfl⟩ hN'
   obtain⟨H3,e3,f3,m3,_⟩:=b5 (o:= .tup _) nt
   rw[e3]
   obtain⟨x,hx,ex,b,eb,sb⟩:=hW.ts.get hkv
   have sb3:SqT K H3 b (D0 x.2):=((J1 (o:=o1) hq).trans (s1.trans m3).le).tup sb
   have e6:kV kv.1=V.str x.1:=by rw[ex];rfl
   refine Y1 (SqT.of f3) rfl ?_
   walk_at "r"
   refine⟨rfl,?_⟩
   walk_at "r"
   rw[eb]
   walk_at "r"
   refine af sb3 (by rintro⟨z,_⟩;exact absurd (show(1:Nat)=0 from z) (by decide)) (fun p4 n4=>?_)
   obtain⟨H4,e4,f4,m4,_⟩:=b5 (o:= .tup _) n4
   rw[e4]
   rw[qQ] at f4
   refine qx (.inr (SqT.of f4)) rfl rfl ?_
   walk_at "r"
   rw[show wM (.str n) (List.drop 1 (D0 x.2))=jJ n x from rG]
   have hfl:((W.ts.take i).filter (jJ n)).length≤30:=Nat.le_trans (List.length_filter_le _ _) (by rw[List.length_take];omega)
   refine L9 (fun hb=>?_) (fun hb=>?_)
   ·walk_at "r"
    refine⟨d6 (by rw[List.length_map];omega),hN' _ _ ⟨s1.trans (m3.trans m4),?_⟩⟩
    rw[jP hx hb,List.map_append,e6];rfl
   ·exact hN' _ _ ⟨s1.trans (m3.trans m4),by rw[jT hx hb]⟩
  ·rintro out H1 ⟨s1,rfl⟩
   have hfl:(W.ts.filter (jJ n)).length≤30:=Nat.le_trans (List.length_filter_le _ _) h2
   rw[List.take_of_length_le (by omega)]
   refine⟨⟨s1 _ _ c9,Nat.le_refl _⟩,fun D hD=>⟨d6 (by rw[List.length_map];omega),?_⟩⟩
   have sM:=S9 hq s1 hD (u:= .lst ((W.ts.filter (jJ n)).map (fun x=>V.str x.1)))
   have fM:=bS s1 hD (u:= .lst ((W.ts.filter (jJ n)).map (fun x=>V.str x.1)))
   generalize thaw q (i7 H1 D (.lst ((W.ts.filter (jJ n)).map (fun x=>V.str x.1))))=HM at sM fM⊢
   walk_at "r"
   refine B0 (ss:=(W.ts.filter (jJ n)).map (·.1)) (SqL.of (by rw[fM,List.map_map];rfl)) (by rw[List.length_map];omega) (fun ss a1 a2 l nl=>?_)
   obtain⟨H5,e5,f5,m5,_⟩:=b5 (o:= .lst _) nl
   rw[e5]
   exact k l H5 ss (sM.free nl) (sM.trans m5) f5 a1
abbrev aL (P:Program)(w:World)(K:PySem.W.Frag)(mg:Str→Option Value)(base:Heap):Prop:=V0 P w K mg base D5 2 "tie_looks" ["web","name"] [] (Z5 K)
theorem fz {f:Addr}{fd:FuncData}(T:Txt K mg)(jI:oF P w K mg base)(F:Fun K "tie_looks" "tie_looks" S0 f fd):A6 P w K mg base D5 2 f fd ["web","name"] (Z5 K):=by
 refine F.ok sc_tie_looks (fun vs H Q E h=>?_) (fun cdv A outer s H vs Q E hr h=>?_)
 ·obtain⟨a,p,q,kvs,W,n,rfl,_⟩:=h
  rfl
 ·obtain⟨a,p,q,kvs,W,n,rfl,hW,hq,h2,nd,k⟩:=h
  have hN:=sc_tie_looks.nd
  have hu:=A3 hr
  refine⟨_,QSs.r (v8 (Q8 (i:=2) hN rfl (by walk_at "l") (own:=["tie"]) (js:=[0]) (by kernel_rfl) rfl (S4 K (qC jI (hr.mono (by decide)) p0 (h7 (qV 0) (h7 (qV 1) i5)))) (fun _ _ _ _=>(M8 (i:=0) (show List.Nodup (["tie","web"]:List Str) by decide+kernel) rfl (by walk_at "l"))) (fun _ _ _ _=>gR) (fun _ _ _ _=>(p8 (p7 K hu) (p8 (p7 K hu) (qV 1) d9 (fun _ _=>rfl)) (qV 0) (fun _ _=>rfl))))
   (C2 (z9 (qB (qz K) T.b_sorted Boot.«sorted» (h7 (Q2 (own:=["tie"]) (js:=[1]) (by kernel_rfl) rfl (S4 K (qV 2)) (fun _ _ _ _=>(M8 (i:=0) (show List.Nodup (["tie","name"]:List Str) by decide+kernel) rfl (by walk_at "l"))) (fun _ _ _ _=>gR) (fun _ _ _ _=>(O1 (h7 (p8 (p7 K hu) (qV 0) d9 (fun _ _=>rfl)) (h7 (bW (C6 K hr) (p8 (p7 K hu) (qV 0) d9 (fun _ _=>rfl)) (qV 1) (i3 _)) (h7 (bW (C6 K hr) (p8 (p7 K hu) (qV 0) d9 (fun _ _=>rfl)) (qV 1) (i3 _)) i5)))))) i5))))),?_⟩
  walk_at "r"
  refine⟨a,p,q,kvs,W,n,rfl,hW,hq,h2,fun l1 H1 ss n1 m1 f1 ps=>?_⟩
  have hsl:=ps.length_eq
  rw[List.length_map] at hsl
  have hfl:(W.ts.filter (jJ n)).length≤30:=Nat.le_trans (List.length_filter_le _ _) h2
  have W1:=hW.mono m1.le
  refine y4 (SqL.of f1) ?_
  refine y6 (n:=ss.length) (fun i out H'=>Same H1 H'∧Paired (fun v s=>∃t,v=V.ref t∧SqT K H1 t (D0 (p9 W.ts s))) out (ss.take i)) ⟨Same.refl _,.nil⟩ (fun i out H' hi hp=>⟨_,.str (ss[i]),SqL.of (hp.1 _ _ f1),by rw[List.getElem?_map,List.getElem?_eq_getElem hi];rfl⟩) ?_ ?_
  ·rintro N i v out H2' H2 hi ⟨s2,pr⟩ y hN'
   obtain⟨rfl,hy⟩:=Itl.get y (SqL.of (s2 _ _ f1))
   rw[List.getElem?_map,List.getElem?_eq_getElem hi] at hy
   cases hy
   have hin:ss[i]∈W.ts.map (·.1):=by
    have z:=ps.mem_iff.mp (List.getElem_mem hi)
    obtain⟨x,hx,e⟩:=List.mem_map.mp z
    exact List.mem_map.mpr ⟨x,(List.mem_filter.mp hx).1,e⟩
   obtain⟨aa,y,h3,h4,h5⟩:=TiesIs.val (ts:=W.ts) W1.ts hin
   have hol:=Paired.length pr
   rw[List.length_take] at hol
   walk_at "r"
   refine⟨rfl,?_⟩
   walk_at "r"
   refine b7 (s2.tup W1.tup) (b9 (j:=1) rfl) ?_
   walk_at "r"
   refine r9 (v:= .ref aa) (by have z:=Q3 (k:=Sum.inr ss[i]) (s2.rd W1.ties);rw[h3] at z;exact z) ?_
   refine⟨d6 (by omega),hN' _ _ ⟨s2,?_⟩⟩
   rw[List.take_succ,List.getElem?_eq_getElem hi]
   exact j0 pr ⟨aa,rfl,by rw[N0 nd h4];exact h5⟩
  rintro ts H2 ⟨s2,pr⟩
  have hol:=Paired.length pr
  rw[List.length_take] at hol
  rw[List.take_of_length_le (Nat.le_refl _)] at pr
  refine⟨⟨_,SqL.of (s2 _ _ f1),by rw[List.length_map];exact Nat.le_refl _⟩,fun D hD=>⟨d6 (by omega),?_⟩⟩
  obtain⟨H3,e3,f3,m3,_⟩:=b5 (H:=H2) (o:= .lst ts) hD
  change K6 _ _ _ (i7 H2 D _) _
  rw[e3]
  have m13:=s2.trans m3
  walk_at "r"
  refine y4 (SqL.of f3) ?_
  refine y6 (n:=ts.length) (fun i out H'=>Same H3 H'∧∃us:List (Addr×List V),out=us.map (fun t=>V.ref t.1)∧Paired (fun(u:Addr×List V) s=>u.2=fQ (lk1 n (p9 W.ts s))∧H' u.1=some (.tup u.2)) us (ss.take i)) ⟨Same.refl _,[],rfl,.nil⟩ (fun i out H' hi hp=>⟨ts,ts[i],SqL.of (hp.1 _ _ f3),List.getElem?_eq_getElem hi⟩) ?_ ?_
  ·rintro N i v out H4' H4 hi ⟨s4,us,rfl,pu⟩ y hN'
   obtain⟨rfl,hy⟩:=Itl.get y (SqL.of (s4 _ _ f3))
   obtain⟨s,hs,t,rfl,ht⟩:=k9 pr hy
   have ht4:SqT K H4 t (D0 (p9 W.ts s)):=(m13.trans s4).tup ht
   have hpl:=Paired.length pu
   rw[List.length_take] at hpl
   walk_at "r"
   refine⟨rfl,?_⟩
   walk_at "r"
   refine b7 ht4 (b9 (j:=0) rfl) ?_
   walk_at "r"
   refine b7 ht4 (b9 (j:=1) rfl) ?_
   walk_at "r"
   refine b7 ht4 (b9 (j:=2) rfl) ?_
   walk_at "r"
   refine⟨d6 (by simp),fun l5 n5=>?_⟩
   obtain⟨H5,e5,f5,m5,_⟩:=b5 (o:= .tup (fQ (lk1 n (p9 W.ts s)))) n5
   change _∧N _ (i7 H4 l5 (.tup (fQ (lk1 n (p9 W.ts s)))))
   rw[e5]
   refine⟨d6 (by rw[List.length_map];omega),hN' _ _ ⟨s4.trans m5,us++[(l5,fQ (lk1 n (p9 W.ts s)))],by rw[List.map_append];rfl,?_⟩⟩
   rw[List.take_succ,hs]
   exact j0 (Paired.imp' (fun _ _ z=>⟨z.1,m5 _ _ z.2⟩) pu) ⟨rfl,f5⟩
  rintro out H4 ⟨s4,us,rfl,pu⟩
  have hpl:=Paired.length pu
  rw[List.length_take] at hpl
  rw[List.take_of_length_le (by omega)] at pu
  refine⟨⟨_,SqL.of (s4 _ _ f3),Nat.le_refl _⟩,fun D2 hD2=>⟨d6 (by rw[List.length_map];omega),?_⟩⟩
  obtain⟨H5,e5,f5,m5,_⟩:=b5 (H:=H4) (o:= .lst (us.map fun t=>V.ref t.1)) hD2
  walk_at "r"
  change cx K _ (i7 H4 D2 _) _
  rw[e5]
  have key:∀u∈us,∃c:Lk,u.2=fQ c∧H5 u.1=some (.tup u.2):=fun u hu=>by
   obtain⟨i,hi⟩:=List.getElem?_of_mem hu
   obtain⟨s,_,e1,e2⟩:=k9 pu hi
   exact⟨_,e1,m5 _ _ e2⟩
  refine⟨D2,us,rfl,SqL.of f5,fun u hu=>?_,fun u hu u' hu'=>?_,by omega,fun us' pm srt l6 n6=>?_⟩
  ·obtain⟨c,e1,e2⟩:=key u hu
   exact⟨SqT.of e2,c.1,_,e1⟩
  ·obtain⟨c,e1,_⟩:=key u hu
   obtain⟨c',e1',_⟩:=key u' hu'
   rw[e1,e1']
   exact .cons (.inl ⟨_,_,rfl,rfl⟩) (.cons (.inr ⟨_,_,rfl,rfl⟩) (.cons (.inr ⟨_,_,rfl,rfl⟩) .nil))
  ·obtain⟨H6,e6,f6,m6,_⟩:=b5 (o:= .lst (us'.map fun t=>V.ref t.1)) n6
   rw[e6]
   have hc:∀u∈us',u.2=fQ (wO u.2)∧H5 u.1=some (.tup u.2):=fun u hu=>by
    obtain⟨c,e1,e2⟩:=key u (pm.mem_iff.mp hu)
    exact⟨by rw[e1,rh],e2⟩
   refine k l6 H6 _ (us'.map fun u=>wO u.2) (m1.free (m13.free (s4.free (m5.free n6)))) (m1.trans (m13.trans (s4.trans (m5.trans m6)))) f6 (aN fun u hu=>⟨u.1,rfl,?_⟩) ?_ ?_
   ·rw[←(hc u hu).1]
    exact SqT.of (m6 _ _ (hc u hu).2)
   ·have e:us.map (fun u=>wO u.2)=ss.map fun s=>lk1 n (p9 W.ts s):=N5 (fun u s z=>by rw[z.1,rh]) pu
    have p1:=pm.map fun u=>wO u.2
    rw[e] at p1
    refine p1.trans ((ps.map fun s=>lk1 n (p9 W.ts s)).trans (List.Perm.of_eq ?_))
    rw[List.map_map]
    refine List.map_congr_left fun x hx=>?_
    show lk1 n (p9 W.ts x.1)=lk1 n x.2
    rw[N0 nd (show(x.1,x.2)∈W.ts from(List.mem_filter.mp hx).1)]
   ·refine List.pairwise_map.mpr (List.Pairwise.imp_of_mem (fun{a b} ha hb z=>?_) srt)
    show ¬A1 (fQ (wO b.2))<A1 (fQ (wO a.2))
    rw[←(hc a ha).1,←(hc b hb).1];exact z
abbrev kZ (P:Program)(w:World)(K:PySem.W.Frag)(mg:Str→Option Value)(base:Heap):Prop:=V0 P w K mg base D5 3 "looks" ["web"] [] (gz K)
theorem qw {f:Addr}{fd:FuncData}(T:Txt K mg)(T4:aL P w K mg base)(F:Fun K "looks" "looks" ez f fd):A6 P w K mg base D5 3 f fd ["web"] (gz K):=by
 refine F.ok sc_looks (fun vs H Q E h=>?_) (fun cdv A outer s H vs Q E hr h=>?_)
 ·obtain⟨a,p,q,kvs,W,rfl,_⟩:=h
  rfl
 ·obtain⟨a,p,q,kvs,W,rfl,hW,k⟩:=h
  have lW:=hW.len
  rw[y7] at lW
  have hptl:=q9 W.pts
  have hN:=sc_looks.nd
  have hu:=A3 hr
  refine⟨_,QSs.r (C2 (z9 (cK (aO K rfl) T.b_dict Boot.«dict» (h7 (Q2 (own:=["name","kind"]) (js:=[0]) (by kernel_rfl) rfl (av (p8 (p7 K hu) (qV 0) d9 (fun _ _=>rfl))) (fun _ _ _ _=>(xh K rfl (jy (M8 (i:=0) (show List.Nodup (["name","kind","web"]:List Str) by decide+kernel) rfl (by walk_at "l")) (jy (M8 (i:=1) (show List.Nodup (["name","kind","web"]:List Str) by decide+kernel) rfl (by walk_at "l")) vP)))) (fun _ _ _ _=>gR) (fun _ _ _ _=>(O1 (h7 (qV 0) (h7 (O1 (h7 (qV 1) (h7 (qC T4 (hr.mono (by decide)) p0 (h7 (qV 2) (h7 (qV 0) i5))) i5))) i5))))) i5)))),?_⟩
  walk_at "r"
  refine b7 hW.at_.tup (b9 (j:=0) rfl) ?_
  refine F6 hW.hp (fun ndp o1=>?_)
  refine y6 (n:=(i0 W.pts).length) (fun i out H'=>Same (B1 p o1 (i0 W.pts) H) H'∧∃ks,Paired (PrV K H') out ks∧T7 K H' W ks (W.pts.take i)) ⟨Same.refl _,[],.nil,.nil⟩ (fun i out H' hi hp=>⟨hp.1 _ _ c9,hi⟩) ?_ ?_
  ·rintro N i v out H1' H1 hi ⟨s1,ks,pr,lk⟩ ⟨t,kv,hkv,nt,rfl,rfl⟩ hN'
   obtain⟨x,hx,rfl⟩:=eU hkv
   obtain⟨H3,e3,f3,m3,_⟩:=b5 (o:= .tup _) nt
   rw[e3]
   have s3:=s1.trans m3
   have W3:=(hW.at_.mono (J1 (o:=o1) hW.hp)).mono s3.le
   have hq3:H3 q=some (.dK kvs):=s3 _ _ (by rw[J5 hW.ne.symm];exact hW.hq)
   have hol:=Paired.length pr
   have hll:=Paired.length lk
   rw[List.length_take] at hll
   refine Y1 (SqT.of f3) rfl ?_
   walk_at "r"
   refine⟨rfl,?_⟩
   walk_at "r"
   refine⟨a,p,q,kvs,W,x.1,rfl,W3,hq3,by omega,F8 hW.nd,fun l4 H4 xs cs n4 m4 f4 lks pcs srt=>?_⟩
   walk_at "r"
   refine⟨d6 (by simp),fun l5 n5=>?_⟩
   obtain⟨H5,e5,f5,m5,_⟩:=b5 (o:= .tup [.str x.2,.ref l4]) n5
   rw[e5]
   walk_at "r"
   refine⟨d6 (by simp),fun l6 n6=>?_⟩
   obtain⟨H6,e6,f6,m6,_⟩:=b5 (o:= .tup _) n6
   rw[e6]
   have m36:=m4.trans (m5.trans m6)
   have m16:=m3.trans m36
   refine⟨d6 (by omega),hN' _ _ ⟨s3.trans m36,ks++[(Sum.inr x.1,.ref l5)],?_,?_⟩⟩
   ·exact j0 (Paired.imp' (fun _ _ z=>PrV.mono m16.le z) pr) ⟨l6,rfl,SqT.of f6⟩
   ·rw[List.take_succ,hx]
    refine j0 (Paired.imp' (fun _ _ z=>⟨z.1,z.2.mono m16.le⟩) lk) ⟨rfl,cs,⟨l5,l4,xs,rfl,SqT.of (m6 _ _ f5),SqL.of ((m5.trans m6) _ _ f4),Paired.imp' (fun _ _ ⟨t,e,z⟩=>⟨t,e,(m5.trans m6).tup z⟩) lks⟩,pcs,srt⟩
  ·rintro out H1 ⟨s1,ks,pr,lk⟩
   have hol:=Paired.length pr
   have hll:=Paired.length lk
   rw[List.length_take] at hll
   refine⟨⟨s1 _ _ c9,Nat.le_refl _⟩,fun D hD=>⟨d6 (by omega),?_⟩⟩
   have sM:=S9 hW.hp s1 hD (u:= .lst out)
   have fM:=bS s1 hD (u:= .lst out)
   have prM:=Paired.imp' (fun _ _ z=>PrV.mono (oI (d:=p) (u:= .lst out) hD) z) pr
   have lkM:T7 K _ W ks _:=Paired.imp' (fun _ _ z=>⟨z.1,z.2.mono (oI (d:=p) (u:= .lst out) hD)⟩) lk
   generalize thaw p (i7 H1 D (.lst out))=HM at sM fM prM lkM⊢
   rw[List.take_of_length_le (by omega)] at lkM
   have ek:ks.map (·.1)=(W.pts.map (·.1)).map Sum.inr:=by
    rw[List.map_map]
    exact N5 (fun kv x z=>z.1) lkM
   have eP:P5 ks=ks:=gU (by rw[ek];exact List.Pairwise.map _ (fun a b h z=>h (Sum.inr.inj z)) (y8 hW.nd))
   walk_at "r"
   refine jf (SqL.of fM) prM (d6 (by omega)) (fun pp npp=>?_)
   rw[eP]
   obtain⟨H2,e2,f2,m2,_⟩:=b5 (o:= .dK ks) npp
   rw[e2]
   exact k pp H2 ks (sM.free npp) (sM.trans m2) f2 (Paired.imp' (fun _ _ z=>⟨z.1,z.2.mono m2.le⟩) lkM)
def cV (W:x5):List Str:=Q4 (W.pts.map (·.1))
def cM (W:x5):List Str:=Q4 (W.ts.map (·.1))
def aI (W:x5):List Str:=cV W++cM W
noncomputable def C4 (Pc W:x5)(fx:List (Str×Str)):List (List Str):=aV Pc W (cV Pc) (cM Pc) (cV W) (cM W) fx
theorem E7 (W:x5):Ordr W (cV W) (cM W):=⟨M4 _,M4 _,Z7 _,Z7 _⟩
def DcAt (H:Hp)(nm:List Str)(xs:List V)(rows:List (List Str)):Prop:=Paired (fun v row=>∃d,v=V.ref d∧H d=some (.dK (i0 (nm.zip row)))) xs rows
theorem DcAt.same {H H':Hp}{nm:List Str}{xs:List V}{rows:List (List Str)}(h:DcAt H nm xs rows)(s:Same H H'):DcAt H' nm xs rows:=Paired.imp' (fun _ _ ⟨d,e,z⟩=>⟨d,e,s _ _ z⟩) h
def yo (H:Hp)(p q:Addr)(fv:V)(fx:List (Str×Str)):Prop:=(fv= .non∧fx=[])∨∃d,fv= .ref d∧H d=some (.dK (i0 fx))∧d≠p∧d≠q
structure Mx (K:PySem.W.Frag) (H:Hp) (a p q a' p' q':Addr) (kvs kvs':List (d7×V)) (Pc W:x5) (fx:List (Str×Str)):Prop where
 P:WebIs 30 K H a p q kvs Pc
 G:WebIs 30 K H a' p' q' kvs' W
 big:gB Pc.pts.length Pc.ts.length W.pts.length W.ts.length≤1000000
 fnd:(fx.map (·.1)).Nodup
 fin:∀x∈fx,x.1∈h9 Pc
structure LkP (K:PySem.W.Frag) (H:Hp) (pl wl:Addr) (kvp kvg:List (d7×V)) (L:Str→Str→Bool) (Pc W:x5):Prop where
 hp:H pl=some (.dK kvp)
 kp:kvp.map (·.1)=(Pc.pts.map (·.1)).map Sum.inr
 hg:Rd H wl (.dK kvg)
 kg:kvg.map (·.1)=(W.pts.map (·.1)).map Sum.inr
 eq:∀(n:Str) (v:V) (m:Str) (u:V),(Sum.inr n,v)∈kvp→i9 kvg (Sum.inr m:d7)=some u→EqA K H u v (L n m)
 ls:∀n x,n∈Pc.pts.map (·.1)→x∈W.pts.map (·.1)→L n x=true→g7 (i0 W.pts) x=g7 (i0 Pc.pts) n
 lc:∀row,FitP Pc W (i0 ((aI Pc).zip row))→∀x∈Pc.pts,L x.1 (gv (aI Pc) row x.1)=true
theorem LkP.same {H H':Hp}{pl wl:Addr}{kvp kvg:List (d7×V)}{L:Str→Str→Bool}{Pc W:x5}(h:LkP K H pl wl kvp kvg L Pc W)(s:Same H H'):LkP K H' pl wl kvp kvg L Pc W:=⟨s _ _ h.hp,h.kp,s.rd h.hg,h.kg,fun n v m u a b=>(h.eq n v m u a b).mono s.le,h.ls,h.lc⟩
def Au (H:Hp)(Q:VK)(mo:Option Nat)(Pc W:x5)(fx:List (Str×Str)):Prop:=∀(l:Addr) (H':Hp) (xs:List V),H l=none→Same H H'→H' l=some (.lst xs)→DcAt H' (aI Pc) xs (rA mo (C4 Pc W fx))→(C4 Pc W fx).length≤1000000→(∀x∈xs,∃d,x=V.ref d∧H d=none)→Q (.ref l) H'
def gY (K:PySem.W.Frag):Sp:=fun vs H Q _=>∃(a p q a' p' q' pl wl:Addr) (kvs kvs' kvp kvg:List (d7×V)) (L:Str→Str→Bool) (Pc W:x5) (fx:List (Str×Str)) (fv mv:V) (mo:Option Nat),vs=[.ref a,.ref a',.ref pl,.ref wl,fv,mv]∧Mx K H a p q a' p' q' kvs kvs' Pc W fx∧LkP K H pl wl kvp kvg L Pc W∧uQ mv mo∧yo H pl q fv fx∧Au H Q mo Pc W fx
theorem sQ {H:Hp}{a p q a' p' q' pl wl:Addr}{kvs kvs' kvp kvg:List (d7×V)}{L:Str→Str→Bool}{Pc W:x5}{fx:List (Str×Str)}(h:Mx K H a p q a' p' q' kvs kvs' Pc W fx)(l:LkP K H pl wl kvp kvg L Pc W):SrchP L Pc W (cV Pc) (cM Pc) (cV W) (cM W) fx:=
 ⟨E7 _,E7 _,h.P.nd,h.G.nd,h.P.ends,h.fnd,h.fin,l.ls,l.lc⟩
theorem uO {H:Hp}{F:Str×Str→List Str}:∀{kvs:List (d7×V)} {pts:List (Str×Str)},ChAt H F kvs pts→LsAt H (kvs.map (·.2)) (pts.map F)
 |_,_,.nil=> .nil
 |_,_,.cons a t=> .cons a.2 (uO t)
theorem Mx.same {H0 H1:Hp}{a p q a' p' q':Addr}{kvs kvs':List (d7×V)}{Pc W:x5}{fx:List (Str×Str)}(h:Mx K H0 a p q a' p' q' kvs kvs' Pc W fx)(s:Same H0 H1):Mx K H1 a p q a' p' q' kvs kvs' Pc W fx:=⟨h.P.same s,h.G.same s,h.big,h.fnd,h.fin⟩
theorem uk {mo:Option Nat}{rows:List (List Str)}:(rA mo rows).length≤rows.length:=by
 cases mo with
 |none=>exact Nat.le_refl _
 |some k=>exact List.length_take_le' _ _
abbrev kY (P:Program)(w:World)(K:PySem.W.Frag)(mg:Str→Option Value)(base:Heap):Prop:=V0 P w K mg base D5 6 "found" ["piece","web","piece_looks","web_looks","fixed","most"] [] (gY K)
theorem oA {f:Addr}{fd:FuncData}(T:Txt K mg)(G1:P8 P w K mg base)(N3:cF P w K mg base)(N7:Z3 P w K mg base)(E1:au P w K mg base)(fF:kP P w K mg base)(F:Fun K "found" "found" eR f fd):A6 P w K mg base D5 6 f fd ["piece","web","piece_looks","web_looks","fixed","most"] (gY K):=by
 refine F.ok sc_found (fun vs H Q E h=>?_) (fun cdv A outer s H vs Q E hr h=>?_)
 ·obtain⟨a,p,q,a',p',q',pl,wl,kvs,kvs',kvp,kvg,L,Pc,W,fx,fv,mv,mo,rfl,_⟩:=h
  rfl
 ·obtain⟨a,p,q,a',p',q',pl,wl,kvs,kvs',kvp,kvg,L,Pc,W,fx,fv,mv,mo,rfl,M0,L0,hmo,hf,k⟩:=h
  have S:=sQ M0 L0
  have lP:=M0.P.len
  have lW:=M0.G.len
  have lP2:=lP
  have lW2:=lW
  rw[y7] at lP2 lW2
  have hN:=sc_found.nd
  have hu:=A3 hr
  refine⟨_,QSs.r (v8 (l0 (i:=6) hN rfl (by walk_at "l") (xS (p6 ku (qV 4) mn (i3 _)) ug (qV 4)))
   (v8 (l0 (i:=7) hN rfl (by walk_at "l") (qC G1 (hr.mono (by decide)) p0 (h7 (qV 2) (h7 (qV 3) (h7 (qV 6) i5)))))
   (v8 (bD (kO (ah K (qC N3 (hr.mono (by decide)) p0 (h7 (cK (K4 K rfl) T.b_list Boot.«list» (h7 (Ad PySem.F.plainAttrs_dict PySem.F.slot_dict_values PySem.F.type_dict_values G0 K (qV 7)) i5)) i5)))) (C2 (z9 (aX i5))) cR)
   (v8 (l0 (i:=8) hN rfl (by walk_at "l") (qC N7 (hr.mono (by decide)) p0 (h7 (qV 0) (h7 (qV 1) (h7 (qV 6) i5)))))
   (v8 (l0 (i:=9) hN rfl (by walk_at "l") (qC E1 (hr.mono (by decide)) p0 (h7 (qV 0) i5)))
   (C2 (z9 (Q2 (own:=["row"]) (js:=[9]) (by kernel_rfl) rfl (S4 K (qC fF (hr.mono (by decide)) p0 (h7 (qV 0) (h7 (qV 7) (h7 (qV 8) (h7 (qV 5) i5)))))) (fun _ _ _ _=>(M8 (i:=0) (show List.Nodup (["row","names"]:List Str) by decide+kernel) rfl (by walk_at "l"))) (fun _ _ _ _=>gR) (fun _ _ _ _=>(Bf K T.b_dict T.b_zip rfl (h7 (qV 1) (h7 (qV 0) i5)))))))))))),?_⟩
  refine uJ (fun σ H'=>∃d,σ=[some (.ref a),some (.ref a'),some (.ref pl),some (.ref wl),some fv,some mv,some (.ref d),none,none,none]∧Same H H'∧H' d=some (.dK (i0 fx))∧d≠pl∧d≠q) ?_ ?_
  ·rintro σ H1 ⟨d,rfl,m1,hd,hdp,hdq⟩
   have M1:=M0.same m1
   have L1:=L0.same m1
   walk_at "r"
   refine⟨pl,wl,d,kvp,kvg,Pc.pts,W.pts,fx,L,cV W,rfl,L1.hp,L1.kp,y8 M1.P.nd,by omega,L1.hg,L1.kg,y8 M1.G.nd,by omega,(E7 W).p1,(E7 W).o1,L1.eq,hd,hdp,fun c H2 kvc nc m2 hc ch=>?_⟩
   have M2:=M1.same m2
   walk_at "r"
   refine⟨.inr (.inr (.inl ⟨rfl,.inl ⟨_,hc⟩⟩)),?_⟩
   walk_at "r"
   refine⟨c,_,rfl,rfl,.inl hc,fun v3 n3=>?_⟩
   obtain⟨H3,e3,f3,m3,_⟩:=b5 (o:= .ext (eu v3 c)) n3
   rw[e3]
   walk_at "r"
   refine T2 f3 (.inl (m3 _ _ hc)) (fun l4 n4=>?_)
   obtain⟨H4,e4,f4,m4,_⟩:=b5 (o:= .lst _) n4
   rw[e4]
   walk_at "r"
   have m24:=m3.trans m4
   refine⟨l4,_,_,rfl,f4,LsAt.same (uO ch) m24,by rw[List.length_map];omega,fun H5 m5=>?_⟩
   have m25:=m24.trans m5
   have M5:=M2.same m25
   walk_at "r"
   refine tp (fun h1=>?_) (fun h1=>?_)
   ·walk_at "r"
    refine⟨d6 (by simp),fun l6 n6=>?_⟩
    obtain⟨H6,e6,f6,m6,_⟩:=b5 (o:= .lst []) n6
    rw[e6]
    have e0:C4 Pc W fx=[]:=nI S h1
    refine k l6 H6 [] (m1.free (m2.free (m25.free n6))) (m1.trans (m2.trans (m25.trans m6))) f6 (by rw[e0];rcases hmo with⟨_,rfl⟩|⟨_,rfl⟩<;>exact .nil) (by rw[e0];exact Nat.zero_le _) (fun _ h=>nomatch h)
   ·walk_at "r"
    refine⟨a,p,q,a',p',q',d,kvs,kvs',Pc,W,fx,cM W,rfl,M5.P.at_,M5.P.hq,F8 M5.P.nd,by omega,M5.G.at_,F8 M5.G.nd,by omega,(E7 W).p2,(E7 W).o2,m25 _ _ (m2 _ _ hd),hdq,fun ps H6 kvq nps m6 hps pls=>?_⟩
    have M6:=M5.same m6
    have m26:=m25.trans m6
    walk_at "r"
    refine⟨a,p,q,kvs,Pc,rfl,M6.P.at_,by omega,fun ln H7 r1 r2 n7 m7 f7 or=>?_⟩
    have er1:r1=cV Pc:=u9 or.o1 (E7 Pc).o1 (or.p1.nodup_iff.mpr (y8 S.nd)) (or.p1.trans (E7 Pc).p1.symm)
    have er2:r2=cM Pc:=u9 or.o2 (E7 Pc).o2 (or.p2.nodup_iff.mpr (F8 S.nd)) (or.p2.trans (E7 Pc).p2.symm)
    subst er1 er2
    have M7:=M6.same m7
    have m27:=m26.trans m7
    walk_at "r"
    refine⟨a,p,q,c,ps,kvs,kvc,kvq,L,Pc,W,cV Pc,cM Pc,cV W,cM W,fx,mv,mo,rfl,hmo,⟨S,M7.P.at_,M7.P.hq,by omega,by omega,M0.big,m27 _ _ hc,ch.same m27,m7 _ _ hps,pls.same m7⟩,fun lr H8 xs n8 m8 f8 ls hbig=>?_⟩
    have hrl:=Paired.length ls
    refine y4 (SqL.of f8) ?_
    refine y6 (n:=xs.length) (fun i out H'=>Same H8 H'∧DcAt H' (aI Pc) out ((rA mo (C4 Pc W fx)).take i)∧∀x∈out,∃d,x=V.ref d∧H d=none) ⟨Same.refl _,.nil,fun _ h=>nomatch h⟩ (fun i out H' hi hp=>⟨xs,xs[i],SqL.of (hp.1 _ _ f8),List.getElem?_eq_getElem hi⟩) ?_ ?_
    ·rintro N i v out H9' H9 hi ⟨s9,dc,hfr⟩ y hN'
     obtain⟨rfl,hy⟩:=Itl.get y (SqL.of (s9 _ _ f8))
     obtain⟨row,hrow,ar,rfl,har⟩:=k9 ls hy
     have hdl:=Paired.length dc
     rw[List.length_take] at hdl
     walk_at "r"
     refine⟨rfl,?_⟩
     walk_at "r"
     refine⟨ln,ar,(aI Pc).map Sum.inr,row.map V.str,rfl,by rw[←kc];exact SqL.of (s9 _ _ (m8 _ _ f7)),SqL.of (s9 _ _ har),fun d2 nd2=>?_⟩
     rw[gx (nm:=aI Pc) S.nn]
     obtain⟨H10,e10,f10,m10,_⟩:=b5 (o:= .dK (i0 ((aI Pc).zip row))) nd2
     change _∧N _ (i7 H9 d2 (.dK (i0 ((aI Pc).zip row))))
     rw[e10]
     have hbig2:(C4 Pc W fx).length≤1000000:=hbig
     have htl:(rA mo (C4 Pc W fx)).length≤(C4 Pc W fx).length:=uk
     refine⟨Nat.le_of_lt (eT (by omega)),hN' _ _ ⟨s9.trans m10,?_,fun x hx=>?_⟩⟩
     ·rw[show(rA mo (C4 Pc W fx)).take (i+1)=(rA mo (C4 Pc W fx)).take i++[row] by rw[List.take_succ,show(rA mo (C4 Pc W fx))[i]?=some row from hrow];rfl]
      exact j0 (DcAt.same dc m10) ⟨d2,rfl,f10⟩
     ·rcases List.mem_append.mp hx with z|z
      ·exact hfr x z
      ·exact⟨d2,List.mem_singleton.mp z,m1.free (m2.free (m27.free (m8.free (s9.free nd2))))⟩
    ·rintro out H9 ⟨s9,dc,hfr⟩
     have hdl:=Paired.length dc
     rw[List.length_take] at hdl
     have hbig2:(C4 Pc W fx).length≤1000000:=hbig
     have htl:(rA mo (C4 Pc W fx)).length≤(C4 Pc W fx).length:=uk
     refine⟨⟨_,SqL.of (s9 _ _ f8),Nat.le_refl _⟩,fun D hD=>⟨Nat.le_of_lt (eT (by omega)),?_⟩⟩
     rw[List.take_of_length_le (by rw[hrl];exact Nat.le_refl _)] at dc
     obtain⟨H10,e10,f10,m10,_⟩:=b5 (H:=H9) (o:= .lst out) hD
     show Q _ (i7 H9 D _)
     rw[e10]
     exact k D H10 out (m1.free (m2.free (m27.free (m8.free (s9.free hD))))) (m1.trans (m2.trans (m27.trans (m8.trans (s9.trans m10))))) f10 (dc.same m10) hbig hfr
  ·intro nx hnx
   walk_at "r"
   rcases hf with⟨rfl,rfl⟩|⟨d,rfl,hd,hdp,hdq⟩
   ·rw[if_pos (by simp)]
    walk_at "r"
    intro d nd
    obtain⟨H1,e1,f1,m1,_⟩:=b5 (o:= .dK []) nd
    rw[e1]
    walk_at "r"
    exact hnx _ _ ⟨d,rfl,m1,f1,(d0 L0.hp nd).symm,(d0 M0.P.hq nd).symm⟩
   ·rw[if_neg (by simp)]
    walk_at "r"
    exact hnx _ _ ⟨d,rfl,Same.refl _,hd,hdp,hdq⟩
def eI (kvm:List (d7×V))(x:Str×B6):Str×B6:=(g7 kvm x.1,(x.2.1,g7 kvm x.2.2.1,g7 kvm x.2.2.2))
open Classical in
theorem D1 {α:Type}:∀{a b:List α},a.Nodup→(∀x∈a,x∈b)→b.length≤a.length→a.Perm b
 |[],b,_,_,h=>by
  have:b=[]:=List.length_eq_zero_iff.mp (by simpa using h)
  rw[this]
 |x::r,b,nd,hs,hl=>by
  have nd':=List.nodup_cons.mp nd
  have hx:x∈b:=hs x List.mem_cons_self
  refine List.Perm.trans (List.Perm.cons x (D1 (b:=b.erase x) nd'.2 (fun y hy=>?_) ?_)) (List.perm_cons_erase hx).symm
  ·exact(List.mem_erase_of_ne (fun z:y=x=>nd'.1 (by rw[←z];exact hy))).mpr (hs y (List.mem_cons_of_mem _ hy))
  ·rw[List.length_erase_of_mem hx]
   simp only[List.length_cons] at hl
   omega
theorem mq {Pc W:x5}{kvm:List (d7×V)}(f:FitP Pc W kvm)(hl:Pc.ts.length=W.ts.length)(ends:∀x∈Pc.ts,x.2.2.1∈Pc.pts.map (·.1)∧x.2.2.2∈Pc.pts.map (·.1)){n:Str}(hn:n∈Pc.pts.map (·.1)):(bI W (g7 kvm n)).Perm (bI Pc n):=by
 have inj:∀m,m∈Pc.pts.map (·.1)→decide (g7 kvm m=g7 kvm n)=decide (m=n):=fun m hm=>by
  rw[Bool.eq_iff_iff,decide_eq_true_eq,decide_eq_true_eq]
  exact⟨fun e=>ql f.nd (List.mem_append_left _ hm) (List.mem_append_left _ hn) e,fun e=>by rw[e]⟩
 have nd:(Pc.ts.map (eI kvm)).Nodup:=by
  have z:=f.nd
  unfold h9 at z
  rw[List.map_append,List.map_map,List.map_map] at z
  have z2:=(List.nodup_append.mp z).2.1
  have z3:((Pc.ts.map (eI kvm)).map (·.1)).Nodup:=by rw[List.map_map];exact z2
  exact List.Pairwise.imp (fun y e=>y (by rw[e])) (List.pairwise_map.mp z3)
 have pm:(Pc.ts.map (eI kvm)).Perm W.ts:=D1 nd (fun x hx=>by
  obtain⟨y,hy,rfl⟩:=List.mem_map.mp hx
  exact f.ts y hy) (by rw[List.length_map];omega)
 have p2:=(pm.symm.filter (jJ (g7 kvm n))).map fun x=>lk1 (g7 kvm n) x.2
 refine p2.trans (List.Perm.of_eq ?_)
 rw[List.filter_map,List.map_map]
 unfold bI
 rw[q8 (p:=jJ (g7 kvm n)∘eI kvm) (q:=jJ n) fun x hx=>by
  show(decide (g7 kvm x.2.2.1=g7 kvm n)||decide (g7 kvm x.2.2.2=g7 kvm n))=_
  rw[inj _ (ends x hx).1,inj _ (ends x hx).2];rfl]
 refine List.map_congr_left fun x hx=>?_
 have hx':=(List.mem_filter.mp hx).1
 show(x.2.1,decide (g7 kvm x.2.2.1=g7 kvm n),decide (g7 kvm x.2.2.2=g7 kvm n))=_
 rw[inj _ (ends x hx').1,inj _ (ends x hx').2];rfl
open Classical in
noncomputable def zR (Pc W:x5)(n m:Str):Bool:=decide (g7 (i0 W.pts) m=g7 (i0 Pc.pts) n)&&decide ((bI W m).Perm (bI Pc n))
theorem dR {H:Hp}{W:x5}{kvl:List (d7×V)}{pts:List (Str×Str)}(h:T7 K H W kvl pts){n:Str}{v:V}(hm:(Sum.inr n,v)∈kvl):∃kd,(n,kd)∈pts∧LkOk K H W v (n,kd):=by
 obtain⟨i,hi⟩:=List.getElem?_of_mem hm
 obtain⟨x,hx,e,o⟩:=k9 h hi
 have e':n=x.1:=Sum.inr.inj e
 subst e'
 exact⟨x.2,List.mem_of_getElem? hx,o⟩
open Classical in
theorem vv {H:Hp}{a p q a' p' q' pl wl:Addr}{kvs kvs' kvp kvg:List (d7×V)}{Pc W:x5}{fx:List (Str×Str)}(M:Mx K H a p q a' p' q' kvs kvs' Pc W fx)(hl:Pc.ts.length=W.ts.length)(hp:H pl=some (.dK kvp))(h1:T7 K H Pc kvp Pc.pts)(hg:H wl=some (.dK kvg))(h2:T7 K H W kvg W.pts):LkP K H pl wl kvp kvg (zR Pc W) Pc W:=by
 refine⟨hp,?_,.inl hg,?_,fun n v m u e1 e2=>?_,fun n x _ _ h=>?_,fun row f x hx=>?_⟩
 ·rw[List.map_map];exact N5 (fun kv x z=>z.1) h1
 ·rw[List.map_map];exact N5 (fun kv x z=>z.1) h2
 ·obtain⟨kd,k1,cs,l1,c1,c2⟩:=dR h1 e1
  obtain⟨kd',k2,ds,l2,d1,d2⟩:=dR h2 (fi e2)
  refine .inr ⟨kd',kd,ds,cs,l2,l1,?_⟩
  unfold zR
  rw[A0 (y8 M.G.nd) k2,A0 (y8 M.P.nd) k1]
  congr 1
  rw[Bool.eq_iff_iff,decide_eq_true_eq,decide_eq_true_eq]
  constructor
  ·intro z
   exact U2 (fun _ _=>qR) (d1.trans (z.trans c1.symm)) d2 c2
  ·intro z
   exact d1.symm.trans (by rw[z];exact c1)
 ·unfold zR at h
  rw[Bool.and_eq_true] at h
  exact of_decide_eq_true h.1
 ·unfold zR
  rw[Bool.and_eq_true]
  have z:=f.pts x hx
  have hn:x.1∈Pc.pts.map (·.1):=List.mem_map.mpr ⟨x,hx,rfl⟩
  refine⟨decide_eq_true ?_,decide_eq_true (mq f hl M.P.ends hn)⟩
  rw[A0 (y8 M.P.nd) (show(x.1,x.2)∈Pc.pts from hx)]
  exact A0 (y8 M.G.nd) z
def uK (H:Hp)(nm:List Str)(v:V)(rows:List (List Str)):Prop:=(rows=[]∧v= .non)∨∃(row:List Str) (r:List (List Str)) (d:Addr),rows=row::r∧v= .ref d∧H d=some (.dK (i0 (nm.zip row)))
def R5 (K:PySem.W.Frag):Sp:=fun vs H Q _=>∃(a p q a' p' q' pl wl:Addr) (kvs kvs' kvp kvg:List (d7×V)) (L:Str→Str→Bool) (Pc W:x5) (fx:List (Str×Str)) (fv:V),vs=[.ref a,.ref a',.ref pl,.ref wl,fv]∧Mx K H a p q a' p' q' kvs kvs' Pc W fx∧LkP K H pl wl kvp kvg L Pc W∧yo H pl q fv fx∧∀(v:V) (H':Hp),Same H H'→uK H' (aI Pc) v (C4 Pc W fx)→Q v H'
structure BH (K:PySem.W.Frag) (H:Hp) (a p q a' p' q':Addr) (kvs kvs':List (d7×V)) (Pc W:x5):Prop where
 P:WebIs 30 K H a p q kvs Pc
 G:WebIs 30 K H a' p' q' kvs' W
 big:Pc.pts.length=W.pts.length→Pc.ts.length=W.ts.length→gB Pc.pts.length Pc.ts.length W.pts.length W.ts.length≤1000000
def LkR (H:Hp)(Pc W:x5)(v:V):Prop:=(Pc.pts.length=W.pts.length∧Pc.ts.length=W.ts.length∧uK H (aI Pc) v (C4 Pc W []))∨(¬(Pc.pts.length=W.pts.length∧Pc.ts.length=W.ts.length)∧v= .non)
def F4 (K:PySem.W.Frag):Sp:=fun vs H Q _=>∃(a p q a' p' q':Addr) (kvs kvs':List (d7×V)) (Pc W:x5),vs=[.ref a,.ref a',.non]∧BH K H a p q a' p' q' kvs kvs' Pc W∧∀(v:V) (H':Hp),Same H H'→LkR H' Pc W v→Q v H'
abbrev V7 (P:Program)(w:World)(K:PySem.W.Frag)(mg:Str→Option Value)(base:Heap):Prop:=V0 P w K mg base D5 7 "first_found" ["piece","web","piece_looks","web_looks","fixed"] [] (R5 K)
theorem cv {f:Addr}{fd:FuncData}(T:Txt K mg)(fE:kY P w K mg base)(F:Fun K "first_found" "first_found" L4 f fd):A6 P w K mg base D5 7 f fd ["piece","web","piece_looks","web_looks","fixed"] (R5 K):=by
 refine F.ok sc_first_found (fun vs H Q E h=>?_) (fun cdv A outer s H vs Q E hr h=>?_)
 ·obtain⟨a,p,q,a',p',q',pl,wl,kvs,kvs',kvp,kvg,L,Pc,W,fx,fv,rfl,_⟩:=h
  rfl
 ·obtain⟨a,p,q,a',p',q',pl,wl,kvs,kvs',kvp,kvg,L,Pc,W,fx,fv,rfl,M0,L0,hf,k⟩:=h
  have hN:=sc_first_found.nd
  have hu:=A3 hr
  refine⟨_,QSs.r (v8 (l0 (i:=5) hN rfl (by walk_at "l") (qC fE (hr.mono (by decide)) p0 (h7 (qV 0) (h7 (qV 1) (h7 (qV 2) (h7 (qV 3) (h7 (qV 4) (h7 d9 i5))))))))
   (C2 (z9 (xS (ah K (qV 5)) (p8 (p7 K hu) (qV 5) d9 (fun _ _=>rfl)) mn)))),?_⟩
  walk_at "r"
  refine⟨a,p,q,a',p',q',pl,wl,kvs,kvs',kvp,kvg,L,Pc,W,fx,fv,.int 1,some 1,rfl,M0,L0,.inr ⟨rfl,rfl⟩,hf,fun l H1 xs nl m1 f1 dc _ _=>?_⟩
  have dc':DcAt H1 (aI Pc) xs ((C4 Pc W fx).take 1):=dc
  have hxl:=Paired.length dc'
  walk_at "r"
  refine⟨!xs.isEmpty,.inl ⟨_,SqL.of f1,rfl⟩,?_⟩
  cases hr:C4 Pc W fx with
  |nil=>
   rw[hr] at dc' hxl
   have hx0:xs=[]:=List.eq_nil_of_length_eq_zero (by simpa using hxl)
   subst hx0
   rw[if_neg (by decide)]
   walk_at "r"
   exact k .non H1 m1 (.inl ⟨hr,rfl⟩)
  |cons row r=>
   rw[hr] at dc' hxl
   obtain⟨x,rfl⟩:∃x,xs=[x]:=by
    match xs,hxl with
    |[x],_=>exact⟨x,rfl⟩
   obtain⟨row',hrow',d,rfl,hd⟩:=k9 (i:=0) dc' rfl
   have er:row=row':=Option.some.inj hrow'
   subst er
   rw[if_pos (by rfl)]
   walk_at "r"
   refine i4 (SqL.of f1) (b9 (j:=0) rfl) ?_
   walk_at "r"
   exact k (.ref d) H1 m1 (.inr ⟨row,r,d,hr,rfl,hd⟩)
theorem aM {f:Addr}{fd:FuncData}(T:Txt K mg)(F2:V7 P w K mg base)(Y3:kZ P w K mg base){T9:Addr}(F:FunD K "likeness" "likeness" F0 T9 f fd):A6 P w K mg base D5 8 f fd ["web","other","fixed"] (F4 K):=by
 refine F.ok sc_likeness (fun vs H Q E h=>?_) (fun cdv A outer s H vs Q E hr h=>?_)
 ·obtain⟨a,p,q,a',p',q',kvs,kvs',Pc,W,rfl,_⟩:=h
  rfl
 ·obtain⟨a,p,q,a',p',q',kvs,kvs',Pc,W,rfl,M0,k⟩:=h
  have e1:=q9 Pc.pts
  have e2:=q9 W.pts
  have e3:=M0.P.at_.ts.length
  have e4:=M0.G.at_.ts.length
  have hN:=sc_likeness.nd
  have hu:=A3 hr
  refine⟨_,QSs.r (v8 (bD (rB (iQ (p6 (P2 K hr) (qB (B4 K P w) T.b_len Boot.«len» (h7 (p8 (p7 K hu) (qV 0) d9 (fun _ _=>rfl)) i5)) (qB (B4 K P w) T.b_len Boot.«len» (h7 (p8 (p7 K hu) (qV 1) d9 (fun _ _=>rfl)) i5)) (i3 _)) (cA (p6 (P2 K hr) (qB (B4 K P w) T.b_len Boot.«len» (h7 (p8 (p7 K hu) (qV 0) d9 (fun _ _=>rfl)) i5)) (qB (B4 K P w) T.b_len Boot.«len» (h7 (p8 (p7 K hu) (qV 1) d9 (fun _ _=>rfl)) i5)) (i3 _))))) (C2 (z9 mn)) cR)
   (C2 (z9 (qC F2 (hr.mono (by decide)) p0 (h7 (qV 0) (h7 (qV 1) (h7 (qC Y3 (hr.mono (by decide)) p0 (h7 (qV 0) i5)) (h7 (qC Y3 (hr.mono (by decide)) p0 (h7 (qV 1) i5)) (h7 (qV 2) i5))))))))),?_⟩
  walk_at "r"
  refine b7 M0.P.at_.tup (b9 (j:=0) rfl) ?_
  walk_at "r"
  refine A4 (y0 M0.P.at_.pts ?_)
  walk_at "r"
  refine b7 M0.G.at_.tup (b9 (j:=0) rfl) ?_
  walk_at "r"
  refine A4 (y0 M0.G.at_.pts ?_)
  walk_at "r"
  refine bK (fun z=>?_) (fun z1=>?_)
  ·walk_at "r"
   exact k .non H (Same.refl H) (.inr ⟨fun h=>z (by omega),rfl⟩)
  walk_at "r"
  refine b7 M0.P.at_.tup (b9 (j:=1) rfl) ?_
  walk_at "r"
  refine A4 (y0 M0.P.at_.ties ?_)
  walk_at "r"
  refine b7 M0.G.at_.tup (b9 (j:=1) rfl) ?_
  walk_at "r"
  refine A4 (y0 M0.G.at_.ties ?_)
  walk_at "r"
  refine bK (fun z=>?_) (fun z2=>?_)
  ·walk_at "r"
   exact k .non H (Same.refl H) (.inr ⟨fun h=>z (by omega),rfl⟩)
  have h1:Pc.pts.length=W.pts.length:=by omega
  have h2:Pc.ts.length=W.ts.length:=by omega
  have M0:Mx K H a p q a' p' q' kvs kvs' Pc W []:=⟨M0.P,M0.G,M0.big h1 h2,List.nodup_nil,fun _ h=>nomatch h⟩
  walk_at "r"
  refine⟨a,p,q,kvs,Pc,rfl,M0.P,fun d1 H1 kvp n1 m1 f1 l1=>?_⟩
  have M1:=M0.same m1
  walk_at "r"
  refine⟨a',p',q',kvs',W,rfl,M1.G,fun d2 H2 kvg n2 m2 f2 l2=>?_⟩
  have m12:=m1.trans m2
  have M2:=M1.same m2
  have L2':=vv M2 h2 (m2 _ _ f1) (Paired.imp' (fun _ _ z=>⟨z.1,z.2.mono m2.le⟩) l1) f2 l2
  walk_at "r"
  exact⟨a,p,q,a',p',q',d1,d2,kvs,kvs',kvp,kvg,_,Pc,W,[],.non,rfl,M2,L2',.inl ⟨rfl,rfl⟩,fun v H3 m3 hv=>k v H3 (m12.trans m3) (.inl ⟨h1,h2,hv⟩)⟩
def N9 (kvm:List (d7×V))(W:x5):x5:=⟨W.pts.map fun x=>(g7 kvm x.1,x.2),W.ts.map (eI kvm)⟩
theorem fh (kvm:List (d7×V))(W:x5):h9 (N9 kvm W)=(h9 W).map (g7 kvm):=by
 unfold h9 N9
 rw[List.map_append,List.map_map,List.map_map,List.map_map,List.map_map];rfl
theorem rY {kvm:List (d7×V)}{W:x5}(hl:kvm.length=(h9 W).length)(ht:∀n∈h9 W,TxtAt kvm n)(nd:((h9 W).map (g7 kvm)).Nodup):FitP W (N9 kvm W) kvm:=
 ⟨hl,ht,nd,fun x hx=>List.mem_map.mpr ⟨x,hx,rfl⟩,fun x hx=>List.mem_map.mpr ⟨x,hx,rfl⟩⟩
theorem gd:∀(nm b:List Str),((nm.zip b).map (·.2)).Sublist b
 |[],_=>List.nil_sublist _
 |_::_,[]=> .slnil
 |n::nm,x::b=>(gd nm b).cons_cons x
theorem dX {ms:List (Str×Str)}(nd:(ms.map (·.1)).Nodup):(ms.map (·.1)).map (g7 (i0 ms))=ms.map (·.2):=by
 rw[List.map_map]
 exact List.map_congr_left fun x hx=>A0 nd hx
theorem bE {H:Hp}{kvs:List (d7×V)}{ts:List (Str×B6)}(w:TiesIs K H kvs ts):kvs.map (fun kv=>kV kv.1)=(ts.map (·.1)).map V.str:=by
 have h:kvs.map (fun kv=>kV kv.1)=(kvs.map (·.1)).map kV:=by rw[List.map_map];rfl
 rw[h,w.keys,List.map_map,List.map_map];rfl
theorem wy {W:x5}:h9 W=W.pts.map (·.1)++W.ts.map (·.1):=rfl
theorem fk {l:List Str}{x:Str}{i:Nat}(nd:l.Nodup)(h:l[i]?=some x):x∉l.take i:=fun m=>by
 have e7:l.take (i+1)=l.take i++[x]:=by rw[List.take_succ,h];rfl
 have z:(l.take (i+1)).Nodup:=nd.sublist (List.take_sublist _ _)
 rw[e7] at z
 exact(List.nodup_append.mp z).2.2 x m x (by simp) rfl
theorem rS {nm row:List Str}{n:Str}(nd:nm.Nodup)(hl:row.length=nm.length)(h:n∈nm):TxtAt (i0 (nm.zip row)) n:=by
 obtain⟨i,hi⟩:=X1 h
 have hil:=N1 hi
 exact⟨row[i],J2 (cE row nd) (bx hi (List.getElem?_eq_getElem (by omega)))⟩
theorem nmC_mem {W:x5}{n:Str}:n∈aI W↔n∈h9 W:=(E7 W).mem
theorem nR {W:x5}(h:(h9 W).Nodup):(aI W).Nodup:=(E7 W).perm.nodup_iff.mpr h
theorem WebIs.up {n m:Nat}{H:Hp}{a p q:Addr}{kvs:List (d7×V)}{W:x5}(h:WebIs n K H a p q kvs W)(hm:n≤m):WebIs m K H a p q kvs W:={h with len:=Nat.le_trans h.len hm}
theorem FitP.congr {Pc W:x5}{km kn:List (d7×V)}(f:FitP Pc W km)(hl:kn.length=(h9 Pc).length)(ht:∀n∈h9 Pc,TxtAt kn n)(he:∀n∈h9 Pc,g7 kn n=g7 km n)(ends:∀x∈Pc.ts,x.2.2.1∈Pc.pts.map (·.1)∧x.2.2.2∈Pc.pts.map (·.1)):FitP Pc W kn:=by
 refine⟨hl,ht,?_,fun x hx=>?_,fun x hx=>?_⟩
 ·rw[List.map_congr_left he];exact f.nd
 ·rw[he _ (List.mem_append_left _ (List.mem_map.mpr ⟨x,hx,rfl⟩))];exact f.pts x hx
 ·rw[he _ (List.mem_append_right _ (List.mem_map.mpr ⟨x,hx,rfl⟩)),he _ (List.mem_append_left _ (ends x hx).1),he _ (List.mem_append_left _ (ends x hx).2)];exact f.ts x hx
def hZ (Pc:x5)(ms:List (Str×Str)):List Str:=(aI Pc).map (g7 (i0 ms))
section
variable {Pc W:x5} {ms fx:List (Str×Str)}
theorem cg:(hZ Pc ms).length=(aI Pc).length:=List.length_map _
theorem sJ (nd:(h9 Pc).Nodup){n:Str}(h:n∈h9 Pc):gv (aI Pc) (hZ Pc ms) n=g7 (i0 ms) n:=by
 obtain⟨i,hi⟩:=X1 (nmC_mem.mpr h)
 exact dS (nR nd) hi (by unfold hZ;rw[List.getElem?_map,hi];rfl)
theorem rX:(aI Pc).length=(h9 Pc).length:=(E7 Pc).perm.length_eq
theorem nU (nd:(h9 Pc).Nodup)(ends:∀x∈Pc.ts,x.2.2.1∈Pc.pts.map (·.1)∧x.2.2.2∈Pc.pts.map (·.1))(f:FitP Pc W (i0 ms)):FitP Pc W (i0 ((aI Pc).zip (hZ Pc ms))):=
 f.congr (by rw[q9,List.length_zip,cg,Nat.min_self,rX]) (fun n hn=>rS (nR nd) cg (nmC_mem.mpr hn)) (fun n hn=>sJ nd hn) ends
theorem nE (nd:(h9 Pc).Nodup)(f:FitP Pc W (i0 ms)):hZ Pc ms∈S8 (bg (cV Pc) (cM Pc) (cV W) (cM W)) []:=by
 have z:=kR (bs:=bg (cV Pc) (cM Pc) (cV W) (cM W)) (b:=[]) (t:=hZ Pc ms) (by rw[bB,cg];rfl) fun i x c hx hc=>by
  unfold hZ at hx
  rw[List.getElem?_map] at hx
  cases en:(aI Pc)[i]? with
  |none=>rw[en] at hx;cases hx
  |some n=>
   rw[en] at hx
   cases hx
   have en':(cV Pc++cM Pc)[i]?=some n:=en
   rcases uZ hc with⟨hi,rfl⟩|⟨hi,rfl⟩
   ·rw[List.getElem?_append_left hi] at en'
    obtain⟨y,hy,rfl⟩:=List.mem_map.mp ((E7 Pc).p1.mem_iff.mp (List.mem_of_getElem? en'))
    exact(E7 W).p1.mem_iff.mpr (List.mem_map.mpr ⟨_,f.pts y hy,rfl⟩)
   ·rw[List.getElem?_append_right hi] at en'
    obtain⟨y,hy,rfl⟩:=List.mem_map.mp ((E7 Pc).p2.mem_iff.mp (List.mem_of_getElem? en'))
    exact(E7 W).p2.mem_iff.mpr (List.mem_map.mpr ⟨_,f.ts y hy,rfl⟩)
 simpa using z
open Classical in
theorem mem_rows {row:List Str}:row∈C4 Pc W fx↔row∈S8 (bg (cV Pc) (cM Pc) (cV W) (cM W)) []∧FitP Pc W (i0 ((aI Pc).zip row))∧eB fx (aI Pc) row:=by
 unfold C4 aV
 rw[List.mem_filter,decide_eq_true_eq];exact Iff.rfl
theorem nY {row:List Str}(h:row∈C4 Pc W fx):row.length=(aI Pc).length:=ij (mem_rows.mp h).1
theorem sy (nd:(h9 Pc).Nodup)(ends:∀x∈Pc.ts,x.2.2.1∈Pc.pts.map (·.1)∧x.2.2.2∈Pc.pts.map (·.1))(f:FitP Pc W (i0 ms)):hZ Pc ms∈C4 Pc W []:=mem_rows.mpr ⟨nE nd f,nU nd ends f,fun _ h=>nomatch h⟩
end
theorem EqN.of0 {H:Hp}{x y:V}{b:Bool}(h:EqN K H 0 x y b):∀n,EqN K H n x y b
 |0=>h
 |n+1=> .inl (EqN.of0 h n)
theorem U1 {α:Type}{l:List (Str×α)}(h:(l.map (·.1)).Nodup):l.Nodup:=by
 rw[List.Nodup,List.pairwise_map] at h
 exact h.imp fun hab e=>hab (by rw[e])
def Like (A B:x5):Prop:=A.pts.length=B.pts.length∧A.ts.length=B.ts.length∧∃ms:List (Str×Str),FitP A B (i0 ms)
section
variable {A B:x5} {kvm:List (d7×V)}
theorem FitP.pm1 (f:FitP A B kvm)(h:A.pts.length=B.pts.length):(A.pts.map fun x=>(g7 kvm x.1,x.2)).Perm B.pts:=by
 refine D1 (U1 ?_) (fun x hx=>?_) (by rw[List.length_map];omega)
 ·have z:=f.nd
  unfold h9 at z
  rw[List.map_append,List.map_map] at z
  rw[List.map_map]
  exact(List.nodup_append.mp z).1
 ·obtain⟨y,hy,rfl⟩:=List.mem_map.mp hx
  exact f.pts y hy
theorem FitP.pm2 (f:FitP A B kvm)(h:A.ts.length=B.ts.length):(A.ts.map (eI kvm)).Perm B.ts:=by
 refine D1 (U1 ?_) (fun x hx=>?_) (by rw[List.length_map];omega)
 ·have z:=f.nd
  unfold h9 at z
  rw[List.map_append,List.map_map,List.map_map] at z
  rw[List.map_map]
  exact(List.nodup_append.mp z).2.1
 ·obtain⟨y,hy,rfl⟩:=List.mem_map.mp hx
  exact f.ts y hy
theorem FitP.nms (f:FitP A B kvm)(h1:A.pts.length=B.pts.length)(h2:A.ts.length=B.ts.length):((h9 A).map (g7 kvm)).Perm (h9 B):=by
 unfold h9
 rw[List.map_append,List.map_map,List.map_map]
 have z1:=(f.pm1 h1).map (·.1)
 have z2:=(f.pm2 h2).map (·.1)
 rw[List.map_map] at z1 z2
 exact z1.append z2
theorem Like.symm (ndA:(h9 A).Nodup)(ends:∀x∈A.ts,x.2.2.1∈A.pts.map (·.1)∧x.2.2.2∈A.pts.map (·.1))(h:Like A B):Like B A:=by
 obtain⟨h1,h2,ms,f⟩:=h
 refine⟨h1.symm,h2.symm,(h9 A).map fun n=>(g7 (i0 ms) n,n),?_⟩
 have pn:=f.nms h1 h2
 have ndk:(((h9 A).map fun n=>(g7 (i0 ms) n,n)).map (·.1)).Nodup:=by rw[List.map_map];exact f.nd
 have g:∀n∈h9 A,g7 (i0 ((h9 A).map fun n=>(g7 (i0 ms) n,n))) (g7 (i0 ms) n)=n:=fun n hn=>A0 ndk (List.mem_map.mpr ⟨n,hn,rfl⟩)
 refine⟨?_,fun n hn=>?_,?_,fun x hx=>?_,fun x hx=>?_⟩
 ·rw[q9,List.length_map,←pn.length_eq,List.length_map]
 ·obtain⟨m,hm,rfl⟩:=List.mem_map.mp (pn.mem_iff.mpr hn)
  exact⟨m,J2 ndk (List.mem_map.mpr ⟨m,hm,rfl⟩)⟩
 ·refine(pn.map _).nodup_iff.mp ?_
  rw[List.map_map,show(h9 A).map (g7 (i0 ((h9 A).map fun n=>(g7 (i0 ms) n,n)))∘g7 (i0 ms))=h9 A from(List.map_congr_left fun n hn=>g n hn).trans (List.map_id _)];exact ndA
 ·obtain⟨y,hy,rfl⟩:=List.mem_map.mp ((f.pm1 h1).mem_iff.mpr hx)
  show(g7 _ (g7 (i0 ms) y.1),y.2)∈A.pts
  rw[g _ (List.mem_append_left _ (List.mem_map.mpr ⟨y,hy,rfl⟩))];exact hy
 ·obtain⟨y,hy,rfl⟩:=List.mem_map.mp ((f.pm2 h2).mem_iff.mpr hx)
  have he:=ends y hy
  show(g7 _ (g7 (i0 ms) y.1),(y.2.1,g7 _ (g7 (i0 ms) y.2.2.1),g7 _ (g7 (i0 ms) y.2.2.2)))∈A.ts
  rw[g _ (List.mem_append_right _ (List.mem_map.mpr ⟨y,hy,rfl⟩)),g _ (List.mem_append_left _ he.1),g _ (List.mem_append_left _ he.2)];exact hy
theorem Like.to {C:x5}(h:Like A B)(p1:B.pts.Perm C.pts)(p2:B.ts.Perm C.ts):Like A C:=by
 obtain⟨h1,h2,ms,f⟩:=h
 exact⟨h1.trans p1.length_eq,h2.trans p2.length_eq,ms,f.len,f.txt,f.nd,fun x hx=>p1.mem_iff.mp (f.pts x hx),fun x hx=>p2.mem_iff.mp (f.ts x hx)⟩
theorem Like.self (nd:(h9 A).Nodup)(ends:∀x∈A.ts,x.2.2.1∈A.pts.map (·.1)∧x.2.2.2∈A.pts.map (·.1)):Like A A:=by
 have ndk:(((h9 A).map fun n=>(n,n)).map (·.1)).Nodup:=by rw[List.map_map,show((·.1)∘fun n:Str=>(n,n))=id from rfl,List.map_id];exact nd
 have g:∀n∈h9 A,g7 (i0 ((h9 A).map fun n=>(n,n))) n=n:=fun n hn=>A0 ndk (List.mem_map.mpr ⟨n,hn,rfl⟩)
 refine⟨rfl,rfl,(h9 A).map fun n=>(n,n),by rw[q9,List.length_map],fun n hn=>⟨n,J2 ndk (List.mem_map.mpr ⟨n,hn,rfl⟩)⟩,?_,fun x hx=>?_,fun x hx=>?_⟩
 ·rw[show(h9 A).map (g7 (i0 ((h9 A).map fun n=>(n,n))))=h9 A from(List.map_congr_left fun n hn=>g n hn).trans (List.map_id _)];exact nd
 ·rw[g _ (List.mem_append_left _ (List.mem_map.mpr ⟨x,hx,rfl⟩))];exact hx
 ·rw[g _ (List.mem_append_right _ (List.mem_map.mpr ⟨x,hx,rfl⟩)),g _ (List.mem_append_left _ (ends x hx).1),g _ (List.mem_append_left _ (ends x hx).2)];exact hx
theorem LkR.none {H:Hp}{v:V}(nd:(h9 A).Nodup)(ends:∀x∈A.ts,x.2.2.1∈A.pts.map (·.1)∧x.2.2.2∈A.pts.map (·.1))(h:LkR H A B v):(v= .non∧¬Like A B)∨∃(row:List Str) (d:Addr),v= .ref d∧H d=some (.dK (i0 ((aI A).zip row)))∧row.length=(aI A).length∧FitP A B (i0 ((aI A).zip row))∧Like A B:=by
 rcases h with⟨h1,h2,⟨e,rfl⟩|⟨row,r,d,e,rfl,hd⟩⟩|⟨hn,rfl⟩
 ·refine .inl ⟨rfl,fun⟨_,_,ms,f⟩=>?_⟩
  have z:=sy nd ends f
  rw[e] at z
  cases z
 ·have hr:row∈C4 A B []:=by rw[e];exact List.mem_cons_self
  have f:=(mem_rows.mp hr).2.1
  exact .inr ⟨row,d,rfl,hd,nY hr,f,h1,h2,_,f⟩
 ·exact .inl ⟨rfl,fun l=>hn ⟨l.1,l.2.1⟩⟩
theorem sG (hl:(h9 A).length≤10)(h6:A.pts.length≤6)(ends:∀x∈A.ts,x.2.2.1∈A.pts.map (·.1)∧x.2.2.2∈A.pts.map (·.1))(h1:A.pts.length=B.pts.length)(h2:A.ts.length=B.ts.length):gB A.pts.length A.ts.length B.pts.length B.ts.length≤1000000:=by
 rw[y7] at hl
 rw[←h1,←h2]
 refine oO _ (by omega) _ (by omega) hl fun z=>?_
 cases e:A.ts with
 |nil=>rfl
 |cons x r=>
  have y:=(ends x (by rw[e];exact List.mem_cons_self)).1
  rw[List.eq_nil_of_length_eq_zero z] at y
  cases y
end
theorem tf {H:Hp}{b:List (Str×Str)}:∀a:List (Str×Str),∃r,EqH K H (i0 b) (i0 a) r∧(r=true→∀x∈a,x∈b):=by
 intro a
 induction a with
 |nil=>exact⟨true,.nil,fun _ _ h=>nomatch h⟩
 |cons x r ih=>
  obtain⟨r1,h1,h2⟩:=ih
  cases e:i9 (i0 b) (Sum.inr x.1:d7) with
  |none=>exact⟨false,.miss e,fun h=>nomatch h⟩
  |some y=>
   obtain⟨s,rfl,hs⟩:=kQ e
   refine⟨_,.hit e (.flat rfl rfl) h1,fun h=>?_⟩
   rw[Bool.and_eq_true] at h
   intro z hz
   rcases List.mem_cons.mp hz with rfl|hz
   ·have e2:z.2=s:=by
     have:=h.1
     simpa [N6] using this
    rw[←e2] at hs
    exact hs
   ·exact h2 h.2 z hz
theorem gr (a b:B6):E3 (D0 a) (D0 b)=decide (a=b):=by
 obtain⟨a1,a2,a3⟩:=a
 obtain⟨b1,b2,b3⟩:=b
 show(a1==b1&&(a2==b2&&(a3==b3&&true)))=_
 rw[Bool.eq_iff_iff]
 simp
theorem oX {H:Hp}{kb:List (d7×V)}{tb:List (Str×B6)}(wb:TiesIs K H kb tb):∀{ka:List (d7×V)} {ta:List (Str×B6)},TiesIs K H ka ta→∃r,EqH K H kb ka r∧(r=true→∀x∈ta,x∈tb):=by
 intro ka ta h
 unfold TiesIs at h
 induction h with
 |nil=>exact⟨true,.nil,fun _ _ h=>nomatch h⟩
 | @cons kv x ka ta a t ih=>
  obtain⟨r1,h1,h2⟩:=ih
  obtain⟨kk,kvv⟩:=kv
  obtain⟨ek,l,el,hl⟩:=a
  have ek':kk=Sum.inr x.1:=ek
  have el':kvv= .ref l:=el
  subst ek' el'
  by_cases hx:x.1∈tb.map (·.1)
  ·obtain⟨l',y,e1,e2,e3⟩:=TiesIs.val (ts:=tb) wb hx
   refine⟨_,.hit e1 (.tup hl e3 rfl rfl) h1,fun h=>?_⟩
   rw[Bool.and_eq_true,gr,decide_eq_true_eq] at h
   intro z hz
   rcases List.mem_cons.mp hz with rfl|hz
   ·rw[←h.1] at e2;exact e2
   ·exact h2 h.2 z hz
  ·have e:i9 kb (Sum.inr x.1:d7)=none:=by
    cases e:i9 kb (Sum.inr x.1:d7) with
    |none=>rfl
    |some v=>
     have z:=dA (n:=x.1) wb
     rw[e,decide_eq_false hx] at z
     cases z
   exact⟨false,.miss e,fun h=>nomatch h⟩
theorem tI {H:Hp}{d e:Addr}{a b:List (Str×Str)}(hd:H d=some (.dK (i0 a)))(he:H e=some (.dK (i0 b)))(na:(a.map (·.1)).Nodup):∃r,EqD K H d e r∧(r=true→a.Perm b):=by
 by_cases z:d=e
 ·subst z
  rw[hd] at he
  have e2:i0 a=i0 b:=by injection (Option.some.inj he)
  have e3:a=b:=by
   have inj:∀{a b:List (Str×Str)},i0 a=i0 b→a=b:=fun{a}=>by
    induction a with
    |nil=>intro b h;cases b with
     |nil=>rfl
     |cons _ _=>cases h
    |cons x r ih=>intro b h;cases b with
     |nil=>cases h
     |cons y t=>
      have h1:=(List.cons.inj h).1
      have h2:=(List.cons.inj h).2
      have f1:x.1=y.1:=Sum.inr.inj (Prod.mk.inj h1).1
      have f2:x.2=y.2:=V.str.inj (Prod.mk.inj h1).2
      rw[Prod.ext f1 f2,ih h2]
   exact inj e2
  exact⟨true,.inl ⟨rfl,rfl⟩,fun _=>by rw[e3]⟩
 ·obtain⟨r,h,hs⟩:=tf (K:=K) (H:=H) (b:=b) a
  refine⟨_,.inr ⟨z,_,_,r,.inl hd,.inl he,h,rfl⟩,fun t=>?_⟩
  rw[Bool.and_eq_true,beq_iff_eq,q9,q9] at t
  exact D1 (U1 na) (hs t.2) (by omega)
theorem qY {H:Hp}{d e:Addr}{ka kb:List (d7×V)}{a b:List (Str×B6)}(hd:H d=some (.dK ka))(he:H e=some (.dK kb))(wa:TiesIs K H ka a)(wb:TiesIs K H kb b)(na:(a.map (·.1)).Nodup)(hne:d≠e):∃r,EqD K H d e r∧(r=true→a.Perm b):=by
 obtain⟨r,h,hs⟩:=oX wb wa
 have l1:=wa.length
 have l2:=wb.length
 refine⟨_,.inr ⟨hne,_,_,r,.inl hd,.inl he,h,rfl⟩,fun t=>?_⟩
 rw[Bool.and_eq_true,beq_iff_eq] at t
 exact D1 (U1 na) (hs t.2) (by omega)
def mz (W:x5):x5:=⟨W.pts.reverse,W.ts.reverse⟩
theorem rL (W:x5):(h9 (mz W)).Perm (h9 W):=by
 unfold h9 mz
 rw[List.map_reverse,List.map_reverse]
 exact(List.reverse_perm _).append (List.reverse_perm _)
def P6 (K:PySem.W.Frag):Sp:=fun vs H Q _=>∃(a p q c:Addr) (kvs:List (d7×V)) (W:x5) (ss:List Str),vs=[.ref a,.ref c]∧WebIs 10 K H a p q kvs W∧H c=some (.lst (ss.map V.str))∧ss.length=10∧ss.Nodup∧(∀s∈ss,s.length≤20)∧
 ∀(a' p' q':Addr) (kvs':List (d7×V)) (R:x5) (H':Hp),Same H H'→WebIs 10 K H' a' p' q' kvs' R→(∀n∈h9 R,n.length≤20)→Like W R→Q (.ref a') H'
abbrev R6 (P:Program)(w:World)(K:PySem.W.Frag)(mg:Str→Option Value)(base:Heap):Prop:=V0 P w K mg base D5 1 "_law_renamed" ["_law_web_here","_law_names_here"] [] (P6 K)
theorem bp {f:Addr}{fd:FuncData}(T:Txt K mg)(F:Fun K "_law_renamed" "_law_renamed" K3 f fd):A6 P w K mg base D5 1 f fd ["_law_web_here","_law_names_here"] (P6 K):=by
 refine F.ok sc__law_renamed (fun vs H Q E h=>?_) (fun cdv A outer s H vs Q E hr h=>?_)
 ·obtain⟨a,p,q,c,kvs,W,ss,rfl,_⟩:=h
  rfl
 ·obtain⟨a,p,q,c,kvs,W,ss,rfl,hW,hC,hsl,hsn,hs1,k⟩:=h
  have lW:=hW.len
  have lW2:=lW
  rw[y7] at lW2
  have hptl:=q9 W.pts
  have hkl:=hW.at_.ts.length
  have hN:=sc__law_renamed.nd
  have hu:=A3 hr
  refine⟨_,QSs.r (v8 (l0 (i:=2) hN rfl (by walk_at "l") ug)
   (v8 (X3 PassesOwn.never rfl (vI K T.b_zip (h7 (qB (z6 K rfl) T.b_sorted Boot.«sorted» (h7 (D6 (S7 K) (cK (K4 K rfl) T.b_list Boot.«list» (h7 (p8 (p7 K hu) (qV 0) d9 (fun _ _=>rfl)) i5)) (cK (K4 K rfl) T.b_list Boot.«list» (h7 (p8 (p7 K hu) (qV 0) d9 (fun _ _=>rfl)) i5))) i5)) (h7 (qV 1) i5))) (xh K rfl (jy (M8 (i:=3) hN rfl (by walk_at "l")) (jy (M8 (i:=4) hN rfl (by walk_at "l")) vP)))
    (C2 (Y0 (qV 4) (kE (qV 2) (qV 3) (t7 P w hu)))))
   (v8 (l0 (i:=5) hN rfl (by walk_at "l") ug)
   (v8 (X3 PassesOwn.never rfl (S4 K (uh K (cK (K4 K rfl) T.b_list Boot.«list» (h7 (p8 (p7 K hu) (qV 0) d9 (fun _ _=>rfl)) i5)))) (M8 (i:=3) hN rfl (by walk_at "l"))
    (C2 (Y0 (p8 (p7 K hu) (p8 (p7 K hu) (qV 0) d9 (fun _ _=>rfl)) (qV 3) (fun _ _=>rfl)) (kE (qV 5) (p8 (p7 K hu) (qV 2) (qV 3) (fun _ _=>rfl)) (t7 P w hu)))))
   (v8 (l0 (i:=6) hN rfl (by walk_at "l") ug)
   (v8 (X3 PassesOwn.never rfl (S4 K (uh K (cK (K4 K rfl) T.b_list Boot.«list» (h7 (p8 (p7 K hu) (qV 0) d9 (fun _ _=>rfl)) i5)))) (M8 (i:=3) hN rfl (by walk_at "l"))
    (v8 (l0 (i:=7) hN rfl (by walk_at "l") (p8 (p7 K hu) (p8 (p7 K hu) (qV 0) d9 (fun _ _=>rfl)) (qV 3) (fun _ _=>rfl)))
   (C2 (Y0 (O1 (h7 (p8 (p7 K hu) (qV 7) d9 (fun _ _=>rfl)) (h7 (p8 (p7 K hu) (qV 2) (p8 (p7 K hu) (qV 7) d9 (fun _ _=>rfl)) (fun _ _=>rfl)) (h7 (p8 (p7 K hu) (qV 2) (p8 (p7 K hu) (qV 7) d9 (fun _ _=>rfl)) (fun _ _=>rfl)) i5)))) (kE (qV 6) (p8 (p7 K hu) (qV 2) (qV 3) (fun _ _=>rfl)) (t7 P w hu))))))
   (C2 (z9 (O1 (h7 (qV 5) (h7 (qV 6) i5))))))))))),?_⟩
  walk_at "r"
  intro d nd
  obtain⟨H1,e1,f1,m1,_⟩:=b5 (o:= .dK []) nd
  rw[e1]
  have W1:=hW.same m1
  walk_at "r"
  refine b7 W1.at_.tup (b9 (j:=0) rfl) ?_
  walk_at "r"
  refine R4 (B7 (.inl W1.hp) (fun l2 n2=>?_))
  obtain⟨H2,e2,f2,m2,_⟩:=b5 (o:= .lst _) n2
  rw[e2]
  walk_at "r"
  refine b7 (m2.tup W1.at_.tup) (b9 (j:=1) rfl) ?_
  walk_at "r"
  refine R4 (B7 (.inl (m2 _ _ W1.hq)) (fun l3 n3=>?_))
  obtain⟨H3,e3,f3,m3,_⟩:=b5 (o:= .lst _) n3
  rw[e3]
  refine gk (m3 _ _ f2) f3 (d6 (by rw[List.length_map,List.length_map];omega)) (fun l4 n4=>?_)
  obtain⟨H4,e4,f4,m4,_⟩:=b5 (o:= .lst _) n4
  rw[e4]
  have f4':H4 l4=some (.lst ((h9 W).map V.str)):=by rw[f4,Y7,bE hW.at_.ts,wy,List.map_append]
  walk_at "r"
  refine B0 (ss:=h9 W) (SqL.of f4') (by omega) (fun s b1 b2 l5 n5=>?_)
  obtain⟨H5,e5,f5,m5,_⟩:=b5 (o:= .lst _) n5
  rw[e5]
  have m15:=m2.trans (m3.trans (m4.trans m5))
  have m05:=m1.trans m15
  have hsn2:s.Nodup:=b1.nodup_iff.mpr hW.nd
  have hsl2:=b1.length_eq
  have hnk:(s.zip ss).map (·.1)=s:=List.map_fst_zip (by omega)
  obtain⟨nam,hnam⟩:∃nam,nam=s.zip ss:=⟨_,rfl⟩
  have hnaml:nam.length=s.length:=by rw[hnam,List.length_zip];omega
  rw[←hnam] at hnk
  have ndk:(nam.map (·.1)).Nodup:=by rw[hnk];exact hsn2
  have hvs:∀x∈nam,x.2∈ss:=fun x hx=>by
   rw[hnam] at hx
   exact(List.of_mem_zip hx).2
  have ndv:(nam.map (·.2)).Nodup:=by rw[hnam];exact hsn.sublist (gd s ss)
  have htx:∀n∈h9 W,TxtAt (i0 nam) n:=fun n hn=>by
   have z:n∈nam.map (·.1):=by rw[hnk];exact b1.mem_iff.mpr hn
   obtain⟨x,hx,rfl⟩:=List.mem_map.mp z
   exact⟨x.2,J2 ndk hx⟩
  have ndg:((h9 W).map (g7 (i0 nam))).Nodup:=by
   refine(b1.map (g7 (i0 nam))).nodup_iff.mp ?_
   rw[←hnk,dX ndk];exact ndv
  have hgl:∀n∈h9 W,g7 (i0 nam) n∈ss:=fun n hn=>by
   have z:n∈nam.map (·.1):=by rw[hnk];exact b1.mem_iff.mpr hn
   obtain⟨x,hx,rfl⟩:=List.mem_map.mp z
   rw[A0 ndk hx];exact hvs x hx
  have fit:=rY (kvm:=i0 nam) (W:=W) (by rw[q9,hnaml];exact hsl2) htx ndg
  walk_at "r"
  refine⟨l5,c,_,_,rfl,SqL.of f5,SqL.of (m05 _ _ hC),?_⟩
  refine K9 (n:=s.length) (fun i σ H'=>∃v3 v4:Option V,σ=[some (.ref a),some (.ref c),some (.ref d),v3,v4,none,none,none]∧Same H H'∧H' l5=some (.lst (s.map V.str))∧H' d=some (.dK (i0 (nam.take i)))) ⟨none,none,rfl,m05,f5,m15 _ _ f1⟩ (fun i σ H' hi hp=>?_) ?_ ?_
  ·obtain⟨_,_,_,s6,f6,_⟩:=hp
   exact⟨_,_,.str (s[i]),.str (ss[i]'(by omega)),SqL.of f6,SqL.of (s6 _ _ hC),by rw[List.getElem?_map,List.getElem?_eq_getElem hi];rfl,by rw[List.getElem?_map,List.getElem?_eq_getElem (show i<ss.length by omega)];rfl⟩
  ·rintro bk i v σ H6 H6' hi ⟨v3,v4,rfl,s6,f6,fd6⟩ ⟨t,x,y,hx,hy,nt,rfl,rfl⟩
   have hx':=hx _ (SqL.of f6)
   have hy':=hy _ (SqL.of (s6 _ _ hC))
   rw[List.getElem?_map,List.getElem?_eq_getElem hi] at hx'
   rw[List.getElem?_map,List.getElem?_eq_getElem (show i<ss.length by omega)] at hy'
   cases hx'
   cases hy'
   obtain⟨H7,e7,f7,m7,_⟩:=b5 (o:= .tup _) nt
   rw[e7]
   have hni:nam[i]?=some (s[i],ss[i]'(by omega)):=by
    have z:(s.zip ss)[i]?=some (s[i],ss[i]'(by omega)):=List.getElem?_zip_eq_some.mpr ⟨List.getElem?_eq_getElem hi,List.getElem?_eq_getElem (by omega)⟩
    rw[←hnam] at z
    exact z
   have hnw:s[i]∉(nam.take i).map (·.1):=by
    rw[List.map_take,hnk]
    exact fk hsn2 (List.getElem?_eq_getElem hi)
   refine Y1 (SqT.of f7) rfl ?_
   walk_at "r"
   refine E6 (k6 (k:=Sum.inr s[i]) (m7 _ _ fd6) (d6 (by rw[q9,List.length_take];omega)) ?_)
   rw[Y6 hnw]
   refine⟨_,_,rfl,y9 (s6.trans m7) nd,by rw[b0 (fun e=>by rw[e,fd6] at f6;cases f6)];exact m7 _ _ f6,?_⟩
   rw[c9,List.take_succ,hni];rfl
  rintro σ H6 ⟨v3,v4,rfl,s6,f6,fd6⟩
  refine⟨⟨_,_,SqL.of f6,SqL.of (s6 _ _ hC),.inl (by rw[List.length_map];exact Nat.le_refl _)⟩,?_⟩
  rw[List.take_of_length_le (by omega)] at fd6
  have W6:=hW.same s6
  walk_at "r"
  intro pp npp
  obtain⟨H7,e7,f7,m7,_⟩:=b5 (H:=H6) (o:= .dK []) npp
  change K6 _ _ _ (i7 H6 pp (.dK [])) _
  rw[e7]
  have W7:=W6.same m7
  have fd7:=m7 _ _ fd6
  have npP:pp≠p:=(d0 W6.hp npp).symm
  have npQ:pp≠q:=(d0 W6.hq npp).symm
  have npD:pp≠d:=(d0 fd6 npp).symm
  have ndP:d≠p:=(d0 hW.hp nd).symm
  have ndQ:d≠q:=(d0 hW.hq nd).symm
  have nmI:∀x∈W.pts,x.1∈h9 W:=fun x hx=>List.mem_append_left _ (List.mem_map.mpr ⟨x,hx,rfl⟩)
  have nmT:∀x∈W.ts,x.1∈h9 W:=fun x hx=>List.mem_append_right _ (List.mem_map.mpr ⟨x,hx,rfl⟩)
  have ndq:(h9 (N9 (i0 nam) W)).Nodup:=by rw[fh];exact ndg
  have lp1:(N9 (i0 nam) W).pts.length=W.pts.length:=List.length_map _
  have lt1:(N9 (i0 nam) W).ts.length=W.ts.length:=List.length_map _
  have ndv1:(((N9 (i0 nam) W).pts.reverse).map (·.1)).Nodup:=by rw[List.map_reverse];exact(List.reverse_perm _).nodup_iff.mpr (y8 ndq)
  have ndv2:(((N9 (i0 nam) W).ts.reverse).map (·.1)).Nodup:=by rw[List.map_reverse];exact(List.reverse_perm _).nodup_iff.mpr (F8 ndq)
  walk_at "r"
  refine oC ?_
  walk_at "r"
  refine b7 W7.at_.tup (b9 (j:=0) rfl) ?_
  walk_at "r"
  refine R4 (B7 (.inl W7.hp) (fun la na=>?_))
  obtain⟨Ha,ea,fa,ma,_⟩:=b5 (H:=H7) (o:= .lst ((i0 W.pts).map fun kv=>kV kv.1)) na
  rw[ea]
  refine⟨la,_,rfl,SqL.of fa,fun lb nb=>?_⟩
  obtain⟨Hb,eb,fb,mb,_⟩:=b5 (o:= .lst ((i0 W.pts).map fun kv=>kV kv.1).reverse) nb
  rw[eb]
  have fb':Hb lb=some (.lst (W.pts.reverse.map fun x=>V.str x.1)):=by rw[fb,Y7,List.map_map,←List.map_reverse];rfl
  have mab:=ma.trans mb
  have fpb:=mab _ _ f7
  have neb:lb≠pp:=fun z=>by rw[z,fpb] at fb';cases fb'
  refine y4 (SqL.of fb') ?_
  refine K9 (n:=W.pts.length) (fun i σ H'=>Same H6 H'∧(∃v3 v4,σ=[some (.ref a),some (.ref c),some (.ref d),v3,v4,some (.ref pp),none,none])∧H' lb=some (.lst (W.pts.reverse.map fun x=>V.str x.1))∧H' pp=some (.dK (i0 ((N9 (i0 nam) W).pts.reverse.take i)))) ⟨m7.trans mab,⟨_,_,rfl⟩,fb',fpb⟩ (fun i σ H' hi hp=>?_) ?_ ?_
  ·have hi':i<W.pts.reverse.length:=by rw[List.length_reverse];exact hi
   exact⟨_,_,SqL.of hp.2.2.1,by rw[List.getElem?_map,List.getElem?_eq_getElem hi'];rfl⟩
  ·rintro bk i v σ H8' H8 hi ⟨s8,⟨v3,v4,rfl⟩,fl8,g8⟩ y
   obtain⟨rfl,hy⟩:=Itl.get y (SqL.of fl8)
   rw[List.getElem?_map] at hy
   obtain⟨x,hx,rfl⟩:=Option.map_eq_some_iff.mp hy
   have hxm:x∈W.pts:=List.mem_reverse.mp (List.mem_of_getElem? hx)
   have W8:=W6.same s8
   have fd8:=s8 _ _ fd6
   walk_at "r"
   refine b7 W8.at_.tup (b9 (j:=0) rfl) ?_
   walk_at "r"
   refine r9 (v:= .str x.2) (by have z:=Q3 (k:=Sum.inr x.1) W8.at_.pts;rw[J2 (y8 hW.nd) hxm] at z;exact z) ?_
   walk_at "r"
   refine rq (.inl fd8) (htx _ (nmI x hxm)) ?_
   have hri:(N9 (i0 nam) W).pts.reverse[i]?=some (g7 (i0 nam) x.1,x.2):=by show(W.pts.map _).reverse[i]?=_;rw[←List.map_reverse,List.getElem?_map,hx];rfl
   have hnw:g7 (i0 nam) x.1∉((N9 (i0 nam) W).pts.reverse.take i).map (·.1):=by
    rw[List.map_take]
    exact fk ndv1 (by rw[List.getElem?_map,hri];rfl)
   refine E6 (k6 (k:=Sum.inr (g7 (i0 nam) x.1)) g8 (d6 (by rw[q9,List.length_take];omega)) ?_)
   rw[Y6 hnw]
   refine⟨y9 s8 npp,⟨_,_,rfl⟩,by rw[b0 neb];exact fl8,?_⟩
   rw[c9,List.take_succ,hri];rfl
  rintro σ H8 ⟨s8,⟨v3',v4',rfl⟩,fl8,g8⟩
  refine⟨⟨_,SqL.of fl8,by rw[List.length_map,List.length_reverse];exact Nat.le_refl _⟩,?_⟩
  rw[List.take_of_length_le (by rw[List.length_reverse,lp1];exact Nat.le_refl _)] at g8
  have W9:=W6.same s8
  have fd9:=s8 _ _ fd6
  walk_at "r"
  intro qq nqq
  obtain⟨HA,eA,fA,mA,_⟩:=b5 (o:= .dK []) nqq
  rw[eA]
  have WA:=W9.same mA
  have gA:=mA _ _ g8
  have nqP:qq≠pp:=(d0 g8 nqq).symm
  walk_at "r"
  refine oC ?_
  walk_at "r"
  refine b7 WA.at_.tup (b9 (j:=1) rfl) ?_
  walk_at "r"
  refine R4 (B7 (.inl WA.hq) (fun lc nc=>?_))
  obtain⟨Hc,ec,fc,mc,_⟩:=b5 (H:=HA) (o:= .lst (kvs.map fun kv=>kV kv.1)) nc
  rw[ec]
  refine⟨lc,_,rfl,SqL.of fc,fun ld nd'=>?_⟩
  obtain⟨Hd,ed,fd,md,_⟩:=b5 (o:= .lst (kvs.map fun kv=>kV kv.1).reverse) nd'
  rw[ed]
  have fd':Hd ld=some (.lst (W.ts.reverse.map fun x=>V.str x.1)):=by rw[fd,bE hW.at_.ts,List.map_map,←List.map_reverse];rfl
  have mcd:=mc.trans md
  have fqd:=mcd _ _ fA
  have ned:ld≠qq:=fun z=>by rw[z,fqd] at fd';cases fd'
  refine y4 (SqL.of fd') ?_
  refine K9 (n:=W.ts.length) (fun i σ H'=>Same H8 H'∧(∃v3 v4 v7,σ=[some (.ref a),some (.ref c),some (.ref d),v3,v4,some (.ref pp),some (.ref qq),v7])∧H' ld=some (.lst (W.ts.reverse.map fun x=>V.str x.1))∧∃kvt,H' qq=some (.dK kvt)∧TiesIs K H' kvt ((N9 (i0 nam) W).ts.reverse.take i)) ⟨mA.trans mcd,⟨_,_,_,rfl⟩,fd',[],fqd,.nil⟩ (fun i σ H' hi hp=>?_) ?_ ?_
  ·have hi':i<W.ts.reverse.length:=by rw[List.length_reverse];exact hi
   exact⟨_,_,SqL.of hp.2.2.1,by rw[List.getElem?_map,List.getElem?_eq_getElem hi'];rfl⟩
  ·rintro bk i v σ HB' HB hi ⟨sB,⟨v3,v4,v7,rfl⟩,flB,kvt,gB',tB⟩ y
   obtain⟨rfl,hy⟩:=Itl.get y (SqL.of flB)
   rw[List.getElem?_map] at hy
   obtain⟨x,hx,rfl⟩:=Option.map_eq_some_iff.mp hy
   have hxm:x∈W.ts:=List.mem_reverse.mp (List.mem_of_getElem? hx)
   have hxe:=hW.ends x hxm
   have WB:=W9.same sB
   have fdB:=sB _ _ fd9
   obtain⟨bb,hbb,sb⟩:=U4 WB.at_.ts (F8 hW.nd) (show(x.1,x.2)∈W.ts from hxm)
   have hri:(N9 (i0 nam) W).ts.reverse[i]?=some (eI (i0 nam) x):=by show(W.ts.map _).reverse[i]?=_;rw[←List.map_reverse,List.getElem?_map,hx];rfl
   have htl:=tB.length
   rw[List.length_take] at htl
   obtain⟨x0,x1,x2,x3⟩:=x
   walk_at "r"
   refine b7 WB.at_.tup (b9 (j:=1) rfl) ?_
   walk_at "r"
   refine r9 (v:= .ref bb) (by have z:=Q3 (k:=Sum.inr x0) WB.at_.ties;rw[hbb] at z;exact z) ?_
   walk_at "r"
   refine b7 sb (b9 (j:=0) rfl) ?_
   walk_at "r"
   refine b7 sb (b9 (j:=1) rfl) ?_
   refine rq (.inl fdB) (htx _ (List.mem_append_left _ hxe.1)) ?_
   walk_at "r"
   refine b7 sb (b9 (j:=2) rfl) ?_
   refine rq (.inl fdB) (htx _ (List.mem_append_left _ hxe.2)) ?_
   walk_at "r"
   refine⟨d6 (by simp),fun lC nC=>?_⟩
   obtain⟨HC,eC,fC,mC,_⟩:=b5 (o:= .tup _) nC
   rw[eC]
   walk_at "r"
   refine rq (.inl (mC _ _ fdB)) (htx _ (nmT _ hxm)) ?_
   have hnw:g7 (i0 nam) x0∉((N9 (i0 nam) W).ts.reverse.take i).map (·.1):=by
    rw[List.map_take]
    exact fk ndv2 (by rw[List.getElem?_map,hri];rfl)
   refine E6 (k6 (k:=Sum.inr (g7 (i0 nam) x0)) (mC _ _ gB') (d6 (by omega)) ?_)
   have tC:=tB.mono mC.le
   rw[D7 _ (A7 (by rw[tC.keys,←x8];exact fun m=>hnw (G7 m)))]
   refine⟨y9 (sB.trans mC) nqq,⟨_,_,_,rfl⟩,by rw[b0 ned];exact mC _ _ flB,_,c9,?_⟩
   rw[List.take_succ,hri]
   exact j0 (K2 (mC _ _ gB') tC) (K8 (mC _ _ gB') ⟨rfl,lC,rfl,SqT.of fC⟩)
  rintro σ HB ⟨sB,⟨v3,v4,v7,rfl⟩,flB,kvt,gB',tB⟩
  refine⟨⟨_,SqL.of flB,by rw[List.length_map,List.length_reverse];exact Nat.le_refl _⟩,?_⟩
  rw[List.take_of_length_le (by rw[List.length_reverse,lt1];exact Nat.le_refl _)] at tB
  walk_at "r"
  refine⟨d6 (by simp),fun lD nD=>?_⟩
  obtain⟨HD,eD,fD,mD,_⟩:=b5 (o:= .tup _) nD
  rw[eD]
  have gD:=(sB.trans mD) _ _ g8
  have gE:=mD _ _ gB'
  have pmr:=rL (N9 (i0 nam) W)
  have hin:∀n∈h9 (mz (N9 (i0 nam) W)),n∈ss:=fun n hn=>by
   have z:=pmr.mem_iff.mp hn
   rw[fh] at z
   obtain⟨y,hy,rfl⟩:=List.mem_map.mp z
   exact hgl y hy
  have lik:Like W (mz (N9 (i0 nam) W)):=⟨by show _=(List.reverse _).length;rw[List.length_reverse,lp1],by show _=(List.reverse _).length;rw[List.length_reverse,lt1],nam,fit.len,fit.txt,fit.nd,fun x hx=>List.mem_reverse.mpr (fit.pts x hx),fun x hx=>List.mem_reverse.mpr (fit.ts x hx)⟩
  refine k lD pp qq kvt (mz (N9 (i0 nam) W)) HD (s6.trans (s8.trans (sB.trans mD))) ⟨⟨SqT.of fD,.inl gD,.inl gE,tB.mono mD.le⟩,gD,gE,nqP.symm,pmr.nodup_iff.mpr ndq,by rw[pmr.length_eq,fh,List.length_map];exact lW,fun x hx=>?_,fun x hx=>Nat.le_trans (hs1 _ (hin x hx)) (by decide)⟩ (fun n hn=>hs1 n (hin n hn)) lik
  obtain⟨y,hy,rfl⟩:=List.mem_map.mp (List.mem_reverse.mp hx)
  have he:=hW.ends y hy
  have key:∀e:Str,e∈W.pts.map (·.1)→g7 (i0 nam) e∈(mz (N9 (i0 nam) W)).pts.map (·.1):=fun e h=>by
   obtain⟨z,hz,rfl⟩:=List.mem_map.mp h
   exact List.mem_map.mpr ⟨_,List.mem_reverse.mpr (List.mem_map.mpr ⟨z,hz,rfl⟩),rfl⟩
  exact⟨key _ he.1,key _ he.2⟩
theorem pK (ms:List (Str×Str)):(i0 ms).map (·.2)=(ms.map (·.2)).map V.str:=by unfold i0;rw[List.map_map,List.map_map];rfl
theorem fX (a:B6):(D0 a).all p5=true:=rfl
def S1 (K:PySem.W.Frag):Sp:=fun vs H Q _=>∃(a p q a' p' q' d:Addr) (kvs kvs':List (d7×V)) (Pc W:x5) (ms:List (Str×Str)),vs=[.ref a,.ref a',.ref d]∧WebIs 30 K H a p q kvs Pc∧WebIs 30 K H a' p' q' kvs' W∧Pc.pts.length=W.pts.length∧Pc.ts.length=W.ts.length∧H d=some (.dK (i0 ms))∧(ms.map (·.1)).Perm (h9 Pc)∧FitP Pc W (i0 ms)∧∀H',Same H H'→Q (.bl true) H'
abbrev U6 (P:Program)(w:World)(K:PySem.W.Frag)(mg:Str→Option Value)(base:Heap):Prop:=V0 P w K mg base D5 1 "_law_walked" ["_law_web_here","_law_other","_law_found"] [] (S1 K)
theorem cu {f:Addr}{fd:FuncData}(T:Txt K mg)(F:Fun K "_law_walked" "_law_walked" L7 f fd):A6 P w K mg base D5 1 f fd ["_law_web_here","_law_other","_law_found"] (S1 K):=by
 refine F.ok sc__law_walked (fun vs H Q E h=>?_) (fun cdv A outer s H vs Q E hr h=>?_)
 ·obtain⟨a,p,q,a',p',q',d,kvs,kvs',Pc,W,ms,rfl,_⟩:=h
  rfl
 ·obtain⟨a,p,q,a',p',q',d,kvs,kvs',Pc,W,ms,rfl,hP,hW,h1,h2,hd,pk,f,k⟩:=h
  have ndk:=pk.nodup_iff.mpr hP.nd
  have lP:=hP.len
  have lW:=hW.len
  have e1:=q9 W.pts
  have e2:=hW.at_.ts.length
  have e3:=q9 Pc.pts
  have e4:=hP.at_.ts.length
  have e5:=q9 ms
  have e6:=pk.length_eq
  rw[List.length_map] at e6
  rw[y7] at e6 lP lW
  have pv:(ms.map (·.2)).Perm (h9 W):=by
   rw[←dX ndk]
   exact(pk.map _).trans (f.nms h1 h2)
  have nf:∀l:List Str,(l.map V.str).all p5=true:=fun l=>by rw[List.all_map];exact List.all_eq_true.mpr fun _ _=>rfl
  have hN:=sc__law_walked.nd
  have hu:=A3 hr
  refine⟨_,QSs.r (v8 (bD (rB (iQ (kO (ah K (qB (zF K P w) T.b_isinstance Boot.«isinstance» (h7 (qV 2) (h7 (BB "dict" T.b_dict Boot.«dict») i5))))) (cA (p6 (P2 K hr) (qB (B4 K P w) T.b_len Boot.«len» (h7 (qV 2) i5)) (D6 (S7 K) (qB (B4 K P w) T.b_len Boot.«len» (h7 (p8 (p7 K hu) (qV 1) d9 (fun _ _=>rfl)) i5)) (qB (B4 K P w) T.b_len Boot.«len» (h7 (p8 (p7 K hu) (qV 1) d9 (fun _ _=>rfl)) i5))) (i3 _))))) (C2 (z9 uL)) cR)
   (v8 (bD (p6 (P2 K hr) (qB (z6 K rfl) T.b_sorted Boot.«sorted» (h7 (qV 2) i5)) (qB (z6 K rfl) T.b_sorted Boot.«sorted» (h7 (D6 (S7 K) (cK (K4 K rfl) T.b_list Boot.«list» (h7 (p8 (p7 K hu) (qV 0) d9 (fun _ _=>rfl)) i5)) (cK (K4 K rfl) T.b_list Boot.«list» (h7 (p8 (p7 K hu) (qV 0) d9 (fun _ _=>rfl)) i5))) i5)) (i3 _)) (C2 (z9 uL)) cR)
   (v8 (bD (p6 (P2 K hr) (qB (z6 K rfl) T.b_sorted Boot.«sorted» (h7 (cK (K4 K rfl) T.b_list Boot.«list» (h7 (Ad PySem.F.plainAttrs_dict PySem.F.slot_dict_values PySem.F.type_dict_values G0 K (qV 2)) i5)) i5)) (qB (z6 K rfl) T.b_sorted Boot.«sorted» (h7 (D6 (S7 K) (cK (K4 K rfl) T.b_list Boot.«list» (h7 (p8 (p7 K hu) (qV 1) d9 (fun _ _=>rfl)) i5)) (cK (K4 K rfl) T.b_list Boot.«list» (h7 (p8 (p7 K hu) (qV 1) d9 (fun _ _=>rfl)) i5))) i5)) (i3 _)) (C2 (z9 uL)) cR)
   (v8 (X3 PassesOwn.never rfl (S4 K (p8 (p7 K hu) (qV 0) d9 (fun _ _=>rfl))) (M8 (i:=3) hN rfl (by walk_at "l"))
    (C2 (bD (p6 (P2 K hr) (uH hu (p8 (p7 K hu) (qV 1) d9 (fun _ _=>rfl)) (p8 (p7 K hu) (qV 2) (qV 3) (fun _ _=>rfl))) (p8 (p7 K hu) (p8 (p7 K hu) (qV 0) d9 (fun _ _=>rfl)) (qV 3) (fun _ _=>rfl)) (i3 _)) (C2 (z9 uL)) cR)))
   (v8 (X3 PassesOwn.never rfl (S4 K (p8 (p7 K hu) (qV 0) d9 (fun _ _=>rfl))) (M8 (i:=3) hN rfl (by walk_at "l"))
    (v8 (l0 (i:=4) hN rfl (by walk_at "l") (p8 (p7 K hu) (p8 (p7 K hu) (qV 0) d9 (fun _ _=>rfl)) (qV 3) (fun _ _=>rfl)))
   (C2 (bD (p6 (P2 K hr) (uH hu (p8 (p7 K hu) (qV 1) d9 (fun _ _=>rfl)) (p8 (p7 K hu) (qV 2) (qV 3) (fun _ _=>rfl))) (O1 (h7 (p8 (p7 K hu) (qV 4) d9 (fun _ _=>rfl)) (h7 (p8 (p7 K hu) (qV 2) (p8 (p7 K hu) (qV 4) d9 (fun _ _=>rfl)) (fun _ _=>rfl)) (h7 (p8 (p7 K hu) (qV 2) (p8 (p7 K hu) (qV 4) d9 (fun _ _=>rfl)) (fun _ _=>rfl)) i5)))) (i3 _)) (C2 (z9 uL)) cR))))
   (C2 (z9 uL))))))),?_⟩
  walk_at "r"
  refine yp (yS (t:="dict") (.inr (.inr ⟨rfl,_,.inl hd⟩)) (by simp) ?_)
  rw[show mf "dict" "dict"=true from rfl]
  walk_at "r"
  refine A4 (y0 (.inl hd) ?_)
  walk_at "r"
  refine b7 hW.at_.tup (b9 (j:=0) rfl) ?_
  walk_at "r"
  refine A4 (y0 hW.at_.pts ?_)
  walk_at "r"
  refine b7 hW.at_.tup (b9 (j:=1) rfl) ?_
  walk_at "r"
  refine A4 (y0 hW.at_.ties ?_)
  walk_at "r"
  refine bK (fun z=>absurd (by omega) z) (fun _=>?_)
  walk_at "r"
  refine u7 (ss:=ms.map (·.1)) (.inl hd) (by rw[C5,x8]) (by rw[List.length_map];omega) (fun s1 a1 a2 l1 n1=>?_)
  obtain⟨H1,j1,f1,m1,_⟩:=b5 (o:= .lst (s1.map V.str)) n1
  rw[j1]
  have P1:=hP.same m1
  walk_at "r"
  refine b7 P1.at_.tup (b9 (j:=0) rfl) ?_
  walk_at "r"
  refine R4 (B7 (.inl P1.hp) (fun l2 n2=>?_))
  obtain⟨H2,j2,f2,m2,_⟩:=b5 (o:= .lst _) n2
  rw[j2]
  walk_at "r"
  refine b7 (P1.same m2).at_.tup (b9 (j:=1) rfl) ?_
  walk_at "r"
  refine R4 (B7 (.inl (m2 _ _ P1.hq)) (fun l3 n3=>?_))
  obtain⟨H3,j3,f3,m3,_⟩:=b5 (o:= .lst _) n3
  rw[j3]
  refine gk (m3 _ _ f2) f3 (d6 (by rw[List.length_map,List.length_map];omega)) (fun l4 n4=>?_)
  obtain⟨H4,j4,f4,m4,_⟩:=b5 (o:= .lst _) n4
  rw[j4]
  have f4':H4 l4=some (.lst ((h9 Pc).map V.str)):=by rw[f4,Y7,bE hP.at_.ts,wy,List.map_append]
  walk_at "r"
  refine B0 (ss:=h9 Pc) (SqL.of f4') (by rw[y7];omega) (fun s2 b1 b2 l5 n5=>?_)
  obtain⟨H5,j5,f5,m5,_⟩:=b5 (o:= .lst (s2.map V.str)) n5
  rw[j5]
  have m15:=m2.trans (m3.trans (m4.trans m5))
  have es:s1=s2:=u9 a2 b2 (a1.nodup_iff.mpr ndk) (a1.trans (pk.trans b1.symm))
  refine rD (ie (SqL.of (m15 _ _ f1)) (SqL.of f5) (nf _) (nf _) ?_)
  rw[es,D3 (nf _)]
  have s5:=m1.trans m15
  clear f1 f2 f3 f4 f4' f5 j1 j2 j3 j4 j5
  walk_at "r"
  have fd5:=s5 _ _ hd
  refine⟨.inr (.inr (.inl ⟨rfl,.inl ⟨_,fd5⟩⟩)),?_⟩
  refine⟨d,_,rfl,rfl,.inl fd5,fun lv nv=>?_⟩
  obtain⟨H6,j6,f6,m6,_⟩:=b5 (o:= .ext (eu lv d)) nv
  rw[j6]
  walk_at "r"
  refine T2 f6 (.inl (m6 _ _ fd5)) (fun l7 n7=>?_)
  rw[pK]
  obtain⟨H7,j7,f7,m7,_⟩:=b5 (o:= .lst ((ms.map (·.2)).map V.str)) n7
  rw[j7]
  walk_at "r"
  refine B0 (ss:=ms.map (·.2)) (SqL.of f7) (by rw[List.length_map];omega) (fun s3 c1 c2 l8 n8=>?_)
  obtain⟨H8,j8,f8,m8,_⟩:=b5 (o:= .lst (s3.map V.str)) n8
  rw[j8]
  have s8:=s5.trans (m6.trans (m7.trans m8))
  have W8:=hW.same s8
  walk_at "r"
  refine b7 W8.at_.tup (b9 (j:=0) rfl) ?_
  walk_at "r"
  refine R4 (B7 (.inl W8.hp) (fun l9 n9=>?_))
  obtain⟨H9,j9,f9,m9,_⟩:=b5 (o:= .lst _) n9
  rw[j9]
  walk_at "r"
  refine b7 (W8.same m9).at_.tup (b9 (j:=1) rfl) ?_
  walk_at "r"
  refine R4 (B7 (.inl (m9 _ _ W8.hq)) (fun la na=>?_))
  obtain⟨Ha,ja,fa,ma,_⟩:=b5 (o:= .lst _) na
  rw[ja]
  refine gk (ma _ _ f9) fa (d6 (by rw[List.length_map,List.length_map];omega)) (fun lb nb=>?_)
  obtain⟨Hb,jb,fb,mb,_⟩:=b5 (o:= .lst _) nb
  rw[jb]
  have fb':Hb lb=some (.lst ((h9 W).map V.str)):=by rw[fb,Y7,bE hW.at_.ts,wy,List.map_append]
  walk_at "r"
  refine B0 (ss:=h9 W) (SqL.of fb') (by rw[y7];omega) (fun s4 d1 d2 lc nc=>?_)
  obtain⟨Hc,jc,fc,mc,_⟩:=b5 (o:= .lst (s4.map V.str)) nc
  rw[jc]
  have m8c:=m9.trans (ma.trans (mb.trans mc))
  have et:s3=s4:=u9 c2 d2 (c1.nodup_iff.mpr (pv.nodup_iff.mpr hW.nd)) (c1.trans (pv.trans d1.symm))
  refine rD (ie (SqL.of (m8c _ _ f8)) (SqL.of fc) (nf _) (nf _) ?_)
  rw[et,D3 (nf _)]
  have sc:=s8.trans m8c
  have PC:=hP.same sc
  have WC:=hW.same sc
  have DC:=sc _ _ hd
  clear f6 f7 f8 f9 fa fb fb' fc j6 j7 j8 j9 ja jb jc
  walk_at "r"
  refine b7 PC.at_.tup (b9 (j:=0) rfl) ?_
  refine bN PC.hp (fun ndp o1=>?_)
  refine K9 (n:=(i0 Pc.pts).length) (fun i σ H'=>Same (B1 p o1 (i0 Pc.pts) Hc) H'∧∃v3 v4,σ=[some (.ref a),some (.ref a'),some (.ref d),v3,v4]) ⟨Same.refl _,_,_,rfl⟩ (fun i σ H' hi hp=>⟨hp.1 _ _ c9,hi⟩) ?_ ?_
  ·rintro bk i v σ HD' HD hi ⟨sD,v3,v4,rfl⟩ ⟨rfl,kv,hkv,rfl⟩
   obtain⟨x,hx,rfl⟩:=eU hkv
   have hxm:=List.mem_of_getElem? hx
   have leD:=(J1 (o:=o1) PC.hp).trans sD.le
   have WD:=WC.at_.mono leD
   have PD:=PC.at_.mono leD
   have DD:Rd HD d (.dK (i0 ms)):=leD.dic (.inl DC)
   have hw:=f.pts x hxm
   walk_at "r"
   refine b7 WD.tup (b9 (j:=0) rfl) ?_
   refine⟨p',rfl,.inl ⟨_,WD.pts⟩,?_⟩
   walk_at "r"
   refine rq DD (f.txt _ (List.mem_append_left _ (List.mem_map.mpr ⟨x,hxm,rfl⟩))) ?_
   refine⟨_,Q3 (k:=Sum.inr (g7 (i0 ms) x.1)) WD.pts,?_⟩
   rw[J2 (y8 hW.nd) hw]
   walk_at "r"
   refine b7 PD.tup (b9 (j:=0) rfl) ?_
   walk_at "r"
   refine r9 (v:= .str x.2) (by have z:=Q3 (k:=Sum.inr x.1) PD.pts;rw[J2 (y8 hP.nd) hxm] at z;exact z) ?_
   show Q9 K (.str x.2) (.str x.2) HD _
   refine gK ?_
   rw[show(!decide (x.2=x.2))=false by simp]
   walk_at "r"
   exact⟨sD,_,_,rfl⟩
  rintro σ HD ⟨sD,v3,v4,rfl⟩
  refine⟨⟨sD _ _ c9,Nat.le_refl _⟩,?_⟩
  have sT:=sD.thaw PC.hp
  generalize thaw p HD=HE at sT⊢
  have PE:=PC.same sT
  have WE:=WC.same sT
  have DE:=sT _ _ DC
  walk_at "r"
  refine b7 PE.at_.tup (b9 (j:=1) rfl) ?_
  refine bN PE.hq (fun ndq o2=>?_)
  refine K9 (n:=kvs.length) (fun i σ H'=>Same (B1 q o2 kvs HE) H'∧∃v3 v4,σ=[some (.ref a),some (.ref a'),some (.ref d),v3,v4]) ⟨Same.refl _,_,_,rfl⟩ (fun i σ H' hi hp=>⟨hp.1 _ _ c9,hi⟩) ?_ ?_
  ·rintro bk i v σ HF' HF hi ⟨sF,v3,v4,rfl⟩ ⟨rfl,kv,hkv,rfl⟩
   have leF:=(J1 (o:=o2) PE.hq).trans sF.le
   have WF:=WE.at_.mono leF
   have PF:=PE.at_.mono leF
   have DF:Rd HF d (.dK (i0 ms)):=leF.dic (.inl DE)
   obtain⟨x,hx,ex,bb,eb,sb⟩:=PF.ts.get hkv
   have hkm:=List.mem_of_getElem? hkv
   obtain⟨kk,kvv⟩:=kv
   have ex':kk=Sum.inr x.1:=ex
   have eb':kvv= .ref bb:=eb
   subst ex' eb'
   have hxm:=List.mem_of_getElem? hx
   have he:=hP.ends x hxm
   have hw:=f.ts x hxm
   obtain⟨aa,y,g1,g2,g3⟩:=TiesIs.val (ts:=W.ts) WF.ts (List.mem_map.mpr ⟨_,hw,rfl⟩)
   have ey:=Q7 (F8 hW.nd) g2 hw
   obtain⟨x0,x1,x2,x3⟩:=x
   walk_at "r"
   refine b7 PF.tup (b9 (j:=1) rfl) ?_
   walk_at "r"
   refine r9 (v:= .ref bb) (by have z:=Q3 (k:=Sum.inr x0) PF.ties;rw[eO (kv:=(Sum.inr x0,.ref bb)) ndq hkm] at z;exact z) ?_
   walk_at "r"
   refine b7 WF.tup (b9 (j:=1) rfl) ?_
   refine⟨q',rfl,.inl ⟨_,WF.ties⟩,?_⟩
   walk_at "r"
   refine rq DF (f.txt _ (List.mem_append_right _ (List.mem_map.mpr ⟨_,hxm,rfl⟩))) ?_
   refine⟨_,Q3 (k:=Sum.inr (g7 (i0 ms) x0)) WF.ties,?_⟩
   rw[g1]
   walk_at "r"
   refine b7 sb (b9 (j:=0) rfl) ?_
   walk_at "r"
   refine b7 sb (b9 (j:=1) rfl) ?_
   refine rq DF (f.txt _ (List.mem_append_left _ he.1)) ?_
   walk_at "r"
   refine b7 sb (b9 (j:=2) rfl) ?_
   refine rq DF (f.txt _ (List.mem_append_left _ he.2)) ?_
   walk_at "r"
   refine⟨d6 (by simp),fun lG nG=>?_⟩
   obtain⟨HG,eG,fG,mG,_⟩:=b5 (o:= .tup (D0 (x1,g7 (i0 ms) x2,g7 (i0 ms) x3))) nG
   change Q9 K _ _ (i7 HF lG (.tup (D0 (x1,g7 (i0 ms) x2,g7 (i0 ms) x3)))) _
   rw[eG]
   show Q9 K (.ref aa) (.ref lG) HG _
   refine rD (oR (mG.tup g3) (SqT.of fG) (fX _) (fX _) ?_)
   rw[gr,decide_eq_true ey]
   walk_at "r"
   exact⟨sF.trans mG,_,_,rfl⟩
  rintro σ HF ⟨sF,v3',v4',rfl⟩
  refine⟨⟨sF _ _ c9,Nat.le_refl _⟩,?_⟩
  have sU:=sF.thaw PE.hq
  walk_at "r"
  exact k _ (sc.trans (sT.trans sU))
def NtV (K:PySem.W.Frag)(H:Hp)(t:Addr×NT):Prop:=∃o i:Addr,SqT K H t.1 [.str t.2.1,.ref o,.ref i]∧SqT K H o (t.2.2.1.map V.str)∧SqT K H i (t.2.2.2.map V.str)
theorem NtV.mono {H H':Hp}{t:Addr×NT}(l:Le H H')(h:NtV K H t):NtV K H' t:=let ⟨o,i,a,b,c⟩:=h;⟨o,i,l.tup a,l.tup b,l.tup c⟩
theorem fq {H:Hp}{d a:Addr}{ys xs:List V}{u:HO}(h:H d=some (.lst ys))(s:SqT K H a xs):SqT K (i7 H d u) a xs:=by
 rcases s with s|s
 ·refine .inl ?_
  by_cases z:a=d
  ·subst z
   rcases s with s|⟨_,s⟩<;>(rw[h] at s;cases s)
  ·unfold Rd
   rw[b0 z];exact s
 ·exact .inr s
theorem NtV.upd' {H:Hp}{t:Addr×NT}{d:Addr}{ys:List V}{u:HO}(hd:H d=some (.lst ys))(h:NtV K H t):NtV K (i7 H d u) t:=let ⟨o,i,a,b,c⟩:=h;⟨o,i,fq hd a,fq hd b,fq hd c⟩
def U7 (W:x5)(n:Str):List Str:=(W.ts.filter fun x=>decide (x.2.2.1=n)).map (·.2.1)
def cW (W:x5)(n:Str):List Str:=(W.ts.filter fun x=>decide (x.2.2.2=n)).map (·.2.1)
def mY (W:x5)(x:Str×Str):NT:=(x.2,Q4 (U7 W x.1),Q4 (cW W x.1))
def ur (a b:Str):Prop:=¬b.cps.toList<a.cps.toList
theorem nM {a b:Str}(h1:ur a b)(h2:ur b a):a=b:=O5 (List.le_antisymm (List.not_lt.mp h1) (List.not_lt.mp h2))
theorem mH {a b c:Str}(h1:ur a b)(h2:ur b c):ur a c:=List.not_lt.mpr (List.le_trans (List.not_lt.mp h1) (List.not_lt.mp h2))
theorem wu:∀(l:List Str) (p:Str),risingS p l=true→(p::l).Pairwise ur:=by
 intro l
 induction l with
 |nil=>intro p _;exact List.pairwise_singleton _ _
 |cons x r ih=>
  intro p h
  rw[show risingS p (x::r)=(!ltCps x.cps.toList p.cps.toList&&risingS x r) from rfl,Bool.and_eq_true] at h
  have ih':=ih x h.2
  have hx:ur p x:=fun z=>by
   have:=h.1
   rw[ltCps_eq,decide_eq_true z] at this
   cases this
  refine List.pairwise_cons.mpr ⟨fun y hy=>?_,ih'⟩
  rcases List.mem_cons.mp hy with rfl|hy
  ·exact hx
  ·exact mH hx ((List.pairwise_cons.mp ih').1 y hy)
theorem nS {l:List Str}(h:sortedS l=true):l.Pairwise ur:=by
 cases l with
 |nil=>exact .nil
 |cons p r=>exact wu r p h
theorem jm {a l:List Str}(h:sortedS a=true)(p:a.Perm l):a=Q4 l:=U2 (fun _ _=>nM) (p.trans (M4 l).symm) (nS h) (nS (Z7 l))
theorem gH {a b:List Str}(h:a.Perm b):Q4 a=Q4 b:=jm (Z7 a) ((M4 a).trans h)
def P7 (K:PySem.W.Frag):Sp:=fun vs H Q _=>∃(a p q:Addr) (kvs:List (d7×V)) (W:x5),vs=[.ref a]∧WebIs 30 K H a p q kvs W∧
 ∀(l:Addr) (H':Hp) (ts:List (Addr×NT)),H l=none→Same H H'→H' l=some (.lst (ts.map fun t=>V.ref t.1))→(∀t∈ts,NtV K H' t)→(ts.map (·.2)).Perm (W.pts.map (mY W))→(ts.map (·.2)).Pairwise (fun a b=>¬T6 b<T6 a)→Q (.ref l) H'
theorem sO {A B:x5}{kvm:List (d7×V)}(f:FitP A B kvm)(h1:A.pts.length=B.pts.length)(h2:A.ts.length=B.ts.length)(ends:∀x∈A.ts,x.2.2.1∈A.pts.map (·.1)∧x.2.2.2∈A.pts.map (·.1)):(A.pts.map (mY A)).Perm (B.pts.map (mY B)):=by
 have inj:∀m n,m∈A.pts.map (·.1)→n∈A.pts.map (·.1)→decide (g7 kvm m=g7 kvm n)=decide (m=n):=fun m n hm hn=>by
  rw[Bool.eq_iff_iff,decide_eq_true_eq,decide_eq_true_eq]
  exact⟨fun e=>ql f.nd (List.mem_append_left _ hm) (List.mem_append_left _ hn) e,fun e=>by rw[e]⟩
 refine List.Perm.trans (List.Perm.of_eq ?_) ((f.pm1 h1).map (mY B))
 rw[List.map_map]
 refine List.map_congr_left fun x hx=>?_
 have hn:x.1∈A.pts.map (·.1):=List.mem_map.mpr ⟨x,hx,rfl⟩
 have o1:(U7 B (g7 kvm x.1)).Perm (U7 A x.1):=by
  have z:=((f.pm2 h2).filter fun y=>decide (y.2.2.1=g7 kvm x.1)).map (·.2.1)
  refine z.symm.trans (List.Perm.of_eq ?_)
  rw[List.filter_map,List.map_map]
  unfold U7
  rw[q8 (p:=(fun y:Str×B6=>decide (y.2.2.1=g7 kvm x.1))∘eI kvm) (q:=fun y=>decide (y.2.2.1=x.1)) fun y hy=>inj _ _ (ends y hy).1 hn]
  rfl
 have o2:(cW B (g7 kvm x.1)).Perm (cW A x.1):=by
  have z:=((f.pm2 h2).filter fun y=>decide (y.2.2.2=g7 kvm x.1)).map (·.2.1)
  refine z.symm.trans (List.Perm.of_eq ?_)
  rw[List.filter_map,List.map_map]
  unfold cW
  rw[q8 (p:=(fun y:Str×B6=>decide (y.2.2.2=g7 kvm x.1))∘eI kvm) (q:=fun y=>decide (y.2.2.2=x.1)) fun y hy=>inj _ _ (ends y hy).2 hn]
  rfl
 show(x.2,Q4 (U7 A x.1),Q4 (cW A x.1))=(x.2,Q4 (U7 B (g7 kvm x.1)),Q4 (cW B (g7 kvm x.1)))
 rw[gH o1,gH o2]
theorem vS {H:Hp}{Q:VK}{l l':Addr}{ts ts':List (Addr×NT)}(h:H l=some (.lst (ts.map fun t=>V.ref t.1)))(h':H l'=some (.lst (ts'.map fun t=>V.ref t.1)))(n:∀t∈ts,NtV K H t)(n':∀t∈ts',NtV K H t)(e:ts.map (·.2)=ts'.map (·.2))(q:Q (.bl true) H):dn K (.ref l) (.ref l') H Q:=by
 have hl:ts.length=ts'.length:=by have z:=congrArg List.length e;rwa [List.length_map,List.length_map] at z
 have nf:∀l:List Str,(l.map V.str).all p5=true:=fun l=>by rw[List.all_map];exact List.all_eq_true.mpr fun _ _=>rfl
 refine .inr ⟨List.replicate ts.length true,⟨l,l',_,_,rfl,rfl,.inr ⟨SqL.of h,SqL.of h'⟩,by rw[List.length_map,List.length_map];exact hl,by rw[List.length_replicate,List.length_map],fun j x y b hx hy hb=>?_⟩,?_⟩
 ·have hb':b=true:=(List.mem_replicate.mp (List.mem_of_getElem? hb)).2
  subst hb'
  rw[List.getElem?_map] at hx hy
  obtain⟨t,ht,rfl⟩:=Option.map_eq_some_iff.mp hx
  obtain⟨t',ht',rfl⟩:=Option.map_eq_some_iff.mp hy
  have e2:t.2=t'.2:=by
   have z:(ts.map (·.2))[j]?=some t.2:=by rw[List.getElem?_map,ht];rfl
   rw[e,List.getElem?_map,ht'] at z
   exact(Option.some.inj z).symm
  obtain⟨o,i,a1,a2,a3⟩:=n t (List.mem_of_getElem? ht)
  obtain⟨o',i',b1,b2,b3⟩:=n' t' (List.mem_of_getElem? ht')
  rw[←e2] at b1 b2 b3
  by_cases ea:t.1=t'.1
  ·rw[ea]
   exact EqN.of0 (.inr ⟨_,_,rfl,rfl,.inl ⟨rfl,rfl⟩⟩) _
  ·refine .inr ⟨t.1,t'.1,_,_,[true,true,true],rfl,rfl,ea,.inl ⟨a1,b1⟩,rfl,rfl,fun j x y b hx hy hb=>?_,rfl⟩
   match j,hx,hy,hb with
   |0,hx,hy,hb=>
    cases hx;cases hy;cases hb
    exact EqN.of0 (.inl (jN _)) _
   |1,hx,hy,hb=>
    cases hx;cases hy;cases hb
    have z:=Eq1.tup a2 b2 (nf _) (nf _)
    rw[D3 (nf _)] at z
    exact EqN.of0 (.inl z) _
   |2,hx,hy,hb=>
    cases hx;cases hy;cases hb
    have z:=Eq1.tup a3 b3 (nf _) (nf _)
    rw[D3 (nf _)] at z
    exact EqN.of0 (.inl z) _
   |j+3,hx,_,_=>cases hx
 ·rw[show(List.replicate ts.length true).all id=true by rw[List.all_eq_true];intro x hx;exact(List.mem_replicate.mp hx).2]
  exact q
abbrev S6 (P:Program)(w:World)(K:PySem.W.Frag)(mg:Str→Option Value)(base:Heap):Prop:=V0 P w K mg base D5 1 "_law_counted" ["_law_web_here"] [] (P7 K)
theorem bo {f:Addr}{fd:FuncData}(T:Txt K mg)(F:Fun K "_law_counted" "_law_counted" J6 f fd):A6 P w K mg base D5 1 f fd ["_law_web_here"] (P7 K):=by
 refine F.ok sc__law_counted (fun vs H Q E h=>?_) (fun cdv A outer s H vs Q E hr h=>?_)
 ·obtain⟨a,p,q,kvs,W,rfl,_⟩:=h
  rfl
 ·obtain⟨a,p,q,kvs,W,rfl,hW,k⟩:=h
  have lW:=hW.len
  rw[y7] at lW
  have e1:=q9 W.pts
  have e2:=hW.at_.ts.length
  have hN:=sc__law_counted.nd
  have hu:=A3 hr
  refine⟨_,QSs.r (v8 (l0 (i:=1) hN rfl (by walk_at "l") (aX i5))
   (v8 (X3 PassesOwn.never rfl (S4 K (p8 (p7 K hu) (qV 0) d9 (fun _ _=>rfl))) (M8 (i:=2) hN rfl (by walk_at "l"))
    (v8 (l0 (i:=3) hN rfl (by walk_at "l") (qB (z6 K rfl) T.b_sorted Boot.«sorted» (h7 (Q2 (own:=["_law_tie"]) (js:=[2]) (by kernel_rfl) rfl (hJ (p8 (p7 K hu) (qV 0) d9 (fun _ _=>rfl))) (fun _ _ _ _=>(M8 (i:=0) (show List.Nodup (["_law_tie","_law_spot"]:List Str) by decide+kernel) rfl (by walk_at "l"))) (fun _ _ _ _=>(eQ (p6 (C6 K hr) (p8 (p7 K hu) (qV 0) d9 (fun _ _=>rfl)) (qV 1) (i3 _)))) (fun _ _ _ _=>(p8 (p7 K hu) (qV 0) d9 (fun _ _=>rfl)))) i5)))
   (v8 (l0 (i:=4) hN rfl (by walk_at "l") (qB (z6 K rfl) T.b_sorted Boot.«sorted» (h7 (Q2 (own:=["_law_tie"]) (js:=[2]) (by kernel_rfl) rfl (hJ (p8 (p7 K hu) (qV 0) d9 (fun _ _=>rfl))) (fun _ _ _ _=>(M8 (i:=0) (show List.Nodup (["_law_tie","_law_spot"]:List Str) by decide+kernel) rfl (by walk_at "l"))) (fun _ _ _ _=>(eQ (p6 (C6 K hr) (p8 (p7 K hu) (qV 0) d9 (fun _ _=>rfl)) (qV 1) (i3 _)))) (fun _ _ _ _=>(p8 (p7 K hu) (qV 0) d9 (fun _ _=>rfl)))) i5)))
   (C2 (xa (qM PySem.F.plainAttrs_list PySem.F.slot_list_append PySem.F.type_list_append x9 K (qV 1) (h7 (O1 (h7 (p8 (p7 K hu) (p8 (p7 K hu) (qV 0) d9 (fun _ _=>rfl)) (qV 2) (fun _ _=>rfl)) (h7 (cK (uE K rfl) T.b_tuple Boot.«tuple» (h7 (qV 3) i5)) (h7 (cK (uE K rfl) T.b_tuple Boot.«tuple» (h7 (qV 4) i5)) i5)))) i5)))))))
   (C2 (z9 (qB (oJ K hr) T.b_sorted Boot.«sorted» (h7 (qV 1) i5)))))),?_⟩
  walk_at "r"
  refine⟨d6 (by simp),fun lf nf=>?_⟩
  obtain⟨H1,j1,f1,m1,_⟩:=b5 (o:= .lst []) nf
  rw[j1]
  have W1:=hW.same m1
  have nep:lf≠p:=(d0 hW.hp nf).symm
  have neq:lf≠q:=(d0 hW.hq nf).symm
  walk_at "r"
  refine b7 W1.at_.tup (b9 (j:=0) rfl) ?_
  refine bN W1.hp (fun ndp o1=>?_)
  refine K9 (n:=(i0 W.pts).length) (fun i σ H'=>Same (B1 p o1 (i0 W.pts) H) H'∧(∃v2 v3 v4,σ=[some (.ref a),some (.ref lf),v2,v3,v4])∧∃ts:List (Addr×NT),H' lf=some (.lst (ts.map fun t=>V.ref t.1))∧(∀t∈ts,NtV K H' t)∧ts.map (·.2)=(W.pts.take i).map (mY W)) ⟨ck m1,⟨_,_,_,rfl⟩,[],by rw[J5 nep];exact f1,(fun _ h=>nomatch h),rfl⟩ (fun i σ H' hi hp=>⟨hp.1 _ _ c9,hi⟩) ?_ ?_
  ·rintro bk i v σ H2' H2 hi ⟨s2,⟨v2,v3,v4,rfl⟩,ts,g2,nt2,et⟩ ⟨rfl,kv,hkv,rfl⟩
   obtain⟨x,hx,rfl⟩:=eU hkv
   have hxm:=List.mem_of_getElem? hx
   have le2:=(J1 (o:=o1) hW.hp).trans s2.le
   have A2:=hW.at_.mono le2
   have hq2:H2 q=some (.dK kvs):=s2 _ _ (by rw[J5 hW.ne.symm];exact hW.hq)
   have htl:ts.length≤30:=by
    have z:=congrArg List.length et
    rw[List.length_map,List.length_map,List.length_take] at z
    omega
   walk_at "r"
   refine b7 A2.tup (b9 (j:=1) rfl) ?_
   refine⟨q,_,rfl,.inl ⟨hq2,fun ndq o2=>?_⟩⟩
   refine y6 (n:=kvs.length) (fun i out H'=>Same (B1 q o2 kvs H2) H'∧out=((W.ts.take i).filter fun y=>decide (y.2.2.1=x.1)).map (fun y=>V.str y.2.1)) ⟨Same.refl _,rfl⟩ (fun i out H' hi hp=>⟨hp.1 _ _ c9,hi⟩) ?_ ?_
   ·rintro N j v out H3' H3 hj ⟨s3,rfl⟩ ⟨rfl,kv,hkv,rfl⟩ hN'
    have le3:=(J1 (o:=o2) hq2).trans s3.le
    obtain⟨y,hy,ey,b,eb,sb⟩:=(A2.ts.mono le3).get hkv
    have hfl:((W.ts.take j).filter fun y=>decide (y.2.2.1=x.1)).length≤30:=Nat.le_trans (List.length_filter_le _ _) (by rw[List.length_take];omega)
    obtain⟨kk,kvv⟩:=kv
    have eb':kvv= .ref b:=eb
    subst eb'
    walk_at "r"
    refine⟨rfl,?_⟩
    walk_at "r"
    refine b7 sb (b9 (j:=1) rfl) ?_
    walk_at "r"
    refine ag (i:=y.2.2.1) (j:=x.1) ?_
    walk_at "r"
    refine C8 (fun hb=>?_) (fun hb=>?_)
    ·walk_at "r"
     refine b7 sb (b9 (j:=0) rfl) ?_
     refine⟨d6 (by rw[List.length_map];omega),hN' _ _ ⟨s3,?_⟩⟩
     rw[jP hy (decide_eq_true hb),List.map_append];rfl
    ·exact hN' _ _ ⟨s3,by rw[jT hy (decide_eq_false hb)]⟩
   rintro out H3 ⟨s3,rfl⟩
   have hfl:(W.ts.filter fun y=>decide (y.2.2.1=x.1)).length≤30:=Nat.le_trans (List.length_filter_le _ _) (by omega)
   rw[List.take_of_length_le (by omega)]
   refine⟨⟨s3 _ _ c9,Nat.le_refl _⟩,fun D hD=>⟨d6 (by rw[List.length_map];omega),?_⟩⟩
   have sM:=S9 hq2 s3 hD (u:= .lst ((W.ts.filter fun y=>decide (y.2.2.1=x.1)).map (fun y=>V.str y.2.1)))
   have fM:=bS s3 hD (u:= .lst ((W.ts.filter fun y=>decide (y.2.2.1=x.1)).map (fun y=>V.str y.2.1)))
   generalize thaw q (i7 H3 D (.lst ((W.ts.filter fun y=>decide (y.2.2.1=x.1)).map (fun y=>V.str y.2.1))))=H4 at sM fM⊢
   walk_at "r"
   refine B0 (ss:=U7 W x.1) (SqL.of (by rw[fM];unfold U7;rw[List.map_map];rfl)) (by unfold U7;rw[List.length_map];omega) (fun so cV cM l5 n5=>?_)
   obtain⟨H5,j5,f5,m5,_⟩:=b5 (o:= .lst (so.map V.str)) n5
   rw[j5]
   have eso:=jm cM cV
   have s25:=sM.trans m5
   have hq5:=s25 _ _ hq2
   have A5:=A2.mono s25.le
   clear fM j5
   walk_at "r"
   refine b7 A5.tup (b9 (j:=1) rfl) ?_
   refine⟨q,_,rfl,.inl ⟨hq5,fun ndq o3=>?_⟩⟩
   refine y6 (n:=kvs.length) (fun i out H'=>Same (B1 q o3 kvs H5) H'∧out=((W.ts.take i).filter fun y=>decide (y.2.2.2=x.1)).map (fun y=>V.str y.2.1)) ⟨Same.refl _,rfl⟩ (fun i out H' hi hp=>⟨hp.1 _ _ c9,hi⟩) ?_ ?_
   ·rintro N j v out H6' H6 hj ⟨s6,rfl⟩ ⟨rfl,kv,hkv,rfl⟩ hN'
    have le6:=(J1 (o:=o3) hq5).trans s6.le
    obtain⟨y,hy,ey,b,eb,sb⟩:=(A5.ts.mono le6).get hkv
    have hfl:((W.ts.take j).filter fun y=>decide (y.2.2.2=x.1)).length≤30:=Nat.le_trans (List.length_filter_le _ _) (by rw[List.length_take];omega)
    obtain⟨kk,kvv⟩:=kv
    have eb':kvv= .ref b:=eb
    subst eb'
    walk_at "r"
    refine⟨rfl,?_⟩
    walk_at "r"
    refine b7 sb (b9 (j:=2) rfl) ?_
    walk_at "r"
    refine ag (i:=y.2.2.2) (j:=x.1) ?_
    walk_at "r"
    refine C8 (fun hb=>?_) (fun hb=>?_)
    ·walk_at "r"
     refine b7 sb (b9 (j:=0) rfl) ?_
     refine⟨d6 (by rw[List.length_map];omega),hN' _ _ ⟨s6,?_⟩⟩
     rw[jP hy (decide_eq_true hb),List.map_append];rfl
    ·exact hN' _ _ ⟨s6,by rw[jT hy (decide_eq_false hb)]⟩
   rintro out H6 ⟨s6,rfl⟩
   have hfl2:(W.ts.filter fun y=>decide (y.2.2.2=x.1)).length≤30:=Nat.le_trans (List.length_filter_le _ _) (by omega)
   rw[List.take_of_length_le (by omega)]
   refine⟨⟨s6 _ _ c9,Nat.le_refl _⟩,fun D hD=>⟨d6 (by rw[List.length_map];omega),?_⟩⟩
   have sN:=S9 hq5 s6 hD (u:= .lst ((W.ts.filter fun y=>decide (y.2.2.2=x.1)).map (fun y=>V.str y.2.1)))
   have fN:=bS s6 hD (u:= .lst ((W.ts.filter fun y=>decide (y.2.2.2=x.1)).map (fun y=>V.str y.2.1)))
   generalize thaw q (i7 H6 D (.lst ((W.ts.filter fun y=>decide (y.2.2.2=x.1)).map (fun y=>V.str y.2.1))))=H7 at sN fN⊢
   walk_at "r"
   refine B0 (ss:=cW W x.1) (SqL.of (by rw[fN];unfold cW;rw[List.map_map];rfl)) (by unfold cW;rw[List.length_map];omega) (fun si si1 si2 l8 n8=>?_)
   obtain⟨H8,j8,f8,m8,_⟩:=b5 (o:= .lst (si.map V.str)) n8
   rw[j8]
   have esi:=jm si2 si1
   have s58:=sN.trans m8
   have s28:=s25.trans s58
   have A8:=A5.mono s58.le
   have g8:=s28 _ _ g2
   clear fN j8
   walk_at "r"
   refine⟨.inl ⟨rfl,_,SqL.of g8⟩,?_⟩
   walk_at "r"
   refine b7 A8.tup (b9 (j:=0) rfl) ?_
   walk_at "r"
   refine r9 (v:= .str x.2) (by have z:=Q3 (k:=Sum.inr x.1) A8.pts;rw[J2 (y8 hW.nd) hxm] at z;exact z) ?_
   walk_at "r"
   refine .inl ⟨l5,so.map V.str,rfl,.inl ⟨SqL.of (s58 _ _ f5),fun ta nta=>?_⟩⟩
   obtain⟨H9,j9,f9,m9,_⟩:=b5 (o:= .tup (so.map V.str)) nta
   rw[j9]
   walk_at "r"
   refine .inl ⟨l8,si.map V.str,rfl,.inl ⟨SqL.of (m9 _ _ f8),fun tb ntb=>?_⟩⟩
   obtain⟨Ha,ja,fa,ma,_⟩:=b5 (o:= .tup (si.map V.str)) ntb
   rw[ja]
   walk_at "r"
   refine⟨d6 (by simp),fun tc ntc=>?_⟩
   obtain⟨Hb,jb,fb,mb,_⟩:=b5 (o:= .tup [.str x.2,.ref ta,.ref tb]) ntc
   rw[jb]
   have s8b:=m9.trans (ma.trans mb)
   have gb:=s8b _ _ g8
   walk_at "r"
   refine⟨lf,_,.ref tc,rfl,rfl,gb,d6 (by rw[List.length_map];omega),?_⟩
   refine⟨y9 (s2.trans (s28.trans s8b)) (by rw[J5 nep];exact nf),⟨_,_,_,rfl⟩,ts++[(tc,mY W x)],by rw[c9,List.map_append];rfl,fun t ht=>?_,?_⟩
   ·rcases List.mem_append.mp ht with z|z
    ·exact((nt2 t z).mono (s28.trans s8b).le).upd' gb
    ·rw[List.mem_singleton.mp z]
     refine NtV.upd' gb ⟨ta,tb,SqT.of fb,?_,?_⟩
     ·show SqT K Hb ta ((Q4 (U7 W x.1)).map V.str)
      rw[←eso]
      exact SqT.of ((ma.trans mb) _ _ f9)
     ·show SqT K Hb tb ((Q4 (cW W x.1)).map V.str)
      rw[←esi]
      exact SqT.of (mb _ _ fa)
   ·rw[List.map_append,et,List.take_succ,hx,List.map_append];rfl
  rintro σ H2 ⟨s2,⟨v2,v3,v4,rfl⟩,ts,g2,nt2,et⟩
  refine⟨⟨s2 _ _ c9,Nat.le_refl _⟩,?_⟩
  rw[List.take_of_length_le (by omega)] at et
  have sT:=s2.thaw hW.hp
  have gT:thaw p H2 lf=some (.lst (ts.map fun t=>V.ref t.1)):=by rw[G6 nep];exact g2
  have nT:∀t∈ts,NtV K (thaw p H2) t:=fun t ht=>(nt2 t ht).mono ki
  generalize thaw p H2=H3 at sT gT nT⊢
  have htl:ts.length=W.pts.length:=by
   have z:=congrArg List.length et
   rwa [List.length_map,List.length_map] at z
  walk_at "r"
  refine⟨lf,ts,rfl,SqL.of gT,nT,by omega,fun ts' pm srt l4 n4=>?_⟩
  obtain⟨H4,j4,f4,m4,_⟩:=b5 (o:= .lst (ts'.map fun t=>V.ref t.1)) n4
  rw[j4]
  refine k l4 H4 ts' (sT.free n4) (sT.trans m4) f4 (fun t ht=>(nT t (pm.mem_iff.mp ht)).mono m4.le) (by rw[←et];exact pm.map _) (List.pairwise_map.mpr srt)
def P9 (K:PySem.W.Frag):Sp:=fun vs H Q _=>∃(a p q c:Addr) (kvs:List (d7×V)) (R:x5) (ks:List Str) (cell:Int),vs=[.ref a,.ref c,.int cell]∧WebIs 10 K H a p q kvs R∧(∀n∈h9 R,n.length≤20)∧H c=some (.lst (ks.map V.str))∧ks.length=2∧0≤cell∧
 ∀(a' p' q':Addr) (kvs':List (d7×V)) (C:x5) (H':Hp),Same H H'→WebIs 11 K H' a' p' q' kvs' C→H p'=none→H q'=none→Q (.ref a') H'
theorem dF {kvs:List (d7×V)}{k:d7}{v:V}(h:k∈kvs.map (·.1)):z0 kvs k v=kvs.map (fun kv=>if kv.1=k then(kv.1,v) else kv):=by
 unfold z0
 rw[if_pos]
 obtain⟨x,hx,e⟩:=List.mem_map.mp h
 exact List.any_eq_true.mpr ⟨x,hx,by simpa using e⟩
theorem gM {A:List (Str×Str)}{n s:Str}(h:n∈A.map (·.1)):∃C:List (Str×Str),z0 (i0 A) (Sum.inr n:d7) (.str s)=i0 C∧C.map (·.1)=A.map (·.1):=by
 obtain⟨y,hy,ey⟩:=List.mem_map.mp h
 refine⟨A.map fun x=>if x.1=n then(x.1,s) else x,?_,?_⟩
 ·rw[dF (by rw[C5];exact List.mem_map.mpr ⟨y,hy,by rw[ey]⟩)]
  unfold i0
  rw[List.map_map,List.map_map]
  refine List.map_congr_left fun x hx=>?_
  show(if(Sum.inr x.1:d7)=Sum.inr n then((Sum.inr x.1:d7),V.str s) else(Sum.inr x.1,V.str x.2))=(Sum.inr (if x.1=n then(x.1,s) else x).1,V.str (if x.1=n then(x.1,s) else x).2)
  by_cases e:x.1=n
  ·rw[if_pos (by rw[e]),if_pos e]
  ·rw[if_neg fun z=>e (Sum.inr.inj z),if_neg e]
 ·rw[List.map_map]
  refine List.map_congr_left fun x hx=>?_
  show(if x.1=n then(x.1,s) else x).1=x.1
  split<;>rfl
def ChT (K:PySem.W.Frag)(H:Hp)(qq:Addr)(R:x5)(full:Prop):Prop:=∃(kv:List (d7×V)) (A:List (Str×B6)),H qq=some (.dK kv)∧TiesIs K H kv A∧(A.map (·.1)).Sublist (R.ts.map (·.1))∧(full→A.map (·.1)=R.ts.map (·.1))∧∀x∈A,x.2.2.1∈R.pts.map (·.1)∧x.2.2.2∈R.pts.map (·.1)
theorem oP {H:Hp}{l:Addr}{n:Str}{t:B6}(hl:SqT K H l (D0 t)){kX:List (d7×V)}{X:List (Str×B6)}(hX:TiesIs K H kX X):TiesIs K H (kX.map fun kv=>if kv.1=(Sum.inr n:d7) then(kv.1,.ref l) else kv) (X.map fun x=>if x.1=n then(x.1,t) else x):=by
 induction hX with
 |nil=>exact .nil
 | @cons kv x _ _ zz rr ih=>
  refine .cons ?_ ih
  show TieAt K H (if kv.1=(Sum.inr n:d7) then(kv.1,.ref l) else kv) (if x.1=n then(x.1,t) else x)
  by_cases e:x.1=n
  ·rw[if_pos (by rw[zz.1,e]),if_pos e]
   exact⟨zz.1,l,rfl,hl⟩
  ·rw[if_neg (by rw[zz.1];exact fun y=>e (Sum.inr.inj y)),if_neg e]
   exact zz
theorem rV {H:Hp}{qq l:Addr}{R:x5}{f:Prop}{kv:List (d7×V)}{A:List (Str×B6)}{n:Str}{t:B6}(h:H qq=some (.dK kv))(w:TiesIs K H kv A)(sl:(A.map (·.1)).Sublist (R.ts.map (·.1)))(hf:f→A.map (·.1)=R.ts.map (·.1))(en:∀x∈A,x.2.2.1∈R.pts.map (·.1)∧x.2.2.2∈R.pts.map (·.1))
  (hn:n∈A.map (·.1)) (hl:SqT K H l (D0 t)) (ht:t.2.1∈R.pts.map (·.1)∧t.2.2∈R.pts.map (·.1)):∃B:List (Str×B6),TiesIs K (i7 H qq (.dK (z0 kv (Sum.inr n:d7) (.ref l)))) (z0 kv (Sum.inr n:d7) (.ref l)) B∧B.map (·.1)=A.map (·.1)∧∀x∈B,x.2.2.1∈R.pts.map (·.1)∧x.2.2.2∈R.pts.map (·.1):=by
 refine⟨A.map fun x=>if x.1=n then(x.1,t) else x,?_,?_,fun x hx=>?_⟩
 ·refine K2 h ?_
  rw[dF (by rw[w.keys,←x8];exact List.mem_map.mpr ⟨n,hn,rfl⟩)]
  exact oP hl w
 ·rw[List.map_map]
  refine List.map_congr_left fun x hx=>?_
  show(if x.1=n then(x.1,t) else x).1=x.1
  split<;>rfl
 ·obtain⟨y,hy,rfl⟩:=List.mem_map.mp hx
  by_cases e:y.1=n
  ·rw[if_pos e];exact ht
  ·rw[if_neg e];exact en y hy
theorem pT {H:Hp}{kv:List (d7×V)}{A:List (Str×B6)}{n:Str}(w:TiesIs K H kv A):TiesIs K H (Q0 kv (Sum.inr n:d7)) (A.filter fun x=>decide (x.1≠n)):=by
 induction w with
 |nil=>exact .nil
 | @cons kv x _ _ zz rr ih=>
  by_cases e:x.1=n
  ·rw[lY (by rw[zz.1,e]),List.filter_cons_of_neg (by simp [e])]
   exact ih
  ·rw[mJ (by rw[zz.1];exact fun y=>e (Sum.inr.inj y)),List.filter_cons_of_pos (by simp [e])]
   exact .cons zz ih
theorem Y4 {H H3:Hp}{pp qq:Addr}{pts:List (Str×Str)}{kv:List (d7×V)}{A:List (Str×B6)}{Q:VK}(m:Same H H3)(npp:H pp=none)(nqq:H qq=none)(npq:pp≠qq)(g:H3 pp=some (.dK (i0 pts)))(t:H3 qq=some (.dK kv))(w:TiesIs K H3 kv A)(nd:(pts.map (·.1)++A.map (·.1)).Nodup)(len:pts.length+A.length≤11)(en:∀x∈A,x.2.2.1∈pts.map (·.1)∧x.2.2.2∈pts.map (·.1))(nl:∀x∈pts.map (·.1)++A.map (·.1),x.length≤100)
  (k:∀(a' p' q':Addr) (kvs':List (d7×V)) (C:x5) (H':Hp),Same H H'→WebIs 11 K H' a' p' q' kvs' C→H p'=none→H q'=none→Q (.ref a') H') (la:Addr) (na:H3 la=none):Q (.ref la) (i7 H3 la (.tup [.ref pp,.ref qq])):=by
 obtain⟨H4,e4,f4,m4,_⟩:=b5 (o:= .tup [.ref pp,.ref qq]) na
 rw[e4]
 exact k la pp qq kv ⟨pts,A⟩ H4 (m.trans m4) ⟨⟨SqT.of f4,.inl (m4 _ _ g),.inl (m4 _ _ t),w.mono m4.le⟩,m4 _ _ g,m4 _ _ t,npq,nd,by show(pts.map (·.1)++A.map (·.1)).length≤11;rw[List.length_append,List.length_map,List.length_map];exact len,en,nl⟩ npp nqq
theorem wz {H H3:Hp}{pp qq:Addr}{R:x5}{f:Prop}{Q:VK}{n:Nat}{a p q:Addr}{kvs:List (d7×V)}(hR:WebIs 10 K H a p q kvs R)(m:Same H H3)(npp:H pp=none)(nqq:H qq=none)(npq:pp≠qq)(g:H3 pp=some (.dK (i0 R.pts)))(t:ChT K H3 qq R f)
  (k:∀(a' p' q':Addr) (kvs':List (d7×V)) (C:x5) (H':Hp),Same H H'→WebIs 11 K H' a' p' q' kvs' C→H p'=none→H q'=none→Q (.ref a') H') (la:Addr) (na:H3 la=none):Q (.ref la) (i7 H3 la (.tup [.ref pp,.ref qq])):=by
 obtain⟨kv,A,t1,w,sl,_,en⟩:=t
 have lR:=hR.len
 rw[y7] at lR
 have z:=sl.length_le
 rw[List.length_map,List.length_map] at z
 refine Y4 m npp nqq npq g t1 w (hR.nd.sublist (sl.append_left _)) (by omega) en (fun x hx=>hR.nl x ?_) k la na
 rcases List.mem_append.mp hx with h|h
 ·exact List.mem_append_left _ h
 ·exact List.mem_append_right _ (sl.subset h)
theorem ChT.put {H:Hp}{qq l:Addr}{R:x5}{f:Prop}{kv:List (d7×V)}{A:List (Str×B6)}{n:Str}{t:B6}(h:H qq=some (.dK kv))(w:TiesIs K H kv A)(sl:(A.map (·.1)).Sublist (R.ts.map (·.1)))(hf:f→A.map (·.1)=R.ts.map (·.1))(en:∀x∈A,x.2.2.1∈R.pts.map (·.1)∧x.2.2.2∈R.pts.map (·.1))
  (hn:n∈A.map (·.1)) (hl:SqT K H l (D0 t)) (ht:t.2.1∈R.pts.map (·.1)∧t.2.2∈R.pts.map (·.1)):ChT K (i7 H qq (.dK (z0 kv (Sum.inr n:d7) (.ref l)))) qq R f:=by
 obtain⟨B,b1,b2,b3⟩:=rV h w sl hf en hn hl ht
 exact⟨_,B,c9,b1,by rw[b2];exact sl,fun z=>by rw[b2];exact hf z,b3⟩
theorem iY {H:Hp}{qq:Addr}{R:x5}{kv:List (d7×V)}{A:List (Str×B6)}{n:Str}(h:H qq=some (.dK kv))(w:TiesIs K H kv A)(nd:(A.map (·.1)).Nodup)(en:∀x∈A,x.2.2.1∈R.pts.map (·.1)∧x.2.2.2∈R.pts.map (·.1))(hn:n∈A.map (·.1)):∃(b:Addr) (t:B6),DGet H qq (.str n) (some (.ref b))∧SqT K H b (D0 t)∧t.2.1∈R.pts.map (·.1)∧t.2.2∈R.pts.map (·.1):=by
 obtain⟨x,hx,rfl⟩:=List.mem_map.mp hn
 obtain⟨b,hb,sb⟩:=U4 w nd (show(x.1,x.2)∈A from hx)
 exact⟨b,x.2,by have z:=Q3 (H:=H) (k:=Sum.inr x.1) (.inl h);rw[hb] at z;exact z,sb,en x hx⟩
theorem gh {A:List (Str×Str)}{n s x:Str}{l:List Str}(h:x∈(A++[(n,s)]).map (·.1)++l):x∈A.map (·.1)++l∨x=n:=by
 rw[List.map_append,List.append_assoc] at h
 rcases List.mem_append.mp h with h|h
 ·exact .inl (List.mem_append_left _ h)
 ·rcases List.mem_append.mp h with h|h
  ·exact .inr (List.mem_singleton.mp h)
  ·exact .inl (List.mem_append_right _ h)
theorem G3 {t u:TS}{nx:L2.St→Hp→Prop}{rt:V→Hp→Prop}{bk ct:L2.St→Hp→Prop}{σ:L2.St}{H:Hp}(h:∀nx':L2.St→Hp→Prop,(∀σ H,u ⟨nx,rt,bk,ct⟩ σ H→nx' σ H)→t ⟨nx',rt,bk,ct⟩ σ H):ox t u ⟨nx,rt,bk,ct⟩ σ H:=h _ fun _ _ z=>z
theorem AR:(Txt.mul ("z":Str) 24).length=24:=by decide+kernel
abbrev R7 (P:Program)(w:World)(K:PySem.W.Frag)(mg:Str→Option Value)(base:Heap):Prop:=V0 P w K mg base D5 1 "_law_changed" ["_law_web_here","_law_kinds_here","_law_cell"] [] (P9 K)
theorem ba {f:Addr}{fd:FuncData}(T:Txt K mg)(F:Fun K "_law_changed" "_law_changed" J0 f fd):A6 P w K mg base D5 1 f fd ["_law_web_here","_law_kinds_here","_law_cell"] (P9 K):=by
 refine F.ok sc__law_changed (fun vs H Q E h=>?_) (fun cdv A outer s H vs Q E hr h=>?_)
 ·obtain⟨a,p,q,c,kvs,R,ks,cell,rfl,_⟩:=h
  rfl
 ·obtain⟨a,p,q,c,kvs,R,ks,cell,rfl,hR,hz,hC,hk2,hc0,k⟩:=h
  have lR:=hR.len
  rw[y7] at lR
  have e1':=q9 R.pts
  have e2':=hR.at_.ts.length
  have hN:=sc__law_changed.nd
  have hu:=A3 hr
  refine⟨_,QSs.r (v8 (l0 (i:=3) hN rfl (by walk_at "l") (cK (aO K rfl) T.b_dict Boot.«dict» (h7 (p8 (p7 K hu) (qV 0) d9 (fun _ _=>rfl)) i5)))
   (v8 (l0 (i:=4) hN rfl (by walk_at "l") (cK (aO K rfl) T.b_dict Boot.«dict» (h7 (p8 (p7 K hu) (qV 0) d9 (fun _ _=>rfl)) i5)))
   (v8 (l0 (i:=5) hN rfl (by walk_at "l") (D6 z8 (qV 2) d9))
   (v8 (bD (rB (iQ (p6 (C6 K hr) (qB (B4 K P w) T.b_len Boot.«len» (h7 (qV 3) i5)) d9 (i3 _)) (cA (p6 (C6 K hr) (qV 5) d9 (i3 _))))) (v8 (Y0 (p8 (p7 K hu) (qV 1) (D6 z8 (D6 z7 (qV 2) d9) d9) (fun _ _=>rfl)) (kE (qV 3) (D6 Y9 nL d9) (t7 P w hu)))
   (C2 (z9 (O1 (h7 (qV 3) (h7 (qV 4) i5)))))) cR)
   (v8 (l0 (i:=6) hN rfl (by walk_at "l") (p8 (p7 K hu) (qB (z6 K rfl) T.b_sorted Boot.«sorted» (h7 (qV 3) i5)) (D6 z8 (D6 z7 (qV 2) d9) (qB (B4 K P w) T.b_len Boot.«len» (h7 (qV 3) i5))) (fun _ _=>rfl)))
   (v8 (bD (rB (iQ (p6 (C6 K hr) (qV 5) d9 (i3 _)) (cA (p6 (C6 K hr) (qB (B4 K P w) T.b_len Boot.«len» (h7 (qV 4) i5)) d9 (i3 _))))) (v8 (Y0 (p8 (p7 K hu) (qV 1) (D6 z8 (D6 z7 (qV 2) d9) d9) (fun _ _=>rfl)) (kE (qV 3) (qV 6) (t7 P w hu)))
   (C2 (z9 (O1 (h7 (qV 3) (h7 (qV 4) i5)))))) cR)
   (v8 (l0 (i:=7) hN rfl (by walk_at "l") (p8 (p7 K hu) (qB (z6 K rfl) T.b_sorted Boot.«sorted» (h7 (qV 4) i5)) (D6 z8 (D6 z7 (qV 2) d9) (qB (B4 K P w) T.b_len Boot.«len» (h7 (qV 4) i5))) (fun _ _=>rfl)))
   (v8 (l0 (i:=8) hN rfl (by walk_at "l") (p8 (p7 K hu) (qB (z6 K rfl) T.b_sorted Boot.«sorted» (h7 (qV 4) i5)) (D6 z8 (D6 z7 (qV 2) d9) (qB (B4 K P w) T.b_len Boot.«len» (h7 (qV 4) i5))) (fun _ _=>rfl)))
   (v8 (Y0 (p8 (p7 K hu) (qV 4) (qV 7) (fun _ _=>rfl)) (xh K rfl (jy (M8 (i:=9) hN rfl (by walk_at "l")) (jy (M8 (i:=10) hN rfl (by walk_at "l")) (jy (M8 (i:=11) hN rfl (by walk_at "l")) vP)))))
   (v8 (bD (p6 (C6 K hr) (qV 5) d9 (i3 _)) (C2 (Y0 (O1 (h7 (qV 9) (h7 (qV 10) (h7 (qV 6) i5)))) (kE (qV 4) (qV 7) (t7 P w hu)))) cR)
   (v8 (bD (p6 (C6 K hr) (qV 5) d9 (i3 _)) (C2 (Y0 (O1 (h7 (qV 9) (h7 (qV 11) (h7 (qV 10) i5)))) (kE (qV 4) (qV 7) (t7 P w hu)))) cR)
   (v8 (bD (p6 (C6 K hr) (qV 5) d9 (i3 _)) (C2 (xa (yY (qV 4) (qV 7)))) cR)
   (v8 (bD (p6 (C6 K hr) (qV 5) d9 (i3 _)) (v8 (Y0 (O1 (h7 (p8 (p7 K hu) (p8 (p7 K hu) (qV 4) (qV 8) (fun _ _=>rfl)) d9 (fun _ _=>rfl)) (h7 (qV 10) (h7 (qV 11) i5)))) (kE (qV 4) (qV 7) (t7 P w hu)))
   (C2 (Y0 (O1 (h7 (qV 9) (h7 (p8 (p7 K hu) (p8 (p7 K hu) (qV 4) (qV 8) (fun _ _=>rfl)) d9 (fun _ _=>rfl)) (h7 (p8 (p7 K hu) (p8 (p7 K hu) (qV 4) (qV 8) (fun _ _=>rfl)) d9 (fun _ _=>rfl)) i5)))) (kE (qV 4) (qV 8) (t7 P w hu))))) cR)
   (C2 (z9 (O1 (h7 (qV 3) (h7 (qV 4) i5)))))))))))))))))),?_⟩
  walk_at "r"
  refine b7 hR.at_.tup (b9 (j:=0) rfl) ?_
  walk_at "r"
  refine C9 hR.at_.pts (fun pp npp=>?_)
  obtain⟨H1,e1,f1,m1,_⟩:=b5 (o:= .dK (i0 R.pts)) npp
  rw[e1]
  walk_at "r"
  refine b7 (hR.same m1).at_.tup (b9 (j:=1) rfl) ?_
  walk_at "r"
  refine C9 (hR.same m1).at_.ties (fun qq nqq=>?_)
  obtain⟨H2,e2,f2,m2,_⟩:=b5 (o:= .dK kvs) nqq
  rw[e2]
  have m02:=m1.trans m2
  have g1:=m2 _ _ f1
  have ts2:=hR.at_.ts.mono m02.le
  have npq:pp≠qq:=d0 f1 nqq
  have nqq0:=m1.free nqq
  have hC2:=m02 _ _ hC
  walk_at "r"
  have hnw:Txt.mul ("z":Str) 24∉R.pts.map (·.1)++R.ts.map (·.1):=fun m=>by
   have z:=hz _ m
   rw[AR] at z
   exact absurd z (by decide)
  have hnp:Txt.mul ("z":Str) 24∉R.pts.map (·.1):=fun m=>hnw (List.mem_append_left _ m)
  refine A4 (y0 (.inl g1) ?_)
  rw[e1']
  walk_at "r"
  refine C8 (fun h0=>?_) (fun h0=>?_)
  ·walk_at "r"
   obtain⟨kd,hkd,_⟩:=x6 (ss:=ks) (i:=cell/7 % 2) (by omega) (by omega)
   refine i4 (SqL.of hC2) hkd ?_
   walk_at "r"
   refine dE (by decide+kernel) (by decide) (by decide) ?_
   refine E6 (k6 (k:=Sum.inr (Txt.mul ("z":Str) 24)) g1 (d6 (by omega)) ?_)
   rw[Y6 hnp]
   walk_at "r"
   exact⟨d6 (by simp),Y4 (y9 m02 npp) npp nqq0 npq c9 (by rw[b0 npq.symm];exact f2) (K2 g1 ts2) (eL hR.nd hnw) (by rw[List.length_append,List.length_singleton];omega) (fun x hx=>by rw[List.map_append];exact⟨List.mem_append_left _ (hR.ends x hx).1,List.mem_append_left _ (hR.ends x hx).2⟩) (fun x hx=>(gh hx).elim (hR.nl x) fun e=>by rw[e,AR];decide) k⟩
  walk_at "r"
  refine C8 (fun h4=>?_) (fun h4=>?_)
  ·walk_at "r"
   obtain⟨kd,hkd,_⟩:=x6 (ss:=ks) (i:=cell/7 % 2) (by omega) (by omega)
   refine i4 (SqL.of hC2) hkd ?_
   walk_at "r"
   refine dE (by decide+kernel) (by decide) (by decide) ?_
   refine E6 (k6 (k:=Sum.inr (Txt.mul ("z":Str) 24)) g1 (d6 (by omega)) ?_)
   rw[Y6 hnp]
   walk_at "r"
   exact⟨d6 (by simp),Y4 (y9 m02 npp) npp nqq0 npq c9 (by rw[b0 npq.symm];exact f2) (K2 g1 ts2) (eL hR.nd hnw) (by rw[List.length_append,List.length_singleton];omega) (fun x hx=>by rw[List.map_append];exact⟨List.mem_append_left _ (hR.ends x hx).1,List.mem_append_left _ (hR.ends x hx).2⟩) (fun x hx=>(gh hx).elim (hR.nl x) fun e=>by rw[e,AR];decide) k⟩
  walk_at "r"
  refine u7 (ss:=R.pts.map (·.1)) (.inl g1) (by rw[C5,x8]) (by rw[List.length_map];omega) (fun s1 a1 a2 l3 n3=>?_)
  obtain⟨H3,e3,f3,m3,_⟩:=b5 (o:= .lst (s1.map V.str)) n3
  rw[e3]
  have m03:=m02.trans m3
  have g3:=m3 _ _ g1
  have t3:=m3 _ _ f2
  have ts3:=ts2.mono m3.le
  have a1l:=a1.length_eq
  rw[List.length_map] at a1l
  walk_at "r"
  refine A4 (y0 (.inl g3) ?_)
  rw[e1']
  walk_at "r"
  obtain⟨sp,hsp,hsm⟩:=x6 (ss:=s1) (i:=cell/7 % (R.pts.length:Int)) (Int.emod_nonneg _ (by omega)) (by rw[a1l];exact Int.emod_lt_of_pos _ (by omega))
  replace hsm:=a1.mem_iff.mp hsm
  refine i4 (SqL.of f3) hsp ?_
  clear f3 e3
  walk_at "r"
  refine C8 (fun h5=>?_) (fun h5=>?_)
  ·walk_at "r"
   obtain⟨kd,hkd,_⟩:=x6 (ss:=ks) (i:=cell/70 % 2) (by omega) (by omega)
   refine i4 (SqL.of (m3 _ _ hC2)) hkd ?_
   walk_at "r"
   refine E6 (k6 (k:=Sum.inr sp) g3 (d6 (by omega)) ?_)
   obtain⟨C,ec,en⟩:=gM (s:=kd) hsm
   rw[ec]
   have lC:=congrArg List.length en
   rw[List.length_map,List.length_map] at lC
   walk_at "r"
   exact⟨d6 (by simp),Y4 (y9 m03 npp) npp nqq0 npq c9 (by rw[b0 npq.symm];exact t3) (K2 g3 ts3) (by rw[en];exact hR.nd) (by omega) (fun x hx=>by rw[en];exact hR.ends x hx) (fun x hx=>hR.nl x (by rw[en] at hx;exact hx)) k⟩
  walk_at "r"
  refine A4 (y0 (.inl t3) ?_)
  walk_at "r"
  refine C8 (fun h6=>?_) (fun h6=>?_)
  ·walk_at "r"
   obtain⟨kd,hkd,_⟩:=x6 (ss:=ks) (i:=cell/70 % 2) (by omega) (by omega)
   refine i4 (SqL.of (m3 _ _ hC2)) hkd ?_
   walk_at "r"
   refine E6 (k6 (k:=Sum.inr sp) g3 (d6 (by omega)) ?_)
   obtain⟨C,ec,en⟩:=gM (s:=kd) hsm
   rw[ec]
   have lC:=congrArg List.length en
   rw[List.length_map,List.length_map] at lC
   walk_at "r"
   exact⟨d6 (by simp),Y4 (y9 m03 npp) npp nqq0 npq c9 (by rw[b0 npq.symm];exact t3) (K2 g3 ts3) (by rw[en];exact hR.nd) (by omega) (fun x hx=>by rw[en];exact hR.ends x hx) (fun x hx=>hR.nl x (by rw[en] at hx;exact hx)) k⟩
  walk_at "r"
  refine u7 (ss:=R.ts.map (·.1)) (.inl t3) (by rw[ts3.keys,x8]) (by rw[List.length_map];omega) (fun s2 b1 b2 l4 n4=>?_)
  obtain⟨H4,e4,f4,m4,_⟩:=b5 (o:= .lst (s2.map V.str)) n4
  rw[e4]
  have b1l:=b1.length_eq
  rw[List.length_map] at b1l
  walk_at "r"
  refine A4 (y0 (.inl (m4 _ _ t3)) ?_)
  walk_at "r"
  obtain⟨nm,hnm,hnmm⟩:=x6 (ss:=s2) (i:=cell/70 % (kvs.length:Int)) (Int.emod_nonneg _ (by omega)) (by rw[b1l,←e2'];exact Int.emod_lt_of_pos _ (by omega))
  replace hnmm:=b1.mem_iff.mp hnmm
  refine i4 (SqL.of f4) hnm ?_
  clear f4 e4
  walk_at "r"
  refine u7 (ss:=R.ts.map (·.1)) (.inl (m4 _ _ t3)) (by rw[ts3.keys,x8]) (by rw[List.length_map];omega) (fun s3 c1 c2 l5 n5=>?_)
  obtain⟨H5,e5,f5,m5,_⟩:=b5 (o:= .lst (s3.map V.str)) n5
  rw[e5]
  have m35:=m4.trans m5
  have c1l:=c1.length_eq
  rw[List.length_map] at c1l
  walk_at "r"
  refine A4 (y0 (.inl (m35 _ _ t3)) ?_)
  walk_at "r"
  obtain⟨om,hom,homm⟩:=x6 (ss:=s3) (i:=cell/980 % (kvs.length:Int)) (Int.emod_nonneg _ (by omega)) (by rw[c1l,←e2'];exact Int.emod_lt_of_pos _ (by omega))
  replace homm:=c1.mem_iff.mp homm
  refine i4 (SqL.of f5) hom ?_
  clear f5 e5
  have m05:=m03.trans m35
  have g5:=m35 _ _ g3
  have t5:=m35 _ _ t3
  have ts5:=ts3.mono m35.le
  have ndt:=F8 hR.nd
  obtain⟨bb,⟨k0,k1,k2⟩,gb,sb,hb1,hb2⟩:=iY t5 ts5 ndt hR.ends hnmm
  walk_at "r"
  refine r9 gb ?_
  refine Y1 sb rfl ?_
  change gZ _ _ [V.str k0,V.str k1,V.str k2] _ _ _
  walk_at "e"
  have ch5:ChT K H5 qq R True:=⟨kvs,R.ts,t5,ts5,List.Sublist.refl _,fun _=>rfl,hR.ends⟩
  clear gb sb ts5 t5
  have m06:=m05
  have g6:=g5
  have ch6:=ch5
  clear m05 g5 ch5
  refine G3 fun nx1 hx=>?_
  suffices go:∀H',Same H H'→H' pp=some (.dK (i0 R.pts))→ChT K H' qq R True→nx1 [some (.ref a),some (.ref c),some (.int cell),some (.ref pp),some (.ref qq),some (.int (cell % 7)),some (.str sp),some (.str nm),some (.str om),some (.str k0),some (.str k1),some (.str k2)] H' by
   walk_at "e"
   refine C8 (fun w1=>?_) (fun w1=>?_)
   ·obtain⟨kv,A,t,tw,sl,hf,en⟩:=ch6
    have lA:=sl.length_le
    rw[List.length_map,List.length_map] at lA
    have lk:=tw.length
    walk_at "e"
    refine⟨d6 (by simp),fun l7 n7=>?_⟩
    obtain⟨H7,e7,f7,m7,_⟩:=b5 (o:= .tup (D0 (k0,k1,sp))) n7
    change iW _ _ _ _ _ (i7 H5 l7 (.tup (D0 (k0,k1,sp)))) _
    rw[e7]
    walk_at "e"
    refine E6 (k6 (k:=Sum.inr nm) (m7 _ _ t) (d6 (by omega)) ?_)
    exact go _ (y9 (m06.trans m7) nqq0) (by rw[b0 npq];exact m7 _ _ g6) (ChT.put (m7 _ _ t) (tw.mono m7.le) sl hf en (by rw[hf trivial];exact hnmm) (SqT.of f7) ⟨hb1,hsm⟩)
   ·walk_at "e"
    exact go _ m06 g6 ch6
  clear m06 g6 ch6
  intro Hw1 m06 g6 ch6
  refine hx _ _ ?_
  clear hx
  refine G3 fun nx2 hx=>?_
  suffices go:∀H',Same H H'→H' pp=some (.dK (i0 R.pts))→ChT K H' qq R True→nx2 [some (.ref a),some (.ref c),some (.int cell),some (.ref pp),some (.ref qq),some (.int (cell % 7)),some (.str sp),some (.str nm),some (.str om),some (.str k0),some (.str k1),some (.str k2)] H' by
   walk_at "e"
   refine C8 (fun w2=>?_) (fun w2=>?_)
   ·obtain⟨kv,A,t,tw,sl,hf,en⟩:=ch6
    have lA:=sl.length_le
    rw[List.length_map,List.length_map] at lA
    have lk:=tw.length
    walk_at "e"
    refine⟨d6 (by simp),fun l7 n7=>?_⟩
    obtain⟨H7,e7,f7,m7,_⟩:=b5 (o:= .tup (D0 (k0,k2,k1))) n7
    change iW _ _ _ _ _ (i7 Hw1 l7 (.tup (D0 (k0,k2,k1)))) _
    rw[e7]
    walk_at "e"
    refine E6 (k6 (k:=Sum.inr nm) (m7 _ _ t) (d6 (by omega)) ?_)
    exact go _ (y9 (m06.trans m7) nqq0) (by rw[b0 npq];exact m7 _ _ g6) (ChT.put (m7 _ _ t) (tw.mono m7.le) sl hf en (by rw[hf trivial];exact hnmm) (SqT.of f7) ⟨hb2,hb1⟩)
   ·walk_at "e"
    exact go _ m06 g6 ch6
  clear m06 g6 ch6
  intro Hw2 m06 g6 ch6
  refine hx _ _ ?_
  clear hx
  refine G3 fun nx3 hx=>?_
  suffices go:∀H',Same H H'→H' pp=some (.dK (i0 R.pts))→ChT K H' qq R (cell % 7≠3)→nx3 [some (.ref a),some (.ref c),some (.int cell),some (.ref pp),some (.ref qq),some (.int (cell % 7)),some (.str sp),some (.str nm),some (.str om),some (.str k0),some (.str k1),some (.str k2)] H' by
   walk_at "e"
   refine C8 (fun w3=>?_) (fun w3=>?_)
   ·obtain⟨kv,A,t,tw,sl,hf,en⟩:=ch6
    have lA:=sl.length_le
    rw[List.length_map,List.length_map] at lA
    have lk:=tw.length
    walk_at "e"
    refine⟨.ref qq,rfl,qq,rfl,.inl ⟨kv,.inl t⟩,?_⟩
    walk_at "e"
    obtain⟨x,hx',ex⟩:=List.mem_map.mp (show nm∈A.map (·.1) by rw[hf trivial];exact hnmm)
    obtain⟨b',hb',_⟩:=U4 tw (by rw[hf trivial];exact ndt) (show(x.1,x.2)∈A from hx')
    rw[ex] at hb'
    refine⟨kv,Sum.inr nm,.ref b',t,rfl,hb',?_⟩
    exact go _ (y9 m06 nqq0) (by rw[b0 npq];exact g6) ⟨_,A.filter fun x=>decide (x.1≠nm),c9,K2 t (pT tw),(List.filter_sublist.map _).trans sl,fun z=>absurd w3 z,fun x hx=>en x (List.mem_filter.mp hx).1⟩
   ·walk_at "e"
    exact go _ m06 g6 (let ⟨kv,A,t,tw,sl,hf,en⟩:=ch6;⟨kv,A,t,tw,sl,fun _=>hf trivial,en⟩)
  clear m06 g6 ch6
  intro Hw3 m06 g6 ch6
  refine hx _ _ ?_
  clear hx
  refine G3 fun nx5 hx=>?_
  suffices go:∀H',Same H H'→H' pp=some (.dK (i0 R.pts))→ChT K H' qq R (cell % 7≠3)→nx5 [some (.ref a),some (.ref c),some (.int cell),some (.ref pp),some (.ref qq),some (.int (cell % 7)),some (.str sp),some (.str nm),some (.str om),some (.str k0),some (.str k1),some (.str k2)] H' by
   walk_at "e"
   refine C8 (fun w5=>?_) (fun w5=>?_)
   ·obtain⟨kv,A,t,tw,sl,hf,en⟩:=ch6
    have lA:=sl.length_le
    rw[List.length_map,List.length_map] at lA
    have lk:=tw.length
    walk_at "r"
    have hfe:=hf (by omega)
    obtain⟨b1',⟨o0,o1,o2⟩,gb',sb',ho1,ho2⟩:=iY t tw (by rw[hfe];exact ndt) en (show om∈A.map (·.1) by rw[hfe];exact homm)
    refine r9 gb' ?_
    walk_at "e"
    refine b7 sb' (b9 (j:=0) rfl) ?_
    walk_at "e"
    refine⟨d6 (by simp),fun l7 n7=>?_⟩
    obtain⟨H7,e7,f7,m7,_⟩:=b5 (o:= .tup (D0 (o0,k1,k2))) n7
    change iW _ _ _ _ _ (i7 Hw3 l7 (.tup (D0 (o0,k1,k2)))) _
    rw[e7]
    walk_at "e"
    refine E6 (k6 (k:=Sum.inr nm) (m7 _ _ t) (d6 (by omega)) ?_)
    have m08:=y9 (o:= .dK (z0 kv (Sum.inr nm:d7) (.ref l7))) (m06.trans m7) nqq0
    have g8:(i7 H7 qq (.dK (z0 kv (Sum.inr nm:d7) (.ref l7)))) pp=some (.dK (i0 R.pts)):=by rw[b0 npq];exact m7 _ _ g6
    have c8:=ChT.put (m7 _ _ t) (tw.mono m7.le) sl hf en (by rw[hfe];exact hnmm) (SqT.of f7) ⟨hb1,hb2⟩
    generalize i7 H7 qq (.dK (z0 kv (Sum.inr nm:d7) (.ref l7)))=H8 at m08 g8 c8⊢
    clear gb' sb' t tw sl hf en hfe lA lk
    obtain⟨kv',A',t,tw,sl,hf,en⟩:=c8
    have hfe:=hf (by omega)
    have lA:=sl.length_le
    rw[List.length_map,List.length_map] at lA
    have lk:=tw.length
    obtain⟨b2',⟨u0,u1,u2⟩,gb',sb',hu1,hu2⟩:=iY t tw (by rw[hfe];exact ndt) en (show om∈A'.map (·.1) by rw[hfe];exact homm)
    walk_at "r"
    refine r9 gb' ?_
    walk_at "e"
    refine b7 sb' (b9 (j:=1) rfl) ?_
    walk_at "e"
    refine r9 gb' ?_
    walk_at "e"
    refine b7 sb' (b9 (j:=2) rfl) ?_
    walk_at "e"
    refine⟨d6 (by simp),fun l9 n9=>?_⟩
    obtain⟨H9,e9,f9,m9,_⟩:=b5 (o:= .tup (D0 (k0,u1,u2))) n9
    change iW _ _ _ _ _ (i7 H8 l9 (.tup (D0 (k0,u1,u2)))) _
    rw[e9]
    walk_at "e"
    refine E6 (k6 (k:=Sum.inr om) (m9 _ _ t) (d6 (by omega)) ?_)
    exact go _ (y9 (m08.trans m9) nqq0) (by rw[b0 npq];exact m9 _ _ g8) (ChT.put (m9 _ _ t) (tw.mono m9.le) sl hf en (by rw[hfe];exact homm) (SqT.of f9) ⟨hu1,hu2⟩)
   ·walk_at "e"
    exact go _ m06 g6 ch6
  clear m06 g6 ch6
  intro Hw5 m06 g6 ch6
  refine hx _ _ ?_
  clear hx
  walk_at "r"
  exact⟨d6 (by simp),wz (n:=0) hR m06 npp nqq0 npq g6 ch6 k⟩
def fm (K:PySem.W.Frag):Sp:=fun vs H Q _=>∃(a:Addr) (ns:List Int),vs=[.ref a]∧SqL K H a (ns.map V.int)∧ns.length≤63∧∀H',Q (.bl true) H'
theorem uG {H:Hp}{p p':Addr}{pts pts':List (Str×Str)}(h1:H p=some (.dK (i0 pts)))(h2:H p'=some (.dK (i0 pts')))(pm:pts.Perm pts')(nd:(pts'.map (·.1)).Nodup):EqD K H p p' true:=by
 by_cases e:p=p'
 ·exact .inl ⟨e,rfl⟩
 ·exact sh e (.inl h1) (.inl h2) pm nd
theorem uI {H:Hp}{q q':Addr}{kvs kvs':List (d7×V)}{ts ts':List (Str×B6)}(h1:H q=some (.dK kvs))(h2:H q'=some (.dK kvs'))(w:TiesIs K H kvs ts)(w':TiesIs K H kvs' ts')(pm:ts.Perm ts')(nd:(ts'.map (·.1)).Nodup):EqD K H q q' true:=by
 by_cases e:q=q'
 ·exact .inl ⟨e,rfl⟩
 ·exact pE e (.inl h1) (.inl h2) w w' pm nd
theorem kD {H:Hp}{p p' z z' q q':Addr}(h:SqT K H z [.ref p,.ref q])(h':SqT K H z' [.ref p',.ref q'])(e1:EqD K H p p' true)(e2:EqD K H q q' true)(n:Nat):EqN K H (n+1) (.ref z) (.ref z') true:=by
 by_cases e:z=z'
 ·subst e
  exact EqN.of0 (.inr ⟨z,z,rfl,rfl,.inl ⟨rfl,rfl⟩⟩) _
 ·refine .inr ⟨z,z',_,_,[true,true],rfl,rfl,e,.inl ⟨h,h'⟩,rfl,rfl,fun j x y b hx hy hb=>?_,rfl⟩
  match j,hx,hy,hb with
  |0,hx,hy,hb=>
   cases hx;cases hy;cases hb
   exact EqN.of0 (.inr ⟨p,p',rfl,rfl,e1⟩) _
  |1,hx,hy,hb=>
   cases hx;cases hy;cases hb
   exact EqN.of0 (.inr ⟨q,q',rfl,rfl,e2⟩) _
  |j+2,hx,_,_=>cases hx
theorem jY {H:Hp}{Q:VK}{n m:Nat}{c pc qc b p q:Addr}{kvc kvs:List (d7×V)}{C R W:x5}(hC:WebIs n K H c pc qc kvc C)(hR:WebIs m K H b p q kvs R)(ne:qc≠q)(l:Like W R)(nl:¬Like W C)(k:Q (.bl true) H):Q9 K (.ref c) (.ref b) H Q:=by
 obtain⟨r1,h1,e1⟩:=tI (K:=K) hC.hp hR.hp (y8 hC.nd)
 obtain⟨r2,h2,e2⟩:=qY hC.hq hR.hq hC.at_.ts hR.at_.ts (F8 hC.nd) ne
 refine rD (pS hC.at_.tup hR.at_.tup h1 h2 ?_)
 have e:(r1&&r2)=false:=by
  rw[Bool.eq_false_iff]
  intro z
  rw[Bool.and_eq_true] at z
  exact nl (l.to (e1 z.1).symm (e2 z.2).symm)
 rw[e];exact k
theorem bV {A:x5}{row:List Str}(h:row.length=(aI A).length):(((aI A).zip row).map (·.1)).Perm (h9 A):=by rw[List.map_fst_zip (by omega)];exact(E7 A).perm
theorem fj {cs:List Int}{j:Nat}(h:j<cs.length)(hp:∀c∈cs,0≤c):∃c:Int,(cs.map V.int)[j]?=some (.int c)∧0≤c:=⟨cs[j],by rw[List.getElem?_map,List.getElem?_eq_getElem h];rfl,hp _ (List.getElem_mem h)⟩
set_option maxHeartbeats 8000000 in
theorem wg {f:Addr}{fd:FuncData}(T:Txt K mg)(K1:S3 P w K mg base)(O2:Y8 P w K mg base)(X6:cD P w K mg base)(G5:ab P w K mg base)(N8:Z6 P w K mg base)(G9:R6 P w K mg base)(C7:U6 P w K mg base)(bY:V0 P w K mg base D5 8 "likeness" ["web","other","fixed"] [] (F4 K))(C0:V0 P w K mg base D5 8 "likeness" ["web","other","fixed"] [.non] (F4 K))(I9:R7 P w K mg base)(D8:S6 P w K mg base)(F:Fun K "law" "law" nN f fd):A6 P w K mg base D5 9 f fd ["_law_script"] (fm K):=by
 refine F.ok sc_law (fun vs H Q E h=>?_) (fun cdv A outer s H vs Q E hr h=>?_)
 ·obtain⟨a,ns,rfl,_⟩:=h
  rfl
 ·obtain⟨a,ns,rfl,hA,hl,k⟩:=h
  have hN:=sc_law.nd
  have hu:=A3 hr
  refine⟨_,QSs.r (v8 (Q8 (i:=1) hN rfl (by walk_at "l") (own:=["_law_k"]) (js:=[0]) (by kernel_rfl) rfl (mI T.b_range (h7 d9 i5)) (fun _ _ _ _=>(M8 (i:=0) (show List.Nodup (["_law_k","_law_script"]:List Str) by decide+kernel) rfl (by walk_at "l"))) (fun _ _ _ _=>gR) (fun _ _ _ _=>(qC K1 (hr.mono (by decide)) p0 (h7 (qV 1) (h7 (qV 0) i5)))))
   (v8 (l0 (i:=2) hN rfl (by walk_at "l") (qC O2 (hr.mono (by decide)) p0 (h7 (p8 (p7 K hu) (qV 1) d9 (fun _ _=>rfl)) i5)))
   (v8 (l0 (i:=3) hN rfl (by walk_at "l") (qC X6 (hr.mono (by decide)) p0 (h7 (qC N8 (hr.mono (by decide)) p0 (h7 (qV 0) (h7 d9 (h7 d9 i5)))) (h7 (qC G5 (hr.mono (by decide)) p0 (h7 (p8 (p7 K hu) (qV 1) d9 (fun _ _=>rfl)) (h7 d9 i5))) (h7 (qV 2) (h7 d9 i5))))))
   (v8 (l0 (i:=4) hN rfl (by walk_at "l") (qC G9 (hr.mono (by decide)) p0 (h7 (qV 3) (h7 (qC G5 (hr.mono (by decide)) p0 (h7 (p8 (p7 K hu) (qV 1) d9 (fun _ _=>rfl)) (h7 d9 i5))) i5))))
   (v8 (l0 (i:=5) hN rfl (by walk_at "l") (aX (h7 (O1 (h7 (cK (aO K rfl) T.b_dict Boot.«dict» (h7 (p8 (p7 K hu) (qV 3) d9 (fun _ _=>rfl)) i5)) (h7 (cK (aO K rfl) T.b_dict Boot.«dict» (h7 (p8 (p7 K hu) (qV 3) d9 (fun _ _=>rfl)) i5)) i5))) (h7 (O1 (h7 (cK (aO K rfl) T.b_dict Boot.«dict» (h7 (p8 (p7 K hu) (qV 4) d9 (fun _ _=>rfl)) i5)) (h7 (cK (aO K rfl) T.b_dict Boot.«dict» (h7 (p8 (p7 K hu) (qV 4) d9 (fun _ _=>rfl)) i5)) i5))) i5))))
   (v8 (bD (rB (iQ (kO (ah K (qC C7 (hr.mono (by decide)) p0 (h7 (qV 3) (h7 (qV 4) (h7 (qC C0 (hr.mono (by decide)) p0 (h7 (qV 3) (h7 (qV 4) i5))) i5)))))) (cA (kO (ah K (qC C7 (hr.mono (by decide)) p0 (h7 (qV 4) (h7 (qV 3) (h7 (qC C0 (hr.mono (by decide)) p0 (h7 (qV 4) (h7 (qV 3) i5))) i5))))))))) (C2 (z9 uL)) cR)
   (v8 (l0 (i:=6) hN rfl (by walk_at "l") (qC I9 (hr.mono (by decide)) p0 (h7 (qV 4) (h7 (qV 2) (h7 (p8 (p7 K hu) (qV 1) d9 (fun _ _=>rfl)) i5)))))
   (v8 (l0 (i:=7) hN rfl (by walk_at "l") (qC C0 (hr.mono (by decide)) p0 (h7 (qV 3) (h7 (qV 6) i5))))
   (v8 (bD (rB (iQ (p6 (P2 K hr) (aX (h7 (qV 3) (h7 (qV 4) i5))) (qV 5) (i3 _)) (cA (p6 (P2 K hr) (bW ku (qV 7) mn (i3 _)) (bW ku (qC C0 (hr.mono (by decide)) p0 (h7 (qV 6) (h7 (qV 3) i5))) mn (i3 _)) (i3 _))))) (C2 (z9 uL)) cR)
   (v8 (bD (p6 ku (qV 7) mn (i3 _)) (C2 (z9 (yB (bW (P2 K hr) (qV 6) (qV 3) (i3 _)) (yJ (bW (P2 K hr) (qV 6) (qV 4) (i3 _)))))) cR)
   (C2 (z9 (yB (qC C7 (hr.mono (by decide)) p0 (h7 (qV 3) (h7 (qV 6) (h7 (qV 7) i5)))) (yJ (bW (C6 K hr) (qC D8 (hr.mono (by decide)) p0 (h7 (qV 3) i5)) (qC D8 (hr.mono (by decide)) p0 (h7 (qV 6) i5)) (i3 _)))))))))))))))),?_⟩
  refine V4 ?_
  walk_at "e"
  refine T8 (by omega) (by omega) ?_
  refine y6 (n:=4) (fun i out H'=>Same H H'∧∃cs:List Int,out=cs.map V.int∧cs.length=i∧∀c∈cs,0≤c) ⟨Same.refl _,[],rfl,rfl,fun _ h=>nomatch h⟩ (fun i out H' hi _=>by exact hi) ?_ ?_
  ·rintro N i v out H1' H1 hi ⟨s1,cs,rfl,hcl,hcp⟩ ⟨rfl,rfl⟩ hN'
   walk_at "e"
   refine⟨rfl,?_⟩
   walk_at "e"
   refine⟨a,ns,_,rfl,s1.seq hA,hl,by omega,fun c hc=>?_⟩
   refine⟨d6 (by rw[List.length_map];omega),hN' _ _ ⟨s1,cs++[c],by rw[List.map_append];rfl,by rw[List.length_append,hcl];rfl,fun x hx=>?_⟩⟩
   rcases List.mem_append.mp hx with z|z
   ·exact hcp x z
   ·rw[List.mem_singleton.mp z];exact hc
  rintro out H1 ⟨s1,cs4,rfl,hcl4,hcp4⟩
  refine⟨Nat.le_refl _,fun lcs hlcs=>⟨d6 (by rw[List.length_map];omega),?_⟩⟩
  obtain⟨H2,e2,f2,m2,_⟩:=b5 (H:=H1) (o:= .lst (cs4.map V.int)) hlcs
  change K6 _ _ _ (i7 H1 lcs (.lst (cs4.map V.int))) _
  rw[e2]
  have m02:=s1.trans m2
  obtain⟨c1,g1,hc1⟩:=fj (cs:=cs4) (j:=1) (by omega) hcp4
  obtain⟨c0,g0,hc0⟩:=fj (cs:=cs4) (j:=0) (by omega) hcp4
  obtain⟨c2,g2,hc2⟩:=fj (cs:=cs4) (j:=2) (by omega) hcp4
  obtain⟨c3,g3,hc3⟩:=fj (cs:=cs4) (j:=3) (by omega) hcp4
  walk_at "e"
  refine G3 fun nx2 hx=>?_
  walk_at "e"
  refine i4 (SqL.of f2) (b9 (j:=0) g0) ?_
  walk_at "e"
  refine⟨c0,rfl,hc0,fun lk H3 ks n3 m3 f3 hk=>?_⟩
  walk_at "e"
  refine hx [some (.ref a),some (.ref lcs),some (.ref lk),none,none,none,none,none] _ ?_
  clear hx
  have m03:=m02.trans m3
  have f23:=m3 _ _ f2
  refine G3 fun nx3 hx=>?_
  walk_at "e"
  refine⟨a,ns,rfl,m03.seq hA,hl,fun lc H4 cs n4 m4 f4 hcl hcs=>?_⟩
  walk_at "e"
  refine i4 (SqL.of (m4 _ _ f23)) (b9 (j:=1) g1) ?_
  walk_at "e"
  refine⟨c1,10,rfl,hc1,by omega,by omega,fun ln H5 ss n5 m5 f5 ⟨hs1,hs2,hs3⟩=>?_⟩
  walk_at "e"
  refine⟨lc,ln,lk,cs,ss,ks,rfl,SqL.of (m5 _ _ f4),SqL.of f5,SqL.of (m5 _ _ (m4 _ _ f3)),hcl,hs1,hk,hs2,fun s hs=>Nat.le_trans (hs3 s hs) (by decide),fun b p q kvs W0 H6 m6 hW h6=>?_⟩
  have m36:=m4.trans (m5.trans m6)
  have f26:=m36 _ _ f23
  have fk6:=m36 _ _ f3
  clear f4 f5 f23 f3 f2 e2 hcl hcs hs1 hs2 hs3
  walk_at "e"
  refine hx [some (.ref a),some (.ref lcs),some (.ref lk),some (.ref b),none,none,none,none] _ ?_
  clear hx
  refine G3 fun nx4 hx=>?_
  walk_at "e"
  refine i4 (SqL.of f26) (b9 (j:=2) g2) ?_
  walk_at "e"
  refine⟨c2,10,rfl,hc2,by omega,by omega,fun ln2 H7 ss n7 m7 f7 ⟨hs1,hs2,hs3⟩=>?_⟩
  walk_at "e"
  refine⟨b,p,q,ln2,kvs,W0,ss,rfl,hW.same m7,f7,hs1,hs2,hs3,fun b' p' q' kvs' R H8 m8 hR hRn lik=>?_⟩
  have m68:=m7.trans m8
  have W8:=hW.same m68
  have f28:=m68 _ _ f26
  have fk8:=m68 _ _ fk6
  clear hW f7 f26 fk6 hs1 hs2 hs3
  walk_at "e"
  refine hx [some (.ref a),some (.ref lcs),some (.ref lk),some (.ref b),some (.ref b'),none,none,none] _ ?_
  clear hx
  refine G3 fun nx5 hx=>?_
  walk_at "e"
  refine b7 W8.at_.tup (b9 (j:=0) rfl) ?_
  walk_at "e"
  refine C9 W8.at_.pts (fun h1 nh1=>?_)
  obtain⟨H14,e14,f14,m14,_⟩:=b5 (o:= .dK (i0 W0.pts)) nh1
  rw[e14]
  walk_at "e"
  refine b7 (W8.same m14).at_.tup (b9 (j:=1) rfl) ?_
  walk_at "e"
  refine C9 (W8.same m14).at_.ties (fun h2 nh2=>?_)
  obtain⟨H15,e15,f15,m15,_⟩:=b5 (o:= .dK kvs) nh2
  rw[e15]
  walk_at "e"
  refine⟨d6 (by simp),fun w1 nw1=>?_⟩
  obtain⟨H16,e16,f16,m16,_⟩:=b5 (o:= .tup [.ref h1,.ref h2]) nw1
  rw[e16]
  have s16:=m14.trans (m15.trans m16)
  have g14:=(m15.trans m16) _ _ f14
  have g15:=m16 _ _ f15
  have PW:WebIs 10 K H16 w1 h1 h2 kvs W0:=⟨⟨SqT.of f16,.inl g14,.inl g15,W8.at_.ts.mono s16.le⟩,g14,g15,d0 f14 nh2,W8.nd,W8.len,W8.ends,W8.nl⟩
  clear f14 f15 f16 g14 g15 e14 e15 e16
  have R16:=hR.same s16
  walk_at "e"
  refine b7 R16.at_.tup (b9 (j:=0) rfl) ?_
  walk_at "e"
  refine C9 R16.at_.pts (fun h3 nh3=>?_)
  obtain⟨H17,e17,f17,m17,_⟩:=b5 (o:= .dK (i0 R.pts)) nh3
  rw[e17]
  walk_at "e"
  refine b7 (R16.same m17).at_.tup (b9 (j:=1) rfl) ?_
  walk_at "e"
  refine C9 (R16.same m17).at_.ties (fun h4 nh4=>?_)
  obtain⟨H18,e18,f18,m18,_⟩:=b5 (o:= .dK kvs') nh4
  rw[e18]
  walk_at "e"
  refine⟨d6 (by simp),fun w2 nw2=>?_⟩
  obtain⟨H19,e19,f19,m19,_⟩:=b5 (o:= .tup [.ref h3,.ref h4]) nw2
  rw[e19]
  have s1619:=m17.trans (m18.trans m19)
  have g17:=(m18.trans m19) _ _ f17
  have g18:=m19 _ _ f18
  have RW:WebIs 10 K H19 w2 h3 h4 kvs' R:=⟨⟨SqT.of f19,.inl g17,.inl g18,R16.at_.ts.mono s1619.le⟩,g17,g18,d0 f17 nh4,R16.nd,R16.len,R16.ends,R16.nl⟩
  clear f17 f18 f19 g17 g18 e17 e18 e19
  walk_at "e"
  refine⟨d6 (by simp),fun w3 nw3=>?_⟩
  obtain⟨H21,e21,f21,m21,_⟩:=b5 (o:= .lst [.ref w1,.ref w2]) nw3
  rw[e21]
  have s21:=s16.trans (s1619.trans m21)
  have PW21:=PW.same (s1619.trans m21)
  have RW21:=RW.same m21
  have W21:=W8.same s21
  have R21:=hR.same s21
  have f221:=s21 _ _ f28
  have fk21:=s21 _ _ fk8
  clear PW RW e21 R16 W8 hR f28 fk8
  walk_at "e"
  refine hx [some (.ref a),some (.ref lcs),some (.ref lk),some (.ref b),some (.ref b'),some (.ref w3),none,none] _ ?_
  clear hx
  have like':=Like.symm W21.nd W21.ends lik
  refine G3 fun nx6 hx=>?_
  walk_at "e"
  refine⟨b,p,q,b',p',q',kvs,kvs',W0,R,rfl,⟨W21.up (by decide),R21.up (by decide),sG W21.len h6 W21.ends⟩,fun v1 H22 m22 lk1=>?_⟩
  rcases lk1.none W21.nd W21.ends with⟨_,z⟩|⟨row1,d1,rfl,hd1,hr1,ft1,_⟩
  ·exact absurd lik z
  have W22:=W21.same m22
  have R22:=R21.same m22
  walk_at "e"
  refine⟨b,p,q,b',p',q',d1,kvs,kvs',W0,R,_,rfl,W22.up (by decide),R22.up (by decide),lik.1,lik.2.1,hd1,bV hr1,ft1,fun H23 m23=>?_⟩
  have W23:=W22.same m23
  have R23:=R22.same m23
  walk_at "e"
  refine⟨b',p',q',b,p,q,kvs',kvs,R,W0,rfl,⟨R23.up (by decide),W23.up (by decide),sG R23.len (by rw[←lik.1];exact h6) R23.ends⟩,fun v2 H24 m24 lk2=>?_⟩
  rcases lk2.none R23.nd R23.ends with⟨_,z⟩|⟨row2,d2,rfl,hd2,hr2,ft2,_⟩
  ·exact absurd like' z
  have W24:=W23.same m24
  have R24:=R23.same m24
  walk_at "e"
  refine⟨b',p',q',b,p,q,d2,kvs',kvs,R,W0,_,rfl,R24.up (by decide),W24.up (by decide),like'.1,like'.2.1,hd2,bV hr2,ft2,fun H25 m25=>?_⟩
  walk_at "e"
  refine hx [some (.ref a),some (.ref lcs),some (.ref lk),some (.ref b),some (.ref b'),some (.ref w3),none,none] _ ?_
  clear hx hd1 hd2 ft1 ft2 hr1 hr2 lk1 lk2
  have m2125:=m22.trans (m23.trans (m24.trans m25))
  have W25:=W21.same m2125
  have R25:=R21.same m2125
  have PW25:=PW21.same m2125
  have RW25:=RW21.same m2125
  have f225:=m2125 _ _ f221
  have fk25:=m2125 _ _ fk21
  have f325:=m2125 _ _ f21
  clear W21 R21 PW21 RW21 f221 fk21 f21 W22 R22 W23 R23 W24 R24
  refine G3 fun nx7 hx=>?_
  walk_at "e"
  refine i4 (SqL.of f225) (b9 (j:=3) g3) ?_
  walk_at "e"
  refine⟨b',p',q',lk,kvs',R,ks,c3,rfl,R25,hRn,fk25,hk,hc3,fun cc pc qc kvc C H26 m26 hC npc nqc=>?_⟩
  have nqW:qc≠q:=(d0 W25.hq nqc).symm
  have nqR:qc≠q':=(d0 R25.hq nqc).symm
  walk_at "e"
  refine hx [some (.ref a),some (.ref lcs),some (.ref lk),some (.ref b),some (.ref b'),some (.ref w3),some (.ref cc),none] _ ?_
  clear hx
  have W26:=W25.same m26
  have R26:=R25.same m26
  refine G3 fun nx8 hx=>?_
  walk_at "e"
  refine⟨b,p,q,cc,pc,qc,kvs,kvc,W0,C,rfl,⟨W26.up (by decide),hC.up (by decide),sG W26.len h6 W26.ends⟩,fun v3 H27 m27 lk3=>?_⟩
  have W27:=W26.same m27
  have R27:=R26.same m27
  have C27:=hC.same m27
  have m2527:=m26.trans m27
  have PW27:=PW25.same m2527
  have RW27:=RW25.same m2527
  have f327:=m2527 _ _ f325
  walk_at "e"
  refine hx [some (.ref a),some (.ref lcs),some (.ref lk),some (.ref b),some (.ref b'),some (.ref w3),some (.ref cc),some v3] _ ?_
  clear hx W25 R25 PW25 RW25 f225 fk25 f325
  refine G3 fun nx9 hx=>?_
  walk_at "e"
  refine⟨d6 (by simp),fun w4 nw4=>?_⟩
  obtain⟨H28,e28,f28,m28,_⟩:=b5 (o:= .lst [.ref b,.ref b']) nw4
  rw[e28]
  have W28:=W27.same m28
  have R28:=R27.same m28
  have C28:=C27.same m28
  have PW28:=PW27.same m28
  have RW28:=RW27.same m28
  have f328:=m28 _ _ f327
  walk_at "e"
  refine .inr ⟨[true,true],⟨w4,w3,[.ref b,.ref b'],[.ref w1,.ref w2],rfl,rfl,.inr ⟨SqL.of f28,SqL.of f328⟩,rfl,rfl,fun j x y bb hx hy hb=>?_⟩,?_⟩
  ·match j,hx,hy,hb with
   |0,hx,hy,hb=>
    cases hx;cases hy;cases hb
    exact kD W28.at_.tup PW28.at_.tup (uG W28.hp PW28.hp (List.Perm.refl _) (y8 W28.nd)) (uI W28.hq PW28.hq W28.at_.ts PW28.at_.ts (List.Perm.refl _) (F8 W28.nd)) _
   |1,hx,hy,hb=>
    cases hx;cases hy;cases hb
    exact kD R28.at_.tup RW28.at_.tup (uG R28.hp RW28.hp (List.Perm.refl _) (y8 R28.nd)) (uI R28.hq RW28.hq R28.at_.ts RW28.at_.ts (List.Perm.refl _) (F8 R28.nd)) _
   |j+2,hx,_,_=>cases hx
  rw[show(!([true,true]:List Bool).all id)=false from rfl]
  clear W27 R27 C27 PW27 RW27 f327 PW28 RW28 f328 f28 e28
  have hbC:C.pts.length=W0.pts.length→C.ts.length=W0.ts.length→gB C.pts.length C.ts.length W0.pts.length W0.ts.length≤1000000:=fun z1 z2=>by
   have y:=W28.len
   rw[y7] at y
   exact sG (by rw[y7];omega) (by omega) C28.ends z1 z2
  rcases lk3.none W26.nd W26.ends with⟨rfl,nlk⟩|⟨row3,d3,rfl,hd3,hr3,ft3,lik3⟩
  ·walk_at "e"
   refine⟨cc,pc,qc,b,p,q,kvc,kvs,C,W0,rfl,⟨C28.up (by decide),W28.up (by decide),hbC⟩,fun v4 H29 m29 lk4=>?_⟩
   have W29:=W28.same m29
   have R29:=R28.same m29
   have C29:=C28.same m29
   rcases lk4.none C28.nd C28.ends with⟨rfl,_⟩|⟨_,_,_,_,_,_,z⟩
   ·walk_at "e"
    refine bK (fun z=>absurd (by simp) z) (fun _=>?_)
    walk_at "e"
    refine hx [some (.ref a),some (.ref lcs),some (.ref lk),some (.ref b),some (.ref b'),some (.ref w3),some (.ref cc),some .non] _ ?_
    clear hx
    walk_at "r"
    refine L9 (fun _=>?_) (fun z=>absurd z (by simp))
    walk_at "r"
    refine jY C29 W29 nqW (Like.self W29.nd W29.ends) nlk ?_
    walk_at "r"
    refine jY C29 R29 nqR lik nlk ?_
    exact k _
   ·exact absurd (Like.symm C28.nd C28.ends z) nlk
  ·walk_at "e"
   refine⟨cc,pc,qc,b,p,q,kvc,kvs,C,W0,rfl,⟨C28.up (by decide),W28.up (by decide),hbC⟩,fun v4 H29 m29 lk4=>?_⟩
   have W29:=W28.same m29
   have R29:=R28.same m29
   have C29:=C28.same m29
   rcases lk4.none C28.nd C28.ends with⟨_,z⟩|⟨row4,d4,rfl,hd4,hr4,ft4,lik4⟩
   ·exact absurd (Like.symm W28.nd W28.ends lik3) z
   ·walk_at "e"
    refine bK (fun z=>absurd (by simp) z) (fun _=>?_)
    walk_at "e"
    refine hx [some (.ref a),some (.ref lcs),some (.ref lk),some (.ref b),some (.ref b'),some (.ref w3),some (.ref cc),some (.ref d3)] _ ?_
    clear hx
    walk_at "r"
    refine L9 (fun z=>absurd z (by simp)) (fun _=>?_)
    walk_at "r"
    refine⟨b,p,q,cc,pc,qc,d3,kvs,kvc,W0,C,_,rfl,W29.up (by decide),C29.up (by decide),lik3.1,lik3.2.1,(m28.trans m29) _ _ hd3,bV hr3,ft3,fun H30 m30=>?_⟩
    walk_at "r"
    refine⟨b,p,q,kvs,W0,rfl,(W29.same m30).up (by decide),fun l1 H31 ts1 _ m31 fl1 nt1 pm1 cV=>?_⟩
    walk_at "r"
    refine⟨cc,pc,qc,kvc,C,rfl,(C29.same (m30.trans m31)).up (by decide),fun l2 H32 ts2 _ m32 fl2 nt2 pm2 cM=>?_⟩
    refine vS (m32 _ _ fl1) fl2 (fun t ht=>(nt1 t ht).mono m32.le) nt2 ?_ (k _)
    exact U2 (fun x y h1 h2=>qT (rZ h2 h1)) (pm1.trans ((sO ft3 lik3.1 lik3.2.1 W29.ends).trans pm2.symm)) cV cM
end
theorem all_mk {l:PySem.W.OpenLaw}{w:World}{K:PySem.W.Frag}{h:Heap}{mg:Str→Option Value}{fa f0 f1 f2 f3 f4 f5 f6 f7 f8 f9 f10 f11 f12 f13 f14 f15 f16 f17 f18 f19 f20 f21 f22 f23 f24 f25:Addr}{od3 an3:Option Addr}{sl3:Array (Option Value)}{oc3 kV3 dc3 pm3 cd3 ct3:Value}{T3:Addr}{tc3:Value}{td3:Option Addr}{tn3:Nat}{ts3:Array (Option Value)}(X:K.In h)(G:h.Ns mainGlobals mg)(hfa:mg "law"=some (.ref fa))
  (a0:FnIn K "things" cj f0)
  (a1:FnIn K "hold" jk f1)
  (a2:FnIn K "tie_renamed" L8 f2)
  (a3:PySem.W.nsIn K mainGlobals "likeness"=some (some (.ref f3))) (l3:K.lookup f3=some ⟨oc3,od3,.func (PySem.W.fnOf "likeness" "likeness" (D9 F0) (C1 F0) (d8 F0) (.ref T3) kV3 dc3 pm3 an3 cd3 ct3),sl3⟩) (c3:PySem.W.codeIn K cd3 "likeness"=true) (k3:PySem.W.keepIn K (.ref f3)=true) (t3:K.lookup T3=some ⟨tc3,td3,.seq #[Value.none] tn3,ts3⟩)
  (a4:FnIn K "looks" ez f4)
  (a5:FnIn K "tie_looks" S0 f5)
  (a6:FnIn K "first_found" L4 f6)
  (a7:FnIn K "found" eR f7)
  (a8:FnIn K "may_be" cz f8)
  (a9:FnIn K "point_choices" F9 f9)
  (a10:FnIn K "tie_places" O6 f10)
  (a11:FnIn K "enough" cf f11)
  (a12:FnIn K "lines" fu f12)
  (a13:FnIn K "images" cb f13)
  (a14:FnIn K "tie_choices" L6 f14)
  (a15:FnIn K "has_room" X7 f15)
  (a16:FnIn K "_law_cells" O4 f16)
  (a17:FnIn K "_law_cell_at" K0 f17)
  (a18:FnIn K "_law_names" O0 f18)
  (a19:FnIn K "_law_kinds" O8 f19)
  (a20:FnIn K "_law_web" X8 f20)
  (a21:FnIn K "_law_renamed" K3 f21)
  (a22:FnIn K "_law_changed" J0 f22)
  (a23:FnIn K "_law_walked" L7 f23)
  (a24:FnIn K "_law_counted" J6 f24)
  (a25:FnIn K "law" nN f25)
  (z_all:PySem.W.nsIn K mainGlobals "all"=some none)
  (z_dict:PySem.W.nsIn K mainGlobals "dict"=some none)
  (z_int:PySem.W.nsIn K mainGlobals "int"=some none)
  (z_isinstance:PySem.W.nsIn K mainGlobals "isinstance"=some none)
  (z_len:PySem.W.nsIn K mainGlobals "len"=some none)
  (z_list:PySem.W.nsIn K mainGlobals "list"=some none)
  (z_max:PySem.W.nsIn K mainGlobals "max"=some none)
  (z_range:PySem.W.nsIn K mainGlobals "range"=some none)
  (z_reversed:PySem.W.nsIn K mainGlobals "reversed"=some none)
  (z_sorted:PySem.W.nsIn K mainGlobals "sorted"=some none)
  (z_tuple:PySem.W.nsIn K mainGlobals "tuple"=some none)
  (z_zip:PySem.W.nsIn K mainGlobals "zip"=some none)
  :
  ∃fd:FuncData,(∀(s:Shared) (v:Value),BindsTo s fd ⟨[v],[]⟩ [("_law_script",v)])∧∀base:Heap,K.In base→base.Ns mainGlobals mg→A6 l.prog w K mg base D5 9 fa fd ["_law_script"] (fm K):=by
 have T:Txt K mg:=⟨PySem.W.mg_none_of X G z_all,PySem.W.mg_none_of X G z_dict,PySem.W.mg_none_of X G z_int,PySem.W.mg_none_of X G z_isinstance,PySem.W.mg_none_of X G z_len,PySem.W.mg_none_of X G z_list,PySem.W.mg_none_of X G z_max,PySem.W.mg_none_of X G z_range,PySem.W.mg_none_of X G z_reversed,PySem.W.mg_none_of X G z_sorted,PySem.W.mg_none_of X G z_tuple,PySem.W.mg_none_of X G z_zip⟩
 refine xn X G hfa a25 (fun{base f fd} F=>?_) fun _ _ _ _ _ _ s v=> .of_eq rfl
 have E1:au l.prog w K mg base:=u6 X G a0 (fun F=>nH T F) (by walk_at "b")
 have jI:oF l.prog w K mg base:=u6 X G a1 (fun F=>rR T F) (by walk_at "b")
 have L5:V6 l.prog w K mg base:=u6 X G a2 (fun F=>bP T F) (by walk_at "b")
 have N4:cH l.prog w K mg base:=u6 X G a8 (fun F=>lq T F) (by walk_at "b")
 have N3:cF l.prog w K mg base:=u6 X G a11 (fun F=>lX T F) (by walk_at "b")
 have N8:Z6 l.prog w K mg base:=u6 X G a16 (fun F=>cO T F) (by walk_at "b")
 have K1:S3 l.prog w K mg base:=u6 X G a17 (fun F=>aY T F) (by walk_at "b")
 have G5:ab l.prog w K mg base:=u6 X G a18 (fun F=>cS T F) (by walk_at "b")
 have O2:Y8 l.prog w K mg base:=u6 X G a19 (fun F=>cZ T F) (by walk_at "b")
 have X6:cD l.prog w K mg base:=u6 X G a20 (fun F=>gy T F) (by walk_at "b")
 have G9:R6 l.prog w K mg base:=u6 X G a21 (fun F=>bp T F) (by walk_at "b")
 have I9:R7 l.prog w K mg base:=u6 X G a22 (fun F=>ba T F) (by walk_at "b")
 have C7:U6 l.prog w K mg base:=u6 X G a23 (fun F=>cu T F) (by walk_at "b")
 have D8:S6 l.prog w K mg base:=u6 X G a24 (fun F=>bo T F) (by walk_at "b")
 have T4:aL l.prog w K mg base:=u6 X G a5 (fun F=>fz T jI F) (by walk_at "b")
 have G1:P8 l.prog w K mg base:=u6 X G a9 (fun F=>aD T N4 F) (by walk_at "b")
 have N7:Z3 l.prog w K mg base:=u6 X G a10 (fun F=>de T N4 F) (by walk_at "b")
 have B2:L3 l.prog w K mg base:=u6 X G a14 (fun F=>cG T L5 F) (by walk_at "b")
 have Y3:kZ l.prog w K mg base:=u6 X G a4 (fun F=>qw T T4 F) (by walk_at "b")
 have X9:cq l.prog w K mg base:=u6 X G a15 (fun F=>iy T N3 B2 F) (by walk_at "b")
 have cm:ir l.prog w K mg base:=u6 X G a13 (fun F=>mL T E1 B2 X9 F) (by walk_at "b")
 have fF:kP l.prog w K mg base:=u6 X G a12 (fun F=>qi T E1 cm F) (by walk_at "b")
 have fE:kY l.prog w K mg base:=u6 X G a7 (fun F=>oA T G1 N3 N7 E1 fF F) (by walk_at "b")
 have F2:V7 l.prog w K mg base:=u6 X G a6 (fun F=>cv T fE F) (by walk_at "b")
 have F3:=rW (st:=F0) l3 c3 k3
 have bY:V0 l.prog w K mg base D5 8 "likeness" ["web","other","fixed"] [] (F4 K):=⟨f3,_,[],aM T F2 Y3 F3,PySem.W.mg_of X G a3,k3,fun s us hX hl=>(match us,(by simpa using hl:us.length=3) with|[_,_,_],_=>PySem.W.binds_K hX rfl t3 rfl rfl rfl),.nil⟩
 have C0:V0 l.prog w K mg base D5 8 "likeness" ["web","other","fixed"] [.non] (F4 K):=⟨f3,_,[Value.none],aM T F2 Y3 F3,PySem.W.mg_of X G a3,k3,fun s us hX hl=>(match us,(by simpa using hl:us.length=2) with|[_,_],_=>PySem.W.binds_K hX rfl t3 rfl rfl rfl),.cons rfl .nil⟩
 exact wg T K1 O2 X6 G5 N8 G9 C7 bY C0 I9 D8 F
theorem walk {l:PySem.W.OpenLaw}{q:Program}{loose:List Str}{XP:(Str→Option Value)→Heap→Prop}{YP:World→Heap→Prop}{d:DefRec}{K:Params→PySem.W.Frag}(hn:l.most=some 63)(hdf:d.params.defaults=[])
  (hY:∀(w:World) (h:Heap),YP w h→(K w.params).In h)
  (F:∀(w:World) (mg:Str→Option Value) (fa:Addr) (h:Heap),(K w.params).In h→h.Ns mainGlobals mg→mg d.name=some (.ref fa)→
   ∃fd:FuncData,(∀(s:Shared) (u:Value),BindsTo s fd ⟨[u],[]⟩ [("_law_script",u)])∧∀base:Heap,(K w.params).In base→base.Ns mainGlobals mg→A6 l.prog w (K w.params) mg base D5 9 fa fd ["_law_script"] (fm (K w.params))):
  PySem.W.WalkO q loose XP YP l.row.toRowW d [] (fun f vs=>PySem.call f vs):=
 L2.walk_of (n:=63) (k:=9) (x:="_law_script") (CX:=fun _=>D5) (sp:=fun w=>fm (K w.params)) hn (by decide) hdf ⟨rfl,by decide,by decide⟩ hY F (fun _ _ a ns hl _ hS=>⟨a,ns,rfl,hS,hl,fun _=>rfl⟩) fun _ _ _ _ _ z=>z
end K15
namespace PySem.W.Fast
def tw12348322472202353716:=True
def tw13506849001932773136:=True
def tw5841838463520457593:=True
def tw18395874220757948118:=True
def tw10126687475366971486:=True
def tw5301144099830476398:=True
def tw6056772865321982980:=True
def tw16694337454774265973:=True
def tw12282991972082749483:=True
def tw7018788558065996502:=True
def tw15567195025798013435:=True
def tw11619422990910248632:=True
def tw15764627201957198335:=True
def tw4577875981218126996:=True
def tw573451127261917612:=True
def tw7810021036528687780:=True
def tw14324648412884507329:=True
def tw8671656527741889665:=True
def tw10867321758785472458:=True
def tw5662801801227561325:=True
def tw17424150349441804260:=True
def tw16888219945348323370:=True
def tw1875284293177299478:=True
def tw15336631200895109561:=True
def tw1313587584819223059:=True
def tw17071181678303502838:=True
def tw4349932894795345004:=True
def tw3498498283835701380:=True
def tw17838285090316938879:=True
def tw16640588629071937548:=True
def tw15484532640552259217:=True
def tw4195822876066188393:=True
def tw6065712514481749660:=True
def tw3465746580590498191:=True
def tw7312438860038335797:=True
def tw15148347957530423018:=True
def tw9815383471805463783:=True
def tw7101100518686716043:=True
def tw9236981975452847255:=True
def tw6944175459949172203:=True
def tw5364296262771886768:=True
def tw12114246654754887329:=True
def tw9037030086238356165:=True
def tw5842614594186337018:=True
def tw17838120112576783103:=True
def tw12662106597153211430:=True
def tw5978032453550371528:=True
def tw1077597727506441713:=True
def tw1572090451616536495:=True
def tw14118164616806274315:=True
def tw18279695055372190815:=True
def tw8994474051415293382:=True
def tw15221713413831838143:=True
def tw12603708028016784348:=True
def tw14057884639134607018:=True
def tw11836288193611170052:=True
def tw10454776422880938281:=True
def tw18242590769944190572:=True
def tw815507197543843914:=True
def tw5843744958220409270:=True
def tw10159632809572733128:=True
def tw6754377855902374519:=True
def tw7572727312730880861:=True
def tw14443385988262468290:=True
def tw4178202421770311521:=True
def tw11040604695260768513:=True
def tw2087826623584888102:=True
def tw15475290063353591440:=True
def tw7119972684117190456:=True
def tw7621947393476833567:=True
def tw1600684352521801088:=True
def tw5892004075292065948:=True
def tw498101237188316936:=True
end PySem.W.Fast
open PySem PySem.W PyProof.Rows
local macro_rules| `(tactic|walk_at "F")=> `(tactic|(refine' L2.FnIn.mk' ?a ?l ?c ?k;(case a=>k_is);(case l=>k_is);(case c=>k_is);(case k=>k_is)))
set_option maxRecDepth 100000 in
set_option maxHeartbeats 0 in
theorem PySem.Challenge.cw_gluework_k15_likeness_found_holds : PySem.Challenge.rw_gluework_k15_likeness_found.Holds := by
 w_on;o_law;k_head;(case hw=>w_witness2)
 k_fill
 refine K15.walk (l:=PySem.Challenge.rw_gluework_k15_likeness_found) rfl rfl (fun w h Y=>PySem.W.kIn_of Y) ?F
 case F=>
  intro w mg fa h KX G hmg
  refine' K15.all_mk KX G hmg ?a0 ?a1 ?a2 ?a3 ?l3 ?c3 ?k3 ?t3 ?a4 ?a5 ?a6 ?a7 ?a8 ?a9 ?a10 ?a11 ?a12 ?a13 ?a14 ?a15 ?a16 ?a17 ?a18 ?a19 ?a20 ?a21 ?a22 ?a23 ?a24 ?a25 ?z_all ?z_dict ?z_int ?z_isinstance ?z_len ?z_list ?z_max ?z_range ?z_reversed ?z_sorted ?z_tuple ?z_zip
  (case a0=>walk_at "F")
  (case a1=>walk_at "F")
  (case a2=>walk_at "F")
  (case a3|l3|c3|k3|t3=>k_is)
  (case a4=>walk_at "F")
  (case a5=>walk_at "F")
  (case a6=>walk_at "F")
  (case a7=>walk_at "F")
  (case a8=>walk_at "F")
  (case a9=>walk_at "F")
  (case a10=>walk_at "F")
  (case a11=>walk_at "F")
  (case a12=>walk_at "F")
  (case a13=>walk_at "F")
  (case a14=>walk_at "F")
  (case a15=>walk_at "F")
  (case a16=>walk_at "F")
  (case a17=>walk_at "F")
  (case a18=>walk_at "F")
  (case a19=>walk_at "F")
  (case a20=>walk_at "F")
  (case a21=>walk_at "F")
  (case a22=>walk_at "F")
  (case a23=>walk_at "F")
  (case a24=>walk_at "F")
  (case a25=>walk_at "F")
  (case z_all|z_dict|z_int|z_isinstance|z_len|z_list|z_max|z_range|z_reversed|z_sorted|z_tuple|z_zip=>k_is)
