import PyProof.Rows.All
import Wide.All
import OpenK.AllK
import Wide.FinOn
import PyProof.EqAt
import PyProof.EqKinds
import PyProof.TupleCall
import PyProof.NeKinds
import PyProof.AttrMissHeap
import PyProof.ExcClass3
import PyProof.RulesAs
import PyProof.Rows.FStr
import OpenK.KOwn
import PyProof.NsDelKeeps
import PyProof.Rows.Catch
import PyProof.Rows.SetFrom
import PyProof.SetRoads
import PyProof.FactsAll.NoneType
import PyProof.Rows.StrNews2
import PyProof.StrLawsTight
import PyProof.StrLawsNeg
import KE.KRevIter
import PyProof.ZipIter
import KE.KItemsList
import PyProof.MinMaxWalk
import PyProof.WalksMore
import PyProof.FString5
import PyProof.Rows.SortShellK
import KE.KSortKey
import PySem.Challenge.RW_gluework_k14_matches_renamed
set_option Elab.async false
set_option linter.all false
set_option maxRecDepth 100000
namespace L2
open PySem PySem.Spec PyProof.Rows
abbrev g4:=Sum Int Str
def S8:g4→Value→Bool
 | .inl k,v=>Value.isInt k v
 | .inr x,v=>Value.isStrOf x v
def xT (w:World):g4→Int
 | .inl k=>hashInt k
 | .inr x=>hashStr w x
theorem j6:∀{k:g4} {v:Value},S8 k v=true→(∃i t,k=Sum.inl i∧v=Value.int i t)∨(∃x t,k=Sum.inr x∧v=Value.str x t)
 | .inl i,v,h=>by
  obtain⟨t,e⟩:=Value.isInt_shape (k:=i) (v:=v) h
  exact .inl ⟨i,t,rfl,e⟩
 | .inr x,v,h=>by
  obtain⟨t,e⟩:=Value.isStrOf_shape (x:=x) (v:=v) h
  exact .inr ⟨x,t,rfl,e⟩
theorem kh (i:Int)(t:Tok):S8 (.inl i) (.int i t)=true:=by simp [S8,Value.isInt]
theorem lG (x:Str)(t:Tok):S8 (.inr x) (.str x t)=true:=by simp [S8,Value.isStrOf]
theorem nz (a b:Int):decide ((Sum.inl a:g4)=Sum.inl b)=(a==b):=by
 by_cases e:a=b
 ·subst e;simp
 ·have h:¬(Sum.inl a:g4)=Sum.inl b:=fun q=>e (Sum.inl.inj q)
  rw[decide_eq_false h]
  exact(beq_eq_false_iff_ne.mpr e).symm
theorem ou (a b:Str):decide ((Sum.inr a:g4)=Sum.inr b)=decide (a=b):=by
 by_cases e:a=b
 ·subst e;simp
 ·have h:¬(Sum.inr a:g4)=Sum.inr b:=fun q=>e (Sum.inr.inj q)
  rw[decide_eq_false h,decide_eq_false e]
theorem pE (a:Int)(b:Str):decide ((Sum.inl a:g4)=Sum.inr b)=false:=decide_eq_false (fun q=>nomatch q)
theorem oZ (a:Str)(b:Int):decide ((Sum.inr a:g4)=Sum.inl b)=false:=decide_eq_false (fun q=>nomatch q)
def h8 (prog:Program)(w:World):PySem.KeyKind prog w g4 where
 is:=S8
 hash:=xT w
 inj:=fun v a b ha hb=>by
  rcases j6 ha with⟨i,t,rfl,rfl⟩|⟨x,t,rfl,rfl⟩
  ·rcases j6 hb with⟨j,u,rfl,e⟩|⟨y,u,rfl,e⟩
   ·injection e with e1 _;rw[e1]
   ·exact nomatch e
  ·rcases j6 hb with⟨j,u,rfl,e⟩|⟨y,u,rfl,e⟩
   ·exact nomatch e
   ·injection e with e1 _;rw[e1]
 byValue:=fun k v h=>by
  rcases j6 h with⟨i,t,rfl,rfl⟩|⟨x,t,rfl,rfl⟩<;>rfl
 pyHash:=fun hv h=>by
  rcases j6 hv with⟨i,t,rfl,rfl⟩|⟨x,t,rfl,rfl⟩
  ·exact wpAny_pyHash_int h
  ·exact wpAny_pyHash_str h
 eqBool:=fun hu hv h=>by
  rcases j6 hu with⟨i,t,rfl,rfl⟩|⟨x,t,rfl,rfl⟩
  ·rcases j6 hv with⟨j,u,rfl,rfl⟩|⟨y,u,rfl,rfl⟩
   ·rw[nz] at h;exact wpAny_eqBool_int h
   ·rw[pE] at h;exact SeqAt.EqAt.int_str i t y u _ _ _ _ h
  ·rcases j6 hv with⟨j,u,rfl,rfl⟩|⟨y,u,rfl,rfl⟩
   ·rw[oZ] at h;exact SeqAt.EqAt.str_int x t j u _ _ _ _ h
   ·rw[ou] at h;exact wpAny_eqBool_str h
 «strs»:=fun k x t v h=>by
  rcases j6 h with⟨i,u,rfl,e⟩|⟨y,u,rfl,e⟩
  ·exact nomatch e
  ·injection e with e1 _
   subst e1
   cases v<;>rfl
theorem gd (prog:Program)(w:World)(i:Int)(t:Tok):(h8 prog w).is (.inl i) (.int i t)=true:=kh i t
theorem gK (prog:Program)(w:World)(x:Str)(t:Tok):(h8 prog w).is (.inr x) (.str x t)=true:=lG x t
end L2
namespace L2
open PySem PySem.Spec PyProof.Rows
inductive V where
 |non|bl (b:Bool)|int (i:Int)|str (x:Str)|byt (b:Array UInt8)|flt (b:UInt64)|ref (a:Addr)|ty (n:String)
 deriving DecidableEq
def RelV:V→Value→Prop
 | .non,u=>u=Value.none
 | .bl b,u=>u=Value.bool b
 | .int i,u=>∃t,u=Value.int i t
 | .str x,u=>∃t,u=Value.str x t
 | .byt b,u=>∃t,u=Value.bytes b t
 | .flt b,u=>∃t,u=Value.float b t
 | .ref a,u=>u=Value.ref a
 | .ty n,u=>u=Value.type n
abbrev Vals:List V→List Value→Prop:=Paired RelV
theorem Vals.length {xs:List V}{us:List Value}(r:Vals xs us):xs.length=us.length:=Paired.length r
theorem Vals.get:∀{xs:List V} {us:List Value} {i:Nat} {x:V},Vals xs us→xs[i]?=some x→∃u,us[i]?=some u∧RelV x u
 |_,_,_,_,.nil,e=>by simp at e
 |_,_,0,_,.cons r _,e=>by simp at e;subst e;exact⟨_,rfl,r⟩
 |_,_,i+1,x,.cons _ t,e=>by
  obtain⟨u,h1,h2⟩:=Vals.get (i:=i) (x:=x) t (by simpa using e)
  exact⟨u,by simpa using h1,h2⟩
theorem Vals.set {x:V}{u:Value}(r:RelV x u):∀{xs:List V} {us:List Value} (i:Nat),Vals xs us→Vals (xs.set i x) (us.set i u)
 |_,_,_,.nil=> .nil
 |_,_,0,.cons _ t=> .cons r t
 |_,_,i+1,.cons q t=> .cons q (Vals.set r i t)
theorem Vals.append:∀{xs ys:List V} {us ws:List Value},Vals xs us→Vals ys ws→Vals (xs++ys) (us++ws)
 |_,_,_,_,.nil,s=>s
 |_,_,_,_,.cons r t,s=> .cons r (Vals.append t s)
theorem Vals.take:∀{xs:List V} {us:List Value} (n:Nat),Vals xs us→Vals (xs.take n) (us.take n)
 |_,_,0,_=> .nil
 |_,_,_+1,.nil=> .nil
 |_,_,n+1,.cons r t=> .cons r (Vals.take n t)
theorem Vals.drop:∀{xs:List V} {us:List Value} (n:Nat),Vals xs us→Vals (xs.drop n) (us.drop n)
 |_,_,0,r=>r
 |_,_,_+1,.nil=> .nil
 |_,_,n+1,.cons _ t=>Vals.drop n t
def RelO:Option V→Option Value→Prop
 |some v,some u=>RelV v u
 |none,none=>True
 |_,_=>False
def KV {κ:Type}:List (κ×V)→List (κ×Value)→Prop:=Paired fun(p:κ×V) (q:κ×Value)=>p.1=q.1∧RelV p.2 q.2
def kV:g4→V
 | .inl i=> .int i
 | .inr x=> .str x
inductive HO where
 |lst (xs:List V)
 |tup (xs:List V)
 |dK (kvs:List (g4×V))|dT (kvs:List (List g4×V))
 |set (S:Int→Bool) (n:Nat)
 |ins (C dx:Addr) (fs:List (Str×V))
 |own (x:Addr)
 |xd (fs:List (Str×V))
 |met (f x:Addr)
 |rng (lo hi:Int)
 |frz (o:Obj) (u:HO)
 |tbl (ps:Array Value)
 |ext (φ:Heap→Prop)
abbrev Hp:=Addr→Option HO
def i6 (H:Hp)(a:Addr)(o:HO):Hp:=fun b=>if b=a then some o else H b
theorem c8 {H:Hp}{a:Addr}{o:HO}:i6 H a o a=some o:=by unfold i6;rw[if_pos rfl]
theorem b0 {H:Hp}{a b:Addr}{o:HO}(h:b≠a):i6 H a o b=H b:=by unfold i6;rw[if_neg h]
theorem sv {H:Hp}{a b:Addr}{o u:HO}(h:H a=some o)(h':H b=some u)(d:o≠u):a≠b:=by
 intro e;subst e;rw[h] at h';exact d (Option.some.inj h')
theorem b9 {H:Hp}{a b:Addr}{o:HO}(h:H a=some o)(h':H b=none):a≠b:=by
 intro e;subst e;rw[h] at h';cases h'
section
variable (P:Program) (w:World)
def ObjOk (H:Hp)(h:Heap)(a:Addr):HO→Prop
 | .lst xs=>xs.length≤sizeLine∧∃(its:List Value) (n:Nat),Vals xs its∧h.get? a=some {cls:= .type "list",data:= .seq its.toArray n}
 | .tup xs=>xs.length≤sizeLine∧∃its:List Value,Vals xs its∧IsTup h a its.toArray
 | .dK kvs=>kvs.length≤sizeLine∧(a==sysModules)=false∧∃vs,KV kvs vs∧h.DictOf (h8 P w) a vs
 | .dT kvs=>kvs.length≤sizeLine∧(a==sysModules)=false∧∃xs:List (List g4×Addr×Value),
   Paired (fun(p:List g4×V) (q:List g4×Addr×Value)=>p.1=q.1∧H q.2.1=some (.tup (p.1.map kV))∧RelV p.2 q.2.2) kvs xs∧
   ∃o es ep,h.get? a=some o∧o.ExactDict∧o.data= .dict es ep∧es.toList=xs.map (entryOfKey (tupleKind (h8 P w)))∧(xs.map (·.1)).Nodup
 | .set S n=>h.SetOf (intKind P w) a S n
 | .ins C dx fs=>H dx=some (.own a)∧fs.length≤1000∧dx≠a∧h.get? a=some (PySem.W.instObj C dx)∧
   ∃mA,h.Ns1 dx mA∧(∀f,RelO (fs.lookup f) (mA f))∧PySem.Within mA (fs.map (·.1))
 | .own _=>∃o,h.get? a=some o
 | .xd fs=>∃mA,h.Ns1 a mA∧∀f,RelO (fs.lookup f) (mA f)
 | .rng lo hi=>∃t u v,h.get? a=some {cls:= .type "range",data:= .fields #[.int lo t,.int hi u,.int 1 v]}
 | .frz o u=>h.get? a=some o∧ObjOk H h a u
 | .tbl ps=>h.get? a=some {cls:= .none,data:= .fields ps}
 | .met f x=>h.get? a=some (PySem.W.methodObj (.ref f) (.ref x))
 | .ext φ=>φ h∧(∃o,h.get? a=some o)∧∀h1 h2:Heap,φ h1→(∀o,h1.get? a=some o→h2.get? a=some o)→φ h2
def HOk (H:Hp)(h:Heap):Prop:=∀a o,H a=some o→ObjOk P w H h a o
end
section
variable {P:Program} {w:World} {H H':Hp} {h h':Heap} {a:Addr} {o:HO}
theorem ObjOk.lt (x:ObjOk P w H h a o):a<h.objs.size:=by
 cases o with
 |lst xs=>obtain⟨_,_,_,_,e⟩:=x;exact Heap.lt_size e
 |tup xs=>obtain⟨_,_,_,p⟩:=x;exact p.lt
 |dK kvs=>obtain⟨_,_,_,_,o,_,_,e,_⟩:=x;exact Heap.lt_size e
 |dT kvs=>obtain⟨_,_,_,_,o,_,_,e,_⟩:=x;exact Heap.lt_size e
 |set S n=>obtain⟨o,_,_,_,e,_⟩:=x;exact Heap.lt_size e
 |ins C dx fs=>obtain⟨_,_,_,e,_⟩:=x;exact Heap.lt_size e
 |own y=>obtain⟨_,e⟩:=x;exact Heap.lt_size e
 |xd fs=>obtain⟨_,⟨_,_,_,e,_⟩,_⟩:=x;exact Heap.lt_size e
 |rng lo hi=>obtain⟨_,_,_,e⟩:=x;exact Heap.lt_size e
 |frz ob u=>obtain⟨e,_⟩:=x;exact Heap.lt_size e
 |tbl ps=>exact Heap.lt_size (show h.get? a=some _ from x)
 |met f y=>exact Heap.lt_size (show h.get? a=some _ from x)
 |ext φ=>obtain⟨_,⟨_,e⟩,_⟩:=x;exact Heap.lt_size e
theorem Paired.mapP {α β:Type}{F G:α→β→Prop}:∀{l₁:List α} {l₂:List β},Paired F l₁ l₂→(∀a b,F a b→G a b)→Paired G l₁ l₂
 |_,_,.nil,_=> .nil
 |_,_,.cons r t,f=> .cons (f _ _ r) (Paired.mapP t f)
theorem Paired.imp' {α β:Type}{F G:α→β→Prop}(f:∀a b,F a b→G a b){l₁:List α}{l₂:List β}(r:Paired F l₁ l₂):Paired G l₁ l₂:=Paired.mapP r f
theorem ObjOk.stay (x:ObjOk P w H h a o)(k:∀b u,(b=a∨H b=some (.own a))→h.get? b=some u→h'.get? b=some u)
  (ho:∀b,H b=some (.own a)→H' b=some (.own a)) (ht:∀b xs,H b=some (.tup xs)→H' b=some (.tup xs)):ObjOk P w H' h' a o:=by
 induction o with
 |lst xs=>obtain⟨z,its,n,r,e⟩:=x;exact⟨z,its,n,r,k _ _ (.inl rfl) e⟩
 |tup xs=>obtain⟨z,its,r,ob,e,c⟩:=x;exact⟨z,its,r,ob,k _ _ (.inl rfl) e,c⟩
 |dK kvs=>obtain⟨z,y,vs,r,ob,es,ep,e,c⟩:=x;exact⟨z,y,vs,r,ob,es,ep,k _ _ (.inl rfl) e,c⟩
 |dT kvs=>
  obtain⟨z,y,xs,r,ob,es,ep,e,c⟩:=x
  exact⟨z,y,xs,Paired.mapP r fun p q z=>⟨z.1,ht _ _ z.2.1,z.2.2⟩,ob,es,ep,k _ _ (.inl rfl) e,c⟩
 |set S n=>obtain⟨ob,es,ep,t,e,c⟩:=x;exact⟨ob,es,ep,t,k _ _ (.inl rfl) e,c⟩
 |ins C dx fs=>
  obtain⟨d,z,ne,e,mA,⟨od,es,ep,e2,c⟩,r⟩:=x
  exact⟨ho _ d,z,ne,k _ _ (.inl rfl) e,mA,⟨od,es,ep,k _ _ (.inr d) e2,c⟩,r⟩
 |own y=>obtain⟨ob,e⟩:=x;exact⟨ob,k _ _ (.inl rfl) e⟩
 |xd fs=>obtain⟨mA,⟨od,es,ep,e,c⟩,r⟩:=x;exact⟨mA,⟨od,es,ep,k _ _ (.inl rfl) e,c⟩,r⟩
 |rng lo hi=>obtain⟨t,u,v,e⟩:=x;exact⟨t,u,v,k _ _ (.inl rfl) e⟩
 |frz ob u ih=>obtain⟨e,q⟩:=x;exact⟨k _ _ (.inl rfl) e,ih q⟩
 |tbl ps=>
  have e:h.get? a=some {cls:= .none,data:= .fields ps}:=x
  show h'.get? a=some {cls:= .none,data:= .fields ps}
  exact k a _ (.inl rfl) e
 |met f y=>
  have e:h.get? a=some (PySem.W.methodObj (.ref f) (.ref y)):=x
  show h'.get? a=some (PySem.W.methodObj (.ref f) (.ref y))
  exact k a _ (.inl rfl) e
 |ext φ=>obtain⟨p,⟨o,e⟩,st⟩:=x;exact⟨st _ _ p fun o q=>k _ _ (.inl rfl) q,⟨o,k _ _ (.inl rfl) e⟩,st⟩
theorem HOk.lt (x:HOk P w H h)(e:H a=some o):a<h.objs.size:=(x a o e).lt
theorem HOk.fresh (x:HOk P w H h)(e:h.objs.size≤a):H a=none:=by
 cases q:H a with
 |none=>rfl
 |some u=>exact absurd (Nat.lt_of_lt_of_le (x.lt q) e) (Nat.lt_irrefl _)
theorem HOk.kept (x:HOk P w H h)(k:∀b u,h.get? b=some u→h'.get? b=some u):HOk P w H h':=fun a o e=>
 (x a o e).stay (fun b u _ q=>k b u q) (fun _ q=>q) fun _ _ q=>q
theorem HOk.laid (x:HOk P w H h)(k:∀b u,h.get? b=some u→h'.get? b=some u)(hp:h.objs.size≤a)(new:ObjOk P w (i6 H a o) h' a o):HOk P w (i6 H a o) h':=fun b u e=>by
 have hn:=x.fresh hp
 by_cases hb:b=a
 ·subst hb;rw[c8] at e;cases e;exact new
 ·rw[b0 hb] at e
  exact(x b u e).stay (fun c v _ q=>k c v q) (fun c q=>by rw[b0 (b9 q hn)];exact q) fun c xs q=>by rw[b0 (b9 q hn)];exact q
end
def Rd (H:Hp)(a:Addr)(u:HO):Prop:=H a=some u∨∃o,H a=some (.frz o u)
theorem Rd.ok {P:Program}{w:World}{H:Hp}{h:Heap}{a:Addr}{u:HO}(r:Rd H a u)(x:HOk P w H h):ObjOk P w H h a u:=by
 rcases r with r|⟨o,r⟩
 ·exact x a u r
 ·obtain⟨_,q⟩:=x a _ r
  exact q
def yh:Option HO→Prop
 |some (.lst _)=>True
 |some (.dK _)=>True
 |some (.dT _)=>True
 |some (.set _ _)=>True
 |some (.ins _ _ _)=>True
 |some (.ext _)=>True
 |_=>False
section
variable {P:Program} {w:World} {H:Hp} {h h':Heap} {x e:Addr} {o':HO}
theorem HOk.write (ok:HOk P w H h)(mu:yh (H x))(he:e=x∨H e=some (.own x))(k:∀b u,b≠e→h.get? b=some u→h'.get? b=some u)(heo:∃u,h'.get? e=some u)
  (new:ObjOk P w (i6 H x o') h' x o'):HOk P w (i6 H x o') h':=fun b u q=>by
 have nown:∀c y,H c=some (.own y)→c≠x:=fun c y r z=>by subst z;rw[r] at mu;exact mu
 have ntup:∀c xs,H c=some (.tup xs)→c≠x:=fun c xs r z=>by subst z;rw[r] at mu;exact mu
 by_cases hb:b=x
 ·subst hb;rw[c8] at q;cases q;exact new
 ·rw[b0 hb] at q
  by_cases hbe:b=e
  ·have q':H b=some (.own x):=by
    rcases he with z|z
    ·exact absurd (hbe.trans z) hb
    ·rw[hbe];exact z
   rw[q] at q';cases q'
   obtain⟨v,hv⟩:=heo
   exact⟨v,by rw[hbe];exact hv⟩
  ·refine(ok b u q).stay (fun c v hc r=>k c v ?_ r) (fun c r=>by rw[b0 (nown c b r)];exact r) fun c xs r=>by rw[b0 (ntup c xs r)];exact r
   rcases hc with rfl|hc
   ·exact hbe
   ·rintro rfl
    rcases he with z|z
    ·exact nown c b hc z
    ·rw[hc] at z;cases z;exact hb rfl
end
structure Un (fs ex:List Addr) (H H':Hp) (h h':Heap):Prop where
 keep:∀b o,h.get? b=some o→H b=none→b∉fs→b∉ex→h'.get? b=some o
 slot:∀b o,h.get? b=some o→H b=none→b∈fs→b∉ex→∃sl,h'.get? b=some {o with slots:=sl}
 free:∀b o,h.get? b=some o→H b=none→b∉ex→H' b=none
 there:∀b o,h.get? b=some o→b∉ex→∃o',h'.get? b=some o'
 tups:∀b xs,H b=some (.tup xs)→H' b=some (.tup xs)
 frzs:∀b o u,H b=some (.frz o u)→H' b=some (.frz o u)
 tbls:∀b ps,H b=some (.tbl ps)→∃more,H' b=some (.tbl (ps++more))
section
variable {fs fs' ex ex':List Addr} {H H1 H2:Hp} {h h1 h2 h':Heap} {a x e:Addr} {o:HO}
theorem Un.any (u:Un fs ex H H1 h h1){b:Addr}{ob:Obj}(q:h.get? b=some ob)(n:H b=none)(hx:b∉ex):∃sl,h1.get? b=some {ob with slots:=sl}:=by
 by_cases hb:b∈fs
 ·exact u.slot b ob q n hb hx
 ·exact⟨ob.slots,u.keep b ob q n hb hx⟩
theorem Un.kept (k:∀b u,h.get? b=some u→h'.get? b=some u):Un fs ex H H h h':=
 ⟨fun b ob q _ _ _=>k b ob q,fun b ob q _ _ _=>⟨ob.slots,k b ob q⟩,fun _ _ _ n _=>n,fun b ob q _=>⟨ob,k b ob q⟩,fun _ _ q=>q,fun _ _ _ q=>q,fun _ ps q=>⟨#[],by rw[q];simp⟩⟩
theorem Un.refl:Un fs ex H H h h:=Un.kept fun _ _ q=>q
theorem Un.laid (k:∀b u,h.get? b=some u→h'.get? b=some u)(hp:h.objs.size≤a)(hn:H a=none):Un fs ex H (i6 H a o) h h' where
 keep:=fun b u q _ _ _=>k b u q
 slot:=fun b u q _ _ _=>⟨u.slots,k b u q⟩
 free:=fun b u q n _=>by rw[b0 (Nat.ne_of_lt (Nat.lt_of_lt_of_le (Heap.lt_size q) hp))];exact n
 there:=fun b u q _=>⟨u,k b u q⟩
 tups:=fun b xs q=>by rw[b0 (b9 q hn)];exact q
 frzs:=fun b u xs q=>by rw[b0 (b9 q hn)];exact q
 tbls:=fun b ps q=>⟨#[],by rw[b0 (b9 q hn),q];simp⟩
theorem Un.write (mu:yh (H x))(he:e=x∨H e=some (.own x))(k:∀b u,b≠e→h.get? b=some u→h'.get? b=some u)(heo:∃u,h'.get? e=some u):Un fs ex H (i6 H x o) h h':=by
 have hx:∀b,H b=none→b≠x:=fun b n z=>by subst z;rw[n] at mu;exact mu
 have hb:∀b,H b=none→b≠e:=fun b n z=>by
  subst z
  rcases he with r|r
  ·exact hx b n r
  ·rw[n] at r;cases r
 have hm:∀b u,H b=some u→¬yh (some u)→b≠x:=fun b u q nm z=>by subst z;rw[q] at mu;exact nm mu
 refine⟨fun b u q n _ _=>k b u (hb b n) q,fun b u q n _ _=>⟨u.slots,k b u (hb b n) q⟩,fun b u q n _=>by rw[b0 (hx b n)];exact n,fun b u q _=>?_,
  fun b xs q=>by rw[b0 (hm b _ q fun z=>z)];exact q,fun b u xs q=>by rw[b0 (hm b _ q fun z=>z)];exact q,fun b ps q=>⟨#[],by rw[b0 (hm b _ q fun z=>z),q];simp⟩⟩
 by_cases hbe:b=e
 ·subst hbe;exact heo
 ·exact⟨u,k b u hbe q⟩
end
def yA (h:Heap)(H:Hp):List Addr:=(List.range h.objs.size).filter fun a=>(H a).isSome
def cb (h:Heap)(H:Hp):Heap:=PySem.W.hideAll h (yA h H)
theorem kM (h:Heap)(H:Hp):(cb h H).objs.size=h.objs.size:=PySem.W.hideAll_size _ _
theorem mT {h:Heap}{H:Hp}{b:Addr}{o:Obj}(e:h.get? b=some o)(n:H b=none):(cb h H).get? b=some o:=
 PySem.W.hideAll_get _ e fun hm=>by
  have q:(H b).isSome=true:=(List.mem_filter.mp hm).2
  rw[n] at q;simp at q
theorem rj {h:Heap}{H:Hp}{b:Addr}{o:Obj}(e:(cb h H).get? b=some o):h.get? b=some o∧H b=none:=by
 have e':h.get? b=some o:=PySem.W.of_hideAll (yA h H) e
 refine⟨e',?_⟩
 cases q:H b with
 |none=>rfl
 |some x=>
  have hm:b∈yA h H:=List.mem_filter.mpr ⟨List.mem_range.mpr (Heap.lt_size e'),by simp [q]⟩
  have z:(cb h H).get? b=none:=PySem.W.hideAll_none (yA h H) hm
  rw[z] at e;cases e
def qG (g h:Heap)(L:Addr):List (Addr×Obj):=(List.range h.objs.size).filterMap fun a=>if a=L∨(g.get? a).isSome=true then none else(h.get? a).map fun o=>(a,o)
def O3 (g h:Heap)(L d:Addr):List (Addr×Obj):=(qG g h L).filter fun p=>decide (p.1≠d)
end L2
namespace L2
open PySem PySem.Spec PyProof.Rows
structure Mod (K:PySem.W.Frag) (mg:Str→Option Value) (base:Heap):Prop where
 kin:K.In base
 glob:base.Ns mainGlobals mg
 blt:∃mb,base.Ns builtinsNs mb∧∀x:Str,x≠"__name__"→mb x=bootBuiltins x
 nolimit:base.NoLimit
structure Cx where
 prog:Program
 w:World
 K:PySem.W.Frag
 mg:Str→Option Value
 base:Heap
 A:Around
 N:List Str
 s₀:Shared
 H₀:Hp
 env:Env
 outer:List Env
 stack:List Env
 ex:List Addr
 fn:Str→Bool
 calm:Bool
 pn:List (Addr×Obj)
 xe:Value→Shared→Prop
def fm (l:List Env):List Addr:=l.filterMap (·.frame)
abbrev Cx.fs (X:Cx):List Addr:=fm X.outer
def zj (sc:Scope)(x:Str):Prop:=sc.names.lookup x=some .local∨sc.names.lookup x=some .cell∨sc.names.lookup x=some .free
def sO (sc:Scope)(x:Str):Prop:=sc.names.lookup x=some .local∨sc.names.lookup x=some .cell
def yU (env:Env)(h:Heap)(m:Str→Option Value)(x:Str)(u:Value):Prop:=
 (env.kindOf x=some .local∧m x=some u)∨((env.kindOf x=some .cell∨env.kindOf x=some .free)∧∃c,env.cells.lookup x=some c∧h.IsCell c (some u))
structure Cx.Ok (X:Cx):Prop where
 mod:Mod X.K X.mg X.base
 kind:X.env.scope.kind= .function
 glob:X.env.globals=mainGlobals
 blt:X.env.builtins=builtinsNs
 above:X.s₀.heap.objs.size≤X.env.locals
 inj:∀x y c,X.env.cells.lookup x=some c→X.env.cells.lookup y=some c→x=y
 has:∀x,(X.env.kindOf x=some .cell∨X.env.kindOf x=some .free)→∃c,X.env.cells.lookup x=some c
 cab:∀x c,X.fn x=true→X.env.cells.lookup x=some c→X.s₀.heap.objs.size≤c
 hd:X.calm=true→X.A.handled=none
 frames:X.A.frames=some X.stack
 stk:X.stack=X.outer∨(X.stack=X.env::X.outer∧X.env.frame=some X.env.locals)
 exf:∀b∈X.ex,b≠X.env.locals∧∀x c,X.env.cells.lookup x=some c→c≠b
 bs:∀b o,X.base.get? b=some o→X.s₀.heap.get? b=some o∧X.H₀ b=none
 bsz:X.base.objs.size≤X.s₀.heap.objs.size
 noex:∀b o,X.base.get? b=some o→b∉X.ex
 exfs:∀b∈X.ex,b∉X.fs
 funs:X.s₀.heap.FunFrames X.base X.outer
 frf:∀b∈X.fs,X.H₀ b=none
structure Inv (X:Cx) (pins:List (Addr×Obj)) (σ:List (Option V)) (H:Hp) (s:Shared):Prop where
 ok:X.Ok
 os:s.os=X.s₀.os
 bare:AllBare s.gens
 base:Un X.fs X.ex X.H₀ H X.s₀.heap s.heap
 loc:∃m,s.heap.Ns X.env.locals m∧∀(i:Nat) (x:Str) (v:V),X.N[i]?=some x→σ[i]?=some (some v)→zj X.env.scope x→∃u,RelV v u∧yU X.env s.heap m x u
 cell:∀x c,X.env.cells.lookup x=some c→∃v,s.heap.IsCell c v
 free:H X.env.locals=none
 freeC:∀x c,X.env.cells.lookup x=some c→H c=none
 pin:∀p∈X.pn++pins,s.heap.get? p.1=some p.2∧H p.1=none∧p.1≠X.env.locals∧p.1∉X.fs∧∀v,p.2.data≠ .cell v
 hok:HOk X.prog X.w H s.heap
 len:σ.length=X.N.length
section
variable {X:Cx} {pins:List (Addr×Obj)} {σ:List (Option V)} {H H':Hp} {s:Shared} {h':Heap}
theorem Cx.Ok.nofr (ok:X.Ok){b:Addr}{o:Obj}(e:X.base.get? b=some o):b∉X.fs:=fun hb=>by
 have:=(ok.funs.mem hb).1
 rw[e] at this;cases this
theorem Inv.bs (I:Inv X pins σ H s):∀b o,X.base.get? b=some o→s.heap.get? b=some o∧H b=none:=fun b o e=>
 ⟨I.base.keep b o (I.ok.bs b o e).1 (I.ok.bs b o e).2 (I.ok.nofr e) (I.ok.noex b o e),I.base.free b o (I.ok.bs b o e).1 (I.ok.bs b o e).2 (I.ok.noex b o e)⟩
theorem Inv.bk (I:Inv X pins σ H s):∀b o,X.base.get? b=some o→s.heap.get? b=some o:=fun b o e=>(I.bs b o e).1
theorem Inv.mod (I:Inv X pins σ H s):Mod X.K X.mg X.base:=I.ok.mod
theorem Inv.kIn (I:Inv X pins σ H s):X.K.In s.heap:=I.ok.mod.kin.keeps I.bk
theorem Inv.lt (I:Inv X pins σ H s):X.env.locals<s.heap.objs.size:=let ⟨_,hn,_⟩:=I.loc;hn.lt
theorem Inv.sz (I:Inv X pins σ H s):X.s₀.heap.objs.size≤s.heap.objs.size:=Nat.le_trans I.ok.above (Nat.le_of_lt I.lt)
theorem Inv.nofs (I:Inv X pins σ H s){a:Addr}(h:s.heap.objs.size≤a):a∉X.fs:=fun hb=>by
 obtain⟨_,o,ho,_⟩:=I.ok.funs.mem hb
 exact absurd (Nat.lt_of_lt_of_le (Heap.lt_size ho) (Nat.le_trans I.sz h)) (Nat.lt_irrefl _)
theorem Inv.cne (I:Inv X pins σ H s):∀x c,X.env.cells.lookup x=some c→c≠X.env.locals:=fun x c e z=>by
 obtain⟨v,o,ho,hd⟩:=I.cell x c e
 obtain⟨m,⟨o',es,ep,ho',hd',_⟩,_⟩:=I.loc
 rw[z,ho'] at ho;cases ho;rw[hd'] at hd;cases hd
theorem Inv.funs (I:Inv X pins σ H s):s.heap.FunFrames X.base X.outer:=by
 have all:∀(l:List Env),(∀b∈fm l,b∈X.fs)→X.s₀.heap.FunFrames X.base l→s.heap.FunFrames X.base l:=by
  intro l
  induction l with
  |nil=>intro _ _;trivial
  |cons env r ih=>
   intro hs hl
   obtain⟨hk,⟨L,o,hf,hn,ho,hd⟩,hr⟩:=hl
   have hL:L∈X.fs:=hs L (by unfold fm;rw[List.filterMap_cons,hf];exact List.mem_cons_self)
   obtain⟨sl,e⟩:=I.base.slot L o ho (I.ok.frf L hL) hL fun z=>I.ok.exfs L z hL
   exact⟨hk,⟨L,_,hf,hn,e,hd⟩,ih (fun b hb=>hs b (by unfold fm;rw[List.filterMap_cons,hf];exact List.mem_cons_of_mem _ hb)) hr⟩
 exact all X.outer (fun _ hb=>hb) I.ok.funs
theorem Inv.stack (I:Inv X pins σ H s):s.heap.FunFrames X.base X.stack:=by
 rcases I.ok.stk with e|⟨e,hf⟩
 ·rw[e];exact I.funs
 ·rw[e]
  obtain⟨m,hn,_⟩:=I.loc
  refine .cons (by rw[I.ok.kind];decide) hf hn ?_ I.funs
  exact Heap.get?_none_of_le (Nat.le_trans I.ok.bsz I.ok.above)
theorem Inv.stkSub (I:Inv X pins σ H s):∀b∈fm X.stack,b∈X.env.locals::X.fs:=fun b hb=>by
 rcases I.ok.stk with e|⟨e,hf⟩
 ·rw[e] at hb;exact List.mem_cons_of_mem _ hb
 ·rw[e] at hb
  unfold fm at hb
  rw[List.filterMap_cons,hf] at hb
  exact hb
theorem Inv.stkFree (I:Inv X pins σ H s):∀b∈fm X.stack,H b=none:=fun b hb=>by
 rcases List.mem_cons.mp (I.stkSub b hb) with e|hb
 ·rw[e];exact I.free
 ·obtain⟨_,o,ho,_⟩:=I.ok.funs.mem hb
  exact I.base.free b o ho (I.ok.frf b hb) fun z=>I.ok.exfs b z hb
theorem Inv.step {g':Array GenState}{t':Nat}{d':Drawn}{ch:List Addr}(I:Inv X pins σ H s)
  (hch:∀b∈ch,(b∈X.ex∨X.s₀.heap.objs.size≤b)∧b≠X.env.locals∧(∀x c,X.env.cells.lookup x=some c→c≠b)∧∀p∈X.pn++pins,p.1≠b)
  (keep:∀b o,b≠X.env.locals→b∉X.fs→b∉ch→s.heap.get? b=some o→H b=none→h'.get? b=some o)
  (slot:∀b o,b≠X.env.locals→b∈X.fs→b∉ch→s.heap.get? b=some o→H b=none→∃sl,h'.get? b=some {o with slots:=sl}) (free:∀b o,b∉ch→s.heap.get? b=some o→H b=none→H' b=none)
  (there:∀b o,b∉ch→s.heap.get? b=some o→∃o',h'.get? b=some o')
  (tups:∀b xs,H b=some (.tup xs)→H' b=some (.tup xs)) (frzs:∀b o u,H b=some (.frz o u)→H' b=some (.frz o u)) (tbls:∀b ps,H b=some (.tbl ps)→∃more,H' b=some (.tbl (ps++more)))
  (ns:∀m,s.heap.Ns X.env.locals m→h'.Ns X.env.locals m) (hok:HOk X.prog X.w H' h') (hg:AllBare g'):
  Inv X pins σ H' {s with heap:=h',gens:=g',drawn:=d',toks:=t'}:=by
 have neL:∀b o,X.s₀.heap.get? b=some o→b≠X.env.locals:=fun b o e=>Nat.ne_of_lt (Nat.lt_of_lt_of_le (Heap.lt_size e) I.ok.above)
 have neC:∀b o,X.s₀.heap.get? b=some o→b∉X.ex→b∉ch:=fun b o e hx hb=>by
  rcases(hch b hb).1 with z|z
  ·exact hx z
  ·exact absurd (Nat.lt_of_lt_of_le (Heap.lt_size e) z) (Nat.lt_irrefl _)
 have cellK:∀x c,X.env.cells.lookup x=some c→∀v,s.heap.IsCell c v→h'.IsCell c v:=fun x c e v ⟨o,ho,hd⟩=>by
  have nch:c∉ch:=fun z=>(hch c z).2.2.1 x c e rfl
  by_cases hc:c∈X.fs
  ·obtain⟨sl,q⟩:=slot c o (I.cne x c e) hc nch ho (I.freeC x c e)
   exact⟨_,q,hd⟩
  ·exact⟨o,keep c o (I.cne x c e) hc nch ho (I.freeC x c e),hd⟩
 refine⟨I.ok,I.os,hg,⟨fun b o e n hb hx=>?_,fun b o e n hb hx=>?_,fun b o e n hx=>?_,fun b o e hx=>?_,fun b xs e=>tups b xs (I.base.tups b xs e),fun b o xs e=>frzs b o xs (I.base.frzs b o xs e),fun b ps e=>?_⟩,?_,fun x c e=>?_,?_,fun x c e=>?_,fun p hp=>?_,hok,I.len⟩
 ·exact keep b o (neL b o e) hb (neC b o e hx) (I.base.keep b o e n hb hx) (I.base.free b o e n hx)
 ·obtain⟨sl,e1⟩:=I.base.slot b o e n hb hx
  obtain⟨sl',e2⟩:=slot b _ (neL b o e) hb (neC b o e hx) e1 (I.base.free b o e n hx)
  exact⟨sl',e2⟩
 ·obtain⟨o',e1⟩:=I.base.there b o e hx
  exact free b o' (neC b o e hx) e1 (I.base.free b o e n hx)
 ·obtain⟨o',e1⟩:=I.base.there b o e hx
  exact there b o' (neC b o e hx) e1
 ·obtain⟨m1,e1⟩:=I.base.tbls b ps e
  obtain⟨m2,e2⟩:=tbls b _ e1
  exact⟨m1++m2,by rw[e2,Array.append_assoc]⟩
 ·obtain⟨m,hn,hl⟩:=I.loc
  refine⟨m,ns m hn,fun i x v e1 e2 e3=>?_⟩
  obtain⟨u,r,l⟩:=hl i x v e1 e2 e3
  refine⟨u,r,?_⟩
  rcases l with l|⟨k,c,e,z⟩
  ·exact .inl l
  ·exact .inr ⟨k,c,e,cellK x c e _ z⟩
 ·obtain⟨v,z⟩:=I.cell x c e
  exact⟨v,cellK x c e v z⟩
 ·obtain⟨m,⟨o,_,_,ho,_⟩,_⟩:=I.loc
  exact free _ o (fun z=>(hch _ z).2.1 rfl) ho I.free
 ·obtain⟨v,o,ho,hd⟩:=I.cell x c e
  exact free c o (fun z=>(hch c z).2.2.1 x c e rfl) ho (I.freeC x c e)
 ·obtain⟨e,n,ne,nf,d⟩:=I.pin p hp
  have nch:p.1∉ch:=fun z=>(hch p.1 z).2.2.2 p hp rfl
  exact⟨keep p.1 p.2 ne nf nch e n,free p.1 p.2 nch e n,ne,nf,d⟩
theorem Inv.un {t':Nat}(I:Inv X pins σ H s)(u:Un X.fs [] H H' s.heap h')(hok:HOk X.prog X.w H' h'):Inv X pins σ H' {s with heap:=h',toks:=t'}:=by
 obtain⟨m,⟨o,es,ep,ho,r⟩,_⟩:=id I.loc
 obtain⟨sl,hL⟩:=u.any ho I.free (by simp)
 exact I.step (g':=s.gens) (d':=s.drawn) (ch:=[]) (fun _ z=>nomatch z) (fun b o _ hb _ e n=>u.keep b o e n hb (by simp)) (fun b o _ hb _ e n=>u.slot b o e n hb (by simp)) (fun b o _ e n=>u.free b o e n (by simp)) (fun b o _ e=>u.there b o e (by simp)) u.tups u.frzs u.tbls (fun m' hm=>by
  obtain⟨o',es',ep',ho',r'⟩:=hm
  rw[ho] at ho';cases ho'
  exact⟨_,es',ep',hL,r'⟩) hok I.bare
theorem Inv.call {g':Array GenState}{t':Nat}{d':Drawn}{ch:List Addr}(I:Inv X pins σ H s)(u:Un (fm X.stack) ch H H' s.heap h')(hok:HOk X.prog X.w H' h')(hg:AllBare g')
  (hch:∀b∈ch,(b∈X.ex∨X.s₀.heap.objs.size≤b)∧b≠X.env.locals∧(∀x c,X.env.cells.lookup x=some c→c≠b)∧∀p∈X.pn++pins,p.1≠b):
  Inv X pins σ H' {s with heap:=h',gens:=g',drawn:=d',toks:=t'}:=by
 obtain⟨m,⟨o,es,ep,ho,r⟩,_⟩:=id I.loc
 obtain⟨sl,hL⟩:=u.any ho I.free fun z=>(hch _ z).2.1 rfl
 exact I.step (ch:=ch) hch (fun b o hL hb hc e n=>u.keep b o e n (fun z=>(List.mem_cons.mp (I.stkSub b z)).elim hL hb) hc) (fun b o _ _ hc e n=>u.any e n hc) (fun b o hc e n=>u.free b o e n hc) (fun b o hc e=>u.there b o e hc) u.tups u.frzs u.tbls (fun m' hm=>by
  obtain⟨o',es',ep',ho',r'⟩:=hm
  rw[ho] at ho';cases ho'
  exact⟨_,es',ep',hL,r'⟩) hok hg
theorem Inv.turned {t':Nat}{it:Addr}(I:Inv X pins σ H s)(k:∀b o,b≠it→s.heap.get? b=some o→h'.get? b=some o)(hn:H it=none)(hL:it≠X.env.locals)
  (h1:it∈X.ex∨X.s₀.heap.objs.size≤it) (h2:∀x c,X.env.cells.lookup x=some c→c≠it) (h3:∀p∈X.pn++pins,p.1≠it):Inv X pins σ H {s with heap:=h',toks:=t'}:=by
 have nit:∀b u,H b=some u→b≠it:=fun b u e z=>by rw[z,hn] at e;cases e
 refine I.step (g':=s.gens) (d':=s.drawn) (ch:=[it]) (fun b hb=>?_) (fun b o _ _ hc e _=>k b o (fun z=>hc (by simp [z])) e) (fun b o _ _ hc e _=>⟨o.slots,k b o (fun z=>hc (by simp [z])) e⟩) (fun _ _ _ _ n=>n)
  (fun b o hc e=>⟨o,k b o (fun z=>hc (by simp [z])) e⟩) (fun _ _ e=>e) (fun _ _ _ e=>e) (fun b ps e=>⟨#[],by rw[e];simp⟩) (fun m hm=>?_) (fun b u e=>?_) I.bare
 ·have e:b=it:=by simpa using hb
  subst e
  exact⟨h1,hL,h2,h3⟩
 ·obtain⟨o,es,ep,ho,r⟩:=hm
  exact⟨o,es,ep,k _ o (Ne.symm hL) ho,r⟩
 ·refine(I.hok b u e).stay (fun c v hc q=>k c v ?_ q) (fun _ q=>q) fun _ _ q=>q
  rcases hc with z|z
  ·rw[z];exact nit b u e
  ·exact nit c _ z
theorem Inv.tok (I:Inv X pins σ H s)(t:Nat):Inv X pins σ H {s with toks:=t}:=I.un (h':=s.heap) (t':=t) Un.refl I.hok
theorem Inv.kept {t':Nat}(I:Inv X pins σ H s)(k:∀b u,s.heap.get? b=some u→h'.get? b=some u):Inv X pins σ H {s with heap:=h',toks:=t'}:=I.un (Un.kept k) (I.hok.kept k)
theorem Inv.laid {a:Addr}{o:HO}{t':Nat}(I:Inv X pins σ H s)(k:∀b u,s.heap.get? b=some u→h'.get? b=some u)(hp:s.heap.objs.size≤a)(new:ObjOk X.prog X.w (i6 H a o) h' a o):
  Inv X pins σ (i6 H a o) {s with heap:=h',toks:=t'}:=I.un (Un.laid k hp (I.hok.fresh hp)) (I.hok.laid k hp new)
theorem Inv.write {x e:Addr}{o:HO}{t':Nat}(I:Inv X pins σ H s)(mu:yh (H x))(he:e=x∨H e=some (.own x))(k:∀b u,b≠e→s.heap.get? b=some u→h'.get? b=some u)(heo:∃u,h'.get? e=some u)
  (new:ObjOk X.prog X.w (i6 H x o) h' x o):Inv X pins σ (i6 H x o) {s with heap:=h',toks:=t'}:=I.un (Un.write mu he k heo) (I.hok.write mu he k heo new)
theorem Inv.weak {σ':List (Option V)}(I:Inv X pins σ H s)(hl:σ'.length=σ.length)(w:∀(i:Nat) v,σ'[i]?=some (some v)→σ[i]?=some (some v)):Inv X pins σ' H s:=
 ⟨I.ok,I.os,I.bare,I.base,let ⟨m,hn,hl'⟩:=I.loc;⟨m,hn,fun i x v e1 e2 e3=>hl' i x v e1 (w i v e2) e3⟩,I.cell,I.free,I.freeC,I.pin,I.hok,hl.trans I.len⟩
theorem Inv.pins_of {pins':List (Addr×Obj)}(I:Inv X pins σ H s)(h:∀p∈pins',s.heap.get? p.1=some p.2∧H p.1=none∧p.1≠X.env.locals∧p.1∉X.fs∧∀v,p.2.data≠ .cell v):Inv X pins' σ H s:=
 ⟨I.ok,I.os,I.bare,I.base,I.loc,I.cell,I.free,I.freeC,fun p hp=>(List.mem_append.mp hp).elim (fun z=>I.pin p (List.mem_append_left _ z)) (h p),I.hok,I.len⟩
theorem fg {N:List Str}(hN:N.Nodup){i j:Nat}{x:Str}(a:N[i]?=some x)(b:N[j]?=some x):i=j:=by
 obtain⟨h1,e1⟩:=List.getElem?_eq_some_iff.mp a
 obtain⟨h2,e2⟩:=List.getElem?_eq_some_iff.mp b
 exact(List.getElem_inj hN).mp (e1.trans e2.symm)
theorem dz {M:Model}{A:Around}{E:Value→Shared→Prop}{i:Nat}{x:Str}{v:V}{u:Value}{Q:Unit→Shared→Prop}(I:Inv X pins σ H s)(hN:X.N.Nodup)(hi:X.N[i]?=some x)(hx:sO X.env.scope x)(r:RelV v u)
  (h:∀s',Inv X pins (σ.set i (some v)) H s'→(∃a,Heap.SameBut a s.heap s'.heap∧(a=X.env.locals∨X.env.cells.lookup x=some a))→Q () s') (hf:X.fn x=true∨X.env.scope.names.lookup x=some .local:=by first|exact .inl rfl|exact .inr rfl|assumption):wpAny M A (storeName X.env x u) Q E s:=by
 obtain⟨m,hn,hl⟩:=id I.loc
 have hcls:(X.env.scope.kind== .class||(X.env.scope.kind== .module&&X.env.locals !=X.env.globals))=false:=by rw[I.ok.kind];rfl
 have hiσ:i<σ.length:=by rw[I.len];exact(List.getElem?_eq_some_iff.mp hi).1
 have cne:=I.cne
 have tracked:∀{a:Addr} {h':Heap},(∃o,s.heap.get? a=some o∧H a=none)→Heap.SameBut a s.heap h'→HOk X.prog X.w H h':=fun{a h'} ha hs b ob e=>by
  obtain⟨_,_,hfree⟩:=ha
  refine(I.hok b ob e).stay (fun c w' hc q=>(hs.2 c ?_).trans q) (fun _ q=>q) fun _ _ q=>q
  rintro rfl
  rcases hc with rfl|hc
  ·rw[hfree] at e;cases e
  ·rw[hfree] at hc;cases hc
 rcases hx with hk|hk
 ·refine wpAny_storeName_local hk hn (fun h' hn' hs=>?_) hcls
  obtain⟨oL,_,_,hoL,_⟩:=id hn
  refine h _ ⟨I.ok,I.os,I.bare,⟨fun b o e n hb hx=>?_,fun b o e n hb hx=>?_,I.base.free,fun b o e hx=>?_,I.base.tups,I.base.frzs,I.base.tbls⟩,⟨_,hn',fun j y v' e1 e2 e3=>?_⟩,fun y c e=>?_,I.free,I.freeC,fun p hp=>?_,tracked ⟨oL,hoL,I.free⟩ hs,by simpa using I.len⟩ ⟨_,hs,.inl rfl⟩
  ·exact(hs.2 b (Nat.ne_of_lt (Nat.lt_of_lt_of_le (Heap.lt_size e) I.ok.above))).trans (I.base.keep b o e n hb hx)
  ·obtain⟨sl,e1⟩:=I.base.slot b o e n hb hx
   exact⟨sl,(hs.2 b (Nat.ne_of_lt (Nat.lt_of_lt_of_le (Heap.lt_size e) I.ok.above))).trans e1⟩
  ·obtain⟨o',e1⟩:=I.base.there b o e hx
   exact⟨o',(hs.2 b (Nat.ne_of_lt (Nat.lt_of_lt_of_le (Heap.lt_size e) I.ok.above))).trans e1⟩
  ·by_cases hj:j=i
   ·subst hj
    rw[hi] at e1;cases e1
    rw[List.getElem?_set_self hiσ] at e2
    cases e2
    exact⟨u,r,.inl ⟨hk,by simp⟩⟩
   ·rw[List.getElem?_set_ne (Ne.symm hj)] at e2
    obtain⟨u',r',q⟩:=hl j y v' e1 e2 e3
    refine⟨u',r',?_⟩
    rcases q with⟨k,e⟩|⟨k,c,e,z⟩
    ·refine .inl ⟨k,?_⟩
     have:y≠x:=fun e=>hj (fg hN e1 (e▸hi))
     simp [this,e]
    ·exact .inr ⟨k,c,e,z.sameBut hs (cne y c e)⟩
  ·obtain⟨w',z⟩:=I.cell y c e
   exact⟨w',z.sameBut hs (cne y c e)⟩
  ·obtain⟨e,n,ne,nf,d⟩:=I.pin p hp
   exact⟨(hs.2 p.1 ne).trans e,n,ne,nf,d⟩
 ·have hfn:X.fn x=true:=by
   rcases hf with z|z
   ·exact z
   ·rw[z] at hk;cases hk
  obtain⟨c,hc⟩:=I.ok.has x (.inl hk)
  obtain⟨w',z⟩:=I.cell x c hc
  refine wpAny_storeName_cell I.ok.kind hk hc z (fun h' hc' hs=>?_)
  obtain⟨oc,hoc,hocd⟩:=id z
  refine h {s with heap:=h'} ⟨I.ok,I.os,I.bare,⟨fun b o e n hb hx=>?_,fun b o e n hb hx=>?_,I.base.free,fun b o e hx=>?_,I.base.tups,I.base.frzs,I.base.tbls⟩,⟨m,hn.sameBut hs (Ne.symm (cne x c hc)),fun j y v' e1 e2 e3=>?_⟩,fun y c' e=>?_,I.free,I.freeC,fun p hp=>?_,tracked ⟨oc,hoc,I.freeC x c hc⟩ hs,by simpa using I.len⟩ ⟨c,hs,.inr hc⟩
  ·exact(hs.2 b (Nat.ne_of_lt (Nat.lt_of_lt_of_le (Heap.lt_size e) (I.ok.cab x c hfn hc)))).trans (I.base.keep b o e n hb hx)
  ·obtain⟨sl,e1⟩:=I.base.slot b o e n hb hx
   exact⟨sl,(hs.2 b (Nat.ne_of_lt (Nat.lt_of_lt_of_le (Heap.lt_size e) (I.ok.cab x c hfn hc)))).trans e1⟩
  ·obtain⟨o',e1⟩:=I.base.there b o e hx
   exact⟨o',(hs.2 b (Nat.ne_of_lt (Nat.lt_of_lt_of_le (Heap.lt_size e) (I.ok.cab x c hfn hc)))).trans e1⟩
  ·by_cases hj:j=i
   ·subst hj
    rw[hi] at e1;cases e1
    rw[List.getElem?_set_self hiσ] at e2
    cases e2
    exact⟨u,r,.inr ⟨.inl hk,c,hc,hc'⟩⟩
   ·rw[List.getElem?_set_ne (Ne.symm hj)] at e2
    obtain⟨u',r',q⟩:=hl j y v' e1 e2 e3
    refine⟨u',r',?_⟩
    rcases q with q|⟨k,c',e,z'⟩
    ·exact .inl q
    ·refine .inr ⟨k,c',e,z'.sameBut hs ?_⟩
     rintro rfl
     exact hj (fg hN e1 (I.ok.inj _ _ _ e hc▸hi))
  ·by_cases hcc:c'=c
   ·subst hcc;exact⟨_,hc'⟩
   ·obtain⟨w2,z2⟩:=I.cell y c' e
    exact⟨w2,z2.sameBut hs hcc⟩
  ·obtain⟨e,n,ne,nf,d⟩:=I.pin p hp
   refine⟨(hs.2 p.1 ?_).trans e,n,ne,nf,d⟩
   intro q
   rw[q,hoc] at e
   have q':oc=p.2:=Option.some.inj e
   exact d w' (by rw[←q'];exact hocd)
theorem gf {M:Model}{A:Around}{E:Value→Shared→Prop}{i:Nat}{x:Str}{v:V}{u:Value}{Q:Unit→Shared→Prop}(I:Inv X pins σ H s)(hN:X.N.Nodup)(hi:X.N[i]?=some x)(hx:sO X.env.scope x)(r:RelV v u)
  (h:∀s',Inv X pins (σ.set i (some v)) H s'→Q () s') (hf:X.fn x=true∨X.env.scope.names.lookup x=some .local:=by first|exact .inl rfl|exact .inr rfl|assumption):wpAny M A (storeName X.env x u) Q E s:=
 dz I hN hi hx r (fun s' I' _=>h s' I') hf
theorem Inv.call' {s':Shared}{ch:List Addr}(I:Inv X pins σ H s)(ho:s'.os=s.os)(u:Un (fm X.stack) ch H H' s.heap s'.heap)(hok:HOk X.prog X.w H' s'.heap)(hg:AllBare s'.gens)
  (hch:∀b∈ch,(b∈X.ex∨X.s₀.heap.objs.size≤b)∧b≠X.env.locals∧(∀x c,X.env.cells.lookup x=some c→c≠b)∧∀p∈X.pn++pins,p.1≠b):Inv X pins σ H' s':=by
 obtain⟨h',g',d',t',o'⟩:=s'
 have e:o'=s.os:=ho
 subst e
 exact I.call (g':=g') (t':=t') (d':=d') u hok hg hch
end
abbrev XK:=Value→Option Addr→Hp→Prop
abbrev St:=List (Option V)
abbrev VK:=V→Hp→Prop
abbrev TE:=St→Hp→VK→Prop
abbrev TT:=St→Hp→(Bool→Hp→Prop)→Prop
abbrev TA:=St→Hp→(List V→Hp→Prop)→Prop
structure ip where
 nx:St→Hp→Prop
 rt:VK
 bk:St→Hp→Prop:=fun _ _=>False
 ct:St→Hp→Prop:=fun _ _=>False
abbrev TS:=ip→St→Hp→Prop
def EP (X:Cx)(pins:List (Addr×Obj))(σ:St)(Q:VK)(u:Value)(s':Shared):Prop:=∃v H',Inv X pins σ H' s'∧RelV v u∧Q v H'
def TP (X:Cx)(pins:List (Addr×Obj))(σ:St)(Q:Bool→Hp→Prop)(b:Bool)(s':Shared):Prop:=∃H',Inv X pins σ H' s'∧Q b H'
def AP (X:Cx)(pins:List (Addr×Obj))(σ:St)(Q:List V→Hp→Prop)(us:List Value)(s':Shared):Prop:=∃vs H',Inv X pins σ H' s'∧Vals vs us∧Q vs H'
def SP (X:Cx)(pins:List (Addr×Obj))(D:ip)(f:Flow)(s':Shared):Prop:=
 match f with
 | .next=>∃σ' H',Inv X pins σ' H' s'∧D.nx σ' H'
 | .brk=>∃σ' H',Inv X pins σ' H' s'∧D.bk σ' H'
 | .cont=>∃σ' H',Inv X pins σ' H' s'∧D.ct σ' H'
 | .ret u=>∃v σ' H',Inv X pins σ' H' s'∧RelV v u∧D.rt v H'
def PE (X:Cx)(e:Expr)(t:TE):Prop:=
 ∀(pins:List (Addr×Obj)) (s:Shared) (σ:St) (H:Hp) (Q:VK),Inv X pins σ H s→t σ H Q→wpAny (model X.prog X.w) X.A (eval e X.env) (EP X pins σ Q) X.xe s
def PT (X:Cx)(e:Expr)(t:TT):Prop:=
 ∀(pins:List (Addr×Obj)) (s:Shared) (σ:St) (H:Hp) (Q:Bool→Hp→Prop),Inv X pins σ H s→t σ H Q→wpAny (model X.prog X.w) X.A (isTrue e X.env (eval e X.env)) (TP X pins σ Q) X.xe s
def PW (X:Cx)(e:Expr)(t:TT):Prop:=
 ∀(whole:Sem Value) (pins:List (Addr×Obj)) (s:Shared) (σ:St) (H:Hp) (Q:Bool→Hp→Prop),Inv X pins σ H s→t σ H Q→wpAny (model X.prog X.w) X.A (isTrue e X.env whole) (TP X pins σ Q) X.xe s
theorem PW.pt {X:Cx}{e:Expr}{t:TT}(h:PW X e t):PT X e t:=h _
def PA (X:Cx)(es:List Expr)(t:TA):Prop:=
 ∀(pos:Pos) (pins:List (Addr×Obj)) (s:Shared) (σ:St) (H:Hp) (Q:List V→Hp→Prop),Inv X pins σ H s→t σ H Q→wpAny (model X.prog X.w) X.A (spliced (backTo pos (starEach es X.env))) (AP X pins σ Q) X.xe s
def PS (X:Cx)(st:Stmt)(t:TS):Prop:=
 ∀(pins:List (Addr×Obj)) (s:Shared) (σ:St) (H:Hp) (D:ip),Inv X pins σ H s→t D σ H→wpAny (model X.prog X.w) X.A (exec st X.env) (SP X pins D) X.xe s
def PSs (X:Cx)(st:List Stmt)(t:TS):Prop:=
 ∀(pins:List (Addr×Obj)) (s:Shared) (σ:St) (H:Hp) (D:ip),Inv X pins σ H s→t D σ H→wpAny (model X.prog X.w) X.A (execs st X.env) (SP X pins D) X.xe s
theorem A2 {α:Type}{t:Sem α}{Q Q':α→Shared→Prop}{M:Model}{A:Around}{E:Value→Shared→Prop}{s:Shared}(h:wpAny M A t Q E s)(hQ:∀a s,Q a s→Q' a s):wpAny M A t Q' E s:=wpAny_mono h hQ fun _ _ x=>x
end L2
namespace L2
open PySem PySem.Spec PyProof.Rows
section
variable {X:Cx}
def qx (i:Nat):TE:=fun σ H Q=>∃v,σ[i]?=some (some v)∧Q v H
def tC (v:V):TE:=fun _ H Q=>Q v H
theorem vK {i:Nat}{x:Str}{pos:Pos}(hN:X.N[i]?=some x)(hv:zj X.env.scope x)(hd:(x==("__debug__":Str))=false:=by decide)(hcd:(x==("__classdict__":Str))=false:=by decide):PE X (.Name x pos) (qx i):=by
 intro pins s σ H Q I h
 obtain⟨v,e,h⟩:=h
 obtain⟨m,hn,hl⟩:=I.loc
 obtain⟨u,r,l⟩:=hl i x v hN e hv
 have fin:EP X pins σ Q u s:=⟨v,H,I,r,h⟩
 rcases l with⟨hk,hm⟩|⟨hk,c,hc,hcell⟩
 ·exact wpAny_Name (wpAny_loadName_local I.ok.kind hk hn hm fin) hd
 ·rcases hk with hk|hk
  ·exact wpAny_Name (wpAny_loadName_cell I.ok.kind hk hc hcell fin) hd
  ·exact wpAny_Name (wpAny_loadName_free I.ok.kind hk hc hcell fin hcd) hd
theorem pG {i j pos}:PE X (.Constant (.int i) j pos) (tC (.int i)):=fun _ _ _ H _ I h=>wpAny_Constant_int ⟨.int i,H,I.tok _,⟨_,rfl⟩,h⟩
theorem tZ {j pos}:PE X (.Constant .none j pos) (tC .non):=fun _ _ _ H _ I h=>Constant_none ⟨.non,H,I,rfl,h⟩
theorem sY {x j pos}:PE X (.Constant (.str x) j pos) (tC (.str x)):=fun _ _ _ H _ I h=>Calls.Constant_str ⟨.str x,H,I.tok _,⟨_,rfl⟩,h⟩
def Gl (X:Cx)(x:Str):Prop:=X.env.kindOf x=some .globalImplicit
theorem rQ {E:Value→Shared→Prop}{pins:List (Addr×Obj)}{s:Shared}{σ:St}{H:Hp}{x:Str}{u:Value}{pos:Pos}{Q:Value→Shared→Prop}(I:Inv X pins σ H s)(hg:Gl X x)(hm:X.mg x=some u)(h:Q u s)
  (hd:(x==("__debug__":Str))=false:=by decide):wpAny (model X.prog X.w) X.A (eval (.Name x pos) X.env) Q E s:=
 Calls.Name_function_global I.ok.kind hg (Calls.loadGlobal_global (by rw[I.ok.glob];exact I.mod.glob.keeps I.bk) hm h) hd
theorem P1 {E:Value→Shared→Prop}{pins:List (Addr×Obj)}{s:Shared}{σ:St}{H:Hp}{x:Str}{u:Value}{pos:Pos}{Q:Value→Shared→Prop}(I:Inv X pins σ H s)(hg:Gl X x)(hm:X.mg x=none)(hv:bootBuiltins x=some u)(h:Q u s)
  (hn:x≠"__name__":=by decide) (hd:(x==("__debug__":Str))=false:=by decide):wpAny (model X.prog X.w) X.A (eval (.Name x pos) X.env) Q E s:=by
 obtain⟨mb,h1,h2⟩:=I.mod.blt
 exact Calls.Name_function_global I.ok.kind hg (Calls.loadGlobal_builtin (by rw[I.ok.glob];exact I.mod.glob.keeps I.bk) hm (by rw[I.ok.blt];exact h1.keeps I.bk) ((h2 x hn).trans hv) h) hd
variable {a b:Expr} {ta tb:TE} {pos:Pos}
theorem RelV.none_iff {x:V}{v:Value}(r:RelV x v):(v==Value.none)=decide (x= .non):=by
 cases x with
 |non=>cases r;rfl
 |bl _=>cases r;rfl
 |int _=>obtain⟨t,rfl⟩:=r;rfl
 |str _=>obtain⟨t,rfl⟩:=r;rfl
 |byt _=>obtain⟨t,rfl⟩:=r;rfl
 |flt _=>obtain⟨t,rfl⟩:=r;rfl
 |ref _=>cases r;rfl
 |ty _=>cases r;rfl
def tB (t:TE):TT:=fun σ H Q=>t σ H fun x H1=>∃c,x= .bl c∧Q c H1
variable {tA tB':TT} {O3:List Expr}
def vG (t u:TT):TT:=fun σ H Q=>t σ H fun c H1=>if c=true then u σ H1 Q else Q false H1
def zD (t u:TT):TT:=fun σ H Q=>t σ H fun c H1=>if c=true then Q true H1 else u σ H1 Q
def uB (t:TT):TT:=fun σ H Q=>t σ H fun c H1=>Q (!c) H1
theorem ql (ha:PT X a tA):PW X (.BoolOp .And [a] pos) tA:=by
 intro wh pins s σ H Q I h
 refine isTrue_and (A2 (ha pins s σ H Q I h) fun c s1 e=>?_)
 cases c with
 |true=>exact isTrue_and_nil e
 |false=>exact e
theorem tQ (ha:PT X a tA):PW X (.BoolOp .Or [a] pos) tA:=by
 intro wh pins s σ H Q I h
 refine isTrue_or (A2 (ha pins s σ H Q I h) fun c s1 e=>?_)
 cases c with
 |false=>exact isTrue_or_nil e
 |true=>exact e
theorem ui (ha:PT X a tA)(hb:PW X (.BoolOp .And (b::O3) pos) tB'):PW X (.BoolOp .And (a::b::O3) pos) (vG tA tB'):=by
 intro wh pins s σ H Q I h
 refine isTrue_and (A2 (ha pins s σ H _ I h) fun c s1 ⟨H1,I1,q1⟩=>?_)
 cases c with
 |true=>exact hb wh pins s1 σ H1 Q I1 q1
 |false=>exact⟨H1,I1,q1⟩
theorem yd (ha:PT X a tA)(hb:PW X (.BoolOp .Or (b::O3) pos) tB'):PW X (.BoolOp .Or (a::b::O3) pos) (zD tA tB'):=by
 intro wh pins s σ H Q I h
 refine isTrue_or (A2 (ha pins s σ H _ I h) fun c s1 ⟨H1,I1,q1⟩=>?_)
 cases c with
 |true=>exact⟨H1,I1,q1⟩
 |false=>exact hb wh pins s1 σ H1 Q I1 q1
theorem vQ (ha:PT X a tA):PT X (.UnaryOp .Not a pos) (uB tA):=by
 intro pins s σ H Q I h
 exact isTrue_not (ha pins s σ H (fun c H1=>Q (!c) H1) I h)
def oM (ta tb:TE):TE:=fun σ H Q=>ta σ H fun x H1=>∃c,x= .bl c∧if c=true then tb σ H1 Q else Q (.bl false) H1
theorem vO {op}{t:TE}(h:PE X a t):PE X (.BoolOp op [a] pos) t:=fun pins s σ H Q I hw=>BoolOp_one (h pins s σ H Q I hw)
theorem uH (ha:PE X a ta)(hb:PE X (.BoolOp .And (b::O3) pos) tb):PE X (.BoolOp .And (a::b::O3) pos) (oM ta tb):=by
 intro pins s σ H Q I h
 refine BoolOp_and (A2 (ha pins s σ H _ I h) fun v s1 ⟨x,H1,I1,r1,q1⟩=>?_)
 obtain⟨c,rfl,q1⟩:=q1
 cases r1
 refine wpAny_truthy_bool ?_
 cases c with
 |true=>exact hb pins s1 σ H1 Q I1 q1
 |false=>exact⟨.bl false,H1,I1,rfl,q1⟩
def zq (t:TT)(ta tb:TE):TE:=fun σ H Q=>t σ H fun c H1=>if c=true then ta σ H1 Q else tb σ H1 Q
theorem pP {c:Expr}(hc:PT X c tA)(ha:PE X a ta)(hb:PE X b tb):PE X (.IfExp c a b pos) (zq tA ta tb):=by
 intro pins s σ H Q I h
 refine wpAny_IfExp (A2 (hc pins s σ H _ I h) fun d s1 ⟨H1,I1,q1⟩=>?_)
 cases d with
 |true=>exact ha pins s1 σ H1 Q I1 q1
 |false=>exact hb pins s1 σ H1 Q I1 q1
end
end L2
namespace L2
open PySem PySem.Spec PyProof.Rows
def SqL (K:PySem.W.Frag)(H:Hp)(a:Addr)(xs:List V):Prop:=
 Rd H a (.lst xs)∨
  ∃(o:Obj) (its:Array Value) (n:Nat),K.lookup a=some o∧o.cls= .type "list"∧o.dict=none∧o.data= .seq its n∧its.size≤sizeLine∧Vals xs its.toList
def SqT (K:PySem.W.Frag)(H:Hp)(a:Addr)(xs:List V):Prop:=
 Rd H a (.tup xs)∨
  ∃(o:Obj) (its:Array Value) (n:Nat),K.lookup a=some o∧o.cls= .type "tuple"∧o.data= .seq its n∧its.size≤sizeLine∧Vals xs its.toList
def yV:Value→Option V
 | .none=>some .non
 | .bool b=>some (.bl b)
 | .int i _=>some (.int i)
 | .str x _=>some (.str x)
 | .bytes b _=>some (.byt b)
 | .float b _=>some (.flt b)
 | .ref a=>some (.ref a)
 | .type n=>some (.ty n)
 |_=>none
theorem RelV.abs {x:V}{u:Value}(r:RelV x u):yV u=some x:=by
 cases x with
 |non=>cases r;rfl
 |bl _=>cases r;rfl
 |int _=>obtain⟨t,rfl⟩:=r;rfl
 |str _=>obtain⟨t,rfl⟩:=r;rfl
 |byt _=>obtain⟨t,rfl⟩:=r;rfl
 |flt _=>obtain⟨t,rfl⟩:=r;rfl
 |ref _=>cases r;rfl
 |ty _=>cases r;rfl
theorem RelV.inj {x y:V}{u:Value}(r:RelV x u)(q:RelV y u):x=y:=Option.some.inj (r.abs.symm.trans q.abs)
theorem Vals.inj:∀{xs ys:List V} {us:List Value},Vals xs us→Vals ys us→xs=ys
 |_,_,_,.nil,.nil=>rfl
 |_,_,_,.cons r t,.cons r' t'=>by rw[r.inj r',Vals.inj t t']
section
variable {X:Cx} {pins:List (Addr×Obj)} {σ:St} {H:Hp} {s:Shared} {a:Addr} {xs ys:List V}
theorem SqL.of {K:PySem.W.Frag}(h:H a=some (.lst xs)):SqL K H a xs:= .inl (.inl h)
theorem SqT.of {K:PySem.W.Frag}(h:H a=some (.tup xs)):SqT K H a xs:= .inl (.inl h)
theorem Inv.list (I:Inv X pins σ H s)(h:SqL X.K H a xs):∃its:List Value,Vals xs its∧PlainL s.heap a its.toArray∧xs.length≤sizeLine:=by
 rcases h with h|⟨o,its,n,hk,hc,hd,hs,hz,r⟩
 ·obtain⟨z,its,n,r,e⟩:=h.ok I.hok
  exact⟨its,r,⟨_,n,e,rfl,rfl,rfl⟩,z⟩
 ·refine⟨its.toList,r,⟨o,n,I.kIn a o hk,hc,hd,by simpa using hs⟩,?_⟩
  have e:=r.length
  simp only[Array.length_toList] at e
  omega
theorem Inv.tuple (I:Inv X pins σ H s)(h:SqT X.K H a xs):∃its:List Value,Vals xs its∧IsTup s.heap a its.toArray∧xs.length≤sizeLine:=by
 rcases h with h|⟨o,its,n,hk,hc,hs,hz,r⟩
 ·obtain⟨z,its,r,p⟩:=h.ok I.hok
  exact⟨its,r,p,z⟩
 ·refine⟨its.toList,r,⟨o,I.kIn a o hk,hc,n,by simpa using hs⟩,?_⟩
  have e:=r.length
  simp only[Array.length_toList] at e
  omega
theorem Inv.list_inj (I:Inv X pins σ H s)(h:SqL X.K H a xs)(h':SqL X.K H a ys):xs=ys:=by
 obtain⟨its,r,⟨o,n,e,_,_,d⟩,_⟩:=I.list h
 obtain⟨its',r',⟨o',n',e',_,_,d'⟩,_⟩:=I.list h'
 rw[e] at e';cases e'
 rw[d] at d'
 injection d' with d1 _
 have:its=its':=by simpa using congrArg Array.toList d1
 subst this
 exact r.inj r'
theorem Inv.tuple_inj (I:Inv X pins σ H s)(h:SqT X.K H a xs)(h':SqT X.K H a ys):xs=ys:=by
 obtain⟨its,r,⟨o,e,_,n,d⟩,_⟩:=I.tuple h
 obtain⟨its',r',⟨o',e',_,n',d'⟩,_⟩:=I.tuple h'
 rw[e] at e';cases e'
 rw[d] at d'
 injection d' with d1 _
 have:its=its':=by simpa using congrArg Array.toList d1
 subst this
 exact r.inj r'
end
abbrev Cx.wish (X:Cx)(E:Value→Shared→Prop):Cx:={X with xe:=E}
abbrev Cx.nox (X:Cx):Cx:=X.wish fun _ _=>False
theorem Cx.Ok.wish {X:Cx}(ok:X.Ok)(E:Value→Shared→Prop):(X.wish E).Ok:=
 ⟨ok.mod,ok.kind,ok.glob,ok.blt,ok.above,ok.inj,ok.has,ok.cab,ok.hd,ok.frames,ok.stk,ok.exf,ok.bs,ok.bsz,ok.noex,ok.exfs,ok.funs,ok.frf⟩
theorem Cx.Ok.unwish {X:Cx}{E:Value→Shared→Prop}(ok:(X.wish E).Ok):X.Ok:=
 ⟨ok.mod,ok.kind,ok.glob,ok.blt,ok.above,ok.inj,ok.has,ok.cab,ok.hd,ok.frames,ok.stk,ok.exf,ok.bs,ok.bsz,ok.noex,ok.exfs,ok.funs,ok.frf⟩
section
variable {X:Cx} {pins:List (Addr×Obj)} {σ:St} {H:Hp} {s:Shared} {E:Value→Shared→Prop}
theorem Inv.wish (I:Inv X pins σ H s)(E:Value→Shared→Prop):Inv (X.wish E) pins σ H s:=⟨I.ok.wish E,I.os,I.bare,I.base,I.loc,I.cell,I.free,I.freeC,I.pin,I.hok,I.len⟩
theorem Inv.unwish (I:Inv (X.wish E) pins σ H s):Inv X pins σ H s:=⟨I.ok.unwish,I.os,I.bare,I.base,I.loc,I.cell,I.free,I.freeC,I.pin,I.hok,I.len⟩
theorem SP.unwish {D:ip}{f:Flow}{s':Shared}(h:SP (X.wish E) pins D f s'):SP X pins D f s':=by
 cases f with
 |next=>obtain⟨σ',H',I,q⟩:=h;exact⟨σ',H',I.unwish,q⟩
 |brk=>obtain⟨σ',H',I,q⟩:=h;exact⟨σ',H',I.unwish,q⟩
 |cont=>obtain⟨σ',H',I,q⟩:=h;exact⟨σ',H',I.unwish,q⟩
 |ret u=>obtain⟨v,σ',H',I,r,q⟩:=h;exact⟨v,σ',H',I.unwish,r,q⟩
theorem PSs.nox {st:List Stmt}{t:TS}(h:PSs X.nox st t):PSs X st t:=fun pins s σ H D I hw=>
 wpAny_mono (h pins s σ H D (I.wish _) hw) (fun _ _ q=>q.unwish) fun _ _ z=>False.elim z
end
section
variable {X:Cx} {st:Stmt} {O3:List Stmt} {t u:TS} {e:Expr} {te:TE} {pos:Pos}
def mU:TS:=fun D σ H=>D.nx σ H
def mr (t u:TS):TS:=fun D σ H=>t {D with nx:=u D} σ H
theorem rn:PSs X [] mU:=fun _ _ σ H _ I h=>wpAny_execs_nil ⟨σ,H,I,h⟩
theorem oA (h1:PS X st t)(h2:PSs X O3 u):PSs X (st::O3) (mr t u):=by
 intro pins s σ H D I h
 refine wpAny_execs_cons (A2 (h1 pins s σ H {D with nx:=u D} I h) fun f s1 q=>?_)
 cases f with
 |next=>
  obtain⟨σ',H',I',q⟩:=q
  exact h2 pins s1 σ' H' D I' q
 |ret v=>exact q
 |brk=>exact q
 |cont=>exact q
theorem qt (h1:PS X st t):PSs X [st] t:=by
 intro pins s σ H D I h
 refine wpAny_execs_cons (A2 (h1 pins s σ H D I h) fun f s1 q=>?_)
 cases f with
 |next=>exact wpAny_execs_nil q
 |ret v=>exact q
 |brk=>exact q
 |cont=>exact q
theorem Inv.quiet {pins:List (Addr×Obj)}{σ:St}{H:Hp}{s:Shared}(I:Inv X pins σ H s):interactive X.env=false:=by simp [interactive,I.ok.kind]
def nT (te:TE):TS:=fun D σ H=>te σ H fun _ H1=>D.nx σ H1
theorem rM (he:PE X e te)(hs:swapsWith e none pos.line X.env=pure false:=by rfl):PS X (.Expr e pos) (nT te):=by
 intro pins s σ H D I h
 exact wpAny_Expr_any (A2 (he pins s σ H _ I h) fun v s1 ⟨x,H1,I1,r1,q1⟩=>⟨σ,H1,I1,q1⟩) I.quiet hs
def tS (te:TE):TS:=fun D σ H=>te σ H D.rt
theorem vm (he:PE X e te):PS X (.Return (some e) pos) (tS te):=by
 intro pins s σ H D I h
 exact wpAny_Return_some (A2 (he pins s σ H _ I h) fun v s1 ⟨x,H1,I1,r1,q1⟩=>⟨x,σ,H1,I1,r1,q1⟩)
def ub (c:TT)(t u:TS):TS:=fun D σ H=>c σ H fun b H1=>if b=true then t D σ H1 else u D σ H1
theorem xZ {c:Expr}{a b:List Stmt}{tc:TT}(hc:PT X c tc)(ha:PSs X a t)(hb:PSs X b u):PS X (.If c a b pos) (ub tc t u):=by
 intro pins s σ H D I h
 refine wpAny_If (A2 (hc pins s σ H _ I h) fun d s1 ⟨H1,I1,q1⟩=>?_)
 cases d with
 |true=>exact ha pins s1 σ H1 D I1 q1
 |false=>exact hb pins s1 σ H1 D I1 q1
end
abbrev TG:=V→St→Hp→(St→Hp→Prop)→Prop
abbrev iz:=List V→St→Hp→(St→Hp→Prop)→Prop
def PG (X:Cx)(target:Expr)(t:TG):Prop:=
 ∀(pins:List (Addr×Obj)) (s:Shared) (σ:St) (H:Hp) (v:V) (u:Value) (Q:St→Hp→Prop),Inv X pins σ H s→RelV v u→t v σ H Q→
  wpAny (model X.prog X.w) X.A (assign target X.env u) (fun _ s'=>∃σ' H',Inv X pins σ' H' s'∧Q σ' H') X.xe s
def qh (X:Cx)(ts:List Expr)(t:iz):Prop:=
 ∀(pins:List (Addr×Obj)) (s:Shared) (σ:St) (H:Hp) (vs:List V) (us:List Value) (Q:St→Hp→Prop),Inv X pins σ H s→Vals vs us→t vs σ H Q→
  wpAny (model X.prog X.w) X.A (assignInOrder ((assignEach ts X.env).map (·.2)) us) (fun _ s'=>∃σ' H',Inv X pins σ' H' s'∧Q σ' H') X.xe s
abbrev gU:=V→V→V→Hp→(Hp→Prop)→Prop
def kB (X:Cx)(t:gU):Prop:=
 ∀(pins:List (Addr×Obj)) (s:Shared) (σ:St) (H:Hp) (o i v:V) (ov iv u:Value) (Q:Hp→Prop),Inv X pins σ H s→RelV o ov→RelV i iv→RelV v u→t o i v H Q→
  wpAny (model X.prog X.w) X.A (setItem ov iv u) (fun _ s'=>∃H',Inv X pins σ H' s'∧Q H') X.xe s
section
variable {X:Cx} {pos:Pos}
def O1 (i:Nat):TG:=fun v σ H Q=>Q (σ.set i (some v)) H
theorem qY {i:Nat}{x:Str}(hN:X.N.Nodup)(hi:X.N[i]?=some x)(hx:sO X.env.scope x)(hf:X.fn x=true∨X.env.scope.names.lookup x=some .local:=by first|exact .inl rfl|exact .inr rfl|assumption):PG X (.Name x pos) (O1 i):=by
 intro pins s σ H v u Q I r h
 exact wpAny_assign_Name (gf I hN hi hx r (fun s' I'=>⟨_,H,I',h⟩) hf)
def vC:iz:=fun vs σ H Q=>vs=[]∧Q σ H
def jY (t:TG)(u:iz):iz:=fun vs σ H Q=>∃v r,vs=v::r∧t v σ H fun σ' H'=>u r σ' H' Q
theorem rf:qh X [] vC:=by
 intro pins s σ H vs us Q I r h
 obtain⟨e,h⟩:=h
 subst e
 cases r
 exact assignInOrder_nil ⟨σ,H,I,h⟩
theorem nG {e:Expr}{es:List Expr}{t:TG}{u:iz}(h1:PG X e t)(h2:qh X es u)
  (hs:(assignEach (e::es) X.env).map (·.2)=assign e X.env::(assignEach es X.env).map (·.2):=by rfl):qh X (e::es) (jY t u):=by
 intro pins s σ H vs us Q I r h
 obtain⟨v,vr,e1,h⟩:=h
 subst e1
 cases r with
 |cons r rr=>
  rw[hs]
  refine assignInOrder_cons (A2 (h1 pins s σ H _ _ _ I r h) fun _ s1 ⟨σ1,H1,I1,q1⟩=>?_)
  exact h2 pins s1 σ1 H1 _ _ Q I1 rr q1
def nZ (K:PySem.W.Frag)(n:Nat)(t:iz):TG:=fun v σ H Q=>∃a xs,v= .ref a∧SqT K H a xs∧xs.length=n∧t xs σ H Q
theorem vv {es:List Expr}{k:Nat}{t:iz}{n:Nat}(hc:X.calm=true)(h:qh X es t)
  (hn:(assignEach es X.env).length=n:=by rfl) (hst:(assignEach es X.env).findIdx? (·.1)=none:=by rfl):PG X (.Tuple es k pos) (nZ X.K n t):=by
 intro pins s σ H v u Q I r hw
 obtain⟨a,xs,e1,hq,hl,hw⟩:=hw
 subst e1
 cases r
 obtain⟨its,rv,ht,hz⟩:=I.tuple hq
 refine assign_Tuple_tuple (I.ok.hd hc) ht (by simp [hn,←hl,rv.length]) hst fun h' hx=>?_
 have I1:Inv X pins σ H {s with heap:=h'}:=I.kept (t':=s.toks) fun b o e=>hx b o (Nat.ne_of_lt (Heap.lt_size e)) e
 exact h pins _ σ H xs _ Q I1 (by simpa using rv) hw
def tH (to ti:TE)(t:gU):TG:=fun v σ H Q=>to σ H fun o H1=>ti σ H1 fun i H2=>t o i v H2 fun H3=>Q σ H3
theorem sZ {o i:Expr}{to ti:TE}{t:gU}(ho:PE X o to)(hi:PE X i ti)(hs:kB X t)
  (ha:∀v,assign (.Subscript o i pos) X.env v=(do
   let ov←holding [v] (eval o X.env)
   let iv←holding [v,ov] (eval i X.env)
   standAt pos
   holding [v,ov,iv] (setItem ov iv v)
   release [v,ov,iv] []):=by intro _;rfl):PG X (.Subscript o i pos) (tH to ti t):=by
 intro pins s σ H v u Q I r h
 rw[ha]
 refine wpAny_bind (wpAny_holding (A2 (ho pins s σ H _ I h) fun ov s1 ⟨x,H1,I1,r1,q1⟩=>?_))
 refine wpAny_bind (wpAny_holding (A2 (hi pins s1 σ H1 _ I1 q1) fun iv s2 ⟨y,H2,I2,r2,q2⟩=>?_))
 refine wpAny_bind (wpAny_standAt (wpAny_bind (wpAny_holding (A2 (hs pins s2 σ H2 x y v ov iv u _ I2 r1 r2 r q2) fun _ s3 ⟨H3,I3,q3⟩=>?_))))
 exact wpAny_release ⟨σ,H3,I3,q3⟩
def iL (te:TE)(g:TG):TS:=fun D σ H=>te σ H fun x H1=>g x σ H1 D.nx
theorem uS {tg e:Expr}{te:TE}{g:TG}(he:PE X e te)(hg:PG X tg g)(hs:swapsWithSole [tg] e pos.line X.env=pure false:=by rfl)(hw:swappedStores [tg] e X.env=pure none:=by rfl)
  (h1:(assignEach [tg] X.env).map (·.2)=[assign tg X.env]:=by rfl):PS X (.Assign [tg] e pos) (iL te g):=by
 intro pins s σ H D I h
 refine wpAny_Assign_stores (A2 (he pins s σ H _ I h) fun v s1 ⟨x,H1,I1,r1,q1⟩=>?_) hs hw
 rw[h1]
 exact A2 (hg pins s1 σ H1 x v _ I1 r1 q1) fun _ s2 q=>q
theorem tI {i:Nat}{x:Str}{e:Expr}{te:TE}{pos':Pos}(hN:X.N.Nodup)(hi:X.N[i]?=some x)(hx:sO X.env.scope x)(he:PE X e te)(hs:swapsWith e (some (.Name x pos')) pos.line X.env=pure false:=by rfl)(hf:X.fn x=true∨X.env.scope.names.lookup x=some .local:=by first|exact .inl rfl|exact .inr rfl|assumption):
  PS X (.Assign [.Name x pos'] e pos) (iL te (O1 i)):=by
 intro pins s σ H D I h
 refine wpAny_Assign_Name (A2 (he pins s σ H _ I h) fun v s1 ⟨y,H1,I1,r1,q1⟩=>?_) hs
 exact gf I1 hN hi hx r1 (fun s2 I2=>⟨_,H1,I2,q1⟩) hf
end
section
variable {X:Cx} {pos:Pos}
def nU (c:TT)(tb:TS):TS:=fun D σ H=>∃W:Nat→St→Hp→Prop,(∃m,W m σ H)∧∀m σ H,W m σ H→
 c σ H fun b H1=>if b=true then ∃N:St→Hp→Prop,(∀σ' H',N σ' H'→∃m',m'<m∧W m' σ' H')∧tb {D with nx:=N,ct:=N,bk:=D.nx} σ H1 else D.nx σ H1
theorem mx {c:Expr}{body:List Stmt}{tc:TT}{tb:TS}(hp:PassesOwn (model X.prog X.w) X.A X.env X.xe)(hc:PT X c tc)(hb:PSs X body tb):PS X (.While c body [] pos) (nU tc tb):=by
 intro pins s σ H D I h
 obtain⟨W,⟨m0,w0⟩,turn⟩:=h
 refine wpAny_While (codeAny_whileLoop (fun n s'=>∃σ' H',Inv X pins σ' H' s'∧W n σ' H') ?_ m0 ⟨σ,H,I,w0⟩)
 rintro n s1 ⟨σ1,H1,I1,w1⟩
 refine wpAny_passesOwn hp (A2 (hc pins s1 σ1 H1 _ I1 (turn n σ1 H1 w1)) fun b s2 ⟨H2,I2,q2⟩=>?_)
 cases b with
 |true=>
  obtain⟨N,hN,q2⟩:=q2
  rw[if_pos rfl]
  refine wpAny_passesOwn hp (A2 (hb pins s2 σ1 H2 _ I2 q2) fun f s3 q3=>?_)
  cases f with
  |next=>
   obtain⟨σ3,H3,I3,n3⟩:=q3
   obtain⟨m',hm,w3⟩:=hN σ3 H3 n3
   exact⟨m',hm,σ3,H3,I3,w3⟩
  |cont=>
   obtain⟨σ3,H3,I3,n3⟩:=q3
   obtain⟨m',hm,w3⟩:=hN σ3 H3 n3
   exact⟨m',hm,σ3,H3,I3,w3⟩
  |brk=>exact q3
  |ret v=>exact q3
 |false=>
  rw[if_neg Bool.false_ne_true]
  exact wpAny_execs_nil ⟨σ1,H2,I2,q2⟩
end
structure It where
 go:Nat→Hp→Prop
 yld:Nat→Hp→V→Hp→Prop
 stop:Nat→Hp→Prop
def L3 (X:Cx)(pins:List (Addr×Obj))(H:Hp)(b:Addr):Prop:=
 H b=none∧b≠X.env.locals∧b∉X.fs∧(b∈X.ex∨X.s₀.heap.objs.size≤b)∧(∀x c,X.env.cells.lookup x=some c→c≠b)∧∀p∈X.pn++pins,p.1≠b
theorem Inv.fpOk {X:Cx}{pins:List (Addr×Obj)}{σ:St}{H H':Hp}{s:Shared}{b:Addr}(I:Inv X pins σ H s)(hb:s.heap.objs.size≤b)(hn:H' b=none):L3 X pins H' b:=by
 refine⟨hn,Nat.ne_of_gt (Nat.lt_of_lt_of_le I.lt hb),I.nofs hb,.inr (Nat.le_trans I.sz hb),fun x c e z=>?_,fun p hp z=>?_⟩
 ·obtain⟨v,q⟩:=I.cell x c e
  exact absurd (Nat.lt_of_lt_of_le q.lt (by rw[z];exact hb)) (Nat.lt_irrefl _)
 ·exact absurd (Nat.lt_of_lt_of_le (Heap.lt_size (I.pin p hp).1) (by rw[z];exact hb)) (Nat.lt_irrefl _)
structure aC (P:Program) (w:World) (K:PySem.W.Frag) (tg:Expr) (J:It) (fp:List Addr) (it:Addr) (tn:Nat→Heap→Prop):Prop where
 mem:it∈fp
 obj:∀i h,tn i h→∀b∈fp,∃o,h.get? b=some o∧∀v,o.data≠ .cell v
 keep:∀i h h',tn i h→(∀b∈fp,∀o,h.get? b=some o→h'.get? b=some o)→tn i h'
 item:∀(X:Cx),X.prog=P→X.w=w→X.K=K→X.calm=true→∀(i:Nat) (pins:List (Addr×Obj)) (s:Shared) (σ:St) (H:Hp) (E:Value→Shared→Prop),Inv X pins σ H s→(∀b∈fp,L3 X pins H b)→tn i s.heap→J.go i H→
  wpAny (model P w) X.A (pyNext (.ref it)) (fun r s1=>∃u,r=some u∧
   wpAny (model P w) X.A (letOwnedTupleGo tg (.ref it) u) (fun _ s2=>∃x H',Inv X pins σ H' s2∧RelV x u∧J.yld i H x H'∧tn (i+1) s2.heap∧∀b∈fp,H' b=none) E s1) E s
 done:∀(X:Cx),X.prog=P→X.w=w→X.K=K→X.calm=true→∀(i:Nat) (pins:List (Addr×Obj)) (s:Shared) (σ:St) (H:Hp) (E:Value→Shared→Prop),Inv X pins σ H s→(∀b∈fp,L3 X pins H b)→tn i s.heap→J.stop i H→
  wpAny (model P w) X.A (pyNext (.ref it)) (fun r s1=>r=none∧Inv X pins σ H s1) E s
 self:∀(A:Around) (i:Nat) (s:Shared) (Q:Value→Shared→Prop) (E:Value→Shared→Prop),tn i s.heap→Q (.ref it) s→wpAny (model P w) A (pyIter (.ref it)) Q E s
abbrev TI:=St→Hp→(It→Hp→Prop)→Prop
def yr (X:Cx)(pins:List (Addr×Obj))(σ:St)(tg:Expr)(R:It→Hp→Prop)(itv:Value)(s2:Shared):Prop:=
 ∃(it:Addr) (fp:List Addr) (tn:Nat→Heap→Prop) (J:It) (H':Hp),itv= .ref it∧Inv X pins σ H' s2∧aC X.prog X.w X.K tg J fp it tn∧tn 0 s2.heap∧(∀b∈fp,L3 X pins H' b)∧R J H'
def PI (X:Cx)(tg iter:Expr)(wi:TI):Prop:=
 ∀(pins:List (Addr×Obj)) (s:Shared) (σ:St) (H:Hp) (R:It→Hp→Prop),Inv X pins σ H s→wi σ H R→
  wpAny (model X.prog X.w) X.A (eval iter X.env) (fun v s1=>wpAny (model X.prog X.w) X.A (pyIter v) (yr X pins σ tg R) X.xe s1) X.xe s
theorem jS {M : Model} {A : Around} {E : Value → Shared → Prop} {s : Shared} {tg : Expr} {it : Addr} {u : Value} {o : Obj} {n : String} {vs : Array Value} {Q : Unit → Shared → Prop} (ho : s.heap.get? it = some o) (hc : o.cls = .type n) (hd : o.data = .fields vs)
    (hn : ["enumerate", "zip", "dict_itemiterator", "dict_reverseitemiterator", "odict_iterator", "itertools.zip_longest", "itertools.pairwise"].contains n = false) (hQ : Q () s) : wpAny M A (letOwnedTupleGo tg (.ref it) u) Q E s := by
  unfold letOwnedTupleGo
  cases tg <;> first
    | exact wpAny_pure hQ
    | (cases u <;> first
        | exact wpAny_pure hQ
        | (refine wpAny_bind (wpAny_load ho ?_)
           rw [hc, hd]
           show wpAny M A (if (["enumerate", "zip", "dict_itemiterator", "dict_reverseitemiterator", "odict_iterator", "itertools.zip_longest", "itertools.pairwise"].contains n && vs[0]? == some (rawInt _)) = true then _ else _) Q E s
           rw [if_neg (by intro h; rw [hn, Bool.false_and] at h; cases h)]
           exact wpAny_pure hQ))
def Itl (K:PySem.W.Frag)(a:Addr):It:=
 ⟨fun i H=>∃xs x,SqL K H a xs∧xs[i]?=some x,fun i H x H'=>H'=H∧∀xs,SqL K H a xs→xs[i]?=some x,fun i H=>∃xs,SqL K H a xs∧xs.length≤i⟩
def zV (K:PySem.W.Frag)(a:Addr):It:=
 ⟨fun i H=>∃xs x,SqT K H a xs∧xs[i]?=some x,fun i H x H'=>H'=H∧∀xs,SqT K H a xs→xs[i]?=some x,fun i H=>∃xs,SqT K H a xs∧xs.length≤i⟩
def yl (lo:Int)(n:Nat):It:=⟨fun i _=>i<n,fun i H x H'=>H'=H∧x= .int (lo+i),fun i _=>n≤i⟩
theorem kT {P:Program}{w:World}{K:PySem.W.Frag}{tg:Expr}(a it:Addr):aC P w K tg (Itl K a) [it] it (fun i h=>h.IsListIter it a i) where
 mem:=by simp
 obj:=fun i h st b hb=>by
  have e:b=it:=by simpa using hb
  subst e
  obtain⟨o,e,c,d⟩:=st
  exact⟨o,e,fun v z=>by rw[d] at z;cases z⟩
 keep:=fun i h h' st k=>st.at fun o e=>k it (by simp) o e
 item:=by
  intro X hP hw hK hc i pins s σ H E I hf st hg
  subst hP hw hK
  obtain⟨xs,x,hq,hx⟩:=hg
  obtain⟨its,rv,p,hz⟩:=I.list hq
  obtain⟨u,hu,ru⟩:=rv.get hx
  obtain⟨f0,f1,f2,f3,f4,f5⟩:=hf it (by simp)
  refine wpAny_pyNext_list_item st p.isList (x:=u) (by simpa using hu) fun h' st' sb=>?_
  have I1:Inv X pins σ H {s with heap:=h'}:=I.turned (t':=s.toks) (fun b o hb e=>(sb.2 b hb).trans e) f0 f1 f3 f4 f5
  obtain⟨o,e,c,d⟩:=id st'
  exact⟨u,rfl,jS (s:={s with heap:=h'}) e c d (by decide) ⟨x,H,I1,ru,⟨rfl,fun ys hy=>by rw[I.list_inj hy hq];exact hx⟩,st',fun b hb=>(hf b hb).1⟩⟩
 done:=by
  intro X hP hw hK hc i pins s σ H E I hf st hg
  subst hP hw hK
  obtain⟨xs,hq,hx⟩:=hg
  obtain⟨its,rv,p,hz⟩:=I.list hq
  obtain⟨f0,f1,f2,f3,f4,f5⟩:=hf it (by simp)
  have hl:=rv.length
  exact wpAny_pyNext_list_end (I.ok.hd hc) st p.isList (by simp;omega) fun h' eb=>⟨rfl,I.turned (t':=s.toks) (fun b o hb e=>eb b o hb e) f0 f1 f3 f4 f5⟩
 self:=fun _ _ _ _ _ st h=>wpAny_pyIter_listiter st h
theorem iI {P:Program}{w:World}{K:PySem.W.Frag}{tg:Expr}(a it:Addr):aC P w K tg (zV K a) [it] it (fun i h=>h.IsTupleIter it a i) where
 mem:=by simp
 obj:=fun i h st b hb=>by
  have e:b=it:=by simpa using hb
  subst e
  obtain⟨o,e,c,d⟩:=st
  exact⟨o,e,fun v z=>by rw[d] at z;cases z⟩
 keep:=fun i h h' st k=>st.at fun o e=>k it (by simp) o e
 item:=by
  intro X hP hw hK hc i pins s σ H E I hf st hg
  subst hP hw hK
  obtain⟨xs,x,hq,hx⟩:=hg
  obtain⟨its,rv,p,hz⟩:=I.tuple hq
  obtain⟨u,hu,ru⟩:=rv.get hx
  obtain⟨f0,f1,f2,f3,f4,f5⟩:=hf it (by simp)
  refine wpAny_pyNext_tuple_item st (show s.heap.IsTuple a its.toArray from p) (x:=u) (by simpa using hu) fun h' st' sb=>?_
  have I1:Inv X pins σ H {s with heap:=h'}:=I.turned (t':=s.toks) (fun b o hb e=>(sb.2 b hb).trans e) f0 f1 f3 f4 f5
  obtain⟨o,e,c,d⟩:=id st'
  exact⟨u,rfl,jS (s:={s with heap:=h'}) e c d (by decide) ⟨x,H,I1,ru,⟨rfl,fun ys hy=>by rw[I.tuple_inj hy hq];exact hx⟩,st',fun b hb=>(hf b hb).1⟩⟩
 done:=by
  intro X hP hw hK hc i pins s σ H E I hf st hg
  subst hP hw hK
  obtain⟨xs,hq,hx⟩:=hg
  obtain⟨its,rv,p,hz⟩:=I.tuple hq
  obtain⟨f0,f1,f2,f3,f4,f5⟩:=hf it (by simp)
  have hl:=rv.length
  exact wpAny_pyNext_tuple_end (I.ok.hd hc) st (show s.heap.IsTuple a its.toArray from p) (by simp;omega) fun h' eb=>⟨rfl,I.turned (t':=s.toks) (fun b o hb e=>eb b o hb e) f0 f1 f3 f4 f5⟩
 self:=fun _ _ _ _ _ st h=>wpAny_pyIter_tupleiter st h
theorem ir {P:Program}{w:World}{K:PySem.W.Frag}{tg:Expr}(it:Addr)(lo:Int)(n:Nat):aC P w K tg (yl lo n) [it] it (fun i h=>IsRangeIter h it (lo+(i:Nat)*1) ((n:Int) -(i:Nat)) 1) where
 mem:=by simp
 obj:=fun i h st b hb=>by
  have e:b=it:=by simpa using hb
  subst e
  exact⟨_,st,fun v z=>by
   have z':Data.fields _=Data.cell v:=z
   cases z'⟩
 keep:=fun i h h' st k=>k it (by simp) _ st
 item:=by
  intro X hP hw hK hc i pins s σ H E I hf st hg
  subst hP hw hK
  obtain⟨f0,f1,f2,f3,f4,f5⟩:=hf it (by simp)
  have W:=Walks.range (prog:=X.prog) (w:=X.w) (I.ok.hd hc) it lo 1 n
  refine W.item i s _ _ hg st fun v h' tk hv st' kk=>?_
  obtain⟨t,rfl⟩:=hv
  have I1:Inv X pins σ H {s with heap:=h',toks:=tk}:=I.turned (fun b o hb e=>kk b o (by simpa using hb) e) f0 f1 f3 f4 f5
  refine⟨_,rfl,jS (s:={s with heap:=h',toks:=tk}) (n:="range_iterator") st' rfl rfl (by decide) ⟨.int (lo+i),H,I1,⟨t,?_⟩,⟨rfl,rfl⟩,st',fun b hb=>(hf b hb).1⟩⟩
  rw[Int.mul_one]
 done:=by
  intro X hP hw hK hc i pins s σ H E I hf st hg
  subst hP hw hK
  obtain⟨f0,f1,f2,f3,f4,f5⟩:=hf it (by simp)
  exact wpAny_pyNext_range_end (I.ok.hd hc) st (by have:n≤i:=hg;omega) fun h' eb=>⟨rfl,I.turned (t':=s.toks) (fun b o hb e=>eb b o hb e) f0 f1 f3 f4 f5⟩
 self:=fun _ _ _ _ _ st h=>wpAny_pyIter_rangeiter st h
end L2
namespace L2
open PySem PySem.Spec PyProof.Rows
section
variable {X:Cx} {tg:Expr}
theorem pD {pins:List (Addr×Obj)}{σ:St}{H:Hp}{s:Shared}{R:It→Hp→Prop}{E:Value→Shared→Prop}{lo hi:Int}{t u v:Tok}{tk:Nat}(I:Inv X pins σ H s)(h1: -(2 ^ 62)≤lo)(h2:lo<2 ^ 62)(h3: -(2 ^ 62)≤hi)(h4:hi<2 ^ 62)
  (q:R (yl lo (hi -lo).toNat) H):wpAny (model X.prog X.w) X.A (pyIter (.ref s.heap.objs.size)) (yr X pins σ tg R) E {s with heap:=s.heap.push {cls:= .type "range",data:= .fields #[.int lo t,.int hi u,.int 1 v]},toks:=tk}:=by
 refine wpAny_pyIter_range (IsRange.new ..) (small_one h1 h2 h3 h4) ?_
 have I1:Inv X pins σ H {s with heap:=s.heap.push {cls:= .type "range",data:= .fields #[.int lo t,.int hi u,.int 1 v]},toks:=tk}:=I.kept fun b o e=>Heap.get?_push_of_some _ e
 refine⟨(s.heap.push {cls:= .type "range",data:= .fields #[.int lo t,.int hi u,.int 1 v]}).objs.size,[(s.heap.push {cls:= .type "range",data:= .fields #[.int lo t,.int hi u,.int 1 v]}).objs.size],_,_,H,rfl,
  I1.kept (t':=tk) fun b o e=>Heap.get?_push_of_some _ e,ir _ lo (hi -lo).toNat,?_,fun b hb=>?_,q⟩
 ·have e1:lo+((0:Nat):Int)*1=lo:=by simp
  have e2:(((hi -lo).toNat:Nat):Int) -((0:Nat):Int)=Builtin.Range.rangeSize lo hi 1:=by rw[rangeSize_one];split<;>omega
  show IsRangeIter _ _ (lo+((0:Nat):Int)*1) ((((hi -lo).toNat:Nat):Int) -((0:Nat):Int)) 1
  rw[e1,e2]
  exact Heap.get?_push_size _ rfl
 ·have e:b=(s.heap.push {cls:= .type "range",data:= .fields #[.int lo t,.int hi u,.int 1 v]}).objs.size:=by simpa using hb
  subst e
  exact I1.fpOk (Nat.le_refl _) (I1.hok.fresh (Nat.le_refl _))
def oQ (ta:TA):TI:=fun σ H R=>ta σ H fun vs H1=>∃j:Int,vs=[.int j]∧-(2 ^ 62)≤j∧j<2 ^ 62∧R (yl 0 j.toNat) H1
theorem lI {a:Expr}{ta:TA}{p pos:Pos}(hg:Gl X "range")(hm:X.mg "range"=none)(ha:PA X [a] ta)(hs:starEach [a] X.env=[(false,eval a X.env)]:=by rfl):PI X tg (.Call (.Name "range" p) [a] [] pos) (oQ ta):=by
 intro pins s σ H R I h
 refine Call_ (P1 I hg hm boot_range (PyProof.Rows.callWith_type1 (A2 (ha pos pins s σ H _ I h) fun us s1 ⟨vs,H1,I1,r1,q1⟩=>?_) hs rfl))
 obtain⟨j,e,q1,q2,q⟩:=q1
 subst e
 cases r1 with
 |cons r rr=>
  cases rr
  obtain⟨t,rfl⟩:=r
  exact call_range_1 (pD I1 (by omega) (by omega) q1 q2 (by simpa using q))
def bQ (fp:List Addr)(h:Heap):List (Addr×Obj):=fp.filterMap fun b=>(h.get? b).map fun o=>(b,o)
theorem N1 {fp:List Addr}{h:Heap}{b:Addr}{o:Obj}(hb:b∈fp)(e:h.get? b=some o):(b,o)∈bQ fp h:=List.mem_filterMap.mpr ⟨b,hb,by rw[e];rfl⟩
theorem kL {fp:List Addr}{h:Heap}{p:Addr×Obj}(hp:p∈bQ fp h):p.1∈fp∧h.get? p.1=some p.2:=by
 obtain⟨b,hb,e⟩:=List.mem_filterMap.mp hp
 cases q:h.get? b with
 |none=>rw[q] at e;cases e
 |some o=>
  rw[q] at e
  have e':(b,o)=p:=Option.some.inj e
  subst e'
  exact⟨hb,q⟩
theorem Inv.pinned {pins:List (Addr×Obj)}{σ:St}{H:Hp}{s:Shared}{fp:List Addr}(I:Inv X pins σ H s)(hf:∀b∈fp,L3 X pins H b)(ho:∀b∈fp,∃o,s.heap.get? b=some o∧∀v,o.data≠ .cell v):Inv X (pins++bQ fp s.heap) σ H s:=
 I.pins_of fun p hp=>(List.mem_append.mp hp).elim (fun z=>I.pin p (List.mem_append_right _ z)) fun z=>by
  obtain⟨hb,e⟩:=kL z
  obtain⟨f0,f1,f2,_⟩:=hf p.1 hb
  obtain⟨o,e',d⟩:=ho p.1 hb
  rw[e] at e';cases e'
  exact⟨e,f0,f1,f2,d⟩
theorem Inv.unpinned {pins pl:List (Addr×Obj)}{σ:St}{H:Hp}{s:Shared}(I:Inv X (pins++pl) σ H s):Inv X pins σ H s:=I.pins_of fun p hp=>I.pin p (List.mem_append_right _ (List.mem_append_left _ hp))
end
end L2
namespace L2
open PySem PySem.Spec PyProof.Rows
abbrev R2:=V→V→Hp→VK→Prop
def OpR (X:Cx)(f:Value→Value→Sem Value)(r:R2):Prop:=
 ∀(pins:List (Addr×Obj)) (s:Shared) (σ:St) (H:Hp) (x y:V) (v u:Value) (Q:VK),Inv X pins σ H s→RelV x v→RelV y u→r x y H Q→
  wpAny (model X.prog X.w) X.A (f v u) (EP X pins σ Q) X.xe s
def yR (X:Cx)(f:Value→Sem Value)(r:V→Hp→VK→Prop):Prop:=
 ∀(pins:List (Addr×Obj)) (s:Shared) (σ:St) (H:Hp) (x:V) (v:Value) (Q:VK),Inv X pins σ H s→RelV x v→r x H Q→
  wpAny (model X.prog X.w) X.A (f v) (EP X pins σ Q) X.xe s
def CallR (X:Cx)(f:Value)(r:List V→Hp→VK→Prop):Prop:=
 ∀(pins:List (Addr×Obj)) (s:Shared) (σ:St) (H:Hp) (xs:List V) (us:List Value) (Q:VK),Inv X pins σ H s→Vals xs us→r xs H Q→
  wpAny (model X.prog X.w) X.A (call f us) (EP X pins σ Q) X.xe s
def yX (X:Cx)(r:V→Hp→(Bool→Hp→Prop)→Prop):Prop:=
 ∀(pins:List (Addr×Obj)) (s:Shared) (σ:St) (H:Hp) (x:V) (v:Value) (Q:Bool→Hp→Prop),Inv X pins σ H s→RelV x v→r x H Q→
  wpAny (model X.prog X.w) X.A (truthy v) (TP X pins σ Q) X.xe s
def rX (r:R2)(ta tb:TE):TE:=fun σ H Q=>ta σ H fun x H1=>tb σ H1 fun y H2=>r x y H2 Q
def Ap (r:V→Hp→VK→Prop)(ta:TE):TE:=fun σ H Q=>ta σ H fun x H1=>r x H1 Q
def rI (C:Int→Int→Prop)(g:Int→Int→V):R2:=fun x y H Q=>∃i j,x= .int i∧y= .int j∧C i j∧Q (g i j) H
def qc (g:Int→Int→V):R2:=fun x y H Q=>∃i j,x= .int i∧y= .int j∧Q (g i j) H
def rU (g:Int→V):V→Hp→VK→Prop:=fun x H Q=>∃i,x= .int i∧Q (g i) H
section
variable {X:Cx} {a b c:Expr} {ta tb tc:TE} {pos:Pos}
theorem tR (ha:PE X a ta)(hb:PE X b tb){pins:List (Addr×Obj)}{s:Shared}{σ:St}{H:Hp}{R:V→V→Hp→Prop}(I:Inv X pins σ H s)
  (h:ta σ H fun x H1=>tb σ H1 fun y H2=>R x y H2) {Q:Value→Shared→Prop} {f:Value→Value→Sem Value}
  (hf:∀v u s2 x y H2,Inv X pins σ H2 s2→RelV x v→RelV y u→R x y H2→wpAny (model X.prog X.w) X.A (f v u) Q X.xe s2):
  wpAny (model X.prog X.w) X.A (eval a X.env) (fun v s₁=>wpAny (model X.prog X.w) X.A (eval b X.env) (fun u s₂=>wpAny (model X.prog X.w) X.A (f v u) Q X.xe s₂) X.xe s₁) X.xe s:=by
 refine A2 (ha pins s σ H _ I h) fun v s1 ⟨x,H1,I1,r1,q1⟩=>?_
 refine A2 (hb pins s1 σ H1 _ I1 q1) fun u s2 ⟨y,H2,I2,r2,q2⟩=>?_
 exact hf v u s2 x y H2 I2 r1 r2 q2
theorem yf {op:Operator}{r:R2}(ho:OpR X (binaryOp op) r)(ha:PE X a ta)(hb:PE X b tb):PE X (.BinOp a op b pos) (rX r ta tb):=by
 intro pins s σ H Q I h
 exact wpAny_BinOp (tR ha hb I h fun v u s2 x y H2 I2 rx ry q=>ho pins s2 σ H2 x y v u Q I2 rx ry q)
theorem wL {op:UnaryOp}{r:V→Hp→VK→Prop}(ho:yR X (unaryOp op) r)(ha:PE X a ta):PE X (.UnaryOp op a pos) (Ap r ta):=by
 intro pins s σ H Q I h
 exact UnaryOp_ (A2 (ha pins s σ H _ I h) fun v s1 ⟨x,H1,I1,r1,q1⟩=>ho pins s1 σ H1 x v Q I1 r1 q1)
theorem yt {f:Value→Value→Sem Value}{C:Int→Int→Prop}{g:Int→Int→Int}
  (rule:∀(i j:Int) (t u:Tok) (s:Shared) (Q:Value→Shared→Prop) (E:Value→Shared→Prop),C i j→Q (.int (g i j) s.toks) {s with toks:=s.toks+1}→wpAny (model X.prog X.w) X.A (f (.int i t) (.int j u)) Q E s):
  OpR X f (rI C fun i j=> .int (g i j)):=by
 intro pins s σ H x y v u Q I rx ry h
 obtain⟨i,j,rfl,rfl,hc,q⟩:=h
 obtain⟨t,rfl⟩:=rx
 obtain⟨t',rfl⟩:=ry
 exact rule i j t t' s _ _ hc ⟨.int (g i j),H,I.tok _,⟨_,rfl⟩,q⟩
theorem wJ {f:Value→Value→Sem Value}{g:Int→Int→Int}
  (rule:∀(i j:Int) (t u:Tok) (s:Shared) (Q:Value→Shared→Prop) (E:Value→Shared→Prop),Q (.int (g i j) s.toks) {s with toks:=s.toks+1}→wpAny (model X.prog X.w) X.A (f (.int i t) (.int j u)) Q E s):
  OpR X f (qc fun i j=> .int (g i j)):=by
 intro pins s σ H x y v u Q I rx ry h
 obtain⟨i,j,rfl,rfl,q⟩:=h
 obtain⟨t,rfl⟩:=rx
 obtain⟨t',rfl⟩:=ry
 exact rule i j t t' s _ _ ⟨.int (g i j),H,I.tok _,⟨_,rfl⟩,q⟩
theorem uk {f:Value→Value→Sem Value}{g:Int→Int→Bool}
  (rule:∀(i j:Int) (t u:Tok) (s:Shared) (Q:Value→Shared→Prop) (E:Value→Shared→Prop),Q (.bool (g i j)) s→wpAny (model X.prog X.w) X.A (f (.int i t) (.int j u)) Q E s):
  OpR X f (qc fun i j=> .bl (g i j)):=by
 intro pins s σ H x y v u Q I rx ry h
 obtain⟨i,j,rfl,rfl,q⟩:=h
 obtain⟨t,rfl⟩:=rx
 obtain⟨t',rfl⟩:=ry
 exact rule i j t t' s _ _ ⟨.bl (g i j),H,I,rfl,q⟩
def wY (i j:Int):Prop:=0<j∧j<1073741824
def wZ (i j:Int):Prop:=0≤j∧j≤1000000∧i.natAbs<2 ^ 64
def CMul (i j:Int):Prop:=(-(2 ^ 64)<i∧i<2 ^ 64)∨(-(2 ^ 64)<j∧j<2 ^ 64)
theorem CMul.ok {i j:Int}(h:CMul i j):IntMulOk i j:=by
 rcases h with⟨h1,h2⟩|⟨h1,h2⟩
 ·exact .of_left (intBits_le_64 h1 h2)
 ·exact .of_right (intBits_le_64 h1 h2)
theorem op_add:OpR X (binaryOp .Add) (qc fun i j=> .int (i+j)):=wJ fun _ _ _ _ _ _ _ q=>add_int q
theorem tG:OpR X (binaryOp .Sub) (qc fun i j=> .int (i -j)):=wJ fun _ _ _ _ _ _ _ q=>sub_int q
theorem op_mul:OpR X (binaryOp .Mult) (rI CMul fun i j=> .int (i*j)):=yt fun _ _ _ _ _ _ _ hc q=>mul_int q hc.ok
theorem t7:OpR X (binaryOp .FloorDiv) (rI wY fun i j=> .int (i/j)):=yt fun i j _ _ _ _ _ hc q=>by
 have h1:(0:Int)<j:=hc.1
 have h2:j<1073741824:=hc.2
 exact floordiv_int (by omega) (by rw[Int.fdiv_eq_ediv_of_nonneg i (by omega)];exact q) (.inl (PyProof.noPylong_small (by omega)))
theorem A6:OpR X (binaryOp .Mod) (rI (fun _ j=>0<j) fun i j=> .int (i % j)):=yt fun i j _ _ _ _ _ hc q=>by
 have h1:(0:Int)<j:=hc
 exact mod_int' (by omega) (by rw[Int.fmod_eq_emod_of_nonneg i (by omega)];exact q)
theorem pV:OpR X (binaryOp .Pow) (rI wZ fun i j=> .int (i ^ j.toNat)):=yt fun _ _ _ _ _ _ _ hc q=>pow_int_small hc.1 hc.2.1 hc.2.2 q
theorem Az {f:Value→Sem Value}{g:Int→Int}
  (rule:∀(i:Int) (t:Tok) (s:Shared) (Q:Value→Shared→Prop) (E:Value→Shared→Prop),Q (.int (g i) s.toks) {s with toks:=s.toks+1}→wpAny (model X.prog X.w) X.A (f (.int i t)) Q E s):
  yR X f (rU fun i=> .int (g i)):=by
 intro pins s σ H x v Q I rx h
 obtain⟨i,rfl,q⟩:=h
 obtain⟨t,rfl⟩:=rx
 exact rule i t s _ _ ⟨.int (g i),H,I.tok _,⟨_,rfl⟩,q⟩
theorem vh:yR X (unaryOp .USub) (rU fun i=> .int (-i)):=Az fun _ _ _ _ _ q=>neg_int q
end
def xr:V→V→Bool
 | .non,.non=>true| .non,.int _=>true| .int _,.non=>true| .non,.bl _=>true| .bl _,.non=>true| .non,.str _=>true| .str _,.non=>true
 | .int _,.int _=>true| .bl _,.bl _=>true| .str _,.str _=>true| .byt _,.byt _=>true
 | .int _,.str _=>true| .str _,.int _=>true| .bl _,.str _=>true| .str _,.bl _=>true
 |_,_=>false
def yz:R2:=fun x y H Q=>xr x y=true∧Q (.bl (decide (x=y))) H
def zR:R2:=fun x y H Q=>xr x y=true∧Q (.bl (!decide (x=y))) H
theorem eM {i j:Int}:decide (V.int i=V.int j)=(i==j):=by
 rw[Bool.eq_iff_iff]
 simp
theorem mS {i j:Bool}:decide (V.bl i=V.bl j)=(i==j):=by
 rw[Bool.eq_iff_iff]
 simp
theorem dA {i j:Str}:decide (V.str i=V.str j)=(i==j):=by
 rw[Bool.eq_iff_iff]
 simp
theorem jP {i j:Array UInt8}:decide (V.byt i=V.byt j)=(i.toList==j.toList):=by
 rw[Bool.eq_iff_iff]
 cases i
 cases j
 simp
section
variable {X:Cx} {a b c:Expr} {ta tb tc:TE} {pos:Pos}
theorem i9 {pins:List (Addr×Obj)}{σ:St}{H:Hp}{s:Shared}{Q:VK}{k k':Bool}(I:Inv X pins σ H s)(q:Q (.bl k) H)(e:k=k'):EP X pins σ Q (.bool k') s:=by
 subst e
 exact⟨.bl k,H,I,rfl,q⟩
theorem op_eq:OpR X (compareOp .Eq) yz:=by
 intro pins s σ H x y v u Q I rx ry h
 obtain⟨hs,q⟩:=h
 cases x with
 |non=>
  cases rx
  cases y with
  |non=>cases ry;exact PySem.EqNone.eq_none_none (i9 I q (by simp))
  |bl j=>cases ry;exact PySem.EqNone.eq_none_bool (i9 I q (by simp))
  |int j=>obtain⟨t',rfl⟩:=ry;exact PySem.EqNone.eq_none_int (i9 I q (by simp))
  |str j=>obtain⟨t',rfl⟩:=ry;exact PySem.EqNone.eq_none_str (i9 I q (by simp))
  |_=>exact absurd (show false=true from hs) Bool.false_ne_true
 |bl i=>
  cases rx
  cases y with
  |non=>cases ry;exact PySem.EqNone.eq_bool_none (i9 I q (by simp))
  |bl j=>cases ry;exact eq_bool (i9 I q mS)
  |str j=>obtain⟨t',rfl⟩:=ry;exact PySem.EqMixed.eq_bool_str (i9 I q (by simp))
  |_=>exact absurd (show false=true from hs) Bool.false_ne_true
 |int i=>
  obtain⟨t,rfl⟩:=rx
  cases y with
  |non=>cases ry;exact PySem.EqNone.eq_int_none (i9 I q (by simp))
  |int j=>obtain⟨t',rfl⟩:=ry;exact eq_int (i9 I q eM)
  |str j=>obtain⟨t',rfl⟩:=ry;exact PySem.EqMixed.eq_int_str (i9 I q (by simp))
  |_=>exact absurd (show false=true from hs) Bool.false_ne_true
 |str i=>
  obtain⟨t,rfl⟩:=rx
  cases y with
  |non=>cases ry;exact PySem.EqNone.eq_str_none (i9 I q (by simp))
  |bl j=>cases ry;exact PySem.EqMixed.eq_str_bool (i9 I q (by simp))
  |int j=>obtain⟨t',rfl⟩:=ry;exact PySem.EqMixed.eq_str_int (i9 I q (by simp))
  |str j=>obtain⟨t',rfl⟩:=ry;exact eq_str (i9 I q dA)
  |_=>exact absurd (show false=true from hs) Bool.false_ne_true
 |byt i=>
  obtain⟨t,rfl⟩:=rx
  cases y with
  |byt j=>obtain⟨t',rfl⟩:=ry;exact PySem.W.eq_bytes (i9 I q jP)
  |_=>exact absurd (show false=true from hs) Bool.false_ne_true
 |_=>cases y<;>exact absurd (show false=true from hs) Bool.false_ne_true
theorem op_ne:OpR X (compareOp .NotEq) zR:=by
 intro pins s σ H x y v u Q I rx ry h
 obtain⟨hs,q⟩:=h
 cases x with
 |non=>
  cases rx
  cases y with
  |non=>cases ry;exact PySem.EqNone.ne_none_none (i9 I q (by simp))
  |bl j=>cases ry;exact PySem.EqNone.ne_none_bool (i9 I q (by simp))
  |int j=>obtain⟨t',rfl⟩:=ry;exact PySem.EqNone.ne_none_int (i9 I q (by simp))
  |str j=>obtain⟨t',rfl⟩:=ry;exact PySem.EqNone.ne_none_str (i9 I q (by simp))
  |_=>exact absurd (show false=true from hs) Bool.false_ne_true
 |bl i=>
  cases rx
  cases y with
  |non=>cases ry;exact PySem.EqNone.ne_bool_none (i9 I q (by simp))
  |bl j=>cases ry;exact ne_bool (i9 I q (congrArg not mS))
  |str j=>obtain⟨t',rfl⟩:=ry;exact PySem.EqMixed.ne_bool_str (i9 I q (by simp))
  |_=>exact absurd (show false=true from hs) Bool.false_ne_true
 |int i=>
  obtain⟨t,rfl⟩:=rx
  cases y with
  |non=>cases ry;exact PySem.EqNone.ne_int_none (i9 I q (by simp))
  |int j=>obtain⟨t',rfl⟩:=ry;exact ne_int (i9 I q (congrArg not eM))
  |str j=>obtain⟨t',rfl⟩:=ry;exact PySem.EqMixed.ne_int_str (i9 I q (by simp))
  |_=>exact absurd (show false=true from hs) Bool.false_ne_true
 |str i=>
  obtain⟨t,rfl⟩:=rx
  cases y with
  |non=>cases ry;exact PySem.EqNone.ne_str_none (i9 I q (by simp))
  |bl j=>cases ry;exact PySem.EqMixed.ne_str_bool (i9 I q (by simp))
  |int j=>obtain⟨t',rfl⟩:=ry;exact PySem.EqMixed.ne_str_int (i9 I q (by simp))
  |str j=>obtain⟨t',rfl⟩:=ry;exact ne_str (i9 I q (congrArg not dA))
  |_=>exact absurd (show false=true from hs) Bool.false_ne_true
 |byt i=>
  obtain⟨t,rfl⟩:=rx
  cases y with
  |byt j=>obtain⟨t',rfl⟩:=ry;exact PySem.W.ne_bytes (i9 I q (congrArg not jP))
  |_=>exact absurd (show false=true from hs) Bool.false_ne_true
 |_=>cases y<;>exact absurd (show false=true from hs) Bool.false_ne_true
theorem op_lt:OpR X (compareOp .Lt) (qc fun i j=> .bl (decide (i<j))):=uk fun _ _ _ _ _ _ _ q=>lt_int q
theorem xK:OpR X (compareOp .LtE) (qc fun i j=> .bl (decide (i≤j))):=uk fun _ _ _ _ _ _ _ q=>le_int q
theorem sk:OpR X (compareOp .Gt) (qc fun i j=> .bl (decide (j<i))):=uk fun _ _ _ _ _ _ _ q=>gt_int q
theorem lA:OpR X (compareOp .Lt) (fun x y H Q=>∃i j,x= .str i∧y= .str j∧Q (.bl (decide (i.cps.toList<j.cps.toList))) H):=by
 intro pins s σ H x y v u Q I rx ry h
 obtain⟨i,j,rfl,rfl,q⟩:=h
 obtain⟨t,rfl⟩:=rx
 obtain⟨t',rfl⟩:=ry
 exact lt_str (i9 I q rfl)
theorem lQ:OpR X (compareOp .In) (fun x y H Q=>∃i j,x= .str i∧y= .str j∧Q (.bl (!(Builtin.Str.occurrences j i 0 j.length 1).isEmpty)) H):=by
 intro pins s σ H x y v u Q I rx ry h
 obtain⟨i,j,rfl,rfl,q⟩:=h
 obtain⟨t,rfl⟩:=rx
 obtain⟨t',rfl⟩:=ry
 exact in_str (i9 I q rfl)
theorem OpR.or {f:Value→Value→Sem Value}{r r':R2}(h:OpR X f r)(h':OpR X f r'):OpR X f (fun x y H Q=>r x y H Q∨r' x y H Q):=by
 intro pins s σ H x y v u Q I rx ry q
 rcases q with q|q
 ·exact h pins s σ H x y v u Q I rx ry q
 ·exact h' pins s σ H x y v u Q I rx ry q
theorem r6 (b:Expr){op:CmpOp}(h:op≠ .In:=by decide)(h2:op≠ .NotIn:=by decide):behindInMarks op b=false:=by
 have e1:(op==CmpOp.In)=false:=by cases op<;>first|rfl|exact absurd rfl h
 have e2:(op==CmpOp.NotIn)=false:=by cases op<;>first|rfl|exact absurd rfl h2
 cases b<;>simp [behindInMarks,e1,e2]
theorem qZ {op:CmpOp}{r:R2}(ho:OpR X (compareOp op) r)(ha:PE X a ta)(hb:PE X b tb)(hm:behindInMarks op b=false):PE X (.Compare a [op] [b] pos) (rX r ta tb):=by
 intro pins s σ H Q I h
 exact wpAny_Compare1 (tR ha hb I h fun v u s2 x y H2 I2 rx ry q=>ho pins s2 σ H2 x y v u Q I2 rx ry q) hm
def mV (t:TE):TT:=fun σ H Q=>t σ H fun x H'=>∃k,x= .bl k∧Q k H'
theorem qL {op:CmpOp}{r:R2}(ho:OpR X (compareOp op) r)(ha:PE X a ta)(hb:PE X b tb)(hm:behindInMarks op b=false):PT X (.Compare a [op] [b] pos) (mV (rX r ta tb)):=by
 intro pins s σ H Q I h
 refine wpAny_isTrue_Compare1 (A2 (ha pins s σ H _ I h) fun v s1 ⟨x,H1,I1,r1,q1⟩=>A2 (hb pins s1 σ H1 _ I1 q1) fun u s2 ⟨y,H2,I2,r2,q2⟩=>
  A2 (ho pins s2 σ H2 x y v u _ I2 r1 r2 q2) fun c s3 ⟨z,H3,I3,r3,k,e,q3⟩=>?_) hm
 subst e
 cases r3
 exact wpAny_truthy_bool ⟨H3,I3,q3⟩
def pX (K:PySem.W.Frag)(x:V)(H:Hp)(k:Bool):Prop:=
 match x with
 | .non=>k=false
 | .bl b=>k=b
 | .int i=>k=(i !=0)
 | .str y=>y.length≤sizeLine∧k=((y.length:Int) !=0)
 | .byt y=>y.size≤sizeLine∧k=((y.size:Int) !=0)
 | .ref p=>(∃xs,SqL K H p xs∧k=!xs.isEmpty)∨(∃xs,SqT K H p xs∧k=!xs.isEmpty)∨∃kvs,H p=some (.dK kvs)∧k=!kvs.isEmpty
 |_=>False
theorem iu {κ:Type}{kvs:List (κ×V)}{vs:List (κ×Value)}(r:KV kvs vs):(!vs.isEmpty)=!kvs.isEmpty:=by
 cases r<;>rfl
theorem bT {xs:List V}{its:List Value}(r:Vals xs its):(!its.toArray.isEmpty)=!xs.isEmpty:=by
 cases r<;>simp
theorem Y7:(sizeLine:Nat)<2 ^ 63:=by rw[sizeLine_eq];decide
theorem vN:yX X (fun x H Q=>∃k,pX X.K x H k∧Q k H):=by
 intro pins s σ H x v Q I rx h
 obtain⟨k,e,q⟩:=h
 have hl:=Y7
 have hs:sizeLine=16777216:=sizeLine_eq
 cases x with
 |non=>
  cases rx
  have e':k=false:=e
  subst e'
  exact truthy_none ⟨H,I,q⟩
 |bl b=>
  cases rx
  have e':k=b:=e
  subst e'
  exact wpAny_truthy_bool ⟨H,I,q⟩
 |int i=>
  obtain⟨t,rfl⟩:=rx
  have e':k=(i !=0):=e
  subst e'
  exact PySem.P.truthy_int ⟨H,I,q⟩
 |str y=>
  obtain⟨t,rfl⟩:=rx
  obtain⟨hy,e'⟩:y.length≤sizeLine∧k=((y.length:Int) !=0):=e
  subst e'
  exact PySem.P.truthy_str (by omega) ⟨H,I.tok _,q⟩
 |byt y=>
  obtain⟨t,rfl⟩:=rx
  obtain⟨hy,e'⟩:y.size≤sizeLine∧k=((y.size:Int) !=0):=e
  subst e'
  exact PySem.W.truthy_bytes (by omega) ⟨H,I.tok _,q⟩
 |ref p=>
  cases rx
  have e':(∃xs,SqL X.K H p xs∧k=!xs.isEmpty)∨(∃xs,SqT X.K H p xs∧k=!xs.isEmpty)∨∃kvs,H p=some (.dK kvs)∧k=!kvs.isEmpty:=e
  rcases e' with⟨xs,hx,e'⟩|⟨xs,hx,e'⟩|⟨kvs,hx,e'⟩
  ·subst e'
   obtain⟨its,r,pl,hz⟩:=I.list hx
   have hlen:=r.length
   exact wpAny_truthy_list pl.isList (by simp only[List.size_toArray];omega) ⟨H,I.tok _,by rw[bT r];exact q⟩
  ·subst e'
   obtain⟨its,r,pl,hz⟩:=I.tuple hx
   have hlen:=r.length
   exact truthy_tuple pl (by simp only[List.size_toArray];omega) ⟨H,I.tok _,by rw[bT r];exact q⟩
  ·subst e'
   obtain⟨hz,hS,vs,r,m⟩:kvs.length≤sizeLine∧(p==sysModules)=false∧∃vs,KV kvs vs∧s.heap.DictOf (h8 X.prog X.w) p vs:=I.hok p _ hx
   have hlen:kvs.length=vs.length:=Paired.length r
   exact wpAny_truthy_dict hS m (by omega) ⟨H,I.tok _,by rw[iu r];exact q⟩
 |_=>exact(show False from e).elim
theorem oE (ha:PE X a ta)(he:∀whole,isTrue a X.env whole=(do let v←whole;standAt a.pos;holding [v] (truthy v))):
  PT X a (fun σ H Q=>ta σ H fun x H'=>∃k,pX X.K x H' k∧Q k H'):=by
 intro pins s σ H Q I h
 exact isTrue_plain (A2 (ha pins s σ H _ I h) fun v s1 ⟨x,H1,I1,r1,q1⟩=>vN pins s1 σ H1 x v Q I1 r1 q1) (he _)
theorem op_add_str:OpR X (binaryOp .Add) (fun x y H Q=>∃i j,x= .str i∧y= .str j∧i.length+j.length≤sizeLine∧Q (.str (i++j)) H):=by
 intro pins s σ H x y v u Q I rx ry h
 obtain⟨i,j,rfl,rfl,hz,q⟩:=h
 obtain⟨t,rfl⟩:=rx
 obtain⟨t',rfl⟩:=ry
 exact add_str (fun t' tk=>⟨.str (i++j),H,I.tok _,⟨_,rfl⟩,q⟩) hz
theorem D7 {x:V}{us:List Value}(r:Vals [x] us):∃u,us=[u]∧RelV x u:=by
 cases r with
 |cons r1 r2=>cases r2;exact⟨_,rfl,r1⟩
theorem V1 {x y:V}{us:List Value}(r:Vals [x,y] us):∃u w',us=[u,w']∧RelV x u∧RelV y w':=by
 cases r with
 |cons r1 r2=>
  cases r2 with
  |cons r3 r4=>cases r4;exact⟨_,_,rfl,r1,r3⟩
theorem lJ:CallR X (.type "int") (fun xs H Q=>(∃i,xs=[.int i]∧Q (.int i) H)∨∃k,xs=[.bl k]∧Q (.int (if k then 1 else 0)) H):=by
 intro pins s σ H xs us Q I r h
 rcases h with⟨i,rfl,q⟩|⟨k,rfl,q⟩
 ·obtain⟨u,rfl,t,rfl⟩:=D7 r
  exact call_int_int ⟨.int i,H,I,⟨_,rfl⟩,q⟩
 ·obtain⟨u,rfl,r1⟩:=D7 r
  cases r1
  exact call_int_bool ⟨.int (if k then 1 else 0),H,I.tok _,⟨_,rfl⟩,q⟩
def wc (K:PySem.W.Frag)(x:V)(H:Hp)(n:Nat):Prop:=
 match x with
 | .str y=>y.length≤sizeLine∧n=y.length
 | .byt y=>y.size≤sizeLine∧n=y.size
 | .ref p=>(∃xs,SqL K H p xs∧n=xs.length)∨∃xs,SqT K H p xs∧n=xs.length
 |_=>False
theorem call_len:CallR X (.builtin "len") (fun xs H Q=>∃x n,xs=[x]∧wc X.K x H n∧Q (.int n) H):=by
 intro pins s σ H xs us Q I r h
 obtain⟨x,n,rfl,e,q⟩:=h
 obtain⟨u,rfl,rx⟩:=D7 r
 have hl:=Y7
 have hs:sizeLine=16777216:=sizeLine_eq
 cases x with
 |str y=>
  obtain⟨t,rfl⟩:=rx
  obtain⟨hy,e'⟩:y.length≤sizeLine∧n=y.length:=e
  subst e'
  exact len_str (by omega) ⟨.int _,H,I.tok _,⟨_,rfl⟩,q⟩
 |byt y=>
  obtain⟨t,rfl⟩:=rx
  obtain⟨hy,e'⟩:y.size≤sizeLine∧n=y.size:=e
  subst e'
  exact PySem.W.len_bytes (by omega) ⟨.int _,H,I.tok _,⟨_,rfl⟩,q⟩
 |ref p=>
  cases rx
  have e':(∃xs,SqL X.K H p xs∧n=xs.length)∨∃xs,SqT X.K H p xs∧n=xs.length:=e
  rcases e' with⟨xs,hx,e'⟩|⟨xs,hx,e'⟩
  ·subst e'
   obtain⟨its,r',pl,hz⟩:=I.list hx
   have hlen:=r'.length
   exact Calls.call_len_list pl.isList (by simp only[List.size_toArray];omega) ⟨.int xs.length,H,I.tok _,⟨_,by simp only[List.size_toArray];rw[hlen]⟩,q⟩
  ·subst e'
   obtain⟨its,r',pl,hz⟩:=I.tuple hx
   have hlen:=r'.length
   exact len_tuple pl (by simp only[List.size_toArray];omega) ⟨.int xs.length,H,I.tok _,⟨_,by simp only[List.size_toArray];rw[hlen]⟩,q⟩
 |_=>exact(show False from e).elim
end
end L2
namespace L2
open PySem PySem.Spec PyProof.Rows
structure Ar (h:Heap) (x dx C:Addr) (mA:Str→Option Value):Prop where
 obj:h.get? x=some (PySem.W.instObj C dx)
 ns:h.Ns1 dx mA
 ne:dx≠x
section
variable {prog:Program} {w:World} {A:Around} {E:Value→Shared→Prop} {s:Shared} {K:PySem.W.Frag} {x dx C f:Addr} {mA:Str→Option Value} {name:Str} {v:Value}
end
theorem RelO.some_of {v:V}{o:Option Value}(r:RelO (some v) o):∃u,o=some u∧RelV v u:=by
 cases o with
 |none=>exact(show False from r).elim
 |some u=>exact⟨u,rfl,r⟩
section
variable {P:Program} {w:World} {H H':Hp} {h h':Heap} {a C dx:Addr} {fs fs':List (Str×V)}
end
structure zZ (K:PySem.W.Frag) (C:Addr):Prop where
 pg:PySem.W.plainGet K C Str.empty=true
 hd:PySem.W.hasDictIn K C=true
 po:PySem.W.plainOver K C=true
 sa:PySem.W.findIn K (.ref C) "__setattr__"=some (some (.builtin "object.__setattr__"))
structure AG (K:PySem.W.Frag) (C:Addr) (f:Str) (v:V) (u:Value):Prop where
 at_:PySem.W.findIn K (.ref C) f=some (some u)
 rel:RelV v u
 get:PySem.W.specialIn K u "__get__"=some none
 cp:PySem.W.copiedNames.contains f=false
structure Ag (K:PySem.W.Frag) (C:Addr) (m:Str) (f:Addr):Prop where
 at_:PySem.W.findIn K (.ref C) m=some (some (.ref f))
 fn:PySem.W.isFn K (.ref f)=true
 kp:PySem.W.keepIn K (.ref f)=true
section
variable {X:Cx} {pins:List (Addr×Obj)} {σ:St} {H:Hp} {s:Shared} {a C dx:Addr} {fs:List (Str×V)} {f:Str} {v:V} {A:Around} {E:Value→Shared→Prop}
end
section
variable {X:Cx} {o e value:Expr} {f:Str} {pos pos' tpos:Pos} {ta tv:TE}
end
section
variable {X:Cx} {pins:List (Addr×Obj)} {σ:St} {H:Hp} {s:Shared} {A:Around} {E:Value→Shared→Prop} {Q:Value→Shared→Prop} {c:Value} {b:Bool}
inductive aV (K:PySem.W.Frag) (H:Hp):V→Value→Prop where
 |non:aV K H .non (.type "NoneType")
 |bl (x:Bool):aV K H (.bl x) (.type "bool")
 |int (i:Int):aV K H (.int i) (.type "int")
 |str (x:Str):aV K H (.str x) (.type "str")
 |flt (x:UInt64):aV K H (.flt x) (.type "float")
 |lst {a:Addr} {xs:List V} (e:H a=some (.lst xs)):aV K H (.ref a) (.type "list")
 |frz {a:Addr} {o:Obj} {xs:List V} (e:H a=some (.frz o (.lst xs))):aV K H (.ref a) (.type "list")
 |tup {a:Addr} {xs:List V} (e:H a=some (.tup xs)):aV K H (.ref a) (.type "tuple")
 |dK {a:Addr} {kvs:List (g4×V)} (e:H a=some (.dK kvs)):aV K H (.ref a) (.type "dict")
 |dT {a:Addr} {kvs:List (List g4×V)} (e:H a=some (.dT kvs)):aV K H (.ref a) (.type "dict")
 |ins {a C dx:Addr} {fs:List (Str×V)} (e:H a=some (.ins C dx fs)) (cl:zZ K C) (ha:PySem.W.findIn K (.ref C) "__class__"=some (some (.builtin "object.__class__")))
   (hn:PySem.W.specialIn K (.builtin "object.__class__") "__get__"=some (some (.builtin "getset_descriptor.__get__"))) (htk:PySem.W.takesIn K (.builtin "object.__class__")=some true)
   (hm:PySem.W.mroIn K C (.type "object")=some true):aV K H (.ref a) (.ref C)
end
end L2
namespace L2
open PySem PySem.Spec PyProof.Rows
structure Room (k:Nat) (A:Around):Prop where
 hd:A.handled=none
 dp:A.depth+3*k+5<recursionLimit
 un:A.units+16*k+200<cLine
theorem Room.mono {j k:Nat}{A:Around}(r:Room k A)(h:j≤k):Room j A:=⟨r.hd,by have:=r.dp;omega,by have:=r.un;omega⟩
theorem Room.deeper {k:Nat}{A:Around}(r:Room (k+1) A)(env:Env):Room k (A.deeper env):=
 ⟨r.hd,by have:=r.dp;show A.depth+1+3*k+5<_;omega,by have:=r.un;show A.units+3+16*k+200<_;omega⟩
theorem Room.in1 {k:Nat}{A:Around}(r:Room (k+1) A):Room k A.in1:=
 ⟨r.hd,by have:=r.dp;show A.depth+3*k+5<_;omega,by have:=r.un;show A.units+1+16*k+200<_;omega⟩
theorem Room.depth {k:Nat}{A:Around}(r:Room k A):A.depth<recursionLimit:=by have:=r.dp;omega
theorem Room.units {k:Nat}{A:Around}(r:Room k A):A.units+64<cLine:=by have:=r.un;omega
def rS:TA:=fun _ H Q=>Q [] H
def fR (ta:TE)(tr:TA):TA:=fun σ H Q=>ta σ H fun x H1=>tr σ H1 fun xs H2=>Q (x::xs) H2
section
variable {X:Cx} {e:Expr} {es:List Expr} {te:TE} {t:TA} {pos:Pos}
theorem tF:PA X [] rS:=fun _ _ _ _ H Q I h=>Calls.spliced_nil ⟨[],H,I,.nil,h⟩
theorem qk (ha:PE X e te)(hr:PA X es t)(hs:starEach (e::es) X.env=(false,eval e X.env)::starEach es X.env:=by rfl):PA X (e::es) (fR te t):=by
 intro pos pins s σ H Q I h
 rw[hs]
 show wpAny _ _ (spliced ((false,eval e X.env)::backTo pos (starEach es X.env))) _ _ s
 refine Calls.spliced_cons (A2 (ha pins s σ H _ I h) fun u s1 ⟨x,H1,I1,r1,q1⟩=>?_)
 exact A2 (hr pos pins s1 σ H1 _ I1 q1) fun us s2 ⟨xs,H2,I2,r2,q2⟩=>⟨x::xs,H2,I2,.cons r1 r2,q2⟩
def tu (t:TA):TE:=fun σ H Q=>t σ H fun xs H1=>xs.length≤sizeLine∧∀p,H1 p=none→Q (.ref p) (i6 H1 p (.tup xs))
def vg (t:TA):TE:=fun σ H Q=>t σ H fun xs H1=>xs.length≤sizeLine∧∀p,H1 p=none→Q (.ref p) (i6 H1 p (.lst xs))
theorem tq {x1}(h:PA X es t):PE X (.Tuple es x1 pos) (tu t):=by
 intro pins s σ H Q I hq
 refine wpAny_Tuple_spliced (A2 (h pos pins s σ H _ I hq) fun us s1 ⟨xs,H1,I1,r,z,q⟩=>⟨by rw[←r.length];exact z,?_⟩)
 have hf:H1 s1.heap.objs.size=none:=I1.hok.fresh (Nat.le_refl _)
 refine⟨.ref s1.heap.objs.size,i6 H1 s1.heap.objs.size (.tup xs),I1.laid (t':=s1.toks) (fun b u e=>Heap.get?_push_of_some _ e) (Nat.le_refl _) ?_,rfl,q _ hf⟩
 exact⟨z,us,r,⟨_,Heap.get?_push_size _ rfl,rfl,_,rfl⟩⟩
theorem uZ (h:PA X es t):PE X (.List es pos) (vg t):=by
 intro pins s σ H Q I hq
 refine wpAny_List_spliced (A2 (h pos pins s σ H _ I hq) fun us s1 ⟨xs,H1,I1,r,z,q⟩=>⟨by rw[←r.length];exact z,?_⟩)
 have hf:H1 s1.heap.objs.size=none:=I1.hok.fresh (Nat.le_refl _)
 refine⟨.ref s1.heap.objs.size,i6 H1 s1.heap.objs.size (.lst xs),I1.laid (t':=s1.toks) (fun b u e=>Heap.get?_push_of_some _ e) (Nat.le_refl _) ?_,rfl,q _ hf⟩
 exact⟨z,us,0,r,Heap.get?_push_size _ rfl⟩
end
abbrev Sp:=List V→Hp→VK→XK→Prop
abbrev fQ:=List Env→Hp→Shared→XK→Value→Shared→Prop
structure Env0 (P:Program) (w:World) (K:PySem.W.Frag) (mg:Str→Option Value) (base:Heap) (A:Around) (outer:List Env) (s:Shared) (H:Hp):Prop where
 frames:A.frames=some outer
 mod:Mod K mg base
 bs:∀b o,base.get? b=some o→s.heap.get? b=some o∧H b=none
 bsz:base.objs.size≤s.heap.objs.size
 funs:s.heap.FunFrames base outer
 frf:∀b∈fm outer,H b=none
 hok:HOk P w H s.heap
 bare:AllBare s.gens
def CE (outer:List Env)(P:Program)(w:World)(H:Hp)(s:Shared)(Q:VK)(u:Value)(s':Shared):Prop:=
 ∃v H',s'.os=s.os∧AllBare s'.gens∧Un (fm outer) [] H H' s.heap s'.heap∧HOk P w H' s'.heap∧RelV v u∧Q v H'
def CR (CX:fQ)(outer:List Env)(P:Program)(w:World)(H:Hp)(s:Shared)(Q:VK)(E:XK)(r:Result)(s':Shared):Prop:=
 match r with
 | .ok (.ret u)=>CE outer P w H s Q u s'
 | .ok _=>False
 | .error e=>CX outer H s E e s'
structure A0 (P:Program) (w:World) (K:PySem.W.Frag) (mg:Str→Option Value) (base:Heap) (CX:fQ) (k:Nat) (f:Addr) (fd:FuncData) (ps:List Str) (sp:Sp):Prop where
 len:∀vs H Q E,sp vs H Q E→vs.length=ps.length
 run:∀(A:Around) (outer:List Env) (s:Shared) (H:Hp) (args:Args) (us:List Value) (vs:List V) (Q:VK) (E:XK),Room k A→Env0 P w K mg base A outer s H→BindsTo s fd args (ps.zip us)→Vals vs us→sp vs H Q E→
  codeAny (model P w) A (.call (.ref f) args) (CR CX outer P w H s Q E) s
theorem Env0.in1 {P:Program}{w:World}{K:PySem.W.Frag}{mg:Str→Option Value}{base:Heap}{A:Around}{outer:List Env}{s:Shared}{H:Hp}(e:Env0 P w K mg base A outer s H):
  Env0 P w K mg base A.in1 outer s H:=⟨e.frames,e.mod,e.bs,e.bsz,e.funs,e.frf,e.hok,e.bare⟩
section
variable {X:Cx} {pins:List (Addr×Obj)} {σ:St} {H:Hp} {s s':Shared}
theorem Inv.env0 (I:Inv X pins σ H s):Env0 X.prog X.w X.K X.mg X.base X.A X.stack s H:=
 ⟨I.ok.frames,I.ok.mod,I.bs,Nat.le_trans I.ok.bsz I.sz,I.stack,I.stkFree,I.hok,I.bare⟩
theorem Inv.after {Q:VK}{u:Value}(I:Inv X pins σ H s)(h:CE X.stack X.prog X.w H s Q u s'):EP X pins σ Q u s':=by
 obtain⟨v,H',os,bare,un,hok,r,q⟩:=h
 obtain⟨hh,g,d,t,os'⟩:=s'
 obtain rfl:os'=s.os:=os
 exact⟨v,H',I.call (h':=hh) (g':=g) (d':=d) (t':=t) (ch:=[]) un hok bare (fun b z=>absurd z (by simp)),r,q⟩
end
def fS (sp:Sp)(dvs:List V)(E:XK)(t:TA):TE:=fun σ H Q=>t σ H fun vs H1=>sp (vs++dvs) H1 Q E
def Binds (K:PySem.W.Frag)(fd:FuncData)(ps:List Str)(ds:List Value):Prop:=
 ∀(s:Shared) (us:List Value),K.In s.heap→(us++ds).length=ps.length→BindsTo s fd ⟨us,[]⟩ (ps.zip (us++ds))
theorem Binds.all {K:PySem.W.Frag}{fd:FuncData}{ps:List Str}(h:∀us:List Value,us.length=ps.length→bindArgs fd ⟨us,[]⟩=pure (ps.zip us)):Binds K fd ps []:=fun s us _ hl=>by
 rw[List.append_nil] at hl⊢
 exact .of_eq (h us hl)
def Z8 (CX:fQ)(X:Cx)(E:XK):Prop:=∀(pins:List (Addr×Obj)) (σ:St) (H:Hp) (s:Shared) (e:Value) (s':Shared),Inv X pins σ H s→CX X.stack H s E e s'→X.xe e s'
section
variable {X:Cx} {CX:fQ} {k:Nat} {f C:Addr} {fd:FuncData} {ps:List Str} {sp:Sp} {dvs:List V} {ds:List Value} {E:XK} {x m:Str} {p pos apos:Pos} {e o:Expr} {es:List Expr} {ta:TE} {t:TA}
theorem vB {pins:List (Addr×Obj)}{σ:St}{H:Hp}{s:Shared}{Q:VK}{us:List Value}{vs:List V}(F:A0 X.prog X.w X.K X.mg X.base CX k f fd ps sp)(hr:Room k X.A)(hb:Binds X.K fd ps ds)(hd:Vals dvs ds)(hx:Z8 CX X E)
  (I:Inv X pins σ H s) (r:Vals vs us) (h:sp (vs++dvs) H Q E):wpAny (model X.prog X.w) X.A (call (.ref f) us) (EP X pins σ Q) X.xe s:=by
 have r2:Vals (vs++dvs) (us++ds):=r.append hd
 have hl:(us++ds).length=ps.length:=by rw[←r2.length];exact F.len _ _ _ _ h
 refine wpAny_call (codeAny_mono (F.run X.A X.stack s H ⟨us,[]⟩ (us++ds) (vs++dvs) Q E hr I.env0 (hb s us I.kIn hl) r2 h) fun r s' hq=>?_)
 cases r with
 |error e=>exact hx pins σ H s e s' I hq
 |ok fl=>
  cases fl with
  |ret u=>exact I.after hq
  |next=>exact False.elim hq
  |brk=>exact False.elim hq
  |cont=>exact False.elim hq
theorem qQ (F:A0 X.prog X.w X.K X.mg X.base CX k f fd ps sp)(hr:Room k X.A)(hg:Gl X x)(hm:X.mg x=some (.ref f))(hk:PySem.W.keepIn X.K (.ref f)=true)(hb:Binds X.K fd ps ds)(hd:Vals dvs ds)(hx:Z8 CX X E)
  (ha:PA X (e::es) t) (hdb:(x==("__debug__":Str))=false:=by decide) (he:starEach (e::es) X.env=(false,eval e X.env)::starEach es X.env:=by rfl) (hpl:(backTo pos (starEach es X.env)).any (·.1)=false:=by rfl):
  PE X (.Call (.Name x p) (e::es) [] pos) (fS sp dvs E t):=by
 intro pins s σ H Q I h
 refine wpAny_Call_Name_kw (rQ I hg hm ?_ hdb)
 refine PySem.W.callWith_K (h₀:=X.base) I.ok.mod.kin hk (A2 (ha pos pins s σ H _ I h) fun us s1 ⟨vs,H1,I1,r,q⟩=>⟨I1.kIn,?_⟩) he hpl
 exact vB F hr hb hd hx I1 r q
structure Mk (K:PySem.W.Frag) (C f:Addr):Prop where
 makes:PySem.W.makesIn K C=true
 init:PySem.W.findIn K (.ref C) "__init__"=some (some (.ref f))
 fn:PySem.W.isFn K (.ref f)=true
 kp:PySem.W.keepIn K (.ref C)=true
end
section
variable {X:Cx} {CX:fQ} {k:Nat} {f C:Addr} {fd:FuncData} {ps ks:List Str} {sp:Sp} {E:XK} {x m:Str} {p pos apos kpos:Pos} {e o:Expr} {es:List Expr} {kws:List Keyword} {te ta:TE} {t tk:TA} {nm:Option Str}
structure yJ (K:PySem.W.Frag) (fd:FuncData) (ps ks:List Str) (g:List Value→List Value→List Value) (gV:List V→List V→List V):Prop where
 to:∀(s:Shared) (us ws:List Value),K.In s.heap→(g us ws).length=ps.length→BindsTo s fd ⟨us,ks.zip ws⟩ (ps.zip (g us ws))
 rel:∀{vs:List V} {us:List Value} {zs:List V} {ws:List Value},Vals vs us→Vals zs ws→Vals (gV vs zs) (g us ws)
variable {g:List Value→List Value→List Value} {gV:List V→List V→List V}
end
structure i7 (N P:List Str) (sc:Scope):Prop where
 kind:sc.kind= .function
 co:sc.isCoroutine=false
 gen:sc.isGenerator=false
 nd:N.Nodup
 pre:N.take P.length=P
 par:∀x∈P,sc.names.lookup x=some .local∨sc.names.lookup x=some .cell
 nofree:∀y∈sc.names,y.2≠ .free
theorem cF {kindOf:Str→Option NameKind}{x:Str}:∀{binds:List (Str×Value)} {m:Str→Option Value},(∀v,(x,v)∉binds)→bindL kindOf binds m x=m x
 |[],_,_=>rfl
 |(n,v)::r,m,h=>by
  unfold bindL
  rw[cF fun w hw=>h w (List.mem_cons_of_mem _ hw)]
  split
  ·have:x≠n:=by rintro rfl;exact h v List.mem_cons_self
   simp [this]
  ·rfl
theorem cD {kindOf:Str→Option NameKind}{x:Str}:∀{binds:List (Str×Value)} {m:Str→Option Value},(∀v,(x,v)∉binds)→bindC kindOf binds m x=m x
 |[],_,_=>rfl
 |(n,v)::r,m,h=>by
  unfold bindC
  rw[cD fun w hw=>h w (List.mem_cons_of_mem _ hw)]
  split
  ·rfl
  ·have:x≠n:=by rintro rfl;exact h v List.mem_cons_self
   simp [this]
theorem cE {kindOf:Str→Option NameKind}{x:Str}{v:Value}:∀{P:List Str} {vs:List Value} {i:Nat} {m:Str→Option Value},P.Nodup→P[i]?=some x→vs[i]?=some v→kindOf x=some .local→
  bindL kindOf (P.zip vs) m x=some v
 |[],_,_,_,_,h,_,_=>by simp at h
 |_::_,[],_,_,_,_,h,_=>by simp at h
 |p::P,w::vs,0,m,nd,h1,h2,hk=>by
  simp at h1 h2;subst h1;subst h2
  show bindL kindOf ((p,w)::P.zip vs) m p=_
  unfold bindL
  rw[cF fun v hv=>(List.nodup_cons.mp nd).1 (List.of_mem_zip hv).1,if_pos hk]
  simp
 |p::P,w::vs,i+1,m,nd,h1,h2,hk=>by
  show bindL kindOf ((p,w)::P.zip vs) m x=_
  unfold bindL
  exact cE (i:=i) (List.nodup_cons.mp nd).2 (by simpa using h1) (by simpa using h2) hk
theorem dw {kindOf:Str→Option NameKind}{x:Str}{v:Value}:∀{P:List Str} {vs:List Value} {i:Nat} {m:Str→Option Value},P.Nodup→P[i]?=some x→vs[i]?=some v→kindOf x≠some .local→
  bindC kindOf (P.zip vs) m x=some v
 |[],_,_,_,_,h,_,_=>by simp at h
 |_::_,[],_,_,_,_,h,_=>by simp at h
 |p::P,w::vs,0,m,nd,h1,h2,hk=>by
  simp at h1 h2;subst h1;subst h2
  show bindC kindOf ((p,w)::P.zip vs) m p=_
  unfold bindC
  rw[cD fun v hv=>(List.nodup_cons.mp nd).1 (List.of_mem_zip hv).1,if_neg hk]
  simp
 |p::P,w::vs,i+1,m,nd,h1,h2,hk=>by
  show bindC kindOf ((p,w)::P.zip vs) m x=_
  unfold bindC
  exact dw (i:=i) (List.nodup_cons.mp nd).2 (by simpa using h1) (by simpa using h2) hk
def S0 (N:List Str)(vs:List V):St:=vs.map some++List.replicate (N.length -vs.length) none
def fi (CX:fQ)(P:Program)(w:World)(K:PySem.W.Frag)(mg:Str→Option Value)(base:Heap)(N:List Str)(qual:Str)(scope:Scope)(f:Addr)(cd:Value)(A:Around)(outer:List Env)(s:Shared)(H:Hp)(E:XK):Cx where
 prog:=P
 w:=w
 K:=K
 mg:=mg
 base:=base
 A:=A.deeper (envOfC qual scope s.heap.objs.size f cd)
 N:=N
 s₀:=s
 H₀:=H
 env:=envOfC qual scope s.heap.objs.size f cd
 outer:=outer
 stack:=envOfC qual scope s.heap.objs.size f cd::outer
 ex:=[]
 calm:=true
 fn:=fun _=>true
 pn:=[]
 xe:=fun e s'=>wpAny (model P w) (A.deeper (envOfC qual scope s.heap.objs.size f cd)) («leaving» (envOfC qual scope s.heap.objs.size f cd) e) (fun _ s''=>CX outer H s E e s'') (fun e' s''=>CX outer H s E e' s'') s'
theorem fj {sc:Scope}{n:Nat}{x:Str}(h:sc.names.lookup x=some .cell):∃c,(cellsFrom n sc.names []).lookup x=some c:=by
 have q:=PySem.W.cellsFrom_some sc.names n [] (.inl h)
 exact Option.isSome_iff_exists.mp q
theorem lR {CX:fQ}{P:Program}{w:World}{K:PySem.W.Frag}{mg:Str→Option Value}{base:Heap}{N ps:List Str}{qual:Str}{scope:Scope}{f:Addr}{cd:Value}{A:Around}{outer:List Env}{s s1:Shared}{H:Hp}{E:XK}{us:List Value}{vs:List V}
  (S:i7 N ps scope) (hd:A.handled=none) (e0:Env0 P w K mg base A outer s H) (hl:vs.length=ps.length) (r:Vals vs us)
  (x:InCallC s s.heap.objs.size (bindL (envOfC qual scope s.heap.objs.size f cd).kindOf (ps.zip us) fun _=>none) (cellsFrom (s.heap.objs.size+1) scope.names []) (bindC (envOfC qual scope s.heap.objs.size f cd).kindOf (ps.zip us) fun _=>none) s1):
  Inv (fi CX P w K mg base N qual scope f cd A outer s H E) [] (S0 N vs) H s1:=by
 have hpl:ps.length≤N.length:=by have:=congrArg List.length S.pre;rw[List.length_take] at this;omega
 obtain⟨h1,tk,rfl,hk⟩:=x.done
 have noA:∀b:Addr,b∉(fi CX P w K mg base N qual scope f cd A outer s H E).ex:=fun b z=>absurd (show b∈([]:List Addr) from z) (by simp)
 refine⟨⟨e0.mod,S.kind,rfl,rfl,Nat.le_refl _,fun y z c h1 h2=>?_,fun y hy=>?_,fun y c _ h=>?_,fun _=>hd,Around.frames_deeper e0.frames,.inr ⟨rfl,rfl⟩,fun b z=>absurd z (noA b),e0.bs,e0.bsz,fun b _ _=>noA b,fun b z=>absurd z (noA b),e0.funs,e0.frf⟩,
  rfl,e0.bare,Un.kept hk,⟨_,x.toInCall.ns,fun i y v h1 h2 h3=>?_⟩,fun y c h=>⟨_,x.cell y c h⟩,e0.hok.fresh (Nat.le_refl _),fun y c h=>?_,fun p hp=>absurd (show p∈([]:List (Addr×Obj)) from hp) (by simp),e0.hok.kept hk,?_⟩
 ·exact name_of_addr x.apart (PySem.mem_of_lookup h1) (PySem.mem_of_lookup h2)
 ·have hy:scope.names.lookup y=some .cell∨scope.names.lookup y=some .free:=hy
  rcases hy with hy|hy
  ·exact fj hy
  ·exact absurd rfl (S.nofree _ (PySem.mem_of_lookup hy))
 ·exact Nat.le_of_lt (x.above y c (PySem.mem_of_lookup h))
 ·have hi:i<vs.length:=by
   unfold S0 at h2
   by_cases hi:i<vs.length
   ·exact hi
   ·rw[List.getElem?_append_right (by simpa using hi)] at h2
    rw[List.getElem?_replicate] at h2
    split at h2<;>cases h2
  have ha:vs[i]?=some v:=by
   unfold S0 at h2
   rw[List.getElem?_append_left (by simpa using hi),List.getElem?_map] at h2
   cases e:vs[i]? with
   |none=>rw[e] at h2;cases h2
   |some a=>rw[e] at h2;cases h2;rfl
  obtain⟨u,hu,rv⟩:=r.get ha
  have hp:ps[i]?=some y:=by
   rw[←S.pre,List.getElem?_take_of_lt (by omega)];exact h1
  have ndP:ps.Nodup:=by rw[←S.pre];exact S.nd.sublist (List.take_sublist _ _)
  refine⟨u,rv,?_⟩
  rcases S.par y (List.mem_of_getElem? hp) with k|k
  ·exact .inl ⟨k,cE ndP hp hu k⟩
  ·obtain⟨c,e⟩:=fj (n:=s.heap.objs.size+1) k
   refine .inr ⟨.inl k,c,e,?_⟩
   have q:=x.cell y c e
   rw[dw ndP hp hu (by show scope.names.lookup y≠_;rw[k];decide)] at q
   exact q
 ·exact e0.hok.fresh (Nat.le_of_lt (x.above y c (PySem.mem_of_lookup h)))
 ·unfold S0
  show _=N.length
  rw[List.length_append,List.length_map,List.length_replicate]
  omega
theorem oJ {CX:fQ}{P:Program}{w:World}{K:PySem.W.Frag}{mg:Str→Option Value}{base:Heap}{k:Nat}{f:Addr}{name qual:Str}{params:Arguments}{body:List Stmt}{scope:Scope}{dV kV doc pm cdv ct oc:Value}{an od:Option Addr}
  {osl:Array (Option Value)} {N ps:List Str} {sp:Sp} (lk:K.lookup f=some ⟨oc,od,.func (PySem.W.fnOf name qual params body scope dV kV doc pm an cdv ct),osl⟩) (hcd:PySem.W.codeIn K cdv qual=true) (S:i7 N ps scope)
  (len:∀vs H Q E,sp vs H Q E→vs.length=ps.length)
  (hbody:∀(A:Around) (outer:List Env) (s:Shared) (H:Hp) (vs:List V) (Q:VK) (E:XK),Room k (A.deeper (envOfC qual scope s.heap.objs.size f cdv))→sp vs H Q E→
   ∃t,PSs (fi CX P w K mg base N qual scope f cdv A outer s H E) body t∧t {nx:=fun _ H'=>Q .non H',rt:=Q} (S0 N vs) H):
  A0 P w K mg base CX (k+1) f (PySem.W.fnOf name qual params body scope dV kV doc pm an cdv ct) ps sp:=by
 refine⟨len,fun A outer s H args us vs Q E hr e0 hb r hsp=>?_⟩
 have hl:=len _ _ _ _ hsp
 have KX:K.In s.heap:=e0.mod.kin.keeps fun b o e=>(e0.bs b o e).1
 have lim:s.heap.NoLimit:=e0.mod.nolimit.keeps fun b o e=>(e0.bs b o e).1
 have hkind:∀y∈ps.zip us,scope.names.lookup y.1=some .local∨(scope.names.lookup y.1=some .cell∧((cellsFrom (s.heap.objs.size+1) scope.names []).lookup y.1).isSome=true):=fun⟨n,v⟩ hy=>by
  rcases S.par n (List.of_mem_zip hy).1 with q|q
  ·exact .inl q
  ·exact .inr ⟨q,PySem.W.cellsFrom_some _ _ _ (.inl q)⟩
 refine codeAny_call_function hr.depth (KX _ _ lk) rfl S.co S.gen rfl (PySem.W.codeRec_of KX hcd) (hb _ _ _ _ ?_)
 refine wpAny_newFunctionEnv_cells S.kind hkind fun env he s1 x=>?_
 subst he
 refine⟨lim.keeps x.toInCall.keep,codeAny_func ?_⟩
 obtain⟨t,ht,hq⟩:=hbody A outer s H vs Q E (hr.deeper _) hsp
 have I:Inv (fi CX P w K mg base N qual scope f cdv A outer s H E) [] (S0 N vs) H s1:=lR S hr.hd e0 hl r x
 refine wpAny_mono (ht [] s1 (S0 N vs) H _ I hq) (fun fl s' hs=>?_) fun e s' hs=>hs
 have fin:∀{σ':St} {H':Hp} {v:V} {u:Value},Inv (fi CX P w K mg base N qual scope f cdv A outer s H E) [] σ' H' s'→RelV v u→Q v H'→CE outer P w H s Q u s':=
  fun{σ' H' v u} J rv q=>⟨v,H',J.os,J.bare,J.base,J.hok,rv,q⟩
 cases fl with
 |ret u=>
  obtain⟨v,σ',H',J,rv,q⟩:=hs
  exact fin J rv q
 |next=>
  obtain⟨σ',H',J,q⟩:=hs
  exact fin (v:=V.non) (u:=Value.none) J rfl q
 |brk=>
  obtain⟨_,_,_,q⟩:=hs
  exact False.elim q
 |cont=>
  obtain⟨_,_,_,q⟩:=hs
  exact False.elim q
end L2
namespace L2
open PySem PySem.Spec PyProof.Rows
section
variable {X:Cx} {x:Str} {p pos:Pos} {e:Expr} {es:List Expr} {t:TA} {id T:String} {r:List V→Hp→VK→Prop}
def ua (r:List V→Hp→VK→Prop)(t:TA):TE:=fun σ H Q=>t σ H fun vs H1=>r vs H1 Q
theorem pY (hc:CallR X (.builtin id) r)(hg:Gl X x)(hm:X.mg x=none)(hv:bootBuiltins x=some (.builtin id))(ha:PA X (e::es) t)(hn:x≠"__name__":=by decide)(hdb:(x==("__debug__":Str))=false:=by decide)
  (he:starEach (e::es) X.env=(false,eval e X.env)::starEach es X.env:=by rfl) (hpl:(backTo pos (starEach es X.env)).any (·.1)=false:=by rfl):PE X (.Call (.Name x p) (e::es) [] pos) (ua r t):=by
 intro pins s σ H Q I h
 refine wpAny_Call_Name_kw (P1 I hg hm hv ?_ hn hdb)
 exact PyProof.Rows.callWith_builtin1 (A2 (ha pos pins s σ H _ I h) fun us s1 ⟨vs,H1,I1,r1,q1⟩=>hc pins s1 σ H1 vs us Q I1 r1 q1) he hpl
theorem kY (hc:CallR X (.type T) r)(hg:Gl X x)(hm:X.mg x=none)(hv:bootBuiltins x=some (.type T))(ha:PA X (e::es) t)(hn:x≠"__name__":=by decide)(hdb:(x==("__debug__":Str))=false:=by decide)
  (he:starEach (e::es) X.env=(false,eval e X.env)::starEach es X.env:=by rfl) (hpl:(backTo pos (starEach es X.env)).any (·.1)=false:=by rfl):PE X (.Call (.Name x p) (e::es) [] pos) (ua r t):=by
 intro pins s σ H Q I h
 refine wpAny_Call_Name_kw (P1 I hg hm hv ?_ hn hdb)
 exact PyProof.Rows.callWith_type1 (A2 (ha pos pins s σ H _ I h) fun us s1 ⟨vs,H1,I1,r1,q1⟩=>hc pins s1 σ H1 vs us Q I1 r1 q1) he hpl
end
end L2
namespace HT
open PySem PyProof.Rows
section
open PySem.SeqAt
open PySem.AutoSeq1 (wpAny_loadPart')
open PySem.MeetsSeq PySem.MeetsSeq2 PySem.MeetsSeq3
end
section
variable {prog:Program} {w:World} {A:Around} {E:Value→Shared→Prop} {s:Shared}
theorem cat_tup {t b:Addr}{vs ws:List Value}{Q:Value→Shared→Prop}(ht:IsTup s.heap t vs.toArray)(hb:IsTup s.heap b ws.toArray)(hv:vs≠[])
  (h1:ws=[]→Q (.ref t) s) (h2:ws≠[]→Q (.ref s.heap.objs.size) {s with heap:=s.heap.push {cls:= .type "tuple",data:= .seq (vs++ws).toArray}})
  (hsz:vs.length+ws.length≤sizeLine):wpAny (model prog w) A (binaryOp .Add (.ref t) (.ref b)) Q E s:=by
 obtain⟨⟨cls,dd,data,sl⟩,ho,hc,n,hd⟩:=id ht
 obtain⟨⟨cls2,dd2,data2,sl2⟩,ho2,hc2,n2,hd2⟩:=id hb
 simp only at hc hd hc2 hd2
 subst hc hd hc2 hd2
 have e:vs.toArray++ws.toArray=(vs++ws).toArray:=by simp
 by_cases hw:ws=[]
 ·exact concat_meets ⟨_,ho,rfl⟩ ⟨_,ho2,rfl⟩ noFill_tuple_add seq_tuple_add PySem.F.slot_tuple_add PySem.F.entry_tuple_add (PySem.F.args_tuple_add_2 _ _)
   (tuple_addW1 t b vs.toArray ws.toArray n n2 dd dd2 sl sl2 (by simpa using hv) (by simp [hw])) ⟨ho,ho2,h1 hw⟩
 ·refine concat_meets ⟨_,ho,rfl⟩ ⟨_,ho2,rfl⟩ noFill_tuple_add seq_tuple_add PySem.F.slot_tuple_add PySem.F.entry_tuple_add (PySem.F.args_tuple_add_2 _ _)
   (tuple_addW2 t b vs.toArray ws.toArray n n2 dd dd2 sl sl2 (by simpa using hv) (by simpa using hw) (by rw[List.size_toArray,List.size_toArray];exact hsz)) ⟨ho,ho2,?_⟩
  rw[e]
  exact h2 hw
def sIx (n d:Nat):Option Int→Nat
 |none=>d
 |some v=>if v<0 then(v+(n:Int)).toNat else min v.toNat n
theorem sIx_nat (n d k:Nat):sIx n d (some (k:Int))=min k n:=by
 show(if(k:Int)<0 then((k:Int)+(n:Int)).toNat else min (k:Int).toNat n)=min k n
 rw[if_neg (by omega),Int.toNat_natCast]
theorem vJ (n d:Nat)(hd:d≤n)(o:Option Int):sIx n d o≤n:=by
 cases o with
 |none=>exact hd
 |some v=>
  show(if v<0 then(v+(n:Int)).toNat else min v.toNat n)≤n
  by_cases hv:v<0
  ·rw[if_pos hv];omega
  ·rw[if_neg hv];exact Nat.min_le_right _ _
theorem jM (v:Int)(n d:Nat):(if v<0 then max (v+(n:Int)) 0 else min v (n:Int))=((sIx n d (some v):Nat):Int):=by
 show(if v<0 then max (v+(n:Int)) 0 else min v (n:Int))=(((if v<0 then(v+(n:Int)).toNat else min v.toNat n):Nat):Int)
 by_cases hv:v<0
 ·simp only[if_pos hv];omega
 ·simp only[if_neg hv];omega
theorem iG (lo hi:Option Int)(n:Nat):Builtin.Slice.sliceAdjust lo hi 1 (n:Int)=(((sIx n 0 lo:Nat):Int),((sIx n n hi:Nat):Int)):=by
 have h1:¬((1:Int)<0):=by omega
 unfold Builtin.Slice.sliceAdjust
 simp only[h1,if_false]
 refine Prod.ext ?_ ?_
 ·cases lo with
  |none=>rfl
  |some v=>exact jM v n 0
 ·cases hi with
  |none=>rfl
  |some v=>exact jM v n n
theorem iy (i j:Nat):Builtin.Slice.slicePlaces (i:Int) (j:Int) 1=j -i:=by
 unfold Builtin.Slice.slicePlaces
 have h1:(1:Int)>0:=by omega
 simp only[h1,if_true,Int.ediv_one]
 split<;>omega
theorem bq {v:Value}{o:Option Int}{Q:Option Int→Shared→Prop}(p:IsPart v o)(h:Q o s):wpAny (model prog w) A (Builtin.Slice.slicePartIndex v) Q E s:=by
 cases p with
 |none=>exact slicePart_none h
 |int i t=>exact slicePart_int h
theorem X9 {sl:Addr}{vl vu:Value}{lo hi:Option Int}{n:Nat}{Q:Int×Int×Nat→Shared→Prop}(hs:s.heap.IsSliceOf sl vl vu .none)(pl:IsPart vl lo)(pu:IsPart vu hi)
  (h:Q (((sIx n 0 lo:Nat):Int),1,sIx n n hi -sIx n 0 lo) s):wpAny (model prog w) A (Builtin.Slice.sliceApplied (.ref sl) (pure (n:Int))) Q E s:=by
 obtain⟨os,hos,hcs,hds⟩:=id hs
 unfold Builtin.Slice.sliceApplied Builtin.Slice.sliceFields
 refine wpAny_bind (wpAny_bind (wpAny_field hos hds (x:=vl) rfl (wpAny_bind (wpAny_field hos hds (x:=vu) rfl (wpAny_bind (wpAny_field hos hds (x:= .none) rfl (wpAny_pure ?_)))))))
 refine wpAny_bind (slicePart_none ?_)
 show wpAny _ _ (if((1:Int)==0)=true then _ else _) _ _ s
 rw[if_neg (by decide)]
 refine wpAny_bind (bq pl (wpAny_bind (bq pu (wpAny_bind (wpAny_pure ?_)))))
 show wpAny _ _ (match Builtin.Slice.sliceAdjust lo hi 1 (n:Int) with|(lo,hi)=>pure (lo,(1:Int),Builtin.Slice.slicePlaces lo hi 1)) _ _ s
 rw[iG lo hi n]
 show wpAny _ _ (pure (((sIx n 0 lo:Nat):Int),(1:Int),Builtin.Slice.slicePlaces ((sIx n 0 lo:Nat):Int) ((sIx n n hi:Nat):Int) 1)) _ _ s
 rw[iy]
 exact wpAny_pure h
theorem ny (xs:Array Value)(i k:Nat):((List.range k).filterMap fun(m:Nat)=>xs[((i:Int)+(m:Int)*1).toNat]?).toArray=((xs.toList.drop i).take k).toArray:=by
 have e:(fun(m:Nat)=>xs[((i:Int)+(m:Int)*1).toNat]?)=fun m=>xs[i+m]?:=by
  funext m
  have:((i:Int)+(m:Int)*1).toNat=i+m:=by omega
  rw[this]
 rw[e]
 have:=pick_run xs i k
 rw[List.filterMap_map] at this
 have e2:((fun x=>xs[x]?)∘fun x=>i+x)=fun m=>xs[i+m]?:=rfl
 rw[e2] at this
 rw[this]
theorem getItem_tuple_cut {t sl:Addr}{items:Array Value}{vl vu:Value}{lo hi:Option Int}{Q:Value→Shared→Prop}(ht:IsTup s.heap t items)(hs:s.heap.IsSliceOf sl vl vu .none)(pl:IsPart vl lo)(pu:IsPart vu hi)
  (hw:¬(sIx items.size 0 lo=0∧sIx items.size items.size hi=items.size))
  (h:Q (.ref s.heap.objs.size) {s with heap:=s.heap.push {cls:= .type "tuple",data:= .seq ((items.toList.drop (sIx items.size 0 lo)).take (sIx items.size items.size hi -sIx items.size 0 lo)).toArray}})
  (hsz:items.size≤sizeLine):wpAny (model prog w) A (getItem (.ref t) (.ref sl)) Q E s:=by
 have htake:sizeOk (.seq ((items.toList.drop (sIx items.size 0 lo)).take (sIx items.size items.size hi -sIx items.size 0 lo)).toArray):=by
  show((items.toList.drop (sIx items.size 0 lo)).take (sIx items.size items.size hi -sIx items.size 0 lo)).toArray.size≤sizeLine
  rw[List.size_toArray,List.length_take,List.length_drop,Array.length_toList]
  omega
 have hj:sIx items.size items.size hi≤items.size:=vJ _ _ (Nat.le_refl _) hi
 obtain⟨os,hos,hcs,hds⟩:=id hs
 have hTs:s.TypeIs (.ref sl) "slice":=⟨os,hos,hcs⟩
 unfold getItem
 try with_reducible refine wpAny_holding ?_
 first|refine wpAny_bind (wpAny_pure ?_)|skip
 refine wpAny_bind (wpAny_sequenceKey ht.typeIs (by decide) ?_)
 refine wpAny_bind (wpAny_callSpecial?_slot (name:=Str.ofString "__getitem__") ht.typeIs PyProof.Rows.slot_tuple_getitem
  (wpAny_call_entry PyProof.Rows.slot_tuple_getitem ht.typeIs entry_tuple_getitem ?_ (args_tuple_getitem _ _)))
 show wpAny _ _ (Builtin.Tuple.tupleItemsOf (.ref t)>>=_) _ _ s
 refine wpAny_bind (tupleItemsOf_ ht ?_)
 refine wpAny_bind (wpAny_typeOf hTs ?_)
 rw[if_pos (by decide)]
 refine wpAny_bind (X9 hs pl pu ?_)
 have hno:¬((((sIx items.size 0 lo:Nat):Int)==0&&(1:Int)==1&&(sIx items.size items.size hi -sIx items.size 0 lo)==items.size)=true):=by
  intro q
  rw[Bool.and_eq_true,Bool.and_eq_true] at q
  have q1:((sIx items.size 0 lo:Nat):Int)=0:=eq_of_beq q.1.1
  have q2:sIx items.size items.size hi -sIx items.size 0 lo=items.size:=eq_of_beq q.2
  exact hw ⟨by omega,by omega⟩
 show wpAny _ _ (if(((sIx items.size 0 lo:Nat):Int)==0&&(1:Int)==1&&(sIx items.size items.size hi -sIx items.size 0 lo)==items.size)=true then _ else _) _ _ s
 rw[if_neg hno,ny]
 first
  |exact wpAny_bind (m:=Builtin.Tuple.tupleExact _) (wpAny_newObj_type (wpAny_pure ⟨_,rfl,wpAny_pure h⟩) htake)
  |exact wpAny_bind (m:=Builtin.Tuple.tupleExact _) (wpAny_newObj_type (wpAny_bind (wpAny_pure (wpAny_pure ⟨_,rfl,wpAny_pure h⟩))) htake)
  |exact wpAny_bind (wpAny_bind (m:=Builtin.Tuple.tupleExact _) (wpAny_newObj_type (wpAny_pure (wpAny_pure ⟨_,rfl,wpAny_pure h⟩)) htake))
  |exact wpAny_bind (wpAny_bind (m:=Builtin.Tuple.tupleExact _) (wpAny_newObj_type (wpAny_pure ⟨_,rfl,wpAny_pure h⟩) htake))
end
end HT
namespace L2
open PySem PySem.Spec PyProof.Rows
abbrev TO:=St→Hp→(Option Int→Hp→Prop)→Prop
def PO (X:Cx)(e:Option Expr)(t:TO):Prop:=
 ∀(pins:List (Addr×Obj)) (s:Shared) (σ:St) (H:Hp) (Q:Option Int→Hp→Prop),Inv X pins σ H s→t σ H Q→
  wpAny (model X.prog X.w) X.A (evalPart e X.env) (fun u s'=>∃o H',Inv X pins σ H' s'∧IsPart u o∧Q o H') X.xe s
def dX:TO:=fun _ H Q=>Q none H
def pT (t:TE):TO:=fun σ H Q=>t σ H fun x H1=>∃i,x= .int i∧Q (some i) H1
section
variable {X:Cx} {e:Expr} {te:TE} {lo hi:Option Expr} {tl th:TO} {pos p2:Pos}
theorem rG:PO X none dX:=by
 intro pins s σ H Q I h
 rw[evalPart_none]
 exact wpAny_pure ⟨none,H,I,.none,h⟩
theorem qD (h:PE X e te):PO X (some e) (pT te):=by
 intro pins s σ H Q I hw
 rw[evalPart_some]
 refine A2 (h pins s σ H _ I hw) fun u s1 ⟨x,H1,I1,r1,q1⟩=>?_
 obtain⟨i,rfl,q⟩:=q1
 obtain⟨t,rfl⟩:=r1
 exact⟨some i,H1,I1,.int i t,q⟩
def SlR (X:Cx)(r:V→Option Int→Option Int→Hp→VK→Prop):Prop:=
 ∀(pins:List (Addr×Obj)) (s:Shared) (σ:St) (H:Hp) (x:V) (v vl vu:Value) (lo hi:Option Int) (sl:Addr) (Q:VK),Inv X pins σ H s→RelV x v→s.heap.IsSliceOf sl vl vu .none→IsPart vl lo→IsPart vu hi→r x lo hi H Q→
  ∃T id,typeLookup (.type T) "__getitem__"=pure (some (.builtin id))∧s.TypeIs v T∧wpAny (model X.prog X.w) X.A (getItem v (.ref sl)) (EP X pins σ Q) X.xe s
theorem SlR.or {r r':V→Option Int→Option Int→Hp→VK→Prop}(h:SlR X r)(h':SlR X r'):SlR X (fun x lo hi H Q=>r x lo hi H Q∨r' x lo hi H Q):=by
 intro pins s σ H x v vl vu lo hi sl Q I rx hs pl pu q
 rcases q with q|q
 ·exact h pins s σ H x v vl vu lo hi sl Q I rx hs pl pu q
 ·exact h' pins s σ H x v vl vu lo hi sl Q I rx hs pl pu q
def yG (r:V→Option Int→Option Int→Hp→VK→Prop)(te:TE)(tl th:TO):TE:=fun σ H Q=>te σ H fun x H1=>tl σ H1 fun l H2=>th σ H2 fun u H3=>r x l u H3 Q
theorem oS {r:V→Option Int→Option Int→Hp→VK→Prop}(hr:SlR X r)(he:PE X e te)(hl:PO X lo tl)(hu:PO X hi th):PE X (.Subscript e (.Slice lo hi none p2) pos) (yG r te tl th):=by
 intro pins s σ H Q I h
 refine Subscript_ (A2 (he pins s σ H _ I h) fun v s1 ⟨x,H1,I1,r1,q1⟩=>?_)
 refine wpAny_Slice (A2 (hl pins s1 σ H1 _ I1 q1) fun vl s2 ⟨l,H2,I2,pl,q2⟩=>A2 (hu pins s2 σ H2 _ I2 q2) fun vu s3 ⟨u,H3,I3,pu,q3⟩=>?_)
 rw[evalPart_none]
 refine wpAny_pure ?_
 have I4:Inv X pins σ H3 {s3 with heap:=s3.heap.push {cls:= .type "slice",data:= .fields #[vl,vu,.none]}}:=I3.kept (t':=s3.toks) fun b ob q=>Heap.get?_push_of_some _ q
 obtain⟨T,id,hT,ht,hg⟩:=hr pins {s3 with heap:=s3.heap.push {cls:= .type "slice",data:= .fields #[vl,vu,.none]}} σ H3 x v vl vu l u s3.heap.objs.size Q I4 r1 (Heap.IsSliceOf.new ..) pl pu q3
 show wpAny (model X.prog X.w) X.A (subscriptTail e (.Slice lo hi none p2) v (.ref s3.heap.objs.size)) (EP X pins σ Q) X.xe {s3 with heap:=s3.heap.push {cls:= .type "slice",data:= .fields #[vl,vu,.none]}}
 exact tail_any (ops:=[.ref s3.heap.objs.size,v]) ht hT hg (by with_unfolding_all rfl)
def Z4 (xs:List V)(lo hi:Option Int):List V:=(xs.drop (HT.sIx xs.length 0 lo)).take (HT.sIx xs.length xs.length hi -HT.sIx xs.length 0 lo)
theorem ai (xs:List V)(lo hi:Option Int):(Z4 xs lo hi).length≤xs.length:=by
 unfold Z4
 rw[List.length_take,List.length_drop]
 omega
def xc (K:PySem.W.Frag):V→Option Int→Option Int→Hp→VK→Prop:=fun x lo hi H Q=>∃a xs,x= .ref a∧SqT K H a xs∧
 ¬(HT.sIx xs.length 0 lo=0∧HT.sIx xs.length xs.length hi=xs.length)∧∀p,H p=none→Q (.ref p) (i6 H p (.tup (Z4 xs lo hi)))
theorem sl_tup:SlR X (xc X.K):=by
 intro pins s σ H x v vl vu lo hi sl Q I rx hs pl pu h
 obtain⟨a,xs,rfl,hx,hw,q⟩:=h
 cases rx
 obtain⟨its,r,ht,hz⟩:=I.tuple hx
 have hlen:its.toArray.size=xs.length:=by rw[List.size_toArray];exact r.length.symm
 refine⟨"tuple",_,PyProof.Rows.slot_tuple_getitem.lookup,ht.typeIs,?_⟩
 refine HT.getItem_tuple_cut ht hs pl pu (by rw[hlen];exact hw) ?_ (by rw[hlen];exact hz)
 rw[hlen]
 refine⟨.ref s.heap.objs.size,_,I.laid (t':=s.toks) (o:= .tup (Z4 xs lo hi)) (fun b ob q=>Heap.get?_push_of_some _ q) (Nat.le_refl _) ?_,rfl,q _ (I.hok.fresh (Nat.le_refl _))⟩
 exact⟨Nat.le_trans (ai xs lo hi) hz,_,(r.drop (HT.sIx xs.length 0 lo)).take (HT.sIx xs.length xs.length hi -HT.sIx xs.length 0 lo),IsTup.new _ _⟩
def sR (K:PySem.W.Frag):R2:=fun x y H Q=>∃a b xs ys,x= .ref a∧y= .ref b∧SqT K H a xs∧SqT K H b ys∧xs≠[]∧xs.length+ys.length≤sizeLine∧
 (ys=[]→Q (.ref a) H)∧(ys≠[]→∀p,H p=none→Q (.ref p) (i6 H p (.tup (xs++ys))))
theorem Vals.nil_iff {xs:List V}{us:List Value}(r:Vals xs us):us=[]↔xs=[]:=by
 cases r with
 |nil=>simp
 |cons _ _=>simp
theorem qI:OpR X (binaryOp .Add) (sR X.K):=by
 intro pins s σ H x y v u Q I rx ry h
 obtain⟨a,b,xs,ys,rfl,rfl,ha,hb,hx,hz,q1,q2⟩:=h
 cases rx
 cases ry
 obtain⟨its,r1,p1,_⟩:=I.tuple ha
 obtain⟨its2,r2,p2,_⟩:=I.tuple hb
 refine HT.cat_tup p1 p2 (fun z=>hx (r1.nil_iff.mp z)) (fun z=>⟨.ref a,H,I,rfl,q1 (r2.nil_iff.mp z)⟩) (fun z=>?_) (by rw[←r1.length,←r2.length];exact hz)
 refine⟨.ref s.heap.objs.size,_,I.laid (t':=s.toks) (o:= .tup (xs++ys)) (fun b ob q=>Heap.get?_push_of_some _ q) (Nat.le_refl _) ?_,rfl,q2 (fun w=>z (r2.nil_iff.mpr w)) _ (I.hok.fresh (Nat.le_refl _))⟩
 exact⟨by rw[List.length_append];exact hz,_,r1.append r2,IsTup.new _ _⟩
end
end L2
namespace L2
open PySem PySem.Spec PyProof.Rows
def vt (n:Nat)(i:Int):Option Nat:=if 0≤i then(if i<n then some i.toNat else none) else if -(n:Int)≤i then some (i+n).toNat else none
def jL {α:Type}(xs:List α)(i:Int):Option α:=(vt xs.length i).bind fun j=>xs[j]?
theorem jv {n:Nat}{i:Int}{j:Nat}(h:vt n i=some j):seqIndex? i n=some j∧j<n∧-(n:Int)≤i∧i<n:=by
 unfold vt at h
 by_cases h0:0≤i
 ·rw[if_pos h0] at h
  by_cases h1:i<n
  ·rw[if_pos h1] at h
   have e:i.toNat=j:=Option.some.inj h
   exact⟨by rw[seqIndex_of h0 h1,e],by omega,by omega,h1⟩
  ·rw[if_neg h1] at h;cases h
 ·rw[if_neg h0] at h
  by_cases h1: -(n:Int)≤i
  ·rw[if_pos h1] at h
   have e:(i+n).toNat=j:=Option.some.inj h
   exact⟨by rw[seqIndex_neg (by omega) h1,e],by omega,h1,by omega⟩
  ·rw[if_neg h1] at h;cases h
theorem eR {α:Type}{xs:List α}{i:Int}{v:α}(h:jL xs i=some v):∃j,seqIndex? i xs.length=some j∧xs[j]?=some v∧j<xs.length∧-(xs.length:Int)≤i∧i<xs.length:=by
 unfold jL at h
 cases e:vt xs.length i with
 |none=>rw[e] at h;cases h
 |some j=>
  rw[e] at h
  obtain⟨h1,h2,h3,h4⟩:=jv e
  exact⟨j,h1,h,h2,h3,h4⟩
theorem d7 {α:Type}{xs:List α}{j:Nat}{v:α}(h:xs[j]?=some v):jL xs (j:Int)=some v:=by
 have hj:j<xs.length:=(List.getElem?_eq_some_iff.mp h).1
 have e:vt xs.length (j:Int)=some j:=by
  unfold vt
  rw[if_pos (by omega),if_pos (by omega)];simp
 unfold jL;rw[e];exact h
def jh (b:Expr):Prop:=∀o i,subscripted b false o i=operate [o,i] (getItem o i)
def IxR (X:Cx)(r:R2):Prop:=
 ∀(value slice:Expr) (pins:List (Addr×Obj)) (s:Shared) (σ:St) (H:Hp) (x y:V) (v u:Value) (Q:VK),Inv X pins σ H s→RelV x v→RelV y u→r x y H Q→
  subscripted slice false v u=operate [v,u] (getItem v u)→wpAny (model X.prog X.w) X.A (subscriptTail value slice v u) (EP X pins σ Q) X.xe s
def qe (X:Cx)(id:String)(r:V→List V→Hp→VK→Prop):Prop:=
 ∀(pins:List (Addr×Obj)) (s:Shared) (σ:St) (H:Hp) (x:V) (xs:List V) (v:Value) (us:List Value) (Q:VK),Inv X pins σ H s→RelV x v→Vals xs us→r x xs H Q→
  wpAny (model X.prog X.w) X.A (call (.builtin id) (v::us)) (EP X pins σ Q) X.xe s
section
variable {X:Cx} {a b:Expr} {ta tb:TE} {pos:Pos}
theorem IxR.or {r r':R2}(h:IxR X r)(h':IxR X r'):IxR X (fun x y H Q=>r x y H Q∨r' x y H Q):=by
 intro value slice pins s σ H x y v u Q I rx ry q hs
 rcases q with q|q
 ·exact h value slice pins s σ H x y v u Q I rx ry q hs
 ·exact h' value slice pins s σ H x y v u Q I rx ry q hs
theorem xk {r:R2}(hr:IxR X r)(ha:PE X a ta)(hb:PE X b tb)(hs:jh b):PE X (.Subscript a b pos) (rX r ta tb):=by
 intro pins s σ H Q I h
 exact Subscript_ (tR ha hb I h fun v u s2 x y H2 I2 rx ry q=>hr a b pins s2 σ H2 x y v u Q I2 rx ry q (hs _ _))
def xF (K:PySem.W.Frag):R2:=fun x y H Q=>∃p xs i v,x= .ref p∧y= .int i∧SqL K H p xs∧jL xs i=some v∧Q v H
def wV (K:PySem.W.Frag):R2:=fun x y H Q=>∃p xs i v,x= .ref p∧y= .int i∧SqT K H p xs∧jL xs i=some v∧Q v H
def xi:R2:=fun x y H Q=>∃z i c,x= .str z∧y= .int i∧z.length≤sizeLine∧jL z.cps.toList i=some c∧Q (.str ⟨#[c]⟩) H
theorem ix_list:IxR X (xF X.K):=by
 intro value slice pins s σ H x y v u Q I rx ry h hs
 obtain⟨p,xs,i,z,rfl,rfl,hq,he,q⟩:=h
 cases rx
 obtain⟨t,rfl⟩:=ry
 obtain⟨its,r,pl,hz⟩:=I.list hq
 obtain⟨j,h1,h2,h3,h4,h5⟩:=eR he
 obtain⟨w,ew,rw'⟩:=r.get h2
 have hl:=r.length
 have hn:=Y7
 have fin:EP X pins σ Q w s:=⟨z,H,I,rw',q⟩
 by_cases h0:0≤i
 ·have hj:i.toNat=j:=by
   rw[seqIndex_of h0 h5] at h1
   exact Option.some.inj h1
  exact item_listR pl.isList h0 (by omega) (by rw[hj];simpa using ew) fin hs
 ·have hj:(i+(its.toArray.size:Int)).toNat=j:=by
   rw[seqIndex_neg (by omega) h4] at h1
   rw[List.size_toArray,←hl]
   exact Option.some.inj h1
  exact subscriptTail_builtinR (x:=w) pl.isList.typeIs slot_list_getitem.lookup
   (wpAny_getItem_list_neg (Q:=fun r s'=>r=w∧EP X pins σ Q r s') pl.isList (by omega) (by rw[List.size_toArray]<;>omega) (by omega) (by rw[hj];simpa using ew) ⟨rfl,fin⟩) hs
theorem ix_tup:IxR X (wV X.K):=by
 intro value slice pins s σ H x y v u Q I rx ry h hs
 obtain⟨p,xs,i,z,rfl,rfl,hq,he,q⟩:=h
 cases rx
 obtain⟨t,rfl⟩:=ry
 obtain⟨its,r,pl,hz⟩:=I.tuple hq
 obtain⟨j,h1,h2,h3,h4,h5⟩:=eR he
 obtain⟨w,ew,rw'⟩:=r.get h2
 have hl:=r.length
 have hn:=Y7
 have fin:EP X pins σ Q w s:=⟨z,H,I,rw',q⟩
 exact subscriptTail_builtinR (x:=w) pl.typeIs slot_tuple_getitem.lookup
  (getItem_tuple (j:=j) (Q:=fun r s'=>r=w∧EP X pins σ Q r s') pl (by omega) (by omega) (by rw[List.size_toArray,←hl];exact h1) (by simpa using ew) ⟨rfl,fin⟩) hs
theorem uT:IxR X xi:=by
 intro value slice pins s σ H x y v u Q I rx ry h hs
 obtain⟨z,i,c,rfl,rfl,hz,he,q⟩:=h
 obtain⟨t,rfl⟩:=rx
 obtain⟨t',rfl⟩:=ry
 obtain⟨j,h1,h2,h3,h4,h5⟩:=eR he
 have hl:z.cps.toList.length=z.length:=by simp [Str.length]
 rw[hl] at h1 h4 h5
 have hn:=Y7
 exact tail_any (typeIs_str s z t) slot_str_getitem.lookup (getItem_str (c:=c) (by
  have e1:decide (i< -(2 ^ 63:Int))=false:=decide_eq_false (by omega)
  have e2:decide (i≥2 ^ 63)=false:=decide_eq_false (by omega)
  rw[e1,e2,Bool.or_false]) (by rw[h1];simpa using h2) ⟨.str ⟨#[c]⟩,H,I.tok _,⟨_,rfl⟩,q⟩) hs
def zJ (K:PySem.W.Frag):R2:=fun x y H Q=>xF K x y H Q∨wV K x y H Q∨xi x y H Q
theorem ix_seq:IxR X (zJ X.K):=ix_list.or (ix_tup.or uT)
theorem iU (its:List Value)(n j:Nat)(u:Value):Obj.mapSeq (·.setIfInBounds j u) {cls:= .type "list",data:= .seq its.toArray n}={cls:= .type "list",data:= .seq (its.set j u).toArray n}:=by
 simp [Obj.mapSeq]
theorem Inv.lst {pins:List (Addr×Obj)}{σ:St}{H:Hp}{s:Shared}{p:Addr}{xs:List V}(I:Inv X pins σ H s)(h:H p=some (.lst xs)):
  ∃(its:List Value) (n:Nat),Vals xs its∧s.heap.get? p=some {cls:= .type "list",data:= .seq its.toArray n}∧xs.length≤sizeLine:=by
 obtain⟨z,its,n,r,e⟩:=I.hok p _ h
 exact⟨its,n,r,e,z⟩
theorem Inv.lstUpd {pins:List (Addr×Obj)}{σ:St}{H:Hp}{s:Shared}{p:Addr}{xs ys:List V}{its its':List Value}{n n':Nat}{f:Obj→Obj}(I:Inv X pins σ H s)(h:H p=some (.lst xs))
  (ho:s.heap.get? p=some {cls:= .type "list",data:= .seq its.toArray n}) (hf:f {cls:= .type "list",data:= .seq its.toArray n}={cls:= .type "list",data:= .seq its'.toArray n'}) (r:Vals ys its') (hz:ys.length≤sizeLine) (t:Nat):
  Inv X pins σ (i6 H p (.lst ys)) {s with heap:=s.heap.update p f,toks:=t}:=by
 have e:(s.heap.update p f).get? p=some {cls:= .type "list",data:= .seq its'.toArray n'}:=by
  rw[Heap.get?_update_self f ho (by rw[hf]<;>rfl),hf]
 refine I.write (x:=p) (e:=p) (by rw[h];trivial) (.inl rfl) (fun b u hb q=>(Heap.get?_update_other _ _ (Ne.symm hb)).trans q) ⟨_,e⟩ ?_
 exact⟨hz,its',n',r,e⟩
def sj:V→V→V→Hp→(Hp→Prop)→Prop:=fun o i v H Q=>∃p xs k j,o= .ref p∧i= .int k∧H p=some (.lst xs)∧vt xs.length k=some j∧Q (i6 H p (.lst (xs.set j v)))
theorem mX:kB X sj:=by
 intro pins s σ H o i v ov iv u Q I ro ri rv h
 obtain⟨p,xs,k,j,rfl,rfl,hp,hj,q⟩:=h
 cases ro
 obtain⟨t,rfl⟩:=ri
 obtain⟨its,n,r,ho,hz⟩:=I.lst hp
 obtain⟨h1,h2,h3,h4⟩:=jv hj
 have hl:=r.length
 have hn:=Y7
 have I':Inv X pins σ (i6 H p (.lst (xs.set j v))) {s with heap:=s.heap.update p (Obj.mapSeq (·.setIfInBounds j u))}:=
  I.lstUpd hp ho (iU its n j u) (r.set rv j) (by rw[List.length_set];exact hz) s.toks
 by_cases h0:0≤k
 ·have hk:k.toNat=j:=by
   rw[seqIndex_of h0 h4] at h1
   exact Option.some.inj h1
  exact PySem.W.ki_setAt ho h0 (by omega) (by rw[List.size_toArray,←hl];exact h4) (by rw[hk];exact⟨_,I',q⟩)
 ·have hk:(k+(its.toArray.size:Int)).toNat=j:=by
   rw[seqIndex_neg (by omega) h3] at h1
   rw[List.size_toArray,←hl]
   exact Option.some.inj h1
  exact PySem.W.ki_setBack ho (by omega) (by rw[List.size_toArray,←hl];exact h3) (by omega) (by rw[hk];exact⟨_,I',q⟩)
theorem eN (lo hi:Option Int)(n:Nat):(sliceBounds lo hi none n).1=((HT.sIx n 0 lo:Nat):Int)∧(sliceBounds lo hi none n).2.1=((HT.sIx n n hi:Nat):Int)∧(sliceBounds lo hi none n).2.2=1:=by
 refine⟨?_,?_,rfl⟩
 ·cases lo with
  |none=>simp [sliceBounds,HT.sIx]
  |some i=>
   simp only[sliceBounds,HT.sIx,Option.getD_none,show(1:Int)>0 by decide,if_true]
   by_cases h:i<0
   ·simp only[h,if_true]<;>omega
   ·simp only[h,if_false]<;>omega
 ·cases hi with
  |none=>simp [sliceBounds,HT.sIx]
  |some i=>
   simp only[sliceBounds,HT.sIx,Option.getD_none,show(1:Int)>0 by decide,if_true]
   by_cases h:i<0
   ·simp only[h,if_true]<;>omega
   ·simp only[h,if_false]<;>omega
theorem cw (its:List Value)(lo hi:Option Int):slicePick its.toArray lo hi none=((its.drop (HT.sIx its.length 0 lo)).take (HT.sIx its.length its.length hi -HT.sIx its.length 0 lo)).toArray:=by
 obtain⟨h1,h2,h3⟩:=eN lo hi its.toArray.size
 unfold slicePick
 rw[h1,h2,h3]
 simp only[sliceRange_one,pick_run,List.size_toArray]<;>rfl
def xO (K:PySem.W.Frag):V→Option Int→Option Int→Hp→VK→Prop:=fun x lo hi H Q=>∃a xs,x= .ref a∧SqL K H a xs∧∀p,H p=none→Q (.ref p) (i6 H p (.lst (Z4 xs lo hi)))
theorem sl_list:SlR X (xO X.K):=by
 intro pins s σ H x v vl vu lo hi sl Q I rx hs pl pu h
 obtain⟨a,xs,rfl,hx,q⟩:=h
 cases rx
 obtain⟨its,r,ht,hz⟩:=I.list hx
 have hlen:=r.length
 refine⟨"list",_,slot_list_getitem.lookup,ht.isList.typeIs,?_⟩
 refine wpAny_getItem_list_slice ht.isList hs pl pu .none (by simp) ?_ (by rw[List.size_toArray]<;>omega)
 rw[cw,←hlen]
 refine⟨.ref s.heap.objs.size,_,I.laid (t':=s.toks) (o:= .lst (Z4 xs lo hi)) (fun b ob q=>Heap.get?_push_of_some _ q) (Nat.le_refl _) ?_,rfl,q _ (I.hok.fresh (Nat.le_refl _))⟩
 exact⟨Nat.le_trans (ai xs lo hi) hz,_,0,(r.drop (HT.sIx xs.length 0 lo)).take (HT.sIx xs.length xs.length hi -HT.sIx xs.length 0 lo),Heap.get?_push_size _ rfl⟩
def x6:V→Bool
 | .non=>true
 | .bl _=>true
 | .int _=>true
 | .str _=>true
 |_=>false
def U1:V→V→Bool
 | .non,.non=>true
 | .bl a,.bl b=>a==b
 | .bl a,.int b=>(if a then 1 else 0)==b
 | .int a,.bl b=>a==(if b then 1 else 0)
 | .int a,.int b=>a==b
 | .str a,.str b=>a==b
 |_,_=>false
theorem N0 {A:Around}{s:Shared}{y x:V}{u v:Value}(ry:RelV y u)(rx:RelV x v)(fy:x6 y=true)(fx:x6 x=true):SeqAt.EqAt A s u v (U1 y x):=by
 cases y with
 |non=>
  cases ry
  cases x with
  |non=>cases rx;exact SeqAt.EqAt.same _
  |bl b=>cases rx;exact SeqAt.EqAt.none_bool b
  |int b=>obtain⟨t,rfl⟩:=rx;exact SeqAt.EqAt.none_int b t
  |str b=>obtain⟨t,rfl⟩:=rx;exact SeqAt.EqAt.none_str b t
  |_=>exact absurd (show false=true from fx) Bool.false_ne_true
 |bl a=>
  cases ry
  cases x with
  |non=>cases rx;exact SeqAt.EqAt.bool_none a
  |bl b=>cases rx;exact SeqAt.EqAt.bool_bool a b
  |int b=>obtain⟨t,rfl⟩:=rx;exact SeqAt.EqAt.bool_int a b t
  |str b=>obtain⟨t,rfl⟩:=rx;exact SeqAt.EqAt.bool_str a b t
  |_=>exact absurd (show false=true from fx) Bool.false_ne_true
 |int a=>
  obtain⟨t',rfl⟩:=ry
  cases x with
  |non=>cases rx;exact SeqAt.EqAt.int_none a t'
  |bl b=>cases rx;exact SeqAt.EqAt.int_bool a t' b
  |int b=>obtain⟨t,rfl⟩:=rx;exact SeqAt.EqAt.int_int a t' b t
  |str b=>obtain⟨t,rfl⟩:=rx;exact SeqAt.EqAt.int_str a t' b t
  |_=>exact absurd (show false=true from fx) Bool.false_ne_true
 |str a=>
  obtain⟨t',rfl⟩:=ry
  cases x with
  |non=>cases rx;exact SeqAt.EqAt.str_none a t'
  |bl b=>cases rx;exact SeqAt.EqAt.str_bool a t' b
  |int b=>obtain⟨t,rfl⟩:=rx;exact SeqAt.EqAt.str_int a t' b t
  |str b=>obtain⟨t,rfl⟩:=rx;exact SeqAt.EqAt.str_str a t' b t
  |_=>exact absurd (show false=true from fx) Bool.false_ne_true
 |_=>exact absurd (show false=true from fy) Bool.false_ne_true
def hE (x:V)(u:Value):Bool:=match u with
 | .none=>U1 .non x
 | .bool b=>U1 (.bl b) x
 | .int i _=>U1 (.int i) x
 | .str z _=>U1 (.str z) x
 |_=>false
theorem oK {x y:V}{u:Value}(r:RelV y u)(f:x6 y=true):hE x u=U1 y x:=by
 cases y with
 |non=>cases r;rfl
 |bl b=>cases r;rfl
 |int i=>obtain⟨t,rfl⟩:=r;rfl
 |str z=>obtain⟨t,rfl⟩:=r;rfl
 |_=>exact absurd (show false=true from f) Bool.false_ne_true
theorem W5 {x:V}:∀{xs:List V} {us:List Value},Vals xs us→xs.all x6=true→us.any (hE x)=xs.any fun y=>U1 y x
 |_,_,.nil,_=>rfl
 |y::xs,u::us,.cons r t,f=>by
  rw[List.all_cons,Bool.and_eq_true] at f
  rw[List.any_cons,List.any_cons,oK r f.1,W5 t f.2]
theorem P8 {A:Around}{s:Shared}{x:V}{v:Value}(rx:RelV x v)(fx:x6 x=true):∀{xs:List V} {us:List Value},Vals xs us→xs.all x6=true→∀u∈us,SeqAt.EqAt A s u v (hE x u)
 |_,_,.nil,_=>fun u hu=>by cases hu
 |y::xs,u::us,.cons r t,f=>fun u' hu=>by
  rw[List.all_cons,Bool.and_eq_true] at f
  rcases List.mem_cons.mp hu with rfl|hu
  ·rw[oK r f.1];exact N0 r rx f.1 fx
  ·exact P8 rx fx t f.2 u' hu
def yn (x:V)(xs:List V):Bool:=xs.any fun y=>U1 y x
def yp (K:PySem.W.Frag)(neg:Bool):R2:=fun x y H Q=>∃p xs,y= .ref p∧(SqL K H p xs∨SqT K H p xs)∧x6 x=true∧xs.all x6=true∧Q (.bl (if neg then !yn x xs else yn x xs)) H
theorem op_in_seq:OpR X (compareOp .In) (yp X.K false):=by
 intro pins s σ H x y v u Q I rx ry h
 obtain⟨p,xs,rfl,hq,fx,fs,q⟩:=h
 cases ry
 rcases hq with hq|hq
 ·obtain⟨its,r,pl,hz⟩:=I.list hq
  refine SeqAt.in_listAt (hE x) pl.isList (fun w hw=>P8 rx fx r fs w (by simpa using hw)) ⟨.bl _,H,I,rfl,?_⟩
  rw[show its.toArray.any (hE x)=its.any (hE x) by simp,W5 r fs]
  exact q
 ·obtain⟨its,r,pl,hz⟩:=I.tuple hq
  refine SeqAt.in_tupleAt (hE x) pl (fun w hw=>P8 rx fx r fs w (by simpa using hw)) ⟨.bl _,H,I,rfl,?_⟩
  rw[show its.toArray.any (hE x)=its.any (hE x) by simp,W5 r fs]
  exact q
theorem op_notIn_seq:OpR X (compareOp .NotIn) (yp X.K true):=by
 intro pins s σ H x y v u Q I rx ry h
 obtain⟨p,xs,rfl,hq,fx,fs,q⟩:=h
 cases ry
 rcases hq with hq|hq
 ·obtain⟨its,r,pl,hz⟩:=I.list hq
  refine SeqAt.notIn_listAt (hE x) pl.isList (fun w hw=>P8 rx fx r fs w (by simpa using hw)) ⟨.bl _,H,I,rfl,?_⟩
  rw[show its.toArray.any (hE x)=its.any (hE x) by simp,W5 r fs]
  exact q
 ·obtain⟨its,r,pl,hz⟩:=I.tuple hq
  refine SeqAt.notIn_tupleAt (hE x) pl (fun w hw=>P8 rx fx r fs w (by simpa using hw)) ⟨.bl _,H,I,rfl,?_⟩
  rw[show its.toArray.any (hE x)=its.any (hE x) by simp,W5 r fs]
  exact q
theorem dH:OpR X (compareOp .NotIn) (fun x y H Q=>∃i j,x= .str i∧y= .str j∧Q (.bl (!(!(Builtin.Str.occurrences j i 0 j.length 1).isEmpty))) H):=by
 intro pins s σ H x y v u Q I rx ry h
 obtain⟨i,j,rfl,rfl,q⟩:=h
 obtain⟨t,rfl⟩:=rx
 obtain⟨t',rfl⟩:=ry
 exact notIn_str ⟨.bl _,H,I,rfl,q⟩
theorem CallR.or {f:Value}{r r':List V→Hp→VK→Prop}(h:CallR X f r)(h':CallR X f r'):CallR X f (fun xs H Q=>r xs H Q∨r' xs H Q):=by
 intro pins s σ H xs us Q I rs q
 rcases q with q|q
 ·exact h pins s σ H xs us Q I rs q
 ·exact h' pins s σ H xs us Q I rs q
theorem call_list_of:CallR X (.type "list") (fun xs H Q=>∃p ys,xs=[.ref p]∧(SqL X.K H p ys∨SqT X.K H p ys)∧∀l,H l=none→Q (.ref l) (i6 H l (.lst ys))):=by
 intro pins s σ H xs us Q I r h
 obtain⟨p,ys,rfl,hq,q⟩:=h
 obtain⟨u,rfl,rx⟩:=D7 r
 cases rx
 have fin:∀(its:List Value),Vals ys its→ys.length≤sizeLine→∀(h':Heap) (c':Nat),(∀b o',s.heap.get? b=some o'→h'.get? b=some o')→
   h'.get? s.heap.objs.size=some {cls:= .type "list",dict:=none,data:= .seq its.toArray c',slots:= #[]}→EP X pins σ Q (.ref s.heap.objs.size) {s with heap:=h'}:=fun its r' hz h' c' kp e=>
  ⟨.ref s.heap.objs.size,_,I.laid (t':=s.toks) kp (Nat.le_refl _) (show ObjOk X.prog X.w _ h' _ (.lst ys) from⟨hz,its,c',r',e⟩),rfl,q _ (I.hok.fresh (Nat.le_refl _))⟩
 rcases hq with hq|hq
 ·obtain⟨its,r',pl,hz⟩:=I.list hq
  have hlen:=r'.length
  obtain⟨o,ho,hc,n,hd⟩:=pl.isList
  exact call_list_seq p (.inl rfl) ho hc hd (fun h' c' kp e=>fin its r' hz h' c' kp e) (by simp only[List.size_toArray]<;>omega)
 ·obtain⟨its,r',pl,hz⟩:=I.tuple hq
  have hlen:=r'.length
  obtain⟨o,ho,hc,n,hd⟩:=pl
  exact call_list_seq p (.inr rfl) ho hc hd (fun h' c' kp e=>fin its r' hz h' c' kp e) (by simp only[List.size_toArray]<;>omega)
def xU (K:PySem.W.Frag)(T:String)(x:V)(H:Hp):Prop:=match x with
 | .str _=>T="str"
 | .int _=>T="int"
 | .ref p=>(T="list"∧∃xs,SqL K H p xs)∨(T="tuple"∧∃o,K.lookup p=some o∧o.cls= .type "tuple"∧o.dict=none)∨
   (T="dict"∧((∃kvs,H p=some (.dK kvs))∨∃kvs,H p=some (.dT kvs)))∨(T="set"∧∃S n,H p=some (.set S n))
 |_=>False
theorem pQ {pins:List (Addr×Obj)}{σ:St}{H:Hp}{s:Shared}{T:String}{x:V}{v:Value}(I:Inv X pins σ H s)(r:RelV x v)(ty:xU X.K T x H):
  s.TypeIs v T∧∀a,v= .ref a→∃ob,s.heap.get? a=some ob∧ob.dict=none:=by
 cases x with
 |str z=>
  obtain⟨t,rfl⟩:=r
  cases (show T="str" from ty)
  exact⟨typeIs_str s z t,fun _ e=>nomatch e⟩
 |int i=>
  obtain⟨t,rfl⟩:=r
  cases (show T="int" from ty)
  exact⟨typeIs_int s i t,fun _ e=>nomatch e⟩
 |ref p=>
  cases r
  rcases ty with⟨rfl,xs,hq⟩|⟨rfl,o,hk,hc,hd⟩|⟨rfl,hk⟩|⟨rfl,S,n,hk⟩
  ·obtain⟨its,_,pl,_⟩:=I.list hq
   refine⟨pl.isList.typeIs,fun a e=>?_⟩
   cases e
   obtain⟨o,n,e,c,hd,_⟩:=pl
   exact⟨o,e,hd⟩
  ·refine⟨⟨o,I.kIn p o hk,hc⟩,fun a e=>?_⟩
   cases e
   exact⟨o,I.kIn _ o hk,hd⟩
  ·have z:∃o,s.heap.get? p=some o∧o.ExactDict:=by
    rcases hk with⟨kvs,hk⟩|⟨kvs,hk⟩
    ·obtain⟨_,_,_,_,o,_,_,e,ex,_⟩:=I.hok p _ hk
     exact⟨o,e,ex⟩
    ·obtain⟨_,_,_,_,o,_,_,e,ex,_⟩:=I.hok p _ hk
     exact⟨o,e,ex⟩
   obtain⟨o,e,ex⟩:=z
   refine⟨⟨o,e,ex.1⟩,fun a e2=>?_⟩
   cases e2
   exact⟨o,e,ex.2.1⟩
  ·obtain⟨o,_,_,_,e,ex,_⟩:=I.hok p _ hk
   refine⟨⟨o,e,ex.1⟩,fun a e2=>?_⟩
   cases e2
   exact⟨o,e,ex.2.1⟩
 |_=>exact False.elim ty
def uC (K:PySem.W.Frag)(T:String)(r:V→List V→Hp→VK→Prop)(to:TE):TE:=fun σ H Q=>to σ H fun x H1=>xU K T x H1∧r x [] H1 Q
def zh (K:PySem.W.Frag)(T:String)(r:V→List V→Hp→VK→Prop)(to:TE)(t:TA):TE:=fun σ H Q=>to σ H fun x H1=>xU K T x H1∧t σ H1 fun xs H2=>r x xs H2 Q
variable {o e:Expr} {es:List Expr} {to:TE} {t:TA} {name:Str} {apos cpos:Pos} {T id:String} {r:V→List V→Hp→VK→Prop}
theorem uG (pa:PlainAttrs T)(slot:Slot T name id)(hty:typeOf (.builtin id)=pure (.type "method_descriptor"))(hm:qe X id r)(ho:PE X o to)
  (hbase:attributeBase o name X.env (eval o X.env)=eval o X.env:=by rfl) (hline:(apos.endLine==cpos.line)=true:=by rfl):PE X (.Call (.Attribute o name apos) [] [] cpos) (uC X.K T r to):=by
 intro pins s σ H Q I h
 refine wpAny_Call_method0_late hbase hline (A2 (ho pins s σ H _ I h) fun v s1 ⟨x,H1,I1,r1,ty,q1⟩=>?_)
 obtain⟨h1,h2⟩:=pQ I1 r1 ty
 exact⟨T,id,pa,slot,hty,h1,h2,Calls.callWith_builtin rfl (PySem.evalArgs_none (hm pins s1 σ H1 x [] v [] Q I1 r1 .nil q1))⟩
theorem wa (pa:PlainAttrs T)(slot:Slot T name id)(hty:typeOf (.builtin id)=pure (.type "method_descriptor"))(hm:qe X id r)(ho:PE X o to)(ha:PA X (e::es) t)
  (hbase:attributeBase o name X.env (eval o X.env)=eval o X.env:=by rfl)
  (hfew:((backTo cpos (starEach (e::es) X.env)).all (fun x=>!x.1)&&(backToKw cpos (keywordEach [] X.env)).all (fun x=>x.1.isSome)
   &&decide ((e::es).length+([]:List Keyword).length+(if([]:List Keyword).isEmpty then 0 else 1)<30))=true:=by rfl)
  (hline:(apos.endLine==cpos.line)=true:=by rfl) (hs:starEach (e::es) X.env=(false,eval e X.env)::starEach es X.env:=by rfl) (hplain:(backTo cpos (starEach es X.env)).any (·.1)=false:=by rfl):
  PE X (.Call (.Attribute o name apos) (e::es) [] cpos) (zh X.K T r to t):=by
 intro pins s σ H Q I h
 refine wpAny_Call_method_late hbase hfew hline rfl (A2 (ho pins s σ H _ I h) fun v s1 ⟨x,H1,I1,r1,ty,q1⟩=>?_)
 obtain⟨h1,h2⟩:=pQ I1 r1 ty
 refine⟨T,id,pa,slot,hty,h1,h2,?_⟩
 have hA:=ha cpos pins s1 σ H1 _ I1 q1
 rw[hs] at hA⊢
 refine Calls.callWith_builtin (by show(false||(backTo cpos (starEach es X.env)).any (·.1))=false;rw[hplain]<;>rfl) (Calls.evalArgs_plain ?_)
 exact A2 hA fun us s2 ⟨vs,H2,I2,r2,q2⟩=>hm pins s2 σ H2 x vs v us Q I2 r1 r2 q2
end
end L2
namespace L2
open PySem PySem.Spec PyProof.Rows
def zL (X:Cx)(id:String)(r:V→List V→Hp→VK→Prop):Prop:=
 ∀(pins:List (Addr×Obj)) (s:Shared) (σ:St) (H:Hp) (x:V) (xs:List V) (v:Value) (us:List Value) (Q:VK),Inv X pins σ H s→RelV x v→Vals xs us→r x xs H Q→
  wpAny (model X.prog X.w) X.A (call (.builtin id) (v::us)) (EP X pins σ Q) X.xe s
theorem Vals.one:∀{x:V} {us:List Value},Vals [x] us→∃u,us=[u]∧RelV x u
 |_,_,.cons r .nil=>⟨_,rfl,r⟩
theorem Vals.zero:∀{us:List Value},Vals [] us→us=[]
 |_,.nil=>rfl
theorem Vals.dropLast {xs:List V}{us:List Value}(h:Vals xs us):Vals xs.dropLast us.dropLast:=by
 induction h with
 |nil=>exact .nil
 |cons r t ih=>
  cases t with
  |nil=>exact .nil
  |cons q t'=>exact .cons r ih
theorem hV {α:Type}(l:List α):l.eraseIdx (l.length -1)=l.dropLast:=by
 induction l with
 |nil=>rfl
 |cons a r ih=>
  cases r with
  |nil=>rfl
  |cons b r=>
   have e:(a::b::r).length -1=((b::r).length -1)+1:=by
    have h1:(a::b::r).length=r.length+2:=rfl
    have h2:(b::r).length=r.length+1:=rfl
    omega
   rw[e,List.eraseIdx_cons_succ,ih]
   all_goals rfl
section
variable {X:Cx} {pins:List (Addr×Obj)} {σ:St} {H:Hp} {s:Shared} {l b:Addr} {xs ys zs:List V}
theorem Inv.lset {its its':List Value}{n:Nat}{f:Array Value→Array Value}{t':Nat}(I:Inv X pins σ H s)(hH:H l=some (.lst xs))
  (e:s.heap.get? l=some {cls:= .type "list",data:= .seq its.toArray n}) (hf:f its.toArray=its'.toArray) (hv:Vals ys its') (hz:ys.length≤sizeLine):
  Inv X pins σ (i6 H l (.lst ys)) {s with heap:=s.heap.update l (Obj.mapSeq f),toks:=t'}:=by
 have q:=PySem.IsL.update e f
 rw[hf] at q
 refine I.write (x:=l) (e:=l) (by rw[hH];exact trivial) (.inl rfl) (fun b' u hb hu=>(Heap.get?_update_other s.heap (Obj.mapSeq f) (Ne.symm hb)).trans hu) ⟨_,q⟩ ?_
 exact⟨hz,its',_,hv,q⟩
theorem Inv.lnew {its:List Value}{t':Nat}(I:Inv X pins σ H s)(hv:Vals ys its)(hz:ys.length≤sizeLine):
  Inv X pins σ (i6 H s.heap.objs.size (.lst ys)) {s with heap:=s.heap.push {cls:= .type "list",data:= .seq its.toArray},toks:=t'}:=
 I.laid (fun _ _ q=>Heap.get?_push_of_some _ q) (Nat.le_refl _) ⟨hz,its,0,hv,Heap.get?_push_size _ rfl⟩
theorem Inv.fresh (I:Inv X pins σ H s):H s.heap.objs.size=none:=I.hok.fresh (Nat.le_refl _)
theorem Inv.lstM (I:Inv X pins σ H s)(hH:H l=some (.lst xs)):xs.length≤sizeLine∧∃(its:List Value) (n:Nat),Vals xs its∧xs.length=its.length∧s.heap.get? l=some {cls:= .type "list",data:= .seq its.toArray n}:=by
 obtain⟨z,its,n,r,e⟩:=I.hok l _ hH
 exact⟨z,its,n,r,r.length,e⟩
end
section
variable {X:Cx}
def ji:V→List V→Hp→VK→Prop:=fun x vs H Q=>∃l xs y,x= .ref l∧vs=[y]∧H l=some (.lst xs)∧xs.length<sizeLine∧Q .non (i6 H l (.lst (xs++[y])))
theorem kH:zL X "list.append" ji:=by
 intro pins s σ H x vs v us Q I rx rv h
 obtain⟨l,xs,y,rfl,rfl,hH,hz,q⟩:=h
 cases rx
 obtain⟨u,rfl,ru⟩:=rv.one
 obtain⟨z,its,n,r,hl,e⟩:=I.lstM hH
 refine call_meets F.slot_list_append ⟨_,e,rfl⟩ F.entry_list_append (F.args_list_append_2 _ _) (PySem.list_append l its.toArray n u (by rw[List.size_toArray];omega)) ⟨e,?_⟩
 refine⟨.non,_,I.lset (its':=its++[u]) hH e (by simp) (r.append (.cons ru .nil)) ?_,rfl,q⟩
 rw[List.length_append,List.length_singleton]
 omega
def xb:V→List V→Hp→VK→Prop:=fun x vs H Q=>∃l xs y,x= .ref l∧vs=[]∧H l=some (.lst xs)∧xs[xs.length -1]?=some y∧Q y (i6 H l (.lst xs.dropLast))
theorem uO:zL X "list.pop" xb:=by
 intro pins s σ H x vs v us Q I rx rv h
 obtain⟨l,xs,y,rfl,rfl,hH,hy,q⟩:=h
 cases rx
 have hus:=rv.zero
 subst hus
 obtain⟨z,its,n,r,hl,e⟩:=I.lstM hH
 obtain⟨u,hu,ru⟩:=r.get hy
 have hy':its.toArray[its.toArray.size -1]?=some u:=by
  show its.toArray[its.length -1]?=some u
  rw[←Array.getElem?_toList,←hl]
  exact hu
 refine call_meets F.slot_list_pop ⟨_,e,rfl⟩ F.entry_list_pop (F.args_list_pop_1 _) (MeetsSeq.list_pop_last l its.toArray n u hy' (by rw[List.size_toArray];omega)) ⟨e,?_⟩
 refine⟨y,_,I.lset (its':=its.dropLast) hH e ?_ r.dropLast ?_,ru,q⟩
 ·show its.toArray.eraseIdxIfInBounds (its.toArray.size -1)=its.dropLast.toArray
  rw[List.size_toArray,List.eraseIdxIfInBounds_toArray,hV]
 ·rw[List.length_dropLast]
  omega
def wR:R2:=fun x y H Q=>∃l b xs zs,x= .ref l∧y= .ref b∧H l=some (.lst xs)∧H b=some (.lst zs)∧xs.length+zs.length≤sizeLine∧∀p,H p=none→Q (.ref p) (i6 H p (.lst (xs++zs)))
theorem op_cat:OpR X (binaryOp .Add) wR:=by
 intro pins s σ H x y v u Q I rx ry h
 obtain⟨l,b,xs,zs,rfl,rfl,hH,hB,hz,q⟩:=h
 cases rx
 cases ry
 obtain⟨z,its,n,r,hl,e⟩:=I.lstM hH
 obtain⟨z2,its2,n2,r2,hl2,e2⟩:=I.lstM hB
 refine PySem.P.add_list e e2 ?_ (by rw[List.size_toArray,List.size_toArray];omega)
 have ea:its.toArray++its2.toArray=(its++its2).toArray:=by simp
 rw[ea]
 exact⟨.ref _,_,I.lnew (t':=s.toks) (r.append r2) (by rw[List.length_append];omega),rfl,q _ I.fresh⟩
end
section
variable {prog:Program} {w:World} {A:Around} {E:Value→Shared→Prop} {s:Shared}
end
section
variable {X:Cx}
end
end L2
namespace L2
open PySem PySem.Spec PyProof.Rows
section
variable {κ:Type} [DecidableEq κ]
def i5 (kvs:List (κ×V))(k:κ):Option V:=(kvs.find? fun kv=>decide (kv.1=k)).map (·.2)
def x9 (kvs:List (κ×V))(k:κ)(v:V):List (κ×V):=
 if(kvs.any fun kv=>decide (kv.1=k))=true then kvs.map (fun kv=>if kv.1=k then(kv.1,v) else kv) else kvs++[(k,v)]
theorem p7 {p:κ×V}{r:List (κ×V)}{k:κ}(e:p.1=k):i5 (p::r) k=some p.2:=by simp [i5,List.find?_cons,e]
theorem q8 {p:κ×V}{r:List (κ×V)}{k:κ}(e:¬p.1=k):i5 (p::r) k=i5 r k:=by simp [i5,List.find?_cons,e]
theorem F8 (k:κ):∀kvs:List (κ×V),(kvs.any fun kv=>decide (kv.1=k))=(i5 kvs k).isSome
 |[]=>rfl
 |p::r=>by
  rw[List.any_cons]
  by_cases e:p.1=k
  ·simp only[p7 e,decide_eq_true e,Bool.true_or,Option.isSome_some]
  ·rw[q8 e,decide_eq_false e,Bool.false_or];exact F8 k r
theorem gm (k j:κ)(y:V):∀kvs:List (κ×V),i5 (kvs.map fun kv=>if kv.1=k then(kv.1,y) else kv) j=(i5 kvs j).map fun x=>if j=k then y else x
 |[]=>rfl
 |p::r=>by
  have ih:=gm k j y r
  rw[List.map_cons]
  by_cases h:p.1=k
  ·rw[if_pos h]
   by_cases e:p.1=j
   ·rw[p7 (p:=(p.1,y)) e,p7 e,Option.map_some,if_pos (e.symm.trans h)]
   ·rw[q8 (p:=(p.1,y)) e,q8 e,ih]
  ·rw[if_neg h]
   by_cases e:p.1=j
   ·rw[p7 (p:=p) e,p7 e,Option.map_some,if_neg (fun z=>h (e.trans z))]
   ·rw[q8 (p:=p) e,q8 e,ih]
theorem dy (k j:κ)(y:V):∀kvs:List (κ×V),i5 kvs k=none→i5 (kvs++[(k,y)]) j=if j=k then some y else i5 kvs j
 |[],_=>by
  by_cases e:k=j
  ·rw[if_pos e.symm];exact p7 (p:=(k,y)) e
  ·rw[if_neg (fun z=>e z.symm)];exact q8 (p:=(k,y)) e
 |p::r,hn=>by
  rw[List.cons_append]
  have hk:¬p.1=k:=fun z=>by rw[p7 z] at hn;cases hn
  rw[q8 hk] at hn
  have ih:=dy k j y r hn
  by_cases e:p.1=j
  ·rw[p7 e,p7 e,if_neg (fun z=>hk (e.trans z))]
  ·rw[q8 e,q8 e,ih]
theorem z9 (kvs:List (κ×V))(k j:κ)(y:V):i5 (x9 kvs k y) j=if j=k then some y else i5 kvs j:=by
 unfold x9
 by_cases a:(kvs.any fun kv=>decide (kv.1=k))=true
 ·rw[if_pos a,gm]
  rw[F8] at a
  by_cases e:j=k
  ·obtain⟨x,hx⟩:=Option.isSome_iff_exists.mp a
   rw[if_pos e,e,hx,Option.map_some,if_pos rfl]
  ·rw[if_neg e]
   cases i5 kvs j with
   |none=>rfl
   |some x=>rw[Option.map_some,if_neg e]
 ·rw[if_neg a]
  refine dy k j y kvs ?_
  rw[F8] at a
  cases q:i5 kvs k with
  |none=>rfl
  |some x=>rw[q] at a;exact(a rfl).elim
theorem D4 (kvs:List (κ×V))(k:κ)(v:V):(x9 kvs k v).length≤kvs.length+1:=by
 unfold x9
 split
 ·rw[List.length_map];omega
 ·rw[List.length_append,List.length_cons,List.length_nil];omega
theorem A9 {kvs:List (κ×V)}{k:κ}(v:V)(h:i5 kvs k=none):x9 kvs k v=kvs++[(k,v)]:=by
 unfold x9
 rw[F8,h]
 exact if_neg (by decide)
theorem RelO.isSome_eq {o:Option V}{u:Option Value}(r:RelO o u):o.isSome=u.isSome:=by
 cases o with
 |none=>cases u with
  |none=>rfl
  |some _=>exact(show False from r).elim
 |some _=>cases u with
  |none=>exact(show False from r).elim
  |some _=>rfl
theorem RelO.getD {o:Option V}{u:Option Value}{d:V}{d':Value}(r:RelO o u)(rd:RelV d d'):RelV (o.getD d) (u.getD d'):=by
 cases o with
 |none=>cases u with
  |none=>exact rd
  |some _=>exact(show False from r).elim
 |some _=>cases u with
  |none=>exact(show False from r).elim
  |some _=>exact r
theorem KV.val {kvs:List (κ×V)}{vs:List (κ×Value)}(r:KV kvs vs)(k:κ):RelO (i5 kvs k) (valueAt vs k):=by
 unfold KV at r
 induction r with
 |nil=>exact True.intro
 | @cons p q ps qs h t ih=>
  obtain⟨h1,h2⟩:=h
  by_cases e:p.1=k
  ·have e':q.1=k:=h1.symm.trans e
   have b:valueAt (q::qs) k=some q.2:=by simp [valueAt,List.find?_cons,e']
   rw[p7 e,b];exact h2
  ·have e':¬q.1=k:=fun z=>e (h1.trans z)
   have b:valueAt (q::qs) k=valueAt qs k:=by simp [valueAt,List.find?_cons,e']
   rw[q8 e,b];exact ih
theorem KV.any {kvs:List (κ×V)}{vs:List (κ×Value)}(r:KV kvs vs)(k:κ):(kvs.any fun kv=>decide (kv.1=k))=vs.any fun kv=>decide (kv.1=k):=by
 unfold KV at r
 induction r with
 |nil=>rfl
 |cons h t ih=>rw[List.any_cons,List.any_cons,ih,h.1]
theorem KV.repl {kvs:List (κ×V)}{vs:List (κ×Value)}(r:KV kvs vs)(k:κ){y:V}{u:Value}(ry:RelV y u):
  KV (kvs.map fun kv=>if kv.1=k then(kv.1,y) else kv) (vs.map fun kv=>if kv.1=k then(kv.1,u) else kv):=by
 unfold KV at r⊢
 induction r with
 |nil=>exact .nil
 | @cons p q ps qs h t ih=>
  rw[List.map_cons,List.map_cons]
  refine .cons ?_ ih
  obtain⟨h1,h2⟩:=h
  by_cases e:p.1=k
  ·rw[if_pos e,if_pos (h1.symm.trans e)];exact⟨h1,ry⟩
  ·rw[if_neg e,if_neg (fun z=>e (h1.trans z))];exact⟨h1,h2⟩
theorem KV.put {kvs:List (κ×V)}{vs:List (κ×Value)}(r:KV kvs vs)(k:κ){y:V}{u:Value}(ry:RelV y u):KV (x9 kvs k y) (stored vs k u):=by
 unfold x9 stored
 rw[r.any k]
 by_cases e:(vs.any fun kv=>decide (kv.1=k))=true
 ·rw[if_pos e,if_pos e];exact r.repl k ry
 ·rw[if_neg e,if_neg e];exact Paired.snoc r ⟨rfl,ry⟩
theorem KV.keys {kvs:List (κ×V)}{vs:List (κ×Value)}(r:KV kvs vs):kvs.map (·.1)=vs.map (·.1):=by
 unfold KV at r
 induction r with
 |nil=>rfl
 |cons h t ih=>rw[List.map_cons,List.map_cons,ih,h.1]
theorem KV.length {kvs:List (κ×V)}{vs:List (κ×Value)}(r:KV kvs vs):kvs.length=vs.length:=Paired.length r
end
theorem ak {P:Program}{w:World}{k:g4}{u:Value}(r:RelV (kV k) u):(h8 P w).is k u=true:=by
 cases k with
 |inl i=>obtain⟨t,e⟩:=(show ∃t,u=Value.int i t from r);subst e;exact gd P w i t
 |inr x=>obtain⟨t,e⟩:=(show ∃t,u=Value.str x t from r);subst e;exact gK P w x t
theorem cN {P:Program}{w:World}:∀{ks:List g4} {us:List Value},Vals (ks.map kV) us→ItemsAre (h8 P w) ks us
 |[],_,r=>by rw[List.map_nil] at r;cases r;exact .nil
 |k::ks,_,r=>by
  rw[List.map_cons] at r
  cases r with
  |cons h t=>exact .cons (ak h) (cN t)
abbrev KT (H:Hp):List (List g4×V)→List (List g4×Addr×Value)→Prop:=Paired fun p q=>p.1=q.1∧H q.2.1=some (.tup (p.1.map kV))∧RelV p.2 q.2.2
theorem KT.val {H:Hp}{kvs:List (List g4×V)}{xs:List (List g4×Addr×Value)}(r:KT H kvs xs)(k:List g4):RelO (i5 kvs k) ((atKey xs k).map (·.2)):=by
 induction r with
 |nil=>exact True.intro
 | @cons p q ps qs h t ih=>
  obtain⟨h1,_,h2⟩:=h
  by_cases e:p.1=k
  ·have e':q.1=k:=h1.symm.trans e
   have b:atKey (q::qs) k=some q.2:=by simp [atKey,List.find?_cons,e']
   rw[p7 e,b];exact h2
  ·have e':¬q.1=k:=fun z=>e (h1.trans z)
   have b:atKey (q::qs) k=atKey qs k:=by simp [atKey,List.find?_cons,e']
   rw[q8 e,b];exact ih
theorem KT.repl {H:Hp}{kvs:List (List g4×V)}{xs:List (List g4×Addr×Value)}(r:KT H kvs xs)(k:List g4){y:V}{u:Value}(ry:RelV y u):
  KT H (kvs.map fun kv=>if kv.1=k then(kv.1,y) else kv) (xs.map (putAt k u)):=by
 induction r with
 |nil=>exact .nil
 | @cons p q ps qs h t ih=>
  rw[List.map_cons,List.map_cons]
  refine .cons ?_ ih
  obtain⟨h1,h2,h3⟩:=h
  unfold putAt
  by_cases e:p.1=k
  ·rw[if_pos e,if_pos (h1.symm.trans e)];exact⟨h1,h2,ry⟩
  ·rw[if_neg e,if_neg (fun z=>e (h1.trans z))];exact⟨h1,h2,h3⟩
theorem KT.put {H:Hp}{kvs:List (List g4×V)}{xs:List (List g4×Addr×Value)}(r:KT H kvs xs)(k:List g4){b:Addr}{y:V}{u:Value}(hb:H b=some (.tup (k.map kV)))(ry:RelV y u):
  KT H (x9 kvs k y) (storedH xs k b u):=by
 have e:(kvs.any fun kv=>decide (kv.1=k))=(atKey xs k).isSome:=by
  rw[F8,(r.val k).isSome_eq,Option.isSome_map]
 unfold x9 storedH
 rw[e]
 by_cases q:(atKey xs k).isSome=true
 ·rw[if_pos q,if_pos q];exact r.repl k ry
 ·rw[if_neg q,if_neg q];exact Paired.snoc r ⟨rfl,hb,ry⟩
theorem KT.keeps {H H':Hp}{kvs:List (List g4×V)}{xs:List (List g4×Addr×Value)}(r:KT H kvs xs)(ht:∀b ys,H b=some (.tup ys)→H' b=some (.tup ys)):KT H' kvs xs:=
 Paired.mapP r fun _ _ z=>⟨z.1,ht _ _ z.2.1,z.2.2⟩
section
variable {P:Program} {w:World} {H:Hp} {h:Heap} {a:Addr}
theorem sH {u:HO}(ok:HOk P w H h)(e:Rd H a u):ObjOk P w H h a u:=e.ok ok
theorem C3 {kvs:List (g4×V)}(ok:HOk P w H h)(e:Rd H a (.dK kvs)):kvs.length≤sizeLine∧(a==sysModules)=false∧∃vs,KV kvs vs∧h.DictOf (h8 P w) a vs:=
 show ObjOk P w H h a (.dK kvs) from sH ok e
theorem sV {kvs:List (g4×V)}(ok:HOk P w H h)(e:H a=some (.dK kvs)):kvs.length≤sizeLine∧(a==sysModules)=false∧∃vs,KV kvs vs∧h.DictOf (h8 P w) a vs:=C3 ok (.inl e)
theorem key_of {ks:List g4}(ok:HOk P w H h)(e:H a=some (.tup (ks.map kV))):(tupleKind (h8 P w)).is h ks a:=by
 obtain⟨_,its,r,o,h1,h2,n,h3⟩:=(show ObjOk P w H h a (.tup (ks.map kV)) from ok a _ e)
 exact⟨o,its.toArray,n,h1,h2,h3,by simpa using cN r⟩
theorem bx {kvs:List (List g4×V)}(ok:HOk P w H h)(e:Rd H a (.dT kvs)):kvs.length≤sizeLine∧(a==sysModules)=false∧
  ∃xs,KT H kvs xs∧h.DictOfH (tupleKind (h8 P w)) a xs:=by
 obtain⟨z,y,xs,r,o,es,ep,h1,h2,h3,h4,h5⟩:=(show ObjOk P w H h a (.dT kvs) from sH ok e)
 refine⟨z,y,xs,r,o,es,ep,h1,h2,h3,h4,fun x hx=>?_,h5⟩
 have all:∀{l:List (List g4×V)} {m:List (List g4×Addr×Value)},KT H l m→∀x∈m,(tupleKind (h8 P w)).is h x.1 x.2.1:=by
  intro l m q
  induction q with
  |nil=>intro x hx;exact nomatch hx
  | @cons p q ps qs hq t ih=>
   intro x hx
   rcases List.mem_cons.mp hx with e|hx
   ·subst e
    exact key_of ok (by rw[←hq.1];exact hq.2.1)
   ·exact ih x hx
 exact all r x hx
theorem sD {kvs:List (List g4×V)}(ok:HOk P w H h)(e:H a=some (.dT kvs)):kvs.length≤sizeLine∧(a==sysModules)=false∧
  ∃xs,KT H kvs xs∧h.DictOfH (tupleKind (h8 P w)) a xs:=bx ok (.inl e)
end
def DGet (H:Hp)(a:Addr)(y:V)(r:Option V):Prop:=
 (∃kvs k,Rd H a (.dK kvs)∧y=kV k∧r=i5 kvs k)∨∃kvs k b,Rd H a (.dT kvs)∧y= .ref b∧H b=some (.tup (k.map kV))∧r=i5 kvs k
def DPut (H:Hp)(a:Addr)(y v:V)(H':Hp):Prop:=
 (∃kvs k,H a=some (.dK kvs)∧y=kV k∧kvs.length<sizeLine∧H'=i6 H a (.dK (x9 kvs k v)))∨
 ∃kvs k b,H a=some (.dT kvs)∧y= .ref b∧H b=some (.tup (k.map kV))∧kvs.length<sizeLine∧H'=i6 H a (.dT (x9 kvs k v))
theorem DGet.t {H:Hp}{a b:Addr}{kvs:List (List g4×V)}{k:List g4}(e:H a=some (.dT kvs))(eb:H b=some (.tup (k.map kV))):DGet H a (.ref b) (i5 kvs k):= .inr ⟨kvs,k,b,.inl e,rfl,eb,rfl⟩
theorem DPut.k {H:Hp}{a:Addr}{kvs:List (g4×V)}{k:g4}{v:V}(e:H a=some (.dK kvs))(hl:kvs.length<sizeLine):DPut H a (kV k) v (i6 H a (.dK (x9 kvs k v))):= .inl ⟨kvs,k,e,rfl,hl,rfl⟩
section
variable {X:Cx} {pins:List (Addr×Obj)} {σ:St} {H:Hp} {s:Shared} {a:Addr} {y v:V} {u r:Value} {o:Option V} {A:Around} {E:Value→Shared→Prop}
theorem Inv.big (I:Inv X pins σ H s):sysModules<s.heap.objs.size:=by
 have h:mainGlobals<s.heap.objs.size:=(I.mod.glob.keeps I.bk).lt
 exact Nat.lt_trans (by decide) h
theorem kQ {Q:Value→Shared→Prop}(hu:A.units+1<cLine)(I:Inv X pins σ H s)(g:DGet H a y (some v))(ry:RelV y u)(h:∀w' s',Inv X pins σ H s'→RelV v w'→Q w' s'):
  wpAny (model X.prog X.w) A (getItem (.ref a) u) Q E s:=by
 rcases g with⟨kvs,k,e,ey,l⟩|⟨kvs,k,b,e,ey,eb,l⟩
 ·subst ey
  obtain⟨z,hd,vs,rel,dd⟩:=C3 I.hok e
  obtain⟨w',hw,rw'⟩:=RelO.some_of (v:=v) (o:=valueAt vs k) (by rw[l];exact rel.val k)
  exact wpAny_getItem_of (ak ry) dd.mapOf hw (h w' _ (I.tok _) rw')
 ·subst ey
  cases (show u=Value.ref b from ry)
  obtain⟨z,hd,xs,rel,dd⟩:=bx I.hok e
  obtain⟨w',hw,rw'⟩:=RelO.some_of (v:=v) (o:=(atKey xs k).map (·.2)) (by rw[l];exact rel.val k)
  obtain⟨p,hp,hp2⟩:=Option.map_eq_some_iff.mp hw
  refine wpAny_getItem_heap (tupleKind_room_in1 hu) (key_of I.hok eb) dd hp ?_
  rw[hp2]
  exact h w' _ (I.tok _) rw'
theorem zG {Q:Value→Shared→Prop}(hu:A.units+1<cLine)(I:Inv X pins σ H s)(g:DGet H a y o)(ry:RelV y u)(h:∀s',Inv X pins σ H s'→Q (.bool o.isSome) s'):
  wpAny (model X.prog X.w) A (compareOp .In u (.ref a)) Q E s:=by
 rcases g with⟨kvs,k,e,ey,l⟩|⟨kvs,k,b,e,ey,eb,l⟩
 ·subst ey
  obtain⟨z,hd,vs,rel,dd⟩:=C3 I.hok e
  refine wpAny_in_of (ak ry) hd dd.mapOf ?_
  rw[←(rel.val k).isSome_eq,←l]
  exact h _ (I.tok _)
 ·subst ey
  cases (show u=Value.ref b from ry)
  obtain⟨z,hd,xs,rel,dd⟩:=bx I.hok e
  refine wpAny_in_heap (tupleKind_room_in1 hu) (key_of I.hok eb) hd dd ?_
  have q:=(rel.val k).isSome_eq
  rw[Option.isSome_map] at q
  rw[←q,←l]
  exact h _ (I.tok _)
theorem rF {Q:Value→Shared→Prop}(hu:A.units+1<cLine)(I:Inv X pins σ H s)(g:DGet H a y o)(ry:RelV y u)(h:∀s',Inv X pins σ H s'→Q (.bool (!o.isSome)) s'):
  wpAny (model X.prog X.w) A (compareOp .NotIn u (.ref a)) Q E s:=by
 rcases g with⟨kvs,k,e,ey,l⟩|⟨kvs,k,b,e,ey,eb,l⟩
 ·subst ey
  obtain⟨z,hd,vs,rel,dd⟩:=C3 I.hok e
  refine wpAny_notIn_of (ak ry) hd dd.mapOf ?_
  rw[←(rel.val k).isSome_eq,←l]
  exact h _ (I.tok _)
 ·subst ey
  cases (show u=Value.ref b from ry)
  obtain⟨z,hd,xs,rel,dd⟩:=bx I.hok e
  refine wpAny_notIn_heap (tupleKind_room_in1 hu) (key_of I.hok eb) hd dd ?_
  have q:=(rel.val k).isSome_eq
  rw[Option.isSome_map] at q
  rw[←q,←l]
  exact h _ (I.tok _)
theorem aQ {h':Heap}{t':Nat}{ob:HO}(I:Inv X pins σ H s)(mu:yh (H a))(hs:Heap.SameBut a s.heap h')(he:∃q,h'.get? a=some q)(new:ObjOk X.prog X.w (i6 H a ob) h' a ob):
  Inv X pins σ (i6 H a ob) {s with heap:=h',toks:=t'}:=
 I.write (x:=a) (e:=a) mu (.inl rfl) (fun b q hb z=>(hs.2 b hb).trans z) he new
theorem dJ {P:Program}{w:World}{H':Hp}{h':Heap}{kvs:List (g4×V)}{vs:List (g4×Value)}(z:kvs.length≤sizeLine)(hd:(a==sysModules)=false)(rel:KV kvs vs)(dd:h'.DictOf (h8 P w) a vs):
  ObjOk P w H' h' a (.dK kvs):=⟨z,hd,vs,rel,dd⟩
theorem mj {H':Hp}{Q:Unit→Shared→Prop}(hu:A.units+1<cLine)(I:Inv X pins σ H s)(g:DPut H a y v H')(ry:RelV y u)(rv:RelV v r)(h:∀s',Inv X pins σ H' s'→Q () s'):
  wpAny (model X.prog X.w) A (setItem (.ref a) u r) Q E s:=by
 rcases g with⟨kvs,k,e,ey,l,eH⟩|⟨kvs,k,b,e,ey,eb,l,eH⟩
 ·subst ey eH
  obtain⟨z,hd,vs,rel,dd⟩:=sV I.hok e
  have hz:vs.length≤sizeLine:=by rw[←rel.length];exact z
  have hl:(x9 kvs k v).length≤sizeLine:=by have:=D4 kvs k v;omega
  refine wpAny_setItem_pairs (hsz:=hz) (ak ry) dd fun h' dd' hs=>h _ ?_
  have he:∃q,h'.get? a=some q:=let ⟨q,_,_,hq,_⟩:=dd';⟨q,hq⟩
  exact aQ I (by rw[e];exact True.intro) hs he (dJ hl hd (rel.put k rv) dd')
 ·subst ey eH
  cases (show u=Value.ref b from ry)
  obtain⟨z,hd,xs,rel,dd⟩:=sD I.hok e
  have hz:xs.length≤sizeLine:=by rw[←Paired.length rel];exact z
  have hl:(x9 kvs k v).length≤sizeLine:=by have:=D4 kvs k v;omega
  refine wpAny_setItem_heap (hsz:=hz) (tupleKind_room_in1 hu) (key_of I.hok eb) dd fun h' dd' hs=>h _ ?_
  obtain⟨q,es,ep,hq,h2,h3,h4,_,h5⟩:=dd'
  refine aQ I (by rw[e];exact True.intro) hs ⟨q,hq⟩ ⟨hl,hd,_,(rel.put k eb rv).keeps fun c ys ec=>?_,q,es,ep,hq,h2,h3,h4,h5⟩
  rw[b0 (sv ec e (fun z=>nomatch z))]
  exact ec
end
section
variable {X:Cx} {pins:List (Addr×Obj)} {σ:St} {H:Hp} {s:Shared} {a:Addr} {kvs:List (g4×V)} {k:g4} {u:Value} {A:Around} {E:Value→Shared→Prop}
theorem xf {Q:Value→Shared→Prop}(I:Inv X pins σ H s)(e:Rd H a (.dK kvs))(h:∀t s',Inv X pins σ H s'→Q (.int kvs.length t) s'):wpAny (model X.prog X.w) A (call (.builtin "len") [.ref a]) Q E s:=by
 obtain⟨z,hd,vs,rel,dd⟩:=C3 I.hok e
 refine call_len_dict hd dd (by rw[←rel.length];rw[sizeLine_eq] at z;omega) ?_
 rw[←rel.length]
 exact h _ _ (I.tok _)
end
theorem gM {X:Cx}{pins:List (Addr×Obj)}{σ:St}{H:Hp}{s:Shared}{a:Addr}{y:V}{o:Option V}(I:Inv X pins σ H s)(g:DGet H a y o):s.TypeIs (.ref a) "dict":=by
 rcases g with⟨kvs,k,e,_,_⟩|⟨kvs,k,b,e,_,_,_⟩
 ·obtain⟨_,_,vs,_,dd⟩:=C3 I.hok e
  exact dd.typeIs
 ·obtain⟨_,_,xs,_,dd⟩:=bx I.hok e
  exact dd.typeIs
section
variable {X:Cx} {o i e value:Expr} {pos pos' tpos:Pos} {td ty tv:TE}
end
theorem nX {P:Program}{w:World}{H:Hp}(h:Heap)(hb:sysModules<h.objs.size):ObjOk P w H (h.push {cls:= .type "dict",data:= .dict #[]}) h.objs.size (.dK []):=
 ⟨Nat.zero_le _,beq_eq_false_iff_ne.mpr (Ne.symm (Nat.ne_of_lt hb)),[],.nil,Heap.DictOf.new h⟩
theorem mq {P:Program}{w:World}{H:Hp}(h:Heap)(hb:sysModules<h.objs.size):ObjOk P w H (h.push {cls:= .type "dict",data:= .dict #[]}) h.objs.size (.dT []):=
 ⟨Nat.zero_le _,beq_eq_false_iff_ne.mpr (Ne.symm (Nat.ne_of_lt hb)),[],.nil,_, #[],0,Heap.get?_push_size _ rfl,⟨rfl,rfl,rfl⟩,rfl,rfl,List.nodup_nil⟩
def pf:TE:=fun _ H Q=>∀p,H p=none→Q (.ref p) (i6 H p (.dK []))
def nI:TE:=fun _ H Q=>∀p,H p=none→Q (.ref p) (i6 H p (.dT []))
section
variable {X:Cx} {pos:Pos}
theorem oz:PE X (.Dict [] [] pos) pf:=fun pins s σ H Q I h=>
 wpAny_Dict_empty ⟨.ref s.heap.objs.size,_,I.laid (a:=s.heap.objs.size) (o:= .dK []) (t':=s.toks) (fun _ _ q=>Heap.get?_push_of_some _ q) (Nat.le_refl _) (nX s.heap I.big),rfl,h _ (I.hok.fresh (Nat.le_refl _))⟩
theorem oi:PE X (.Dict [] [] pos) nI:=fun pins s σ H Q I h=>
 wpAny_Dict_empty ⟨.ref s.heap.objs.size,_,I.laid (a:=s.heap.objs.size) (o:= .dT []) (t':=s.toks) (fun _ _ q=>Heap.get?_push_of_some _ q) (Nat.le_refl _) (mq s.heap I.big),rfl,h _ (I.hok.fresh (Nat.le_refl _))⟩
end
def pL:List (TE×TE)→St→Hp→(List (V×V)→Hp→Prop)→Prop
 |[],_,H,Q=>Q [] H
 |(tk,tv)::r,σ,H,Q=>tk σ H fun x H1=>tv σ H1 fun y H2=>pL r σ H2 fun ps H3=>Q ((x,y)::ps) H3
abbrev VV:List (V×V)→List (Value×Value)→Prop:=Paired fun p q=>RelV p.1 q.1∧RelV p.2 q.2
def Aw (X:Cx)(pos:Pos)(keys:List (Option Expr))(values:List Expr)(trs:List (TE×TE)):Prop:=
 ∀(pins:List (Addr×Obj)) (s:Shared) (σ:St) (H:Hp) (Q:List (V×V)→Hp→Prop),Inv X pins σ H s→pL trs σ H Q→
  wpAny (model X.prog X.w) X.A (evalPairs (pairTrees keys values X.env pos)) (fun vs s'=>∃ps H',Inv X pins σ H' s'∧VV ps vs∧Q ps H') X.xe s
structure M1 (X:Cx) (o:Expr) (m:Str) (apos:Pos) (e:Expr) (cpos:Pos):Prop where
 base:attributeBase o m X.env (eval o X.env)=eval o X.env
 few:((backTo cpos (starEach [e] X.env)).all (fun x=>!x.1)&&(backToKw cpos (keywordEach [] X.env)).all (fun x=>x.1.isSome)
  &&decide (([e]:List Expr).length+([]:List Keyword).length+(if([]:List Keyword).isEmpty then 0 else 1)<30))=true
 line:(apos.endLine==cpos.line)=true
 trees:backTo cpos (starEach [e] X.env)=[(false,eval e X.env)]
structure M2 (X:Cx) (o:Expr) (m:Str) (apos:Pos) (e f:Expr) (cpos:Pos):Prop where
 base:attributeBase o m X.env (eval o X.env)=eval o X.env
 few:((backTo cpos (starEach [e,f] X.env)).all (fun x=>!x.1)&&(backToKw cpos (keywordEach [] X.env)).all (fun x=>x.1.isSome)
  &&decide (([e,f]:List Expr).length+([]:List Keyword).length+(if([]:List Keyword).isEmpty then 0 else 1)<30))=true
 line:(apos.endLine==cpos.line)=true
 trees:backTo cpos (starEach [e,f] X.env)=[(false,eval e X.env),(false,eval f X.env)]
def zc (H:Hp)(a:Addr):Prop:=(∃kvs,Rd H a (.dK kvs))∨∃kvs,Rd H a (.dT kvs)
theorem uP {X:Cx}{pins:List (Addr×Obj)}{σ:St}{H:Hp}{s:Shared}{a:Addr}(I:Inv X pins σ H s)(d:zc H a):
  s.TypeIs (.ref a) "dict"∧(∀b,Value.ref a= .ref b→∃ob,s.heap.get? b=some ob∧ob.dict=none)∧(a==sysModules)=false:=by
 rcases d with⟨kvs,e⟩|⟨kvs,e⟩
 ·obtain⟨_,hd,vs,_,dd⟩:=C3 I.hok e
  refine⟨dd.typeIs,fun b q=>?_,hd⟩
  cases q
  obtain⟨ob,_,_,h1,h2,_⟩:=dd
  exact⟨ob,h1,h2.2.1⟩
 ·obtain⟨_,hd,xs,_,dd⟩:=bx I.hok e
  refine⟨dd.typeIs,fun b q=>?_,hd⟩
  cases q
  obtain⟨ob,_,_,h1,h2,_⟩:=dd
  exact⟨ob,h1,h2.2.1⟩
section
variable {X:Cx} {pins:List (Addr×Obj)} {σ:St} {H:Hp} {s:Shared} {a:Addr} {y d:V} {u r:Value} {o:Option V} {A:Around} {E:Value→Shared→Prop}
theorem uz {Q:Value→Shared→Prop}(hu:A.units+1<cLine)(I:Inv X pins σ H s)(g:DGet H a y o)(ry:RelV y u)(rd:RelV d r)(h:∀w' s',Inv X pins σ H s'→RelV (o.getD d) w'→Q w' s'):
  wpAny (model X.prog X.w) A (call (.builtin "dict.get") [.ref a,u,r]) Q E s:=by
 rcases g with⟨kvs,k,e,ey,l⟩|⟨kvs,k,b,e,ey,eb,l⟩
 ·subst ey
  obtain⟨z,hd,vs,rel,dd⟩:=C3 I.hok e
  refine call_meetsIn PySem.F.slot_dict_get dd.typeIs PySem.F.entry_dict_get (PySem.F.args_dict_get_3 _ _ _) (meets_dict_get_default (h8 X.prog X.w) a (ak ry) hd r) ⟨_,dd.mapOf,h _ _ (I.tok _) ?_⟩
  rw[l]
  exact(rel.val k).getD rd
 ·subst ey
  cases (show u=Value.ref b from ry)
  obtain⟨z,hd,xs,rel,dd⟩:=bx I.hok e
  refine call_meetsIn PySem.F.slot_dict_get dd.typeIs PySem.F.entry_dict_get (PySem.F.args_dict_get_3 _ _ _) (meetsH_dict_get_default (tupleKind (h8 X.prog X.w)) a b hd r) ⟨tupleKind_room_in1 hu,k,xs,key_of I.hok eb,dd,h _ _ (I.tok _) ?_⟩
  rw[l]
  exact(rel.val k).getD rd
end
def gY (td ty tx:TE):TE:=fun σ H Q=>td σ H fun x H1=>∃a,x= .ref a∧zc H1 a∧ty σ H1 fun y H2=>tx σ H2 fun z H3=>∃o,DGet H3 a y o∧Q (o.getD z) H3
section
variable {X:Cx} {o e f:Expr} {apos cpos:Pos} {td ty tx:TE}
theorem ow (hu:X.A.units+1<cLine)(ho:PE X o td)(he:PE X e ty)(hf:PE X f tx)(m:M2 X o "get" apos e f cpos):PE X (.Call (.Attribute o "get" apos) [e,f] [] cpos) (gY td ty tx):=by
 intro pins s σ H Q I h
 refine wpAny_Call_method m.base m.few m.line PySem.F.plainAttrs_dict PySem.F.slot_dict_get PySem.F.type_dict_get (A2 (ho pins s σ H _ I h) fun u s1 ⟨x,H1,I1,rx,a,ex,d,q1⟩=>?_)
 subst ex
 obtain rfl:u=Value.ref a:=rx
 obtain⟨t1,t2,_⟩:=uP I1 d
 refine⟨t1,t2,?_⟩
 rw[m.trees]
 refine Calls.callWith_builtin rfl (Calls.evalArgs_plain (Calls.spliced_cons (A2 (he pins s1 σ H1 _ I1 q1) fun iv s2 ⟨y,H2,I2,ry,q2⟩=>
  Calls.spliced_cons (A2 (hf pins s2 σ H2 _ I2 q2) fun fv s3 ⟨z,H3,I3,rz,ov,g,q3⟩=>Calls.spliced_nil ?_))))
 exact uz hu I3 g ry rz fun w' s4 I4 rw'=>⟨_,H3,I4,rw',q3⟩
end
section
variable {X:Cx} {pins:List (Addr×Obj)} {σ:St} {H:Hp} {s:Shared} {a:Addr} {kvs:List (g4×V)} {A:Around} {E:Value→Shared→Prop}
theorem oF {Q:Value→Shared→Prop}(I:Inv X pins σ H s)(e:Rd H a (.dK kvs))(h:∀p s',H p=none→Inv X pins σ (i6 H p (.dK kvs)) s'→Q (.ref p) s'):wpAny (model X.prog X.w) A (call (.type "dict") [.ref a]) Q E s:=by
 obtain⟨z,hd,vs,rel,dd⟩:=C3 I.hok e
 refine kt_call_dict hd dd (by rw[←rel.length];exact z) fun h' dd' hs=>?_
 refine h _ _ (I.hok.fresh (Nat.le_refl _)) (I.laid (a:=s.heap.objs.size) (o:= .dK kvs) (t':=s.toks) (fun b q hq=>?_) (Nat.le_refl _) (dJ z (beq_eq_false_iff_ne.mpr (Ne.symm (Nat.ne_of_lt I.big))) rel dd'))
 exact(hs.2 b (Nat.ne_of_lt (Heap.lt_size hq))).trans (Heap.get?_push_of_some _ hq)
end
section
variable {X:Cx} {pins:List (Addr×Obj)} {σ:St} {H:Hp} {s:Shared} {a:Addr} {y:V} {u:Value} {A:Around} {E:Value→Shared→Prop}
end
end L2
namespace Att
open PySem PySem.W PySem.Calls PyProof.Rows
theorem ay {P:Params}{h:Heap}:∀(ns:List Int) (vs:List Value),WellAll P h vs (ns.map WData.int)→IntsAre vs ns:=by
 intro ns
 induction ns with
 |nil=>
  intro vs w
  rw[List.map_nil] at w
  cases w
  exact .nil
 |cons n ns ih=>
  intro vs w
  rw[List.map_cons] at w
  cases w with
  |cons a b=>
   cases a
   exact .cons _ _ (ih _ b)
theorem lV {l:OpenLaw}{n:Nat}(hn:l.most=some n){P:Params}{h:Heap}{args:List WData}{vals:List Value}
  (hpre:l.row.toRowW.claim.pre args=true) (hwl:WellAll P h vals args):
  ∃a vs ns,vals=[Value.ref a]∧args=[WData.list (ns.map WData.int)]∧h.get? a=some {cls:= .type "list",data:= .seq vs.toArray}∧IntsAre vs ns∧ns.length≤n:=by
 have hsh:WShape.hasAll [] args [.list .int]=true:=(pre_splitW hpre).1
 have hc:l.pre.holds [] {args:=args}=true:=(pre_splitW hpre).2
 obtain⟨d,r,rfl,h1,h2⟩:=hasAllW_cons hsh
 obtain rfl:=hasAllW_nil h2
 obtain⟨xs,rfl,h3⟩:=hasW_list h1
 obtain⟨ns,rfl⟩:=items_int h3
 have hlen:ns.length≤n:=by
  unfold OpenLaw.pre at hc
  have h4:(WTm.not (.lt (.lit (.int (n:Int))) (.len (.arg 0)))).holds [] {args:=[.list (ns.map .int)]}=true:=by
   have h4:=(holds_andW hc).1
   rw[hn] at h4
   exact h4
  have h5:=condW_of h4 (w_not (w_lt w_lit (w_len_list (w_arg rfl))))
  rw[List.length_map] at h5
  refine Nat.le_of_not_lt fun q=>?_
  have q':(n:Int)<((ns.length:Nat):Int):=by omega
  first
   |(rw[decide_eq_true q'] at h5;exact absurd h5 (by decide))
   |(simp at h5;omega)
 cases hwl with
 |cons w1 w2=>
  cases w2
  cases w1 with
  |list ho hall=>exact⟨_,_,ns,rfl,rfl,ho,ay ns _ hall,hlen⟩
theorem kK (l:OpenLaw)(args:List WData):l.row.toRowW.claim.post args (.bool true) args=true:=
 postW_of (r:=l.row.toRowW) (X:=(true==true))
  (show WShape.has [] (.bool true) .bool=true by first|rfl|decide|simp [WShape.has,WShape.arms,WShape.armsAll])
  (show(WTm.eq .res (.lit (.bool true))).value [] {args:=args,res:=some (.bool true),after:=args}=some (.bool (true==true)) from w_eq_bool (w_res rfl) w_lit) rfl
theorem attach_call {l:OpenLaw}{n:Nat}{q:Program}{loose:List Str}{XP:(Str→Option Value)→Heap→Prop}{YP:World→Heap→Prop}{d:DefRec}
  (hn:l.most=some n) (hdf:d.params.defaults=[])
  (call:∀(w:World) (s₀ s₁:Shared) (mg mb:Str→Option Value) (fa:Addr) (o:Obj) (pm cd doc:Value) (a:Addr) (vs:List Value) (ns:List Int),
   Ground q loose [] XP w s₀ mg mb s₁.heap→YP w s₁.heap→
   s₁.heap.get? fa=some o→o.data= .func (docDef d.name d.params d.body d.scope pm cd doc)→s₁.heap.CodeRec cd d.name→mg d.name=some (.ref fa)→
   s₁.heap.get? a=some {cls:= .type "list",data:= .seq vs.toArray}→IntsAre vs ns→ns.length≤n→s₁.gens= #[]→
   codeAny (model l.prog w) callerA (.call (.ref fa) ⟨[.ref a],[]⟩) (fun r s'=>r= .ok (.ret (.bool true))∧OldK s₁.heap s'.heap∧s'.os=s₁.os∧AllBare s'.gens) s₁):
  WalkO q loose XP YP l.row.toRowW d [] (fun f vs=>PySem.call f vs):=by
 intro w s₀ s₁ mg mb G Y fa o pm cd doc dV kV ho hd hcd hD hmg hg args vals as hpre hlay hrd hwl hlo
 obtain rfl:dV= .none:=Dflts.none hD hdf
 obtain rfl:kV= .none:=Dflts.noKw hD
 obtain⟨a,vs,ns,rfl,rfl,hobj,hints,hlen⟩:=lV hn hpre hwl
 refine enter_call (codeAny_mono (call w s₀ s₁ mg mb fa o pm cd doc a vs ns G Y ho (fd_plain hd) hcd hmg hobj hints hlen hg) fun r s' hq=>?_)
 obtain⟨rfl,h2,h3,h4⟩:=hq
 exact⟨.inl ⟨.bool true,.bool true,[],rfl,fun _=>rfl,.bool true,kK l _,fun _=>⟨List.Pairwise.nil,fun _ hm=>(nomatch hm)⟩⟩,h2,h3,h4⟩
section
variable {prog:Program} {w:World} {A:Around} {E:Value→Shared→Prop} {s:Shared} {K:Frag}
end
end Att
namespace L2
open PySem PySem.Spec PyProof.Rows
theorem cW:∀{vs:List Value} {ns:List Int},IntsAre vs ns→Vals (ns.map V.int) vs
 |_,_,.nil=> .nil
 |_,_,.cons n t h=> .cons ⟨t,rfl⟩ (cW h)
end L2
namespace L2
open PySem PySem.Spec PyProof.Rows
end L2
namespace L2
open PySem PySem.Spec PyProof.Rows
def A3 (s:Stmt):Arguments:=match s with
 | .FunctionDef _ a _ _ _ _ _ _ _ _=>a
 |_=>{posonlyargs:=[],args:=[],vararg:=none,kwonlyargs:=[],kw_defaults:=[],kwarg:=none,defaults:=[]}
def t5 (s:Stmt):List Stmt:=match s with
 | .FunctionDef _ _ b _ _ _ _ _ _ _=>b
 |_=>[]
def d8 (s:Stmt):Scope:=match s with
 | .FunctionDef _ _ _ _ _ _ sc _ _ _=>sc
 |_=>{kind:= .function,names:=[],isGenerator:=false,isCoroutine:=false}
abbrev C7:fQ:=fun _ _ _ _ _ _=>False
abbrev E0:XK:=fun _ _ _=>False
theorem p8 {X:Cx}:Z8 C7 X E0:=fun _ _ _ _ _ _ _ h=>h.elim
structure Fun (K:PySem.W.Frag) (x qual:Str) (st:Stmt) (f:Addr) (fd:FuncData):Prop where
 ex:∃(oc:Value) (od:Option Addr) (kV doc pm:Value) (an:Option Addr) (cdv ct:Value) (osl:Array (Option Value)),
  fd=PySem.W.fnOf x qual (A3 st) (t5 st) (d8 st) .none kV doc pm an cdv ct∧K.lookup f=some ⟨oc,od,.func fd,osl⟩∧PySem.W.codeIn K cdv qual=true
 kp:PySem.W.keepIn K (.ref f)=true
section
variable {P:Program} {w:World} {K:PySem.W.Frag} {mg:Str→Option Value} {base:Heap}
theorem Fun.ok {x qual:Str}{st:Stmt}{f:Addr}{fd:FuncData}{N ps:List Str}{k:Nat}{sp:Sp}(F:Fun K x qual st f fd)(S:i7 N ps (d8 st))(len:∀vs H Q E,sp vs H Q E→vs.length=ps.length)
  (hbody:∀(cdv:Value) (A:Around) (outer:List Env) (s:Shared) (H:Hp) (vs:List V) (Q:VK) (E:XK),Room k (A.deeper (envOfC qual (d8 st) s.heap.objs.size f cdv))→sp vs H Q E→
   ∃t,PSs (fi C7 P w K mg base N qual (d8 st) f cdv A outer s H E).nox (t5 st) t∧t {nx:=fun _ H'=>Q .non H',rt:=Q} (S0 N vs) H):A0 P w K mg base C7 (k+1) f fd ps sp:=by
 obtain⟨oc,od,kV,doc,pm,an,cdv,ct,osl,rfl,lk,hcd⟩:=F.ex
 refine oJ lk hcd S len fun A outer s H vs Q E hr hsp=>?_
 obtain⟨t,h,q⟩:=hbody cdv A outer s H vs Q E hr hsp
 exact⟨t,h.nox,q⟩
theorem Fun.binds {x qual:Str}{st:Stmt}{f:Addr}{fd:FuncData}{ps:List Str}(F:Fun K x qual st f fd)
  (h:∀(kV doc pm:Value) (an:Option Addr) (cdv ct:Value) (us:List Value),us.length=ps.length→bindArgs (PySem.W.fnOf x qual (A3 st) (t5 st) (d8 st) .none kV doc pm an cdv ct) ⟨us,[]⟩=pure (ps.zip us)):Binds K fd ps []:=by
 obtain⟨oc,od,kV,doc,pm,an,cdv,ct,osl,rfl,lk,hcd⟩:=F.ex
 exact .all (h kV doc pm an cdv ct)
theorem pW {x qual:Str}{st:Stmt}{f:Addr}{oc:Value}{od an:Option Addr}{osl:Array (Option Value)}{kV doc pm cdv ct:Value}(l:K.lookup f=some ⟨oc,od,.func (PySem.W.fnOf x qual (A3 st) (t5 st) (d8 st) .none kV doc pm an cdv ct),osl⟩)
  (c:PySem.W.codeIn K cdv qual=true) (k:PySem.W.keepIn K (.ref f)=true):Fun K x qual st f (PySem.W.fnOf x qual (A3 st) (t5 st) (d8 st) .none kV doc pm an cdv ct):=⟨⟨oc,od,kV,doc,pm,an,cdv,ct,osl,rfl,l,c⟩,k⟩
end
theorem cV {n:Nat}(h:n≤1000):n<sizeLine:=Nat.lt_of_le_of_lt h (by decide)
section
variable {X:Cx}
end
theorem yY {A B:Prop}(h:B):if false=true then A else B:=by
 rw[if_neg Bool.false_ne_true]
 exact h
theorem zB {A B:Prop}(h:A):if true=true then A else B:=by
 rw[if_pos rfl]
 exact h
def Same (H H':Hp):Prop:=∀b o,H b=some o→H' b=some o
theorem Same.refl (H:Hp):Same H H:=fun _ _ h=>h
theorem Same.trans {H H1 H2:Hp}(a:Same H H1)(b:Same H1 H2):Same H H2:=fun c o h=>b c o (a c o h)
theorem Same.free {H H':Hp}(e:Same H H'){l:Addr}(h:H' l=Option.none):H l=Option.none:=by
 cases q:H l with
 |none=>rfl
 |some o=>
  rw[e l o q] at h
  cases h
theorem Same.seq {K:PySem.W.Frag}{H H':Hp}{a:Addr}{xs:List V}(e:Same H H')(h:SqL K H a xs):SqL K H' a xs:=by
 rcases h with(h|⟨o,h⟩)|h
 ·exact .inl (.inl (e _ _ h))
 ·exact .inl (.inr ⟨o,e _ _ h⟩)
 ·exact .inr h
section
variable {κ:Type} [DecidableEq κ]
theorem jk {kvs:List (κ×V)}{k:κ}{v:V}(h:i5 kvs k=some v):k∈kvs.map (·.1):=by
 have q:(kvs.any fun kv=>decide (kv.1=k))=true:=by
  rw[F8,h]
  all_goals rfl
 obtain⟨p,hp,e⟩:=List.any_eq_true.mp q
 exact List.mem_map.mpr ⟨p,hp,of_decide_eq_true e⟩
theorem Q9:∀{l:List κ} {k:κ},l.Nodup→¬k∈l→(l++[k]).Nodup
 |[],k,_,_=>by simp
 |a::r,k,h,hk=>by
  obtain⟨h1,h2⟩:=List.nodup_cons.mp h
  show(a::(r++[k])).Nodup
  refine List.nodup_cons.mpr ⟨fun m=>?_,Q9 h2 fun m=>hk (List.mem_cons.mpr (Or.inr m))⟩
  rcases List.mem_append.mp m with q|q
  ·exact h1 q
  ·exact hk (List.mem_cons.mpr (Or.inl (List.mem_singleton.mp q).symm))
end
end L2
set_option Elab.async false
set_option linter.all false
set_option maxRecDepth 100000
set_option maxHeartbeats 4000000
namespace L2
open PySem PySem.Spec PyProof.Rows
def X8 (scope:Scope)(env:Env):List (Str×Addr):=(scope.names.filter fun x=>x.2== .free).reverse.map fun x=>(x.1,(env.cells.lookup x.1).getD 0)
theorem P7 {env:Env}:∀(l:List (Str×NameKind)) (cs:List (Str×Addr)),(∀x∈l,x.2= .free→∃c,env.cells.lookup x.1=some c)→
  (forIn l cs fun(x:Str×NameKind) (r:List (Str×Addr))=>if(x.2==NameKind.free)=true then(do let a←cellOf env x.1;pure (ForInStep.yield ((x.1,a)::r))) else(pure (ForInStep.yield r):Sem (ForInStep (List (Str×Addr)))))=
   pure (((l.filter fun x=>x.2== .free).reverse.map fun x=>(x.1,(env.cells.lookup x.1).getD 0))++cs)
 |[],cs,_=>rfl
 |(n,k)::l,cs,h=>by
  rw[List.forIn_cons]
  by_cases hk:k= .free
  ·subst hk
   obtain⟨c,hc⟩:=h (n,.free) List.mem_cons_self rfl
   simp only[beq_self_eq_true,if_true]
   have hc':env.cells.lookup n=some c:=hc
   have e0:cellOf env n=pure c:=by unfold cellOf;rw[hc']
   simp only[e0,pure_bind]
   rw[P7 l _ fun x hx=>h x (List.mem_cons_of_mem _ hx)]
   rw[List.filter_cons,if_pos (by rfl),List.reverse_cons,List.map_append,List.append_assoc]
   simp only[List.map_cons,List.map_nil,hc',Option.getD_some,List.cons_append,List.nil_append]
  ·have hb:(k==NameKind.free)=false:=by simpa using hk
   simp only[hb,Bool.false_eq_true,if_false,pure_bind]
   rw[P7 l cs fun x hx=>h x (List.mem_cons_of_mem _ hx)]
   rw[List.filter_cons,if_neg (by simp [hb])]
theorem U3 {scope:Scope}{env:Env}(h:∀x∈scope.names,x.2= .free→∃c,env.cells.lookup x.1=some c):closureFor scope env=pure (X8 scope env):=by
 have e:=P7 (env:=env) scope.names [] h
 rw[List.append_nil] at e
 unfold closureFor X8
 simp only[]
 refine Eq.trans ?_ (congrArg (fun m=>m>>=fun r=>(pure r:Sem (List (Str×Addr)))) e)
 rfl
theorem E4 {env:Env}{x:Str}:∀(l:List (Str×NameKind)),(∀y∈l,∃c,env.cells.lookup y.1=some c)→(x∈l.map (·.1)→(l.map fun y=>(y.1,(env.cells.lookup y.1).getD 0)).lookup x=env.cells.lookup x)∧(x∉l.map (·.1)→(l.map fun y=>(y.1,(env.cells.lookup y.1).getD 0)).lookup x=none)
 |[],_=>⟨fun h=>by simp at h,fun _=>rfl⟩
 |(n,k)::l,h=>by
  have ih:=E4 (x:=x) l fun y hy=>h y (List.mem_cons_of_mem _ hy)
  obtain⟨c,hc⟩:=h (n,k) List.mem_cons_self
  have hc':env.cells.lookup n=some c:=hc
  by_cases e:x=n
  ·subst e
   refine⟨fun _=>?_,fun z=>absurd (by simp) z⟩
   simp [List.lookup_cons,hc']
  ·have eb:(x==n)=false:=by simpa using e
   refine⟨fun hm=>?_,fun hm=>?_⟩
   ·simp only[List.map_cons,List.lookup_cons,eb]
    exact ih.1 (by simpa [e] using hm)
   ·simp only[List.map_cons,List.lookup_cons,eb]
    exact ih.2 (fun z=>hm (by simp [z]))
theorem F6 {scope:Scope}{env:Env}(h:∀x∈scope.names,x.2= .free→∃c,env.cells.lookup x.1=some c){x:Str}{c:Addr}(e:(X8 scope env).lookup x=some c):env.cells.lookup x=some c:=by
 have hl:∀y∈(scope.names.filter fun x=>x.2== .free).reverse,∃c,env.cells.lookup y.1=some c:=fun y hy=>by
  obtain⟨h1,h2⟩:=List.mem_filter.mp (List.mem_reverse.mp hy)
  exact h y h1 (by simpa using h2)
 have a:=E4 (x:=x) _ hl
 by_cases hm:x∈(scope.names.filter fun x=>x.2== .free).reverse.map (·.1)
 ·rw[←a.1 hm];exact e
 ·have z:=a.2 hm
  unfold X8 at e
  rw[z] at e;cases e
theorem gw {scope:Scope}{env:Env}(h:∀x∈scope.names,x.2= .free→∃c,env.cells.lookup x.1=some c){x:Str}(hx:(x,NameKind.free)∈scope.names):(X8 scope env).lookup x=env.cells.lookup x:=by
 have hl:∀y∈(scope.names.filter fun x=>x.2== .free).reverse,∃c,env.cells.lookup y.1=some c:=fun y hy=>by
  obtain⟨h1,h2⟩:=List.mem_filter.mp (List.mem_reverse.mp hy)
  exact h y h1 (by simpa using h2)
 exact(E4 (x:=x) _ hl).1 (List.mem_map.mpr ⟨(x,.free),List.mem_reverse.mpr (List.mem_filter.mpr ⟨hx,rfl⟩),rfl⟩)
theorem dI {scope:Scope}{env:Env}(hc:∀y∈scope.names,y.2≠ .cell){x:Str}(h:(relabel scope env).names.lookup x=some .cell∨(relabel scope env).names.lookup x=some .free):(x,NameKind.free)∈scope.names:=by
 have key:∀(l:List (Str×NameKind)),(∀y∈l,y.2≠ .cell)→∀k,(k=NameKind.cell∨k=NameKind.free)→(l.map fun(n,k)=>if(k==NameKind.free&&env.scope.kind== .function&&env.kindOf n==some .cell) then(n,NameKind.cell) else(n,k)).lookup x=some k→(x,NameKind.free)∈l:=by
  intro l
  induction l with
  |nil=>intro _ k _ e;simp at e
  |cons y r ih=>
   obtain⟨n,k0⟩:=y
   intro hl k hk e
   have ih':=ih (fun y hy=>hl y (List.mem_cons_of_mem _ hy)) k hk
   rw[List.map_cons] at e
   have hk0:k0≠ .cell:=hl (n,k0) List.mem_cons_self
   dsimp only at e
   by_cases hcnd:(k0==NameKind.free&&env.scope.kind== .function&&env.kindOf n==some .cell)=true
   ·rw[if_pos hcnd] at e
    cases hx:x==n with
    |true=>
     have:x=n:=by simpa using hx
     subst this
     have:k0= .free:=by
      simp only[Bool.and_eq_true,beq_iff_eq] at hcnd
      exact hcnd.1.1
     subst this
     exact List.mem_cons_self
    |false=>
     simp only[List.lookup_cons,hx] at e
     exact List.mem_cons_of_mem _ (ih' e)
   ·rw[if_neg hcnd] at e
    cases hx:x==n with
    |true=>
     have:x=n:=by simpa using hx
     subst this
     simp only[List.lookup_cons,hx] at e
     have e':k0=k:=Option.some.inj e
     subst e'
     rcases hk with z|z
     ·exact absurd z hk0
     ·subst z;exact List.mem_cons_self
    |false=>
     simp only[List.lookup_cons,hx] at e
     exact List.mem_cons_of_mem _ (ih' e)
 rcases h with h|h
 ·exact key _ hc _ (.inl rfl) h
 ·exact key _ hc _ (.inr rfl) h
def R8 (X:Cx)(own:List Str)(js:List Nat)(scope:Scope)(C:Addr)(s:Shared)(H:Hp)(fp:List Addr):Cx:=
 {X with N:=own++js.map (fun j=>X.N.getD j Str.empty),s₀:=s,H₀:=H,env:=compEnvC scope (X8 scope X.env) C X.env,outer:=X.stack,stack:=X.stack,ex:=fp,fn:=fun _=>false,pn:=[],xe:=fun _ _=>False}
def oT (own:List Str)(js:List Nat)(σ:St):St:=own.map (fun _=>none)++js.map (fun j=>(σ[j]?).join)
def vW (X:Cx)(own:List Str)(js:List Nat)(scope:Scope):Bool:=
 (scope.kind== .function)&&(scope.names.all fun x=>x.2 != .cell)&&(scope.names.all fun x=>x.2 != .local||scope.names.lookup x.1==some .local)&&
 (scope.names.all fun x=>x.2 != .free||(X.env.kindOf x.1==some .cell||X.env.kindOf x.1==some .free))&&
 (js.all fun j=>decide (j<X.N.length)&&scope.names.any (fun y=>y.1==X.N.getD j Str.empty&&y.2== .free))&&
 (scope.names.all fun x=>x.2 != .free||scope.names.lookup x.1 !=some .local)
theorem jO {own:List Str}{js:List Nat}{σ:St}{X:Cx}{scope:Scope}{C:Addr}{s:Shared}{H:Hp}{fp:List Addr}:(oT own js σ).length=(R8 X own js scope C s H fp).N.length:=by
 show(oT own js σ).length=(own++js.map (fun j=>X.N.getD j Str.empty)).length
 unfold oT;simp
section
variable {X:Cx} {pins:List (Addr×Obj)} {σ:St} {H:Hp} {s:Shared} {own:List Str} {js:List Nat} {scope:Scope} {fp:List Addr} {C D:Addr} {h1:Heap}
structure ScB (X:Cx) (own:List Str) (js:List Nat) (scope:Scope):Prop where
 kind:scope.kind= .function
 nocell:∀y∈scope.names,y.2≠ .cell
 names:∀x∈scope.names,x.2= .local→scope.names.lookup x.1=some .local
 free:∀x∈scope.names,x.2= .free→X.env.kindOf x.1=some .cell∨X.env.kindOf x.1=some .free
 js:∀j∈js,j<X.N.length∧(X.N.getD j Str.empty,NameKind.free)∈scope.names
 one:∀x,(x,NameKind.free)∈scope.names→scope.names.lookup x≠some .local
theorem nQ (h:vW X own js scope=true):ScB X own js scope:=by
 unfold vW at h
 simp only[Bool.and_eq_true,List.all_eq_true,Bool.or_eq_true,bne_iff_ne,beq_iff_eq,decide_eq_true_eq,List.any_eq_true] at h
 obtain⟨⟨⟨⟨⟨h1,h2⟩,h3⟩,h4⟩,h5⟩,h6⟩:=h
 refine⟨h1,h2,fun x hx e=>?_,fun x hx e=>?_,fun j hj=>?_,fun x hx=>?_⟩
 ·rcases h3 x hx with z|z
  ·exact absurd e z
  ·exact z
 ·rcases h4 x hx with z|z
  ·exact absurd e z
  ·exact z
 ·obtain⟨a,y,hy,e1,e2⟩:=h5 j hj
  refine⟨a,?_⟩
  obtain⟨n,k⟩:=y
  simp only at e1 e2
  rw[←e1,←e2];exact hy
 ·rcases h6 _ hx with z|z
  ·exact absurd rfl z
  ·exact z
theorem ScB.cells (S:ScB X own js scope)(I:Inv X pins σ H s):∀x∈scope.names,x.2= .free→∃c,X.env.cells.lookup x.1=some c:=fun x hx e=>I.ok.has x.1 (S.free x hx e)
theorem Inv.block (S:ScB X own js scope)(I:Inv X pins σ H s)(hf:∀b∈fp,L3 X pins H b)(hob:∀b∈fp,∃o,s.heap.get? b=some o)(hC:s.heap.objs.size≤C){m:Str→Option Value}{t':Nat}(hn:h1.Ns C m)(k:∀b u,s.heap.get? b=some u→h1.get? b=some u):
  Inv (R8 X own js scope C s H fp) (X.pn++pins) (oT own js σ) H {s with heap:=h1,toks:=t'}:=by
 have hcl:=S.cells I
 have below:∀b o,s.heap.get? b=some o→b≠C:=fun b o e=>Nat.ne_of_lt (Nat.lt_of_lt_of_le (Heap.lt_size e) hC)
 have stk:∀b,b≠X.env.locals→b∉X.fs→b∉fm X.stack:=fun b h1 h2 z=>by
  rcases List.mem_cons.mp (I.stkSub b z) with e|e
  ·exact h1 e
  ·exact h2 e
 have noex:∀b o,X.base.get? b=some o→b∉fp:=fun b o e z=>by
  rcases(hf b z).2.2.2.1 with q|q
  ·exact I.ok.noex b o e q
  ·exact absurd (Nat.lt_of_lt_of_le (Heap.lt_size e) (Nat.le_trans I.ok.bsz q)) (Nat.lt_irrefl _)
 refine⟨⟨I.ok.mod,S.kind,I.ok.glob,I.ok.blt,hC,fun x y c e1 e2=>?_,fun x hx=>?_,fun x c z _=>(Bool.false_ne_true z).elim,I.ok.hd,I.ok.frames,.inl rfl,fun b hb=>⟨?_,fun x c e=>?_⟩,I.bs,Nat.le_trans I.ok.bsz I.sz,noex,fun b hb=>?_,I.stack,I.stkFree⟩,
  rfl,I.bare,Un.kept k,⟨m,hn,fun i x v e1 e2 e3=>?_⟩,fun x c e=>?_,?_,fun x c e=>?_,fun p hp=>?_,I.hok.kept k,jO⟩
 ·exact I.ok.inj x y c (F6 hcl e1) (F6 hcl e2)
 ·have hm:=dI S.nocell (x:=x) (env:=X.env) hx
  obtain⟨c,e⟩:=hcl (x,.free) hm rfl
  exact⟨c,(gw hcl hm).trans e⟩
 ·obtain⟨o,e⟩:=hob b hb;exact below b o e
 ·exact(hf b hb).2.2.2.2.1 x c (F6 hcl e)
 ·exact stk b (hf b hb).2.1 (hf b hb).2.2.1
 ·have e1':(own++js.map (fun j=>X.N.getD j Str.empty))[i]?=some x:=e1
  unfold oT at e2
  by_cases hi:i<own.length
  ·rw[List.getElem?_append_left (by simpa using hi),List.getElem?_map] at e2
   rw[List.getElem?_eq_getElem hi] at e2
   simp at e2
  ·rw[List.getElem?_append_right (by simpa using hi),List.getElem?_map] at e2
   rw[List.getElem?_append_right (by simpa using hi),List.getElem?_map] at e1'
   have el:(own.map fun _=>(none:Option V)).length=own.length:=by simp
   rw[el] at e2
   cases hj:js[i -own.length]? with
   |none=>rw[hj] at e1';simp at e1'
   |some j=>
    rw[hj] at e1' e2
    simp only[Option.map_some,Option.some.injEq] at e1' e2
    have hjm:j∈js:=List.mem_of_getElem? hj
    obtain⟨hlt,hmem⟩:=S.js j hjm
    have hNj:X.N[j]?=some x:=by
     rw[←e1',List.getD_eq_getElem?_getD,List.getElem?_eq_getElem hlt];simp
    have hσ:σ[j]?=some (some v):=by
     cases q:σ[j]? with
     |none=>rw[q] at e2;simp at e2
     |some w=>rw[q] at e2;simp at e2;rw[e2]
    rw[e1'] at hmem
    obtain⟨m0,hn0,hl0⟩:=I.loc
    have hkx:X.env.kindOf x=some .cell∨X.env.kindOf x=some .free:=S.free (x,.free) hmem rfl
    obtain⟨u,r,l⟩:=hl0 j x v hNj hσ (by rcases hkx with z|z;exact .inr (.inl z);exact .inr (.inr z))
    refine⟨u,r,?_⟩
    rcases l with⟨z,_⟩|⟨_,c,hc,hcell⟩
    ·rcases hkx with q|q
     ·rw[q] at z;cases z
     ·rw[q] at z;cases z
    ·have hc':(X8 scope X.env).lookup x=some c:=(gw hcl hmem).trans hc
     obtain⟨oc,hoc,hocd⟩:=hcell
     refine .inr ⟨?_,c,hc',⟨oc,k _ _ hoc,hocd⟩⟩
     rcases e3 with z|z|z
     ·exfalso
      have hmm:(relabel scope X.env).names.lookup x=some .local:=z
      exact absurd hmm (by
       intro hh
       have key:∀l:List (Str×NameKind),(∀y∈l,y.2= .local→scope.names.lookup y.1=some .local)→(l.map fun(n,k)=>if(k==NameKind.free&&X.env.scope.kind== .function&&X.env.kindOf n==some .cell) then(n,NameKind.cell) else(n,k)).lookup x=some .local→scope.names.lookup x=some .local:=by
        intro l
        induction l with
        |nil=>intro _ e;simp at e
        |cons y r ih=>
         obtain⟨n,k0⟩:=y
         intro hl e
         rw[List.map_cons] at e
         dsimp only at e
         by_cases hcnd:(k0==NameKind.free&&X.env.scope.kind== .function&&X.env.kindOf n==some .cell)=true
         ·rw[if_pos hcnd] at e
          cases hx:x==n with
          |true=>simp only[List.lookup_cons,hx] at e;cases e
          |false=>simp only[List.lookup_cons,hx] at e;exact ih (fun y hy=>hl y (List.mem_cons_of_mem _ hy)) e
         ·rw[if_neg hcnd] at e
          cases hx:x==n with
          |true=>
           simp only[List.lookup_cons,hx] at e
           have e':k0= .local:=Option.some.inj e
           have:x=n:=by simpa using hx
           subst this
           exact hl (x,k0) List.mem_cons_self e'
          |false=>simp only[List.lookup_cons,hx] at e;exact ih (fun y hy=>hl y (List.mem_cons_of_mem _ hy)) e
       have a:=key scope.names S.names hh
       exact S.one x hmem a)
     ·exact .inl z
     ·exact .inr z
 ·obtain⟨v,o,ho,hd⟩:=I.cell x c (F6 hcl e)
  exact⟨v,o,k _ _ ho,hd⟩
 ·exact I.hok.fresh hC
 ·exact I.freeC x c (F6 hcl e)
 ·obtain⟨e,n,ne,nf,d⟩:=I.pin p hp
  exact⟨k _ _ e,n,below _ _ e,stk _ ne nf,d⟩
end
end L2
set_option Elab.async false
set_option linter.all false
set_option maxRecDepth 100000
set_option maxHeartbeats 4000000
namespace L2
open PySem PySem.Spec PyProof.Rows
theorem HOk.track {P:Program}{w:World}{H:Hp}{h h':Heap}{a C:Addr}{o:HO}(x:HOk P w H h)(hC:H C=none)(k:∀b,b≠C→h'.get? b=h.get? b)(hn:H a=none)(new:ObjOk P w (i6 H a o) h' a o):HOk P w (i6 H a o) h':=fun b u e=>by
 by_cases hb:b=a
 ·subst hb;rw[c8] at e;cases e;exact new
 ·rw[b0 hb] at e
  refine(x b u e).stay (fun c v hc q=>?_) (fun c q=>by rw[b0 (b9 q hn)];exact q) fun c xs q=>by rw[b0 (b9 q hn)];exact q
  have hcC:c≠C:=by
   rcases hc with z|z
   ·subst z;exact b9 e hC
   ·exact b9 z hC
  rw[k c hcC];exact q
abbrev oW (ifs:List Expr)(env:Env):Sem Bool:=forIn ifs true fun c r=>if r=true then do let ok←isTrue c env (eval c env);pure (ForInStep.yield ok) else pure (ForInStep.yield r)
def iB (X:Cx)(ifs:List Expr)(t:TT):Prop:=
 ∀(pins:List (Addr×Obj)) (s:Shared) (σ:St) (H:Hp) (Q:Bool→Hp→Prop),Inv X pins σ H s→t σ H Q→wpAny (model X.prog X.w) X.A (oW ifs X.env) (TP X pins σ Q) X.xe s
theorem zo {X:Cx}:iB X [] (fun _ H Q=>Q true H):=fun pins s σ H Q I h=>wpAny_tests_nil ⟨H,I,h⟩
theorem yZ {X:Cx}{c:Expr}{t:TT}(h:PT X c t):iB X [c] t:=fun pins s σ H Q I hq=>wpAny_tests_one (h pins s σ H Q I hq)
section
variable {X:Cx} {pins:List (Addr×Obj)} {σ:St} {H:Hp} {s:Shared} {own:List Str} {js:List Nat} {scope:Scope}
variable {tg iter elt:Expr} {ifs:List Expr} {pos:Pos} {g:TG} {ti:TT} {te:TE}
structure BlockEnd (X:Cx) (pins:List (Addr×Obj)) (own:List Str) (js:List Nat) (scope:Scope) (σ:St) (H:Hp) (s:Shared) (fp:List Addr) (C D:Addr) (out:List V) (H':Hp) (s':Shared):Prop where
 inv:Inv (R8 X own js scope C s H fp) (X.pn++pins) (oT own js σ) H' s'
 free:H' D=none
 obj:∃(its:List Value) (n:Nat),Vals out its∧s'.heap.get? D=some {cls:= .type "list",data:= .seq its.toArray n}
theorem BlockEnd.out {fp:List Addr}{C D:Addr}{out:List V}{H':Hp}{s':Shared}{h':Heap}(e:BlockEnd X pins own js scope σ H s fp C D out H' s')(I:Inv X pins σ H s)(hf:∀b∈fp,L3 X pins H b)(hD:s.heap.objs.size≤D)(hC:s.heap.objs.size≤C)(hDC:D≠C)
  (hl:out.length≤sizeLine) (sb:Heap.SameBut C s'.heap h'):Inv X pins σ (i6 H' D (.lst out)) {s' with heap:=h'}:=by
 obtain⟨its,n,rv,ob⟩:=e.obj
 have J:=e.inv
 have U:Un (fm X.stack) fp H H' s.heap s'.heap:=J.base
 have same:∀b,b≠C→h'.get? b=s'.heap.get? b:=fun b hb=>sb.2 b hb
 have old:∀b o,s.heap.get? b=some o→b≠C∧b≠D:=fun b o q=>⟨Nat.ne_of_lt (Nat.lt_of_lt_of_le (Heap.lt_size q) hC),Nat.ne_of_lt (Nat.lt_of_lt_of_le (Heap.lt_size q) hD)⟩
 have hHC:H' C=none:=J.free
 refine I.call' (s':={s' with heap:=h'}) (ch:=fp) J.os ?_ ?_ J.bare fun b hb=>?_
 ·refine⟨fun b o q n hb hx=>?_,fun b o q n hb hx=>?_,fun b o q n hx=>?_,fun b o q hx=>?_,fun b xs q=>?_,fun b o u q=>?_,fun b ps q=>?_⟩
  ·show h'.get? b=_
   rw[same b (old b o q).1];exact U.keep b o q n hb hx
  ·show ∃sl,h'.get? b=_
   rw[same b (old b o q).1];exact U.slot b o q n hb hx
  ·rw[b0 (old b o q).2];exact U.free b o q n hx
  ·show ∃o',h'.get? b=_
   rw[same b (old b o q).1];exact U.there b o q hx
  ·rw[b0 (b9 (U.tups b xs q) e.free)];exact U.tups b xs q
  ·rw[b0 (b9 (U.frzs b o u q) e.free)];exact U.frzs b o u q
  ·obtain⟨mo,z⟩:=U.tbls b ps q
   exact⟨mo,by rw[b0 (b9 z e.free)];exact z⟩
 ·refine HOk.track J.hok hHC same e.free ?_
  exact⟨hl,its,n,rv,by rw[same D hDC];exact ob⟩
 ·exact⟨(hf b hb).2.2.2.1,(hf b hb).2.1,(hf b hb).2.2.2.2.1,(hf b hb).2.2.2.2.2⟩
theorem df (S:ScB X own js scope)(hc:X.calm=true){fp:List Addr}{it C D:Addr}{tn:Nat→Heap→Prop}{J:It}(T:aC X.prog X.w X.K tg J fp it tn)(I:Inv X pins σ H s)(hf:∀b∈fp,L3 X pins H b)
  (hD:s.heap.objs.size≤D) (hC:s.heap.objs.size≤C) (hDC:D≠C) (hob:∀b∈fp,∃o,s.heap.get? b=some o)
  (hg:PG (R8 X own js scope C s H fp) tg g) (hi:iB (R8 X own js scope C s H fp) ifs ti) (he:PE (R8 X own js scope C s H fp) elt te)
  (W:Nat→Nat→List V→Hp→Prop) {K:List V→Hp→Prop}
  (turn:∀i m out H,W i m out H→(J.stop i H∧(H D=none→out.length≤sizeLine∧K out H))∨
   (J.go i H∧∀x H',J.yld i H x H'→g x (oT own js σ) H' fun σ2 H2=>σ2.drop own.length=js.map (fun j=>(σ[j]?).join)∧ti σ2 H2 fun b H3=>
    if b=true then te σ2 H3 fun v H4=>out.length≤sizeLine∧∃m',m'<m∧W (i+1) m' (out++[v]) H4 else ∃m',m'<m∧W (i+1) m' out H3))
  {R:Result→Shared→Prop} (hR:∀out H' s',BlockEnd X pins own js scope σ H s fp C D out H' s'→out.length≤sizeLine→K out H'→R (.ok .next) s')
  {m0:Nat} {H1:Hp} {s1:Shared} (w0:W 0 m0 [] H1) (B:BlockEnd X pins own js scope σ H s fp C D [] H1 s1) (st:tn 0 s1.heap) (fr:∀b∈fp,H1 b=none):
  codeAny (model X.prog X.w) X.A (.compLoop (.ListComp elt [⟨tg,iter,ifs,0⟩] scope pos) 0 (.ref it) (.ref D) (compEnvC scope (X8 scope X.env) C X.env)) R s1:=by
 have stat:∀{H':Hp},(∀b∈fp,H' b=none)→∀b∈fp,L3 (R8 X own js scope C s H fp) (X.pn++pins) H' b:=fun hn b hb=>by
  obtain⟨o,ho⟩:=hob b hb
  refine⟨hn b hb,Nat.ne_of_lt (Nat.lt_of_lt_of_le (Heap.lt_size ho) hC),?_,.inl hb,fun x c e=>(hf b hb).2.2.2.2.1 x c (F6 (S.cells I) e),fun p hp=>(hf b hb).2.2.2.2.2 p hp⟩
  intro z
  rcases List.mem_cons.mp (I.stkSub b z) with e|e
  ·exact(hf b hb).2.1 e
  ·exact(hf b hb).2.2.1 e
 have Dfp:D∉fp:=fun z=>by
  obtain⟨o,ho⟩:=hob D z
  exact absurd (Nat.lt_of_lt_of_le (Heap.lt_size ho) hD) (Nat.lt_irrefl _)
 have Dcell:∀x c,(R8 X own js scope C s H fp).env.cells.lookup x=some c→c≠D:=fun x c e z=>by
  obtain⟨v,o,ho,_⟩:=I.cell x c (F6 (S.cells I) e)
  rw[z] at ho
  exact absurd (Nat.lt_of_lt_of_le (Heap.lt_size ho) hD) (Nat.lt_irrefl _)
 have Dpin:∀p∈X.pn++pins,p.1≠D:=fun p hp z=>by
  have ho:=(I.pin p hp).1
  rw[z] at ho
  exact absurd (Nat.lt_of_lt_of_le (Heap.lt_size ho) hD) (Nat.lt_irrefl _)
 have Dfs:D∉(R8 X own js scope C s H fp).fs:=fun z=>by
  obtain⟨_,o,ho,_⟩:=I.stack.mem z
  exact absurd (Nat.lt_of_lt_of_le (Heap.lt_size ho) hD) (Nat.lt_irrefl _)
 refine codeAny_loop rfl (fun n s'=>∃i out H',BlockEnd X pins own js scope σ H s fp C D out H' s'∧tn i s'.heap∧(∀b∈fp,H' b=none)∧W i n out H') (fun n s3 hI=>?_) m0 ⟨0,[],H1,B,st,fr,w0⟩
 obtain⟨i,out,H3,B3,st3,fr3,w3⟩:=hI
 obtain⟨its,nD,rv,obD⟩:=B3.obj
 have pinD:∀{σ':St} {H':Hp} {s':Shared},Inv (R8 X own js scope C s H fp) (X.pn++pins) σ' H' s'→H' D=none→s'.heap.get? D=some {cls:= .type "list",data:= .seq its.toArray nD}→
   Inv (R8 X own js scope C s H fp) (X.pn++pins++[(D,{cls:= .type "list",data:= .seq its.toArray nD})]) σ' H' s':=fun{σ' H' s'} I' n' e'=>I'.pins_of fun p hp=>by
  rcases List.mem_append.mp hp with z|z
  ·exact I'.pin p (by show p∈([]:List (Addr×Obj))++_;exact List.mem_append_right _ z)
  ·have z':p=(D,{cls:= .type "list",data:= .seq its.toArray nD}):=by simpa using z
   subst z'
   exact⟨e',n',hDC,Dfs,fun v q=>by cases q⟩
 have stat':∀{H':Hp},(∀b∈fp,H' b=none)→∀b∈fp,L3 (R8 X own js scope C s H fp) (X.pn++pins++[(D,{cls:= .type "list",data:= .seq its.toArray nD})]) H' b:=fun hn b hb=>by
  obtain⟨a1,a2,a3,a4,a5,a6⟩:=stat hn b hb
  refine⟨a1,a2,a3,a4,a5,fun p hp=>?_⟩
  have hp':p∈X.pn++pins++[(D,{cls:= .type "list",data:= .seq its.toArray nD})]:=hp
  rcases List.mem_append.mp hp' with z|z
  ·exact a6 p (by show p∈([]:List (Addr×Obj))++_;exact z)
  ·have z':p=(D,{cls:= .type "list",data:= .seq its.toArray nD}):=by simpa using z
   subst z'
   rintro rfl
   exact Dfp hb
 have thx:∀{α:Type} {t:Sem α} {Q Q':α→Shared→Prop} {E:Value→Shared→Prop} {s:Shared},wpAny (model X.prog X.w) X.A t Q (fun _ _=>False) s→(∀a s,Q a s→Q' a s)→wpAny (model X.prog X.w) X.A t Q' E s:=
  fun h hQ=>wpAny_mono h hQ fun _ _ x=>x.elim
 have unD:∀{pl:List (Addr×Obj)} {σ':St} {H':Hp} {s':Shared},Inv (R8 X own js scope C s H fp) (X.pn++pins++[(D,{cls:= .type "list",data:= .seq its.toArray nD})]++pl) σ' H' s'→Inv (R8 X own js scope C s H fp) (X.pn++pins) σ' H' s'∧H' D=none∧s'.heap.get? D=some {cls:= .type "list",data:= .seq its.toArray nD}:=fun{pl σ' H' s'} I'=>by
  have q:=I'.pin (D,{cls:= .type "list",data:= .seq its.toArray nD}) (List.mem_append_right _ (List.mem_append_left _ (List.mem_append_right _ (by simp))))
  exact⟨I'.unpinned.unpinned,q.2.1,q.1⟩
 show wpAny _ X.A ((compTurn (.ListComp elt [⟨tg,iter,ifs,0⟩] scope pos) 0 (.ref it) (.ref D) (compEnvC scope (X8 scope X.env) C X.env)).onRaise (fun x=>do noteFrame x (compEnvC scope (X8 scope X.env) C X.env);theTreesLotGoes x)) _ _ s3
 refine wpAny_noted ?_
 rw[compTurn_list]
 refine wpAny_bind (wpAny_standAt (wpAny_bind ?_))
 rcases turn i n out H3 w3 with⟨stop,fin⟩|⟨go,step⟩
 ·refine A2 (T.done (R8 X own js scope C s H fp) rfl rfl rfl hc i _ s3 _ H3 _ (pinD B3.inv B3.free obD) (stat' fr3) st3 stop) fun r s4 ⟨hr,I4⟩=>?_
  subst hr
  obtain⟨J4,n4,o4⟩:=unD (pl:=[]) (by rw[List.append_nil];exact I4)
  obtain⟨hl,k⟩:=fin B3.free
  exact wpAny_pure (hR out H3 s4 ⟨J4,n4,its,nD,rv,o4⟩ hl k)
 ·refine A2 (T.item (R8 X own js scope C s H fp) rfl rfl rfl hc i _ s3 _ H3 _ (pinD B3.inv B3.free obD) (stat' fr3) st3 go) fun r s4 ⟨u,hr,h4⟩=>?_
  subst hr
  refine wpAny_bind (A2 h4 fun _ s5 ⟨x,H5,I5,r5,y5,st5,fr5⟩=>?_)
  have I5':=I5.pinned (stat' fr5) (T.obj _ _ st5)
  refine wpAny_bind (thx (hg _ s5 _ H5 x u _ I5' r5 (step x H5 y5)) fun _ s6 ⟨σ6,H6,I6,q6⟩=>?_)
  obtain⟨ed,q6⟩:=q6
  refine wpAny_bind (thx (hi _ s6 σ6 H6 _ I6 q6) fun ok s7 ⟨H7,I7,q7⟩=>?_)
  have stay:∀{H':Hp} {s':Shared},Inv (R8 X own js scope C s H fp) (X.pn++pins++[(D,{cls:= .type "list",data:= .seq its.toArray nD})]++bQ fp s5.heap) σ6 H' s'→tn (i+1) s'.heap∧∀b∈fp,H' b=none:=fun{H' s'} I'=>by
   refine⟨T.keep _ _ _ st5 fun b hb o e=>(I'.pin (b,o) (List.mem_append_right _ (List.mem_append_right _ (N1 hb e)))).1,fun b hb=>?_⟩
   obtain⟨o,e,d⟩:=T.obj _ _ st5 b hb
   exact(I'.pin (b,o) (List.mem_append_right _ (List.mem_append_right _ (N1 hb e)))).2.1
  have wk:∀{H':Hp} {s':Shared},Inv (R8 X own js scope C s H fp) (X.pn++pins) σ6 H' s'→Inv (R8 X own js scope C s H fp) (X.pn++pins) (oT own js σ) H' s':=fun{H' s'} I'=>by
   refine I'.weak (by rw[I'.len];exact jO) fun k v e=>?_
   unfold oT at e
   by_cases hk:k<own.length
   ·rw[List.getElem?_append_left (by simpa using hk),List.getElem?_map,List.getElem?_eq_getElem hk] at e
    simp at e
   ·rw[List.getElem?_append_right (by simpa using hk)] at e
    have el:(own.map fun _=>(none:Option V)).length=own.length:=by simp
    rw[el,←ed,List.getElem?_drop] at e
    have ek:own.length+(k -own.length)=k:=by lia
    rw[ek] at e
    exact e
  cases ok with
  |false=>
   rw[if_neg Bool.false_ne_true] at q7
   obtain⟨m',hm,w7⟩:=q7
   obtain⟨J7,n7,o7⟩:=unD I7
   exact wpAny_pure ⟨rfl,m',hm,i+1,out,H7,⟨wk J7,n7,its,nD,rv,o7⟩,(stay I7).1,(stay I7).2,w7⟩
  |true=>
   rw[if_pos rfl] at q7
   refine wpAny_bind (wpAny_bind (thx (he _ s7 σ6 H7 _ I7 q7) fun y s8 ⟨v,H8,I8,r8,hl8,m',hm,w8⟩=>?_))
   obtain⟨J8,n8,o8⟩:=unD I8
   have isl:s8.heap.IsList D its.toArray:=⟨_,o8,rfl,nD,rfl⟩
   refine wpAny_bind (wpAny_list_append_plain (hsz:=by have:=rv.length;simp;lia) ⟨nD,o8⟩ fun h' hp' hs'=>?_)
   obtain⟨nn,ob'⟩:=hp'
   have ob2:h'.get? D=some {cls:= .type "list",data:= .seq (its++[y]).toArray nn}:=by
    rw[ob',List.push_toArray]
   have keep:∀b o,b≠D→s8.heap.get? b=some o→h'.get? b=some o:=fun b o hb e=>(hs'.2 b hb).trans e
   have J9:Inv (R8 X own js scope C s H fp) (X.pn++pins) σ6 H8 {s8 with heap:=h'}:=J8.turned (t':=s8.toks) keep n8 hDC (.inr hD) Dcell (fun p hp=>Dpin p (by
    have hp':p∈([]:List (Addr×Obj))++(X.pn++pins):=hp
    rw[List.nil_append] at hp'
    exact hp'))
   refine wpAny_pure (wpAny_pure ⟨rfl,m',hm,i+1,out++[v],H8,⟨wk J9,n8,its++[y],nn,rv.append (.cons r8 .nil),ob2⟩,?_,(stay I8).2,w8⟩)
   exact T.keep _ _ _ (stay I8).1 fun b hb o e=>keep b o (by rintro rfl;exact Dfp hb) e
end
end L2
set_option Elab.async false
set_option linter.all false
set_option maxRecDepth 100000
set_option maxHeartbeats 4000000
namespace L2
open PySem PySem.Spec PyProof.Rows
def zX (n:Nat)(PV:Nat→V→Prop):It:=⟨fun i _=>i<n,fun i H x H'=>H'=H∧PV i x,fun i _=>n≤i⟩
theorem ju {M:Model}{A:Around}{E:Value→Shared→Prop}{s:Shared}{tg:Expr}{it:Addr}{u:Value}{Q:Unit→Shared→Prop}(hu:∀a,u≠ .ref a)(hQ:Q () s):wpAny M A (letOwnedTupleGo tg (.ref it) u) Q E s:=by
 unfold letOwnedTupleGo
 cases tg<;>first
  |exact wpAny_pure hQ
  |(cases u<;>first
    |exact wpAny_pure hQ
    |exact absurd rfl (hu _))
theorem bp {P:Program}{w:World}{K:PySem.W.Frag}{tg:Expr}{it:Addr}{n:Nat}{Pv:Nat→Value→Prop}{PV:Nat→V→Prop}{St:Nat→Heap→Prop}
  (W:∀A:Around,A.handled=none→Walks P w A it [it] [it] n Pv St) (hv:∀i u,Pv i u→(∀a,u≠ .ref a)∧∃x,RelV x u∧PV i x)
  (ho:∀i h,St i h→∃o,h.get? it=some o∧∀v,o.data≠ .cell v)
  (hk:∀i h h',St i h→(∀o,h.get? it=some o→h'.get? it=some o)→St i h')
  (hself:∀(A:Around) (i:Nat) (s:Shared) (Q:Value→Shared→Prop) (E:Value→Shared→Prop),St i s.heap→Q (.ref it) s→wpAny (model P w) A (pyIter (.ref it)) Q E s):
  aC P w K tg (zX n PV) [it] it (fun i h=>St i h∧i≤n) where
 mem:=by simp
 obj:=fun i h st b hb=>by
  have e:b=it:=by simpa using hb
  subst e
  exact ho i h st.1
 keep:=fun i h h' st k=>⟨hk i h h' st.1 fun o e=>k it (by simp) o e,st.2⟩
 item:=by
  intro X hP hw hK hc i pins s σ H E I hf st hg
  subst hP hw hK
  obtain⟨f0,f1,f2,f3,f4,f5⟩:=hf it (by simp)
  refine(W X.A (I.ok.hd hc)).item i s _ _ hg st.1 fun v h' tk hv' st' kk=>?_
  obtain⟨hne,x,rx,px⟩:=hv i v hv'
  have I1:Inv X pins σ H {s with heap:=h',toks:=tk}:=I.turned (fun b o hb e=>kk b o (by simpa using hb) e) f0 f1 f3 f4 f5
  exact⟨v,rfl,ju hne ⟨x,H,I1,rx,⟨rfl,px⟩,⟨st',hg⟩,fun b hb=>(hf b hb).1⟩⟩
 done:=by
  intro X hP hw hK hc i pins s σ H E I hf st hg
  subst hP hw hK
  obtain⟨f0,f1,f2,f3,f4,f5⟩:=hf it (by simp)
  have e:i=n:=Nat.le_antisymm st.2 hg
  subst e
  exact(W X.A (I.ok.hd hc)).done s _ _ st.1 fun h' tk kk=>⟨rfl,I.turned (fun b o hb e=>kk b o (by simpa using hb) e) f0 f1 f3 f4 f5⟩
 self:=fun A i s Q E st h=>hself A i s Q E st.1 h
def uU (c:Nat):V:= .str ⟨#[c]⟩
def sP (x:Str)(i:Nat)(v:V):Prop:=∃c,x.cps[i]?=some c∧v=uU c
def zf (x:Str):It:=zX x.cps.size (sP x)
theorem nu {x:Str}{i:Nat}{u:Value}(h:SignAt x i u):(∀a,u≠ .ref a)∧∃v,RelV v u∧sP x i v:=by
 obtain⟨c,t,hc,rfl⟩:=h
 exact⟨fun a z=>(by cases z),uU c,⟨t,rfl⟩,c,hc,rfl⟩
theorem kR {P:Program}{w:World}{K:PySem.W.Frag}{tg:Expr}(it:Addr)(x:Str)(t:Tok):aC P w K tg (zf x) [it] it (fun i h=>h.IsStrIter it "str_ascii_iterator" x t i∧i≤x.cps.size):=
 bp (fun A hh=>Walks.strAscii hh it x t) (fun i u h=>nu h)
  (fun i h st=>by obtain⟨o,e,c,d⟩:=st;exact⟨o,e,fun v z=>by rw[d] at z;cases z⟩)
  (fun i h h' st k=>let ⟨o,e,r⟩:=st;⟨o,k o e,r⟩)
  (fun A i s Q E st h=>wpAny_pyIter_striter_ascii st h)
theorem kW {P:Program}{w:World}{K:PySem.W.Frag}{tg:Expr}(it:Addr)(x:Str)(t:Tok):aC P w K tg (zf x) [it] it (fun i h=>h.IsStrIter it "str_iterator" x t i∧i≤x.cps.size):=
 bp (fun A hh=>Walks.strWide hh it x t) (fun i u h=>nu h)
  (fun i h st=>by obtain⟨o,e,c,d⟩:=st;exact⟨o,e,fun v z=>by rw[d] at z;cases z⟩)
  (fun i h h' st k=>let ⟨o,e,r⟩:=st;⟨o,k o e,r⟩)
  (fun A i s Q E st h=>wpAny_pyIter_striter_wide st h)
section
variable {X:Cx} {tg:Expr}
def rIter (K:PySem.W.Frag)(v:V)(H:Hp)(R:It→Hp→Prop):Prop:=
 (∃a,v= .ref a∧(∃xs,SqL K H a xs)∧R (Itl K a) H)∨(∃a,v= .ref a∧(∃xs,SqT K H a xs)∧R (zV K a) H)∨(∃x,v= .str x∧R (zf x) H)
theorem pU {pins:List (Addr×Obj)}{σ:St}{H1:Hp}{s1:Shared}{x:V}{v:Value}{R:It→Hp→Prop}(I1:Inv X pins σ H1 s1)(r1:RelV x v)(q1:rIter X.K x H1 R):
  wpAny (model X.prog X.w) X.A (pyIter v) (yr X pins σ tg R) X.xe s1:=by
 have fp0:∀b∈[s1.heap.objs.size],L3 X pins H1 b:=fun b hb=>by
  have e:b=s1.heap.objs.size:=by simpa using hb
  subst e
  exact I1.fpOk (Nat.le_refl _) (I1.hok.fresh (Nat.le_refl _))
 rcases q1 with⟨a,e,⟨xs,hq⟩,q⟩|⟨a,e,⟨xs,hq⟩,q⟩|⟨z,e,q⟩
 ·subst e
  cases r1
  obtain⟨its,rv,p,hz⟩:=I1.list hq
  refine wpAny_pyIter_list p.isList ?_
  exact⟨s1.heap.objs.size,[s1.heap.objs.size],_,_,H1,rfl,I1.kept (t':=s1.toks) fun b o e=>Heap.get?_push_of_some _ e,kT a _,⟨_,Heap.get?_push_size _ rfl,rfl,rfl⟩,fp0,q⟩
 ·subst e
  cases r1
  obtain⟨its,rv,p,hz⟩:=I1.tuple hq
  refine wpAny_pyIter_tuple (show s1.heap.IsTuple a its.toArray from p) ?_
  exact⟨s1.heap.objs.size,[s1.heap.objs.size],_,_,H1,rfl,I1.kept (t':=s1.toks) fun b o e=>Heap.get?_push_of_some _ e,iI a _,⟨_,Heap.get?_push_size _ rfl,rfl,rfl⟩,fp0,q⟩
 ·subst e
  obtain⟨t,rfl⟩:=r1
  cases ha:z.cps.all (·<128) with
  |false=>exact wpAny_pyIter_wide ha ⟨s1.heap.objs.size,[s1.heap.objs.size],_,_,H1,rfl,I1.kept (t':=s1.toks) fun b o e=>Heap.get?_push_of_some _ e,kW _ z t,⟨⟨_,Heap.get?_push_size _ rfl,rfl,rfl⟩,Nat.zero_le _⟩,fp0,q⟩
  |true=>exact wpAny_pyIter_ascii ha ⟨s1.heap.objs.size,[s1.heap.objs.size],_,_,H1,rfl,I1.kept (t':=s1.toks) fun b o e=>Heap.get?_push_of_some _ e,kR _ z t,⟨⟨_,Heap.get?_push_size _ rfl,rfl,rfl⟩,Nat.zero_le _⟩,fp0,q⟩
end
section
variable {X:Cx}
theorem jx:∀{bs:List Bool} {us:List Value},Vals (bs.map V.bl) us→us=bs.map Value.bool
 |[],_,.nil=>rfl
 |b::bs,_,.cons r t=>by
  have e:_=Value.bool b:=r
  rw[e,jx t];rfl
theorem gX (bs:List Bool):((List.range bs.length).all fun i=>(bs[i]?).getD true)=bs.all id:=by
 rw[Bool.eq_iff_iff,List.all_eq_true,List.all_eq_true]
 constructor
 ·intro h b hb
  obtain⟨i,hi,rfl⟩:=List.getElem_of_mem hb
  have:=h i (List.mem_range.mpr hi)
  simpa [List.getElem?_eq_getElem hi] using this
 ·intro h i hi
  have hi':=List.mem_range.mp hi
  simpa [List.getElem?_eq_getElem hi'] using h _ (List.getElem_mem hi')
theorem qu {s:Shared}{h':Heap}{o:Obj}(hk:∀b x,b∉[s.heap.objs.size]→(s.heap.push o).get? b=some x→h'.get? b=some x):∀b x,s.heap.get? b=some x→h'.get? b=some x:=
 fun b x e=>hk b x (fun hm=>by rw[List.mem_singleton.mp hm] at e;exact Nat.lt_irrefl _ (Heap.lt_size e)) (Heap.get?_push_of_some _ e)
def qW (K:PySem.W.Frag):List V→Hp→VK→Prop:=fun xs H Q=>∃(p:Addr) (bs:List Bool),xs=[.ref p]∧SqL K H p (bs.map V.bl)∧Q (.bl (bs.all id)) H
theorem ml (hc:X.calm=true):CallR X (.builtin "all") (qW X.K):=by
 intro pins s σ H xs us Q I r h
 obtain⟨l,bs,rfl,hx,q⟩:=h
 obtain⟨u,rfl,ru⟩:=D7 r
 cases ru
 obtain⟨its,rv,ht,hz⟩:=I.list hx
 have e:=jx rv
 subst e
 have hl:=ht.isList
 have hlt:l<s.heap.objs.size:=ht.lt
 refine call_all_walk (wpAny_pyIter_list hl ?_)
 refine⟨s.heap.objs.size,[s.heap.objs.size,l],[s.heap.objs.size],(bs.map Value.bool).toArray.size,_,_,fun i=>(bs[i]?).getD true,rfl,Walks.list (A:=X.A.in1) (I.ok.hd hc) _ l (Nat.ne_of_lt hlt) (bs.map Value.bool).toArray,
  ⟨⟨_,Heap.get?_push_size _ rfl,rfl,rfl⟩,hl.push _⟩,fun i v s' Q' E' hP hQ=>?_,fun h' tk hk=>?_⟩
 ·have hP':(bs.map Value.bool)[i]?=some v:=by simpa using hP
  rw[List.getElem?_map] at hP'
  cases e:bs[i]? with
  |none=>rw[e] at hP';cases hP'
  |some b=>
   rw[e] at hP'
   cases hP'
   simp only[e,Option.getD_some] at hQ
   exact wpAny_truthy_bool hQ
 ·have e:((List.range (bs.map Value.bool).toArray.size).all fun i=>(bs[i]?).getD true)=bs.all id:=by
   rw[List.size_toArray,List.length_map];exact gX bs
  rw[e]
  exact⟨.bl (bs.all id),H,I.kept (qu hk),rfl,q⟩
def wB:V→Option Int→Option Int→Hp→VK→Prop:=fun x lo hi H Q=>∃z,x= .str z∧z.length≤sizeLine∧Q (.str (Txt.slice z lo hi)) H
theorem tw:SlR X wB:=by
 intro pins s σ H x v vl vu lo hi sl Q I rx hs pl pu h
 obtain⟨z,rfl,hz,q⟩:=h
 obtain⟨t,rfl⟩:=rx
 refine⟨"str",_,F.slot_str_getitem.lookup,typeIs_str _ _ _,?_⟩
 have fin:∀t' k,EP X pins σ Q (.str (Txt.slice z lo hi) t') {s with toks:=k}:=fun t' k=>⟨.str _,H,I.tok _,⟨t',rfl⟩,q⟩
 cases pl with
 |none=>
  cases pu with
  |none=>exact wpAny_getItem_str_slice (l:=none) (u:=none) (st:=none) hs rfl (post_val_or_str ⟨Nat.le_trans (Txt.slice_le z _ _) hz,fin⟩)
  |int j tj=>exact wpAny_getItem_str_slice (l:=none) (u:=some (j,tj)) (st:=none) hs rfl (post_val_or_str ⟨Nat.le_trans (Txt.slice_le z _ _) hz,fin⟩)
 |int i ti=>
  cases pu with
  |none=>exact wpAny_getItem_str_slice (l:=some (i,ti)) (u:=none) (st:=none) hs rfl (post_val_or_str ⟨Nat.le_trans (Txt.slice_le z _ _) hz,fin⟩)
  |int j tj=>exact wpAny_getItem_str_slice (l:=some (i,ti)) (u:=some (j,tj)) (st:=none) hs rfl (post_val_or_str ⟨Nat.le_trans (Txt.slice_le z _ _) hz,fin⟩)
def yo (K:PySem.W.Frag):V→Option Int→Option Int→Hp→VK→Prop:=fun x lo hi H Q=>xO K x lo hi H Q∨xc K x lo hi H Q∨wB x lo hi H Q
theorem uE:SlR X (yo X.K):=sl_list.or (sl_tup.or tw)
theorem RelV.plainB {x:V}{v:Value}(r:RelV x v)(b:Bool):plainIs v (.bool b)=true∧(v==Value.bool b)=decide (x= .bl b):=by
 cases x with
 |non=>cases r;exact⟨rfl,rfl⟩
 |bl c=>cases r;exact⟨rfl,by cases b<;>cases c<;>rfl⟩
 |int _=>obtain⟨t,rfl⟩:=r;exact⟨rfl,rfl⟩
 |str _=>obtain⟨t,rfl⟩:=r;exact⟨rfl,rfl⟩
 |byt _=>obtain⟨t,rfl⟩:=r;exact⟨rfl,rfl⟩
 |flt _=>obtain⟨t,rfl⟩:=r;exact⟨rfl,rfl⟩
 |ref _=>cases r;exact⟨rfl,rfl⟩
 |ty _=>cases r;exact⟨rfl,rfl⟩
def zH (neg:Bool):R2:=fun x y H Q=>(y= .non∨∃b,y= .bl b)∧Q (.bl (if neg then !decide (x=y) else decide (x=y))) H
theorem xj:OpR X (compareOp .Is) (zH false):=by
 intro pins s σ H x y v u Q I rx ry h
 obtain⟨hy,q⟩:=h
 rcases hy with rfl|⟨b,rfl⟩
 ·cases ry;exact is_none_gen ⟨.bl _,H,I,by rw[rx.none_iff];rfl,q⟩
 ·cases ry
  exact wpAny_is_plain (rx.plainB b).1 ⟨.bl _,H,I,by rw[(rx.plainB b).2];rfl,q⟩
theorem oY:OpR X (compareOp .IsNot) (zH true):=by
 intro pins s σ H x y v u Q I rx ry h
 obtain⟨hy,q⟩:=h
 rcases hy with rfl|⟨b,rfl⟩
 ·cases ry;exact isnot_none_gen ⟨.bl _,H,I,by rw[rx.none_iff];rfl,q⟩
 ·cases ry
  exact wpAny_isNot_plain (rx.plainB b).1 ⟨.bl _,H,I,by rw[(rx.plainB b).2];rfl,q⟩
end
end L2
set_option Elab.async false
set_option linter.all false
set_option maxRecDepth 100000
set_option maxHeartbeats 4000000
namespace L2
open PySem PySem.Spec PyProof.Rows
section
variable {X:Cx}
def gO (K:PySem.W.Frag):R2:=fun x y H Q=>qc (fun i j=> .int (i+j)) x y H Q∨(∃i j,x= .str i∧y= .str j∧i.length+j.length≤sizeLine∧Q (.str (i++j)) H)∨wR x y H Q∨sR K x y H Q
theorem rC:OpR X (binaryOp .Add) (gO X.K):=op_add.or (op_add_str.or (op_cat.or qI))
theorem op_in_sgn:OpR X (compareOp .In) (fun x y H Q=>∃c j,x=uU c∧y= .str j∧Q (.bl (decide (c∈j.cps.toList))) H):=by
 intro pins s σ H x y v u Q I rx ry h
 obtain⟨c,j,rfl,rfl,q⟩:=h
 refine lQ pins s σ H _ _ v u Q I rx ry ⟨⟨#[c]⟩,j,rfl,rfl,?_⟩
 rw[StrLaws.found_one];exact q
theorem op_notIn_sgn:OpR X (compareOp .NotIn) (fun x y H Q=>∃c j,x=uU c∧y= .str j∧Q (.bl (!decide (c∈j.cps.toList))) H):=by
 intro pins s σ H x y v u Q I rx ry h
 obtain⟨c,j,rfl,rfl,q⟩:=h
 refine dH pins s σ H _ _ v u Q I rx ry ⟨⟨#[c]⟩,j,rfl,rfl,?_⟩
 rw[StrLaws.found_one];exact q
theorem ib (hu:X.A.units+1<cLine):OpR X (compareOp .In) (fun y x H Q=>∃a o,x= .ref a∧DGet H a y o∧Q (.bl o.isSome) H):=by
 intro pins s σ H y x v u Q I ry rx h
 obtain⟨a,o,rfl,g,q⟩:=h
 cases rx
 exact zG hu I g ry fun s' I'=>⟨.bl _,H,I',rfl,q⟩
theorem bU (hu:X.A.units+1<cLine):OpR X (compareOp .NotIn) (fun y x H Q=>∃a o,x= .ref a∧DGet H a y o∧Q (.bl (!o.isSome)) H):=by
 intro pins s σ H y x v u Q I ry rx h
 obtain⟨a,o,rfl,g,q⟩:=h
 cases rx
 exact rF hu I g ry fun s' I'=>⟨.bl _,H,I',rfl,q⟩
def vA (K:PySem.W.Frag):R2:=fun x y H Q=>(∃c j,x=uU c∧y= .str j∧Q (.bl (decide (c∈j.cps.toList))) H)∨yp K false x y H Q∨(∃a o,y= .ref a∧DGet H a x o∧Q (.bl o.isSome) H)
def dS (K:PySem.W.Frag):R2:=fun x y H Q=>(∃c j,x=uU c∧y= .str j∧Q (.bl (!decide (c∈j.cps.toList))) H)∨yp K true x y H Q∨(∃a o,y= .ref a∧DGet H a x o∧Q (.bl (!o.isSome)) H)
theorem tE (hu:X.A.units+1<cLine):OpR X (compareOp .In) (vA X.K):=op_in_sgn.or (op_in_seq.or (ib hu))
theorem lY (hu:X.A.units+1<cLine):OpR X (compareOp .NotIn) (dS X.K):=op_notIn_sgn.or (op_notIn_seq.or (bU hu))
def yb:R2:=fun x y H Q=>qc (fun i j=> .bl (decide (i<j))) x y H Q∨(∃i j,x= .str i∧y= .str j∧Q (.bl (decide (i.cps.toList<j.cps.toList))) H)
theorem T6:OpR X (compareOp .Lt) yb:=op_lt.or lA
theorem rg (hu:X.A.units+1<cLine):IxR X (fun x y H Q=>∃a v,x= .ref a∧DGet H a y (some v)∧Q v H):=by
 intro value slice pins s σ H x y v u Q I rx ry h hs
 obtain⟨a,z,rfl,g,q⟩:=h
 cases rx
 exact tail_any (gM I g) PySem.F.slot_dict_getitem.lookup (kQ hu I g ry fun w2 s' I' r'=>⟨z,H,I',r',q⟩) hs
def hU (K:PySem.W.Frag):R2:=fun x y H Q=>zJ K x y H Q∨(∃a v,x= .ref a∧DGet H a y (some v)∧Q v H)
theorem tp (hu:X.A.units+1<cLine):IxR X (hU X.K):=ix_seq.or (rg hu)
def lU (K:PySem.W.Frag):List V→Hp→VK→Prop:=fun xs H Q=>(∃x n,xs=[x]∧wc K x H n∧Q (.int n) H)∨(∃a kvs,xs=[V.ref a]∧Rd H a (.dK kvs)∧Q (.int kvs.length) H)
theorem call_lenX:CallR X (.builtin "len") (lU X.K):=by
 refine call_len.or ?_
 intro pins s σ H xs us Q I r h
 obtain⟨a,kvs,rfl,ha,q⟩:=h
 obtain⟨u,rfl,ru⟩:=D7 r
 cases ru
 exact xf I ha fun t s' I'=>⟨.int kvs.length,H,I',⟨t,rfl⟩,q⟩
end
def Z6 (P:Program)(w:World)(K:PySem.W.Frag)(mg:Str→Option Value)(base:Heap)(CX:fQ)(k:Nat)(x:Str)(ps:List Str)(dvs:List V)(sp:Sp):Prop:=
 ∃f fd ds,A0 P w K mg base CX k f fd ps sp∧mg x=some (.ref f)∧PySem.W.keepIn K (.ref f)=true∧Binds K fd ps ds∧Vals dvs ds
section
variable {X:Cx} {CX:fQ} {k:Nat} {x:Str} {ps:List Str} {dvs:List V} {sp:Sp} {E:XK} {e:Expr} {es:List Expr} {t:TA} {p pos:Pos}
theorem mI (C:Z6 X.prog X.w X.K X.mg X.base CX k x ps dvs sp)(hr:Room k X.A)(hx:Z8 CX X E)(ha:PA X (e::es) t)(hg:Gl X x:=by rfl)
  (hdb:(x==("__debug__":Str))=false:=by decide) (he:starEach (e::es) X.env=(false,eval e X.env)::starEach es X.env:=by rfl) (hpl:(backTo pos (starEach es X.env)).any (·.1)=false:=by rfl):
  PE X (.Call (.Name x p) (e::es) [] pos) (fS sp dvs E t):=by
 obtain⟨f,fd,ds,F,hm,hk,hb,hd⟩:=C
 exact qQ F hr hg hm hk hb hd hx ha hdb he hpl
theorem A5 {k:Nat}{A:Around}(r:Room k A):A.units+1<cLine:=by have:=r.un;lia
end
section
variable {K:PySem.W.Frag} {σ:St} {H:Hp} {Q:VK} {D:ip} {nx bk ct:St→Hp→Prop} {rt:VK}
theorem yk {i:Nat}{v:V}(h:σ[i]?=some (some v))(q:Q v H):qx i σ H Q:=⟨v,h,q⟩
theorem zY {v:V}(q:Q v H):tC v σ H Q:=q
theorem zg {r:R2}{ta tb:TE}(q:ta σ H fun x H1=>tb σ H1 fun y H2=>r x y H2 Q):rX r ta tb σ H Q:=q
theorem tT {t:TE}{Qb:Bool→Hp→Prop}(q:t σ H fun x H'=>∃k,x= .bl k∧Qb k H'):mV t σ H Qb:=q
theorem yQ {b:Bool}{Qb:Bool→Prop}(q:Qb b):∃k,V.bl b= .bl k∧Qb k:=⟨b,rfl,q⟩
theorem wO {b:Bool}{Qb:Bool→Prop}(q:Qb b):∃k,pX K (V.bl b) H k∧Qb k:=⟨b,rfl,q⟩
theorem xx {t:TT}{Qb:Bool→Hp→Prop}(q:t σ H fun c H1=>Qb (!c) H1):uB t σ H Qb:=q
theorem xX {t u:TT}{Qb:Bool→Hp→Prop}(q:t σ H fun c H1=>if c=true then u σ H1 Qb else Qb false H1):vG t u σ H Qb:=q
theorem zk {t u:TT}{Qb:Bool→Hp→Prop}(q:t σ H fun c H1=>if c=true then Qb true H1 else u σ H1 Qb):zD t u σ H Qb:=q
theorem uQ {ta tb:TE}(q:ta σ H fun x H1=>∃c,x= .bl c∧if c=true then tb σ H1 Q else Q (.bl false) H1):oM ta tb σ H Q:=q
theorem zp {t:TT}{ta tb:TE}(q:t σ H fun c H1=>if c=true then ta σ H1 Q else tb σ H1 Q):zq t ta tb σ H Q:=q
theorem xA {Qa:List V→Hp→Prop}(q:Qa [] H):rS σ H Qa:=q
theorem uw {ta:TE}{tr:TA}{Qa:List V→Hp→Prop}(q:ta σ H fun x H1=>tr σ H1 fun xs H2=>Qa (x::xs) H2):fR ta tr σ H Qa:=q
theorem ue {sp:Sp}{dvs:List V}{E:XK}{t:TA}(q:t σ H fun vs H1=>sp (vs++dvs) H1 Q E):fS sp dvs E t σ H Q:=q
theorem zd {r:List V→Hp→VK→Prop}{t:TA}(q:t σ H fun vs H1=>r vs H1 Q):ua r t σ H Q:=q
theorem yL {r:V→Option Int→Option Int→Hp→VK→Prop}{te:TE}{tl th:TO}(q:te σ H fun x H1=>tl σ H1 fun l H2=>th σ H2 fun u H3=>r x l u H3 Q):yG r te tl th σ H Q:=q
theorem ng {Qo:Option Int→Hp→Prop}(q:Qo none H):dX σ H Qo:=q
theorem vk {t:TE}{Qo:Option Int→Hp→Prop}(q:t σ H fun x H1=>∃i,x= .int i∧Qo (some i) H1):pT t σ H Qo:=q
theorem wN {i:Int}{Qo:Int→Prop}(q:Qo i):∃j,V.int i= .int j∧Qo j:=⟨i,rfl,q⟩
theorem ki {i j:Int}(q:Q (.int (i+j)) H):gO K (.int i) (.int j) H Q:= .inl ⟨i,j,rfl,rfl,q⟩
theorem Q6 {i j:Str}(h:i.length+j.length≤sizeLine)(q:Q (.str (i++j)) H):gO K (.str i) (.str j) H Q:= .inr (.inl ⟨i,j,rfl,rfl,h,q⟩)
theorem zm {g:Int→Int→V}{i j:Int}(q:Q (g i j) H):qc g (.int i) (.int j) H Q:=⟨i,j,rfl,rfl,q⟩
theorem Am {C:Int→Int→Prop}{g:Int→Int→V}{i j:Int}(h:C i j)(q:Q (g i j) H):rI C g (.int i) (.int j) H Q:=⟨i,j,rfl,rfl,h,q⟩
theorem ox {i j:Int}(q:Q (.bl (decide (i<j))) H):yb (.int i) (.int j) H Q:= .inl ⟨i,j,rfl,rfl,q⟩
theorem fq {i j:Int}(q:Q (.bl (decide (i=j))) H):yz (.int i) (.int j) H Q:=⟨rfl,by rw[eM];rw[show(i==j)=decide (i=j) from Bool.beq_eq_decide_eq i j];exact q⟩
theorem gr {i j:Str}(q:Q (.bl (decide (i=j))) H):yz (.str i) (.str j) H Q:=⟨rfl,by rw[dA];rw[show(i==j)=decide (i=j) from Bool.beq_eq_decide_eq i j];exact q⟩
theorem ku {y:Str}(h:y.length≤sizeLine)(q:Q (.int y.length) H):lU K [.str y] H Q:= .inl ⟨.str y,y.length,rfl,⟨h,rfl⟩,q⟩
theorem k5 {p:Addr}{xs:List V}(h:SqL K H p xs)(q:Q (.int xs.length) H):lU K [.ref p] H Q:= .inl ⟨.ref p,xs.length,rfl,.inl ⟨xs,h,rfl⟩,q⟩
theorem Y4 {p:Addr}{kvs:List (g4×V)}(h:Rd H p (.dK kvs))(q:Q (.int kvs.length) H):lU K [.ref p] H Q:= .inr ⟨p,kvs,rfl,h,q⟩
theorem i4 {p:Addr}{xs:List V}{i:Int}{v:V}(h:SqL K H p xs)(e:jL xs i=some v)(q:Q v H):hU K (.ref p) (.int i) H Q:= .inl (.inl ⟨p,xs,i,v,rfl,rfl,h,e,q⟩)
theorem g5 {p:Addr}{xs:List V}{i:Int}{v:V}(h:SqT K H p xs)(e:jL xs i=some v)(q:Q v H):hU K (.ref p) (.int i) H Q:= .inl (.inr (.inl ⟨p,xs,i,v,rfl,rfl,h,e,q⟩))
theorem bF {z:Str}{i:Int}{c:Nat}(hz:z.length≤sizeLine)(e:jL z.cps.toList i=some c)(q:Q (uU c) H):hU K (.str z) (.int i) H Q:= .inl (.inr (.inr ⟨z,i,c,rfl,rfl,hz,e,q⟩))
theorem u5 {p:Addr}{y v:V}(g:DGet H p y (some v))(q:Q v H):hU K (.ref p) y H Q:= .inr ⟨p,v,rfl,g,q⟩
theorem mR {p:Addr}{xs:List V}{lo hi:Option Int}(h:SqL K H p xs)(q:∀p,H p=none→Q (.ref p) (i6 H p (.lst (Z4 xs lo hi)))):yo K (.ref p) lo hi H Q:= .inl ⟨p,xs,rfl,h,q⟩
theorem gn {l b:Addr}{xs zs:List V}(h1:H l=some (.lst xs))(h2:H b=some (.lst zs))(hz:xs.length+zs.length≤sizeLine)(q:∀p,H p=none→Q (.ref p) (i6 H p (.lst (xs++zs)))):gO K (.ref l) (.ref b) H Q:= .inr (.inr (.inl ⟨l,b,xs,zs,rfl,rfl,h1,h2,hz,q⟩))
theorem xn {neg:Bool}{x:V}(q:Q (.bl (if neg then !decide (x= .non) else decide (x= .non))) H):zH neg x .non H Q:=⟨.inl rfl,q⟩
theorem wG {p:Addr}{bs:List Bool}(h:SqL K H p (bs.map V.bl))(q:Q (.bl (bs.all id)) H):qW K [.ref p] H Q:=⟨p,bs,rfl,h,q⟩
theorem xI {t:TA}(q:t σ H fun xs H1=>xs.length≤sizeLine∧∀p,H1 p=none→Q (.ref p) (i6 H1 p (.tup xs))):tu t σ H Q:=q
theorem xa {t:TA}(q:t σ H fun xs H1=>xs.length≤sizeLine∧∀p,H1 p=none→Q (.ref p) (i6 H1 p (.lst xs))):vg t σ H Q:=q
theorem B6 {t u:TS}(q:t ⟨u ⟨nx,rt,bk,ct⟩,rt,bk,ct⟩ σ H):mr t u ⟨nx,rt,bk,ct⟩ σ H:=q
theorem vF (q:nx σ H):mU ⟨nx,rt,bk,ct⟩ σ H:=q
theorem xS {te:TE}(q:te σ H rt):tS te ⟨nx,rt,bk,ct⟩ σ H:=q
theorem uM {te:TE}(q:te σ H fun _ H1=>nx σ H1):nT te ⟨nx,rt,bk,ct⟩ σ H:=q
theorem wd {c:TT}{t u:TS}(q:c σ H fun b H1=>if b=true then t ⟨nx,rt,bk,ct⟩ σ H1 else u ⟨nx,rt,bk,ct⟩ σ H1):ub c t u ⟨nx,rt,bk,ct⟩ σ H:=q
theorem wK {te:TE}{g:TG}(q:te σ H fun x H1=>g x σ H1 nx):iL te g ⟨nx,rt,bk,ct⟩ σ H:=q
theorem uD {i:Nat}{v:V}{Qs:St→Hp→Prop}(q:Qs (σ.set i (some v)) H):O1 i v σ H Qs:=q
end
end L2
set_option Elab.async false
set_option linter.all false
set_option maxRecDepth 100000
set_option maxHeartbeats 4000000
namespace L2
open PySem PySem.Spec PyProof.Rows
section
variable {X:Cx} {pins:List (Addr×Obj)} {σ:St} {H:Hp} {s:Shared} {d:Addr} {kvs:List (g4×V)} {o:Obj}
abbrev A8 (d:Addr)(o:Obj)(kvs:List (g4×V))(H:Hp):Hp:=i6 H d (.frz o (.dK kvs))
theorem Inv.freeze (I:Inv X pins σ H s)(h:H d=some (.dK kvs))(ho:s.heap.get? d=some o):Inv X pins σ (A8 d o kvs H) s:=by
 have nd:∀b u,H b=some u→u≠ .dK kvs→b≠d:=fun b u e n z=>by
  subst z;rw[h] at e;exact n (Option.some.inj e).symm
 have hok:HOk X.prog X.w (A8 d o kvs H) s.heap:=fun b u e=>by
  have st:∀{a:Addr} {u:HO},ObjOk X.prog X.w H s.heap a u→ObjOk X.prog X.w (A8 d o kvs H) s.heap a u:=fun{a u} x=>
   x.stay (fun c v _ q=>q) (fun c q=>by unfold A8;rw[b0 (nd c _ q (by intro z;cases z))];exact q) fun c xs q=>by unfold A8;rw[b0 (nd c _ q (by intro z;cases z))];exact q
  by_cases hb:b=d
  ·subst hb
   unfold A8 at e
   rw[c8] at e
   cases e
   exact⟨ho,st (I.hok _ _ h)⟩
  ·unfold A8 at e
   rw[b0 hb] at e
   exact st (I.hok b u e)
 have q:=I.un (H':=A8 d o kvs H) (h':=s.heap) (t':=s.toks) ⟨fun b o e n hb hx=>e,fun b o e n hb hx=>⟨o.slots,e⟩,fun b o e n hx=>by
  unfold A8;rw[b0 (fun z=>by subst z;rw[h] at n;cases n)];exact n,fun b o e _=>⟨o,e⟩,fun b xs e=>by unfold A8;rw[b0 (nd b _ e (by intro z;cases z))];exact e,
  fun b o u e=>by unfold A8;rw[b0 (nd b _ e (by intro z;cases z))];exact e,fun b ps e=>⟨#[],by unfold A8;rw[b0 (nd b _ e (by intro z;cases z))];simpa using e⟩⟩ hok
 exact q
def yg:Option HO→Option HO
 |some (.frz _ u)=>some u
 |o=>o
def thaw (d:Addr)(H:Hp):Hp:=fun b=>if b=d then yg (H d) else H b
theorem G5 {b:Addr}(h:b≠d):thaw d H b=H b:=by unfold thaw;rw[if_neg h]
theorem thaw_at {u:HO}(h:H d=some (.frz o u)):thaw d H d=some u:=by unfold thaw;rw[if_pos rfl,h];rfl
theorem mN {u:HO}(h:H d=some (.frz o u)):thaw d H=i6 H d u:=by
 funext b
 by_cases hb:b=d
 ·subst hb;rw[thaw_at h,c8]
 ·rw[G5 hb,b0 hb]
theorem qE (h:∀o u,H d≠some (.frz o u)):thaw d H=H:=by
 funext b
 by_cases hb:b=d
 ·subst hb
  unfold thaw
  rw[if_pos rfl]
  cases q:H b with
  |none=>rfl
  |some u=>cases u with
   |frz o u=>exact absurd q (h o u)
   |_=>rfl
 ·exact G5 hb
def qg (X:Cx)(th:Hp→Hp):Prop:=∀(pins:List (Addr×Obj)) (σ:St) (H:Hp) (s:Shared),Inv X pins σ H s→Inv X pins σ (th H) s
theorem aF:qg X id:=fun _ _ _ _ I=>I
theorem kE (hn:∀o u,X.H₀ d≠some (.frz o u)):qg X (thaw d):=fun pins σ H s I=>by
 by_cases hf:∃o u,H d=some (.frz o u)
 ·obtain⟨o,u,h⟩:=hf
  rw[mN h]
  have nd:∀b v,H b=some v→v≠ .frz o u→b≠d:=fun b v e n z=>by
   subst z;rw[h] at e;exact n (Option.some.inj e).symm
  have nn:∀b,H b=none→b≠d:=fun b e z=>by subst z;rw[h] at e;cases e
  have st:∀{a:Addr} {v:HO},ObjOk X.prog X.w H s.heap a v→ObjOk X.prog X.w (i6 H d u) s.heap a v:=fun{a v} x=>
   x.stay (fun c v _ q=>q) (fun c q=>by rw[b0 (nd c _ q (by intro z;cases z))];exact q) fun c xs q=>by rw[b0 (nd c _ q (by intro z;cases z))];exact q
  refine⟨I.ok,I.os,I.bare,⟨I.base.keep,I.base.slot,fun b ob e n hx=>?_,I.base.there,fun b xs e=>?_,fun b ob v e=>?_,fun b ps e=>?_⟩,I.loc,I.cell,?_,fun x c e=>?_,fun p hp=>?_,fun b v e=>?_,I.len⟩
  ·have q:=I.base.free b ob e n hx
   rw[b0 (nn b q)];exact q
  ·have q:=I.base.tups b xs e
   rw[b0 (nd b _ q (by intro z;cases z))];exact q
  ·have q:=I.base.frzs b ob v e
   rw[b0 (fun z=>by subst z;exact hn ob v e)];exact q
  ·obtain⟨m,q⟩:=I.base.tbls b ps e
   exact⟨m,by rw[b0 (nd b _ q (by intro z;cases z))];exact q⟩
  ·rw[b0 (nn _ I.free)];exact I.free
  ·have q:=I.freeC x c e
   rw[b0 (nn _ q)];exact q
  ·obtain⟨a1,a2,a3⟩:=I.pin p hp
   exact⟨a1,by rw[b0 (nn _ a2)];exact a2,a3⟩
  ·by_cases hb:b=d
   ·subst hb
    rw[c8] at e
    cases e
    exact st (I.hok _ _ h).2
   ·rw[b0 hb] at e
    exact st (I.hok b v e)
 ·rw[qE fun o u e=>hf ⟨o,u,e⟩];exact I
theorem Same.thaw {H H':Hp}(h:H d=some (.dK kvs))(e:Same (A8 d o kvs H) H'):Same H (thaw d H'):=fun b u q=>by
 by_cases hb:b=d
 ·subst hb
  rw[h] at q;cases q
  have z:=e b _ (show A8 b o kvs H b=some _ from c8)
  exact thaw_at z
 ·rw[G5 hb]
  exact e b u (by unfold A8;rw[b0 hb];exact q)
end
abbrev gQ:=St→Hp→(It→(Hp→Hp)→Hp→Prop)→Prop
def qP (X:Cx)(tg iter:Expr)(wi:gQ):Prop:=
 ∀(pins:List (Addr×Obj)) (s:Shared) (σ:St) (H:Hp) (R:It→(Hp→Hp)→Hp→Prop),Inv X pins σ H s→wi σ H R→
  wpAny (model X.prog X.w) X.A (eval iter X.env) (fun v s1=>wpAny (model X.prog X.w) X.A (pyIter v) (yr X pins σ tg fun J H'=>∃th,qg X th∧R J th H') X.xe s1) X.xe s
theorem PI.two {X:Cx}{tg iter:Expr}{wi:TI}(h:PI X tg iter wi):qP X tg iter (fun σ H R=>wi σ H fun J H'=>R J id H'):=by
 intro pins s σ H R I q
 refine A2 (h pins s σ H _ I q) fun v s1 h1=>A2 h1 fun itv s2 h2=>?_
 obtain⟨it,fp,tn,J,H',e,I',T,st,f,q⟩:=h2
 exact⟨it,fp,tn,J,H',e,I',T,st,f,id,aF,q⟩
def rT (J:It)(th:Hp→Hp)(g:TG)(tb:TS)(nx:St→Hp→Prop)(rt:VK)(σ:St)(H1:Hp):Prop:=∃W:Nat→Nat→St→Hp→Prop,(∃m,W 0 m σ H1)∧∀i m σ H,W i m σ H→
 (J.stop i H∧nx σ (th H))∨(J.go i H∧∃N:St→Hp→Prop,(∀σ' H',N σ' H'→∃m',m'<m∧W (i+1) m' σ' H')∧∀x H',J.yld i H x H'→g x σ H' fun σ2 H2=>tb ⟨N,fun v H=>rt v (th H),fun σ H=>nx σ (th H),N⟩ σ2 H2)
def pJ (wi:gQ)(g:TG)(tb:TS):TS:=fun D σ H=>wi σ H fun J th H1=>rT J th g tb D.nx D.rt σ H1
theorem rL {X:Cx}{tg iter:Expr}{body:List Stmt}{wi:gQ}{g:TG}{tb:TS}{pos:Pos}(hp:PassesOwn (model X.prog X.w) X.A X.env X.xe)(hc:X.calm=true)(hi:qP X tg iter wi)(hg:PG X tg g)(hb:PSs X body tb)
  (hs:∀x,foldedSetIterable iter X.env x=pure x:=by intro _;rfl):PS X (.For tg iter body [] pos) (pJ wi g tb):=by
 intro pins s σ H D I h
 refine wpAny_For (A2 (hi pins s σ H _ I h) fun v s1 h1=>A2 h1 fun itv s2 h2=>?_) hs
 obtain⟨it,fp,tn,J,H2,e,I2,T,st2,f2,th,hth,W,⟨m0,w0⟩,turn⟩:=h2
 subst e
 have stat:∀{H':Hp},(∀b∈fp,H' b=none)→∀b∈fp,L3 X pins H' b:=fun hn b hb=>⟨hn b hb,(f2 b hb).2⟩
 refine codeAny_forLoop_any (fun n s'=>∃i σ' H',Inv X pins σ' H' s'∧tn i s'.heap∧(∀b∈fp,H' b=none)∧W i n σ' H') ?_ m0 ⟨0,σ,H2,I2,st2,fun b hb=>(f2 b hb).1,w0⟩
 rintro n s3 ⟨i,σ3,H3,I3,st3,fr3,w3⟩
 rcases turn i n σ3 H3 w3 with⟨stop,qn⟩|⟨go,N,hN,step⟩
 ·refine wpAny_passesOwn hp (A2 (T.done X rfl rfl rfl hc i pins s3 σ3 H3 X.xe I3 (stat fr3) st3 stop) fun r s4 ⟨hr,I4⟩=>?_)
  subst hr
  exact wpAny_execs_nil ⟨σ3,th H3,hth _ _ _ _ I4,qn⟩
 ·refine wpAny_passesOwn hp (A2 (T.item X rfl rfl rfl hc i pins s3 σ3 H3 X.xe I3 (stat fr3) st3 go) fun r s4 ⟨u,hr,h4⟩=>?_)
  subst hr
  refine wpAny_passesOwn hp (A2 h4 fun _ s5 ⟨x,H5,I5,r5,y5,st5,fr5⟩=>?_)
  have I5':=I5.pinned (stat fr5) (T.obj _ _ st5)
  refine wpAny_passesOwn hp (A2 (hg _ s5 σ3 H5 x u _ I5' r5 (step x H5 y5)) fun _ s6 ⟨σ6,H6,I6,q6⟩=>?_)
  refine wpAny_passesOwn hp (A2 (hb _ s6 σ6 H6 _ I6 q6) fun f s7 q7=>?_)
  have again:∀{σ7:St} {H7:Hp},Inv X (pins++bQ fp s5.heap) σ7 H7 s7→N σ7 H7→∃m,m<n∧∃i σ' H',Inv X pins σ' H' s7∧tn i s7.heap∧(∀b∈fp,H' b=none)∧W i m σ' H':=fun{σ7 H7} I7 n7=>by
   obtain⟨m',hm,w7⟩:=hN σ7 H7 n7
   refine⟨m',hm,i+1,σ7,H7,I7.unpinned,T.keep _ _ _ st5 fun b hb o e=>(I7.pin (b,o) (List.mem_append_right _ (List.mem_append_right _ (N1 hb e)))).1,fun b hb=>?_,w7⟩
   obtain⟨o,e,d⟩:=T.obj _ _ st5 b hb
   exact(I7.pin (b,o) (List.mem_append_right _ (List.mem_append_right _ (N1 hb e)))).2.1
  cases f with
  |next=>obtain⟨σ7,H7,I7,n7⟩:=q7;exact again I7 n7
  |cont=>obtain⟨σ7,H7,I7,n7⟩:=q7;exact again I7 n7
  |brk=>obtain⟨σ7,H7,I7,q7⟩:=q7;exact⟨σ7,th H7,hth _ _ _ _ I7.unpinned,q7⟩
  |ret v=>obtain⟨x7,σ7,H7,I7,r7,q7⟩:=q7;exact⟨x7,σ7,th H7,hth _ _ _ _ I7.unpinned,r7,q7⟩
def ni (own:List Str)(js:List Nat)(J:It)(th:Hp→Hp)(g:TG)(ti:TT)(te:TE)(Q:VK)(σ:St)(H1:Hp):Prop:=∃W:Nat→Nat→List V→Hp→Prop,(∃m,W 0 m [] H1)∧∀i m out H,W i m out H→
 (J.stop i H∧∀D,H D=none→out.length≤sizeLine∧Q (.ref D) (th (i6 H D (.lst out))))∨
 (J.go i H∧∀x H',J.yld i H x H'→g x (oT own js σ) H' fun σ2 H2=>σ2.drop own.length=js.map (fun j=>(σ[j]?).join)∧ti σ2 H2 fun b H3=>
  if b=true then te σ2 H3 fun v H4=>out.length≤sizeLine∧∃m',m'<m∧W (i+1) m' (out++[v]) H4 else ∃m',m'<m∧W (i+1) m' out H3)
def bN (own:List Str)(js:List Nat)(wi:gQ)(g:TG)(ti:TT)(te:TE):TE:=fun σ H Q=>wi σ H fun J th H1=>ni own js J th g ti te Q σ H1
def uK:TT:=fun _ H Q=>Q true H
theorem wt {X:Cx}:iB X [] uK:=zo
theorem kq {X:Cx}{own:List Str}{js:List Nat}{scope:Scope}{tg iter elt:Expr}{ifs:List Expr}{pos:Pos}{g:TG}{ti:TT}{te:TE}{wi:gQ}(S:vW X own js scope=true)(hc:X.calm=true)(hit:qP X tg iter wi)
  (hg:∀C s H fp,PG (R8 X own js scope C s H fp) tg g) (hi:∀C s H fp,iB (R8 X own js scope C s H fp) ifs ti) (he:∀C s H fp,PE (R8 X own js scope C s H fp) elt te)
  (hs:∀x,foldedSetIterable iter X.env x=pure x:=by intro _;rfl):
  PE X (.ListComp elt [⟨tg,iter,ifs,0⟩] scope pos) (bN own js wi g ti te):=by
 have SB:=nQ S
 intro pins s σ H Q I h
 rw[eval_ListComp]
 refine wpAny_comprehension_free (use:=none) rfl hs (U3 (SB.cells I)) SB.kind SB.names (A2 (hit pins s σ H _ I h) fun v s1 h1=>A2 h1 fun itv s2 h2=>?_)
 obtain⟨it,fp,tn,J,H2,e,I2,T,st2,f2,th,hth,W,⟨m0,w0⟩,turn⟩:=h2
 subst e
 refine wpAny_newObj_type (wpAny_newFunctionEnv SB.nocell (by intro y hy;simp at hy) (fun h₁ hns₁ hsb₁=>?_) SB.kind)
 dsimp only at hns₁ hsb₁⊢
 generalize hH2:s2.heap.push {cls:= .type "list",dict:=none,data:= .seq ([]:List Value).toArray}=G2 at hns₁ hsb₁⊢
 have hCs:G2.objs.size=s2.heap.objs.size+1:=by rw[←hH2,Heap.size_push]
 have hDC:s2.heap.objs.size≠G2.objs.size:=by rw[hCs];exact Nat.ne_of_lt (Nat.lt_succ_self _)
 have hC:s2.heap.objs.size≤G2.objs.size:=by rw[hCs];exact Nat.le_succ _
 have old:∀b o,s2.heap.get? b=some o→h₁.get? b=some o:=fun b o e=>
  hsb₁.extBut b o (Nat.ne_of_lt (Nat.lt_of_lt_of_le (Heap.lt_size e) hC)) (Heap.get?_push_of_some _ (hH2▸Heap.get?_push_of_some _ e))
 have hob:∀b∈fp,∃o,s2.heap.get? b=some o:=fun b hb=>let ⟨o,e,_⟩:=T.obj _ _ st2 b hb;⟨o,e⟩
 have hacc:h₁.get? s2.heap.objs.size=some {cls:= .type "list",data:= .seq ([]:List Value).toArray}:=
  hsb₁.extBut _ _ hDC (Heap.get?_push_of_some _ (hH2▸Heap.get?_push_size _ rfl))
 have loop:∀s3:Shared,s3={s2 with heap:=h₁,toks:=s2.toks+([]:List (Str×Value)).length}→
   codeAny (model X.prog X.w) X.A (.compLoop (.ListComp elt [⟨tg,iter,ifs,0⟩] scope pos) 0 (.ref it) (.ref s2.heap.objs.size) (compEnvC scope (X8 scope X.env) G2.objs.size X.env))
    (compPost (model X.prog X.w) X.A X.xe none (EP X pins σ Q) (.ref s2.heap.objs.size) G2.objs.size) s3:=by
  rintro s3 rfl
  refine df (K:=fun out H'=>Q (.ref s2.heap.objs.size) (th (i6 H' s2.heap.objs.size (.lst out)))) SB hc T I2 f2 (Nat.le_refl _) hC hDC hob (hg _ _ _ _) (hi _ _ _ _) (he _ _ _ _) W (fun i m out H' w=>?_) (fun out H' s' B hl k=>?_) w0
   ⟨Inv.block SB I2 f2 hob hC hns₁ old,I2.hok.fresh (Nat.le_refl _),[],_,.nil,hacc⟩ (T.keep _ _ _ st2 fun b _ o e=>old b o e) (fun b hb=>(f2 b hb).1)
  ·rcases turn i m out H' w with⟨a,b⟩|c
   ·exact .inl ⟨a,fun n=>b _ n⟩
   ·exact .inr c
  ·obtain⟨mm,hn,_⟩:=B.inv.loc
   exact⟨mm,hn,fun h' sb=>⟨.ref s2.heap.objs.size,_,hth _ _ _ _ (B.out I2 f2 (Nat.le_refl _) hC hDC hl sb),rfl,k⟩⟩
 exact codeAny_compStart_list (loop _ rfl) (T.self _ 0 _ _ _ (T.keep _ _ _ st2 fun b _ o e=>old b o e) (loop _ rfl))
theorem A1 {α β : Type} {F : α → β → Prop} : ∀ {l₁ : List α} {l₂ : List β} {i : Nat} {a : α}, Paired F l₁ l₂ → l₁[i]? = some a → ∃ b, l₂[i]? = some b ∧ F a b
 := by
  intro l₁ l₂ i a hp e
  induction hp generalizing i with
  | nil => cases e
  | cons r _ ih => cases i with
    | zero => cases e; exact ⟨_, rfl, r⟩
    | succ i => exact ih e
section
variable {P:Program} {w:World}
theorem aO {k:g4}{v:Value}(h:(h8 P w).is k v=true):RelV (kV k) v:=by
 rcases j6 (show S8 k v=true from h) with⟨i,t,rfl,rfl⟩|⟨x,t,rfl,rfl⟩
 ·exact⟨t,rfl⟩
 ·exact⟨t,rfl⟩
theorem pF {k:g4}{v:Value}(h:(h8 P w).is k v=true):∀a,v≠ .ref a:=by
 rcases j6 (show S8 k v=true from h) with⟨i,t,rfl,rfl⟩|⟨x,t,rfl,rfl⟩<;>exact fun a z=>by cases z
structure sd (P:Program) (w:World) (d:Addr) (o:Obj) (kvs:List (g4×V)) (vs:List (g4×Value)) (ep:Nat):Prop where
 kv:KV kvs vs
 at_:∀h:Heap,h.get? d=some o→h.DictAt (h8 P w) d vs ep
 nd:(kvs.map (·.1)).Nodup
theorem V8 {H:Hp}{h:Heap}{d:Addr}{kvs:List (g4×V)}(ok:HOk P w H h)(e:Rd H d (.dK kvs)):(d==sysModules)=false∧∃o vs ep,h.get? d=some o∧sd P w d o kvs vs ep:=by
 obtain⟨z,hd,vs,rel,o,es,ep,h1,r⟩:=C3 ok e
 refine⟨hd,o,vs,ep,h1,rel,fun h' e'=>⟨o,es,e',r⟩,?_⟩
 rw[KV.keys rel]
 exact r.2.2.2.2
def zS (d:Addr)(o:Obj)(kvs:List (g4×V))(f:g4×V→V):It:=
 ⟨fun i H=>H d=some (.frz o (.dK kvs))∧i<kvs.length,fun i H x H'=>H'=H∧∃kv,kvs[i]?=some kv∧x=f kv,fun i H=>H d=some (.frz o (.dK kvs))∧kvs.length≤i⟩
def wI (d:Addr)(o:Obj)(kvs:List (g4×V)):It:=
 ⟨fun i H=>H d=some (.frz o (.dK kvs))∧i<kvs.length,fun i H x H'=>∃t kv,kvs[i]?=some kv∧H t=none∧x= .ref t∧H'=i6 H t (.tup [kV kv.1,kv.2]),fun i H=>H d=some (.frz o (.dK kvs))∧kvs.length≤i⟩
theorem lB {K:PySem.W.Frag}{tg:Expr}{d:Addr}{o:Obj}{kvs:List (g4×V)}{vs:List (g4×Value)}{ep:Nat}(D:sd P w d o kvs vs ep)(it:Addr):
  aC P w K tg (zS d o kvs fun kv=>kV kv.1) [it] it (fun i h=>h.IsKeyIter it d i vs.length ep) where
 mem:=by simp
 obj:=fun i h st b hb=>by
  have e:b=it:=by simpa using hb
  subst e
  obtain⟨o,e,c,dd⟩:=st
  exact⟨o,e,fun v z=>by rw[dd] at z;cases z⟩
 keep:=fun i h h' st k=>st.at fun o e=>k it (by simp) o e
 item:=by
  intro X hP hw hK hc i pins s σ H E I hf st hg
  subst hP hw hK
  obtain⟨hfz,hi⟩:=hg
  obtain⟨f0,f1,f2,f3,f4,f5⟩:=hf it (by simp)
  have dat:=D.at_ s.heap (I.hok d _ hfz).1
  have hl:=KV.length D.kv
  obtain⟨kv,hkv⟩:∃kv,kvs[i]?=some kv:=⟨kvs[i],by simp [hi]⟩
  obtain⟨⟨k,x⟩,hx⟩:∃p,vs[i]?=some p:=⟨vs[i]'(by lia),by simp [show i<vs.length by lia]⟩
  have hkk:kv.1=k:=by
   have e1:(kvs.map (·.1))[i]?=some kv.1:=by rw[List.getElem?_map,hkv];rfl
   rw[KV.keys D.kv,List.getElem?_map,hx] at e1
   exact(Option.some.inj e1).symm
  refine wpAny_pyNext_dict_item st dat hx fun key h' hkey hit' hs'=>?_
  have I1:Inv X pins σ H {s with heap:=h'}:=I.turned (t':=s.toks) (fun b o hb e=>hs'.extBut b o hb e) f0 f1 f3 f4 f5
  exact⟨key,rfl,ju (pF hkey) ⟨kV kv.1,H,I1,by rw[hkk];exact aO hkey,⟨rfl,kv,hkv,rfl⟩,hit',fun b hb=>(hf b hb).1⟩⟩
 done:=by
  intro X hP hw hK hc i pins s σ H E I hf st hg
  subst hP hw hK
  obtain⟨hfz,hi⟩:=hg
  obtain⟨f0,f1,f2,f3,f4,f5⟩:=hf it (by simp)
  have dat:=D.at_ s.heap (I.hok d _ hfz).1
  have hl:=KV.length D.kv
  exact wpAny_pyNext_dict_end (I.ok.hd hc) st dat (by simp;lia) fun h' eb=>⟨rfl,I.turned (t':=s.toks) (fun b o hb e=>eb b o hb e) f0 f1 f3 f4 f5⟩
 self:=fun _ _ _ _ _ st h=>wpAny_pyIter_keyiter st h
theorem iN {K:PySem.W.Frag}{elts:List Expr}{x1}{tpos:Pos}{d:Addr}{o:Obj}{kvs:List (g4×V)}{vs:List (g4×Value)}{ep:Nat}(D:sd P w d o kvs vs ep)(it:Addr):
  aC P w K (.Tuple elts x1 tpos) (wI d o kvs) [it] it (fun i h=>∃ok ov,IsItemIter h it d i vs.length ep ok ov) where
 mem:=by simp
 obj:=fun i h st b hb=>by
  have e:b=it:=by simpa using hb
  subst e
  obtain⟨ok,ov,e⟩:=st
  exact⟨_,e,fun v z=>by
   have z':Data.fields _=Data.cell v:=z
   cases z'⟩
 keep:=fun i h h' st k=>let ⟨ok,ov,e⟩:=st;⟨ok,ov,k it (by simp) _ e⟩
 item:=by
  intro X hP hw hK hc i pins s σ H E I hf st hg
  subst hP hw hK
  obtain⟨hfz,hi⟩:=hg
  obtain⟨ok,ov,st⟩:=st
  obtain⟨f0,f1,f2,f3,f4,f5⟩:=hf it (by simp)
  have dat:=D.at_ s.heap (I.hok d _ hfz).1
  have hl:=KV.length D.kv
  obtain⟨kv,hkv⟩:∃kv,kvs[i]?=some kv:=⟨kvs[i],by simp [hi]⟩
  obtain⟨⟨k,x⟩,hx⟩:∃p,vs[i]?=some p:=⟨vs[i]'(by lia),by simp [show i<vs.length by lia]⟩
  obtain⟨hkk,rx⟩:kv.1=k∧RelV kv.2 x:=by
   have q:=A1 D.kv hkv
   obtain⟨p,hp,r⟩:=q
   rw[hx] at hp;cases hp
   exact r
  refine wpAny_pyNext_items_item st dat hx fun key h' hkey hout htup hsz hk=>?_
  have hitlt:it<s.heap.objs.size:=Heap.lt_size st
  refine⟨.ref s.heap.objs.size,rfl,wpAny_letOwnedTupleGo_items (s:={s with heap:=h'}) hout fun h'' hit'' hs''=>?_⟩
  have hs2:Heap.SameBut it h' h'':=hs''
  have kp:∀b o,b≠it→s.heap.get? b=some o→h''.get? b=some o:=fun b o hb e=>hs2.extBut b o hb (hk b o hb e)
  have tupAt:h''.get? s.heap.objs.size=some {cls:= .type "tuple",data:= .seq #[key,x]}:=hs2.extBut _ _ (Nat.ne_of_gt hitlt) htup
  have fresh:H s.heap.objs.size=none:=I.hok.fresh (Nat.le_refl _)
  have nsz:∀b o,s.heap.get? b=some o→b≠s.heap.objs.size:=fun b o e=>Nat.ne_of_lt (Heap.lt_size e)
  have hH:∀b u,H b=some u→b≠s.heap.objs.size∧b≠it:=fun b u e=>⟨b9 e fresh,b9 e f0⟩
  have hok:HOk X.prog X.w (i6 H s.heap.objs.size (.tup [kV kv.1,kv.2])) h'':=fun b u e=>by
   by_cases hb:b=s.heap.objs.size
   ·subst hb
    rw[c8] at e;cases e
    refine⟨by show 2≤sizeLine;decide,[key,x],.cons (by rw[hkk];exact aO hkey) (.cons rx .nil),⟨_,tupAt,rfl,_,rfl⟩⟩
   ·rw[b0 hb] at e
    refine(I.hok b u e).stay (fun c v hc q=>kp c v ?_ q) (fun c q=>by rw[b0 (hH c _ q).1];exact q) fun c xs q=>by rw[b0 (hH c _ q).1];exact q
    rcases hc with z|z
    ·rw[z];exact(hH b _ e).2
    ·exact(hH c _ z).2
  have I1:Inv X pins σ (i6 H s.heap.objs.size (.tup [kV kv.1,kv.2])) {s with heap:=h''}:=by
   refine I.call' (s':={s with heap:=h''}) (ch:=[it]) rfl ⟨fun b o e n hb hx=>kp b o (by simpa using hx) e,fun b o e n hb hx=>⟨o.slots,kp b o (by simpa using hx) e⟩,fun b o e n hx=>by rw[b0 (nsz b o e)];exact n,
    fun b o e hx=>⟨o,kp b o (by simpa using hx) e⟩,fun b xs e=>by rw[b0 (hH b _ e).1];exact e,fun b ob v e=>by rw[b0 (hH b _ e).1];exact e,fun b ps e=>⟨#[],by rw[b0 (hH b _ e).1];simpa using e⟩⟩ hok I.bare fun b hb=>?_
   have e:b=it:=by simpa using hb
   subst e
   exact⟨f3,f1,f4,f5⟩
  refine⟨.ref s.heap.objs.size,_,I1,rfl,⟨_,kv,hkv,fresh,rfl,rfl⟩,⟨_,_,hit''⟩,fun b hb=>?_⟩
  have e:b=it:=by simpa using hb
  subst e
  rw[b0 (Nat.ne_of_lt hitlt)];exact f0
 done:=by
  intro X hP hw hK hc i pins s σ H E I hf st hg
  subst hP hw hK
  obtain⟨hfz,hi⟩:=hg
  obtain⟨ok,ov,st⟩:=st
  obtain⟨f0,f1,f2,f3,f4,f5⟩:=hf it (by simp)
  have dat:=D.at_ s.heap (I.hok d _ hfz).1
  have hl:=KV.length D.kv
  exact wpAny_pyNext_items_end (I.ok.hd hc) st dat (by simp;lia) fun h' eb=>⟨rfl,I.turned (t':=s.toks) (fun b o hb e=>eb b o hb e) f0 f1 f3 f4 f5⟩
 self:=fun _ _ _ _ _ st h=>by
  obtain⟨ok,ov,st⟩:=st
  exact PySem.W.kcp_self st h
end
section
variable {X:Cx} {tg:Expr}
def rIterD (mk:Addr→Obj→List (g4×V)→It)(v:V)(H:Hp)(R:It→(Hp→Hp)→Hp→Prop):Prop:=
 ∃d kvs,v= .ref d∧((H d=some (.dK kvs)∧((kvs.map (·.1)).Nodup→∀o,R (mk d o kvs) (thaw d) (A8 d o kvs H)))∨(∃o,H d=some (.frz o (.dK kvs))∧((kvs.map (·.1)).Nodup→R (mk d o kvs) id H)))
theorem rIterD.go {mk:Addr→Obj→List (g4×V)→It}{x:V}{u:Value}{pins:List (Addr×Obj)}{σ:St}{H:Hp}{s:Shared}{R:It→(Hp→Hp)→Hp→Prop}(I:Inv X pins σ H s)(r:RelV x u)(h:rIterD mk x H R):
  ∃d kvs o vs ep th H',u= .ref d∧(d==sysModules)=false∧s.heap.get? d=some o∧sd X.prog X.w d o kvs vs ep∧Inv X pins σ H' s∧qg X th∧R (mk d o kvs) th H':=by
 obtain⟨d,kvs,e,h⟩:=h
 subst e
 cases r
 rcases h with⟨h,q⟩|⟨o,h,q⟩
 ·obtain⟨hd,o,vs,ep,ho,D⟩:=V8 I.hok (.inl h)
  refine⟨d,kvs,o,vs,ep,thaw d,_,rfl,hd,ho,D,I.freeze h ho,kE fun ob v z=>?_,q D.nd o⟩
  have z':=I.base.frzs d ob v z
  rw[h] at z';cases z'
 ·obtain⟨hd,o',vs,ep,ho,D⟩:=V8 I.hok (.inr ⟨o,h⟩)
  have e:=(I.hok d _ h).1
  rw[ho] at e;cases e
  exact⟨d,kvs,_,vs,ep,id,H,rfl,hd,ho,D,I,aF,q D.nd⟩
theorem rIter.mono {K:PySem.W.Frag}{v:V}{H:Hp}{R R':It→Hp→Prop}(h:rIter K v H R)(k:∀J H,R J H→R' J H):rIter K v H R':=by
 rcases h with⟨a,e,hq,q⟩|⟨a,e,hq,q⟩|⟨x,e,q⟩
 ·exact .inl ⟨a,e,hq,k _ _ q⟩
 ·exact .inr (.inl ⟨a,e,hq,k _ _ q⟩)
 ·exact .inr (.inr ⟨x,e,k _ _ q⟩)
abbrev zO (d:Addr)(o:Obj)(kvs:List (g4×V)):It:=zS d o kvs fun kv=>kV kv.1
def oh (K:PySem.W.Frag)(v:V)(H:Hp)(R:It→(Hp→Hp)→Hp→Prop):Prop:=rIter K v H (fun J H'=>R J id H')∨rIterD zO v H R
def yu (K:PySem.W.Frag)(tl:TE):gQ:=fun σ H R=>tl σ H fun v H1=>oh K v H1 R
theorem vY {l:Expr}{tl:TE}(hl:PE X l tl):qP X tg l (yu X.K tl):=by
 intro pins s σ H R I h
 refine A2 (hl pins s σ H _ I h) fun v s1 ⟨x,H1,I1,r1,q1⟩=>?_
 rcases q1 with q1|q1
 ·exact pU I1 r1 (q1.mono fun J H' q=>⟨id,aF,q⟩)
 ·obtain⟨d,kvs,o,vs,ep,th,H',rfl,hd,ho,D,I2,hth,q⟩:=rIterD.go I1 r1 q1
  refine wpAny_pyIter_dict hd (D.at_ _ ho) ?_
  refine⟨s1.heap.objs.size,[s1.heap.objs.size],_,_,H',rfl,I2.kept (t':=s1.toks) fun b o e=>Heap.get?_push_of_some _ e,lB D _,⟨_,Heap.get?_push_size _ rfl,rfl,rfl⟩,fun b hb=>?_,th,hth,q⟩
  have e:b=s1.heap.objs.size:=by simpa using hb
  subst e
  exact I2.fpOk (Nat.le_refl _) (I2.hok.fresh (Nat.le_refl _))
def iw (tl:TE):gQ:=fun σ H R=>tl σ H fun v H1=>rIterD wI v H1 R
theorem nL {elts:List Expr}{x1}{tpos:Pos}{o:Expr}{tl:TE}{apos cpos:Pos}(ho:PE X o tl)
  (hbase:attributeBase o "items" X.env (eval o X.env)=eval o X.env:=by rfl) (hline:(apos.endLine==cpos.line)=true:=by rfl):
  qP X (.Tuple elts x1 tpos) (.Call (.Attribute o "items" apos) [] [] cpos) (iw tl):=by
 intro pins s σ H R I h
 refine wpAny_Call_method0_late hbase hline (A2 (ho pins s σ H _ I h) fun v s1 ⟨x,H1,I1,r1,q1⟩=>?_)
 obtain⟨d,kvs,ob,vs,ep,th,H',rfl,hd,hob,D,I2,hth,q⟩:=rIterD.go I1 r1 q1
 have dof:=(D.at_ _ hob).dictOf
 refine⟨"dict","dict.items",F.plainAttrs_dict,F.slot_dict_items,F.type_dict_items,dof.typeIs,dof.mapOf.noDict,Calls.callWith_builtin rfl (PySem.evalArgs_none ?_)⟩
 refine call_meetsIn F.slot_dict_items dof.typeIs F.entry_dict_items (F.args_dict_items_1 _) (meets_dict_items (h8 X.prog X.w) d hd) ⟨⟨vs,dof⟩,?_⟩
 have I3:Inv X pins σ H' {s1 with heap:=s1.heap.push {cls:= .type "dict_items",data:= .fields #[.ref d]}}:=I2.kept (t':=s1.toks) fun b o e=>Heap.get?_push_of_some _ e
 refine wpAny_pyIter_items (s:={s1 with heap:=s1.heap.push {cls:= .type "dict_items",data:= .fields #[.ref d]}}) (knd:=h8 X.prog X.w) ⟨_,Heap.get?_push_size _ rfl,rfl,rfl⟩ (D.at_ _ (Heap.get?_push_of_some _ hob)) ?_
 generalize hG:s1.heap.push {cls:= .type "dict_items",data:= .fields #[.ref d]}=G at I3⊢
 refine⟨G.objs.size,[G.objs.size],_,_,H',rfl,I3.kept (t':=s1.toks) fun b o e=>Heap.get?_push_of_some _ e,iN D _,⟨.none,.none,Heap.get?_push_size _ rfl⟩,fun b hb=>?_,th,hth,q⟩
 have e:b=G.objs.size:=by simpa using hb
 subst e
 exact I3.fpOk (Nat.le_refl _) (I3.hok.fresh (Nat.le_refl _))
end
end L2
set_option Elab.async false
set_option linter.all false
set_option maxRecDepth 100000
set_option maxHeartbeats 4000000
namespace L2
open PySem PySem.Spec PyProof.Rows
section
variable {J:It} {th:Hp→Hp} {n:Nat} {g:TG} {tb:TS} {nx bk ct:St→Hp→Prop} {rt:VK} {σ:St} {H:Hp} {own:List Str} {js:List Nat} {ti:TT} {te:TE} {Q:VK} {K:PySem.W.Frag}
theorem T8 (Pv:Nat→St→Hp→Prop)(h0:Pv 0 σ H)(hgo:∀i σ H,i<n→Pv i σ H→J.go i H)
  (hs:∀i x σ H H',i<n→Pv i σ H→J.yld i H x H'→g x σ H' fun σ2 H2=>tb ⟨Pv (i+1),fun v H=>rt v (th H),fun σ H=>nx σ (th H),Pv (i+1)⟩ σ2 H2)
  (hd:∀σ H,Pv n σ H→J.stop n H∧nx σ (th H)):
  rT J th g tb nx rt σ H:=by
 refine⟨fun i m σ H=>m=n -i∧i≤n∧Pv i σ H,⟨n,by simp,Nat.zero_le _,h0⟩,?_⟩
 rintro i m σ H ⟨rfl,hi,p⟩
 by_cases hlt:i<n
 ·exact .inr ⟨hgo i σ H hlt p,Pv (i+1),fun σ' H' p'=>⟨n -(i+1),by lia,rfl,hlt,p'⟩,fun x H' y=>hs i x σ H H' hlt p y⟩
 ·have e:i=n:=by lia
  subst e
  exact .inl (hd σ H p)
theorem B1 (Pv:Nat→List V→Hp→Prop)(h0:Pv 0 [] H)(hgo:∀i out H,i<n→Pv i out H→J.go i H)
  (hs:∀(N:List V→Hp→Prop) i x out H H',i<n→Pv i out H→J.yld i H x H'→(∀out' H',Pv (i+1) out' H'→N out' H')→g x (oT own js σ) H' fun σ2 H2=>σ2.drop own.length=js.map (fun j=>(σ[j]?).join)∧ti σ2 H2 fun b H3=>
   if b=true then te σ2 H3 fun v H4=>out.length≤sizeLine∧N (out++[v]) H4 else N out H3)
  (hd:∀out H,Pv n out H→J.stop n H∧∀D,H D=none→out.length≤sizeLine∧Q (.ref D) (th (i6 H D (.lst out)))):
  ni own js J th g ti te Q σ H:=by
 refine⟨fun i m out H=>m=n -i∧i≤n∧Pv i out H,⟨n,by simp,Nat.zero_le _,h0⟩,?_⟩
 rintro i m out H ⟨rfl,hi,p⟩
 by_cases hlt:i<n
 ·exact .inr ⟨hgo i out H hlt p,fun x H' y=>hs (fun out' H'=>∃m',m'<n -i∧m'=n -(i+1)∧i+1≤n∧Pv (i+1) out' H') i x out H H' hlt p y fun out' H' q=>⟨n -(i+1),by lia,rfl,hlt,q⟩⟩
 ·have e:i=n:=by lia
  subst e
  exact .inl (hd out H p)
theorem wD {wi:gQ}(q:wi σ H fun J th H1=>rT J th g tb nx rt σ H1):pJ wi g tb ⟨nx,rt,bk,ct⟩ σ H:=q
theorem uq {wi:gQ}(q:wi σ H fun J th H1=>ni own js J th g ti te Q σ H1):bN own js wi g ti te σ H Q:=q
theorem wX {Qb:Bool→Hp→Prop}(q:Qb true H):uK σ H Qb:=q
theorem yK {tl:TE}{R:It→(Hp→Hp)→Hp→Prop}(q:tl σ H fun v H1=>oh K v H1 R):yu K tl σ H R:=q
theorem q9 {a:Addr}{xs:List V}{R:It→(Hp→Hp)→Hp→Prop}(h:SqL K H a xs)(q:R (Itl K a) id H):oh K (.ref a) H R:= .inl (.inl ⟨a,rfl,⟨xs,h⟩,q⟩)
theorem my {d:Addr}{kvs:List (g4×V)}{R:It→(Hp→Hp)→Hp→Prop}(h:H d=some (.dK kvs))(q:(kvs.map (·.1)).Nodup→∀o,R (zO d o kvs) (thaw d) (A8 d o kvs H)):oh K (.ref d) H R:=
 .inr ⟨d,kvs,rfl,.inl ⟨h,q⟩⟩
theorem se {tl:TE}{R:It→(Hp→Hp)→Hp→Prop}(q:tl σ H fun v H1=>rIterD wI v H1 R):iw tl σ H R:=q
theorem Q2 {d:Addr}{kvs:List (g4×V)}{R:It→(Hp→Hp)→Hp→Prop}(h:H d=some (.dK kvs))(q:(kvs.map (·.1)).Nodup→∀o,R (wI d o kvs) (thaw d) (A8 d o kvs H)):rIterD wI (.ref d) H R:=⟨d,kvs,rfl,.inl ⟨h,q⟩⟩
theorem tM {ta:TA}{R:It→Hp→Prop}(q:ta σ H fun vs H1=>∃j:Int,vs=[.int j]∧-(2 ^ 62)≤j∧j<2 ^ 62∧R (yl 0 j.toNat) H1):oQ ta σ H R:=q
theorem Q7 {i:Int}{R:Int→Prop}(h0:0≤i)(h1:i<1000000)(q:R i):∃j:Int,[V.int i]=[.int j]∧-(2 ^ 62)≤j∧j<2 ^ 62∧R j:=⟨i,rfl,by lia,by lia,q⟩
theorem B5 {p:Prop}[Decidable p]{A B:Prop}(h1:p→A)(h2:¬p→B):if decide p=true then A else B:=by
 by_cases h:p
 ·rw[if_pos (decide_eq_true h)];exact h1 h
 ·rw[if_neg (by simp [h])];exact h2 h
theorem bg {b:Bool}{A B:Prop}(h1:b=true→A)(h2:b=false→B):if b=true then A else B:=by
 cases b with
 |true=>rw[if_pos rfl];exact h1 rfl
 |false=>rw[if_neg Bool.false_ne_true];exact h2 rfl
theorem rJ {b:Bool}{A B:Prop}(h1:b=false→A)(h2:b=true→B):if(!b)=true then A else B:=by
 cases b with
 |true=>rw[if_neg (by simp)];exact h2 rfl
 |false=>rw[if_pos (by simp)];exact h1 rfl
theorem xQ {A B:Prop}(h:A):if(!false)=true then A else B:=by rw[if_pos (by rfl)];exact h
theorem yi {A B:Prop}(h:B):if(!true)=true then A else B:=by rw[if_neg (by decide)];exact h
theorem jz {t u:TS}(P:St→Hp→Prop)(h1:∀σ H,P σ H→u ⟨nx,rt,bk,ct⟩ σ H)(h2:∀nx':St→Hp→Prop,(∀σ H,P σ H→nx' σ H)→t ⟨nx',rt,bk,ct⟩ σ H):mr t u ⟨nx,rt,bk,ct⟩ σ H:=h2 _ h1
theorem c9 {o:HO}{p:Addr}(hp:H p=none):∃H',i6 H p o=H'∧H' p=some o∧Same H H'∧∀b,b≠p→H' b=H b:=⟨_,rfl,c8,fun b u e=>by rw[b0 (b9 e hp)];exact e,fun b hb=>b0 hb⟩
theorem dD {α:Type}{xs:List α}{i:Int}(h0:0≤i)(h1:i<xs.length):∃v,jL xs i=some v∧xs[i.toNat]?=some v:=by
 obtain⟨j,rfl⟩:=Int.eq_ofNat_of_zero_le h0
 have hj:j<xs.length:=by lia
 exact⟨xs[j],d7 (by simp [hj]),by simp [hj]⟩
theorem qS (x y:Str):(x++y).length=x.length+y.length:=by
 show(x.cps++y.cps).size=_
 simp [Str.length]
theorem aG (c:Nat):(⟨#[c]⟩:Str).length=1:=rfl
theorem g7 {n:Nat}(h:n≤1000):n≤sizeLine:=Nat.le_trans h (by decide)
theorem Same.rd {H H':Hp}{a:Addr}{u:HO}(s:Same H H')(h:Rd H a u):Rd H' a u:=by
 rcases h with h|⟨o,h⟩
 ·exact .inl (s _ _ h)
 ·exact .inr ⟨o,s _ _ h⟩
theorem Same.tup {H H':Hp}{a:Addr}{xs:List V}(s:Same H H')(h:SqT K H a xs):SqT K H' a xs:=by
 rcases h with h|h
 ·exact .inl (s.rd h)
 ·exact .inr h
theorem Itl.get {a:Addr}{xs:List V}{i:Nat}{H H':Hp}{v:V}(h:(Itl K a).yld i H v H')(hx:SqL K H a xs):H'=H∧xs[i]?=some v:=⟨h.1,h.2 xs hx⟩
theorem R7 {α β:Type}{l:List α}{i:Nat}{a:α}(f:α→β)(h:l[i]?=some a):(l.take i).map f++[f a]=(l.take (i+1)).map f:=by
 rw[List.take_succ,h];simp
end
end L2
set_option Elab.async false
set_option linter.all false
set_option maxRecDepth 100000
set_option maxHeartbeats 4000000
namespace L2
open PySem PySem.Spec PyProof.Rows
section
variable {X:Cx} (K:PySem.W.Frag) {a e:Expr} {ta te:TE} {tg:Expr} {pos:Pos}
theorem O4 (h:X.K=K:=by rfl):OpR X (binaryOp .Add) (gO K):=h▸rC
theorem kIn (hu:X.A.units+1<cLine)(h:X.K=K:=by rfl):OpR X (compareOp .In) (vA K):=h▸tE hu
theorem iT (hu:X.A.units+1<cLine)(h:X.K=K:=by rfl):OpR X (compareOp .NotIn) (dS K):=h▸lY hu
theorem u9 (hu:X.A.units+1<cLine)(h:X.K=K:=by rfl):IxR X (hU K):=h▸tp hu
theorem ym (h:X.K=K:=by rfl):SlR X (yo K):=h▸uE
theorem ze (hc:X.calm=true)(h:X.K=K:=by rfl):CallR X (.builtin "all") (qW K):=h▸ml hc
def ur (ta:TE):TT:=fun σ H Q=>ta σ H fun x H'=>∃k,pX K x H' k∧Q k H'
theorem yI (ha:PE X a ta)(h:X.K=K:=by rfl)(he:∀whole,isTrue a X.env whole=(do let v←whole;standAt a.pos;holding [v] (truthy v)):=by intro _;rfl):PT X a (ur K ta):=h▸oE ha he
theorem tf {σ:St}{H:Hp}{Qb:Bool→Hp→Prop}(q:ta σ H fun x H'=>∃k,pX K x H' k∧Qb k H'):ur K ta σ H Qb:=q
theorem An (hl:PE X a ta)(h:X.K=K:=by rfl):qP X tg a (yu K ta):=h▸vY hl
theorem zI {es:List Expr}{k:Nat}{t:iz}{n:Nat}(hc:X.calm=true)(hg:qh X es t)(h:X.K=K:=by rfl)
  (hn:(assignEach es X.env).length=n:=by rfl) (hst:(assignEach es X.env).findIdx? (·.1)=none:=by rfl):PG X (.Tuple es k pos) (nZ K n t):=h▸vv hc hg hn hst
end
end L2
set_option Elab.async false
set_option linter.all false
set_option maxRecDepth 100000
set_option maxHeartbeats 4000000
namespace L2
open PySem PySem.Spec PyProof.Rows
def j0:Expr→Bool
 | .Starred _ _=>false
 |_=>true
def k7 (es:List Expr):Bool:=es.all j0
theorem D6 {e:Expr}{es:List Expr}{env:Env}(h:j0 e=true):starEach (e::es) env=(false,eval e env)::starEach es env:=by
 cases e<;>first|rfl|cases h
theorem Y5 {env:Env}{pos:Pos}:∀{es:List Expr},k7 es=true→(backTo pos (starEach es env)).any (·.1)=false
 |[],_=>rfl
 |e::es,h=>by
  have h':(j0 e&&k7 es)=true:=h
  rw[Bool.and_eq_true] at h'
  rw[D6 h'.1]
  show(false||(backTo pos (starEach es env)).any (·.1))=false
  rw[Y5 h'.2];rfl
theorem jW {e:Expr}{es:List Expr}{env:Env}(h:j0 e=true):assignEach (e::es) env=(false,assign e env)::assignEach es env:=by
 cases e<;>first|rfl|cases h
theorem pM {env:Env}:∀{es:List Expr},k7 es=true→(assignEach es env).length=es.length
 |[],_=>rfl
 |e::es,h=>by
  have h':(j0 e&&k7 es)=true:=h
  rw[Bool.and_eq_true] at h'
  rw[jW h'.1,List.length_cons,pM h'.2,List.length_cons]
theorem pj {env:Env}:∀{es:List Expr},k7 es=true→(assignEach es env).findIdx? (·.1)=none
 |[],_=>rfl
 |e::es,h=>by
  have h':(j0 e&&k7 es)=true:=h
  rw[Bool.and_eq_true] at h'
  rw[jW h'.1,List.findIdx?_cons]
  simp [pj h'.2]
section
variable {X:Cx} {K:PySem.W.Frag} {e:Expr} {es:List Expr} {te:TE} {t:TA} {x:Str} {p pos:Pos} {id T:String} {r:List V→Hp→VK→Prop}
theorem Ad (ha:PE X e te)(hr:PA X es t)(h:j0 e=true:=by rfl):PA X (e::es) (fR te t):=qk ha hr (D6 h)
theorem cB (hc:CallR X (.builtin id) r)(hm:X.mg x=none)(hv:bootBuiltins x=some (.builtin id))(ha:PA X (e::es) t)(hg:Gl X x:=by rfl)(hn:x≠"__name__":=by decide)(hdb:(x==("__debug__":Str))=false:=by decide)
  (h:k7 (e::es)=true:=by rfl):PE X (.Call (.Name x p) (e::es) [] pos) (ua r t):=by
 have h':(j0 e&&k7 es)=true:=h
 rw[Bool.and_eq_true] at h'
 exact pY hc hg hm hv ha hn hdb (D6 h'.1) (Y5 h'.2)
theorem Af (hc:CallR X (.type T) r)(hm:X.mg x=none)(hv:bootBuiltins x=some (.type T))(ha:PA X (e::es) t)(hg:Gl X x:=by rfl)(hn:x≠"__name__":=by decide)(hdb:(x==("__debug__":Str))=false:=by decide)
  (h:k7 (e::es)=true:=by rfl):PE X (.Call (.Name x p) (e::es) [] pos) (ua r t):=by
 have h':(j0 e&&k7 es)=true:=h
 rw[Bool.and_eq_true] at h'
 exact kY hc hg hm hv ha hn hdb (D6 h'.1) (Y5 h'.2)
theorem cC {CX:fQ}{k:Nat}{ps:List Str}{dvs:List V}{sp:Sp}{E:XK}(C:Z6 X.prog X.w X.K X.mg X.base CX k x ps dvs sp)(hr:Room k X.A)(hx:Z8 CX X E)(ha:PA X (e::es) t)(hg:Gl X x:=by rfl)
  (hdb:(x==("__debug__":Str))=false:=by decide) (h:k7 (e::es)=true:=by rfl):PE X (.Call (.Name x p) (e::es) [] pos) (fS sp dvs E t):=by
 have h':(j0 e&&k7 es)=true:=h
 rw[Bool.and_eq_true] at h'
 exact mI C hr hx ha hg hdb (D6 h'.1) (Y5 h'.2)
theorem gT {tg:Expr}{k:Nat}{u:iz}(hc:X.calm=true)(hg:qh X es u)(hK:X.K=K:=by rfl)(h:k7 es=true:=by rfl):PG X (.Tuple es k pos) (nZ K es.length u):=zI K hc hg hK (pM h) (pj h)
theorem gC {g:TG}{u:iz}(h1:PG X e g)(h2:qh X es u)(h:j0 e=true:=by rfl):qh X (e::es) (jY g u):=nG h1 h2 (by rw[jW h];rfl)
end
end L2
set_option Elab.async false
set_option linter.all false
set_option maxRecDepth 100000
set_option maxHeartbeats 4000000
namespace L2
open PySem PySem.Spec PyProof.Rows
structure QE (X:Cx) (e:Expr) (t:TE):Prop where
 r:PE X e t
structure QT (X:Cx) (e:Expr) (t:TT):Prop where
 r:PT X e t
structure QW (X:Cx) (e:Expr) (t:TT):Prop where
 r:PW X e t
structure QA (X:Cx) (es:List Expr) (t:TA):Prop where
 r:PA X es t
structure QS (X:Cx) (st:Stmt) (t:TS):Prop where
 r:PS X st t
structure QSs (X:Cx) (st:List Stmt) (t:TS):Prop where
 r:PSs X st t
structure QG (X:Cx) (tg:Expr) (t:TG):Prop where
 r:PG X tg t
structure yq (X:Cx) (tg:List Expr) (t:iz):Prop where
 r:qh X tg t
structure QI (X:Cx) (tg iter:Expr) (t:gQ):Prop where
 r:qP X tg iter t
structure yC (X:Cx) (ifs:List Expr) (t:TT):Prop where
 r:iB X ifs t
structure QO (X:Cx) (e:Option Expr) (t:TO):Prop where
 r:PO X e t
structure QP (X:Cx) (pos:Pos) (keys:List (Option Expr)) (values:List Expr) (trs:List (TE×TE)):Prop where
 r:Aw X pos keys values trs
section
variable {X:Cx} {a b c e o:Expr} {es:List Expr} {ta tb tc te to:TE} {tA tB':TT} {t:TA} {O3:List Expr} {pos apos cpos p2:Pos} {x:Str} {p:Pos} {bid T:String}
theorem tX {j}:QE X (.Constant .none j pos) (tC .non):=⟨tZ⟩
theorem h7 {i:Int}{j}:QE X (.Constant (.int i) j pos) (tC (.int i)):=⟨pG⟩
theorem mP {x:Str}{j}:QE X (.Constant (.str x) j pos) (tC (.str x)):=⟨sY⟩
theorem qV (i:Nat)(hN:X.N[i]?=some x:=by rfl)(hv:zj X.env.scope x:=by first|exact Or.inl rfl|exact Or.inr (Or.inl rfl)|exact Or.inr (Or.inr rfl))(hd:(x==("__debug__":Str))=false:=by decide)
  (hcd:(x==("__classdict__":Str))=false:=by decide):QE X (.Name x pos) (qx i):=⟨vK hN hv hd hcd⟩
theorem C4 {op:Operator}{r:R2}(ho:OpR X (binaryOp op) r)(ha:QE X a ta)(hb:QE X b tb):QE X (.BinOp a op b pos) (rX r ta tb):=⟨yf ho ha.r hb.r⟩
theorem zr {op}(h:QE X a ta):QE X (.BoolOp op [a] pos) ta:=⟨vO h.r⟩
theorem xV (ha:QE X a ta)(hb:QE X (.BoolOp .And (b::O3) pos) tb):QE X (.BoolOp .And (a::b::O3) pos) (oM ta tb):=⟨uH ha.r hb.r⟩
theorem iW {op:CmpOp}{r:R2}(ho:OpR X (compareOp op) r)(ha:QE X a ta)(hb:QE X b tb)(hm:behindInMarks op b=false):QE X (.Compare a [op] [b] pos) (rX r ta tb):=⟨qZ ho ha.r hb.r hm⟩
theorem y8 {op:CmpOp}{r:R2}(ho:OpR X (compareOp op) r)(ha:QE X a ta)(hb:QE X b tb)(hm:behindInMarks op b=false):QT X (.Compare a [op] [b] pos) (mV (rX r ta tb)):=⟨qL ho ha.r hb.r hm⟩
theorem yS (hc:QT X c tA)(ha:QE X a ta)(hb:QE X b tb):QE X (.IfExp c a b pos) (zq tA ta tb):=⟨pP hc.r ha.r hb.r⟩
theorem yH:QO X none dX:=⟨rG⟩
theorem wb (h:QE X e te):QO X (some e) (pT te):=⟨qD h.r⟩
theorem yy {lo hi:Option Expr}{tl th:TO}{r:V→Option Int→Option Int→Hp→VK→Prop}(hr:SlR X r)(he:QE X e te)(hl:QO X lo tl)(hu:QO X hi th):QE X (.Subscript e (.Slice lo hi none p2) pos) (yG r te tl th):=⟨oS hr he.r hl.r hu.r⟩
theorem u7 {r:R2}(hr:IxR X r)(ha:QE X a ta)(hb:QE X b tb)(hs:jh b):QE X (.Subscript a b pos) (rX r ta tb):=⟨xk hr ha.r hb.r hs⟩
theorem cq (h:QA X es t):QE X (.List es pos) (vg t):=⟨uZ h.r⟩
theorem gH {x1}(h:QA X es t):QE X (.Tuple es x1 pos) (tu t):=⟨tq h.r⟩
theorem mh:QE X (.Dict [] [] pos) pf:=⟨oz⟩
theorem k4:QA X [] rS:=⟨tF⟩
theorem i0 (ha:QE X e te)(hr:QA X es t)(h:j0 e=true:=by rfl):QA X (e::es) (fR te t):=⟨Ad ha.r hr.r h⟩
theorem qB {r:List V→Hp→VK→Prop}(hc:CallR X (.builtin bid) r)(hm:X.mg x=none)(hv:bootBuiltins x=some (.builtin bid))(ha:QA X (e::es) t)(hg:Gl X x:=by rfl)(hn:x≠"__name__":=by decide)(hdb:(x==("__debug__":Str))=false:=by decide)
  (h:k7 (e::es)=true:=by rfl):QE X (.Call (.Name x p) (e::es) [] pos) (ua r t):=⟨cB hc hm hv ha.r hg hn hdb h⟩
theorem sh {r:List V→Hp→VK→Prop}(hc:CallR X (.type T) r)(hm:X.mg x=none)(hv:bootBuiltins x=some (.type T))(ha:QA X (e::es) t)(hg:Gl X x:=by rfl)(hn:x≠"__name__":=by decide)(hdb:(x==("__debug__":Str))=false:=by decide)
  (h:k7 (e::es)=true:=by rfl):QE X (.Call (.Name x p) (e::es) [] pos) (ua r t):=⟨Af hc hm hv ha.r hg hn hdb h⟩
theorem qC {CX:fQ}{k:Nat}{ps:List Str}{dvs:List V}{sp:Sp}{E:XK}(C:Z6 X.prog X.w X.K X.mg X.base CX k x ps dvs sp)(hr:Room k X.A)(hx:Z8 CX X E)(ha:QA X (e::es) t)(hg:Gl X x:=by rfl)
  (hdb:(x==("__debug__":Str))=false:=by decide) (h:k7 (e::es)=true:=by rfl):QE X (.Call (.Name x p) (e::es) [] pos) (fS sp dvs E t):=⟨cC C hr hx ha.r hg hdb h⟩
theorem qM {name:Str}{r:V→List V→Hp→VK→Prop}(pa:PlainAttrs T)(slot:Slot T name bid)(hty:typeOf (.builtin bid)=pure (.type "method_descriptor"))(hm:qe X bid r)(K:PySem.W.Frag)(ho:QE X o to)(ha:QA X (e::es) t)(hK:X.K=K:=by rfl)
  (hbase:attributeBase o name X.env (eval o X.env)=eval o X.env:=by rfl)
  (h:k7 (e::es)=true:=by rfl) (h2:decide ((e::es).length<30)=true:=by rfl) (hline:(apos.endLine==cpos.line)=true:=by rfl):QE X (.Call (.Attribute o name apos) (e::es) [] cpos) (zh K T r to t):=by
 have h':(j0 e&&k7 es)=true:=h
 rw[Bool.and_eq_true] at h'
 have hall:∀{l:List Expr},k7 l=true→(backTo cpos (starEach l X.env)).all (fun x=>!x.1)=true:=fun{l} hl=>by
  have q:=Y5 (env:=X.env) (pos:=cpos) hl
  rw[List.all_eq_true]
  intro y hy
  rw[List.any_eq_false] at q
  simpa using q y hy
 subst hK
 refine⟨wa pa slot hty hm ho.r ha.r hbase ?_ hline (D6 h'.1) (Y5 h'.2)⟩
 rw[hall h]
 show(true&&true&&decide ((e::es).length+0+0<30))=true
 simpa using h2
theorem zt {name:Str}{r:V→List V→Hp→VK→Prop}(pa:PlainAttrs T)(slot:Slot T name bid)(hty:typeOf (.builtin bid)=pure (.type "method_descriptor"))(hm:qe X bid r)(K:PySem.W.Frag)(ho:QE X o to)(hK:X.K=K:=by rfl)
  (hbase:attributeBase o name X.env (eval o X.env)=eval o X.env:=by rfl) (hline:(apos.endLine==cpos.line)=true:=by rfl):QE X (.Call (.Attribute o name apos) [] [] cpos) (uC K T r to):=⟨hK▸uG pa slot hty hm ho.r hbase hline⟩
theorem af {own:List Str}{js:List Nat}{scope:Scope}{tg iter elt:Expr}{ifs:List Expr}{g:TG}{ti:TT}{wi:gQ}(S:vW X own js scope=true)(hc:X.calm=true)(hit:QI X tg iter wi)
  (hg:∀C s H fp,QG (R8 X own js scope C s H fp) tg g) (hi:∀C s H fp,yC (R8 X own js scope C s H fp) ifs ti) (he:∀C s H fp,QE (R8 X own js scope C s H fp) elt te)
  (hs:∀x,foldedSetIterable iter X.env x=pure x:=by intro _;rfl):QE X (.ListComp elt [⟨tg,iter,ifs,0⟩] scope pos) (bN own js wi g ti te):=
 ⟨kq S hc hit.r (fun C s H fp=>(hg C s H fp).r) (fun C s H fp=>(hi C s H fp).r) (fun C s H fp=>(he C s H fp).r) hs⟩
theorem lZ:yC X [] uK:=⟨wt⟩
theorem mi (h:QT X c tA):yC X [c] tA:=⟨yZ h.r⟩
theorem xB (ha:QT X a tA):QT X (.UnaryOp .Not a pos) (uB tA):=⟨vQ ha.r⟩
theorem fw (K:PySem.W.Frag)(ha:QE X a ta)(h:X.K=K:=by rfl)(he:∀whole,isTrue a X.env whole=(do let v←whole;standAt a.pos;holding [v] (truthy v)):=by intro _;rfl):QT X a (ur K ta):=⟨yI K ha.r h he⟩
theorem tN (h:QW X a tA):QT X a tA:=⟨h.r.pt⟩
theorem Y0 (ha:QT X a tA):QW X (.BoolOp .And [a] pos) tA:=⟨ql ha.r⟩
theorem wq (ha:QT X a tA):QW X (.BoolOp .Or [a] pos) tA:=⟨tQ ha.r⟩
theorem aj (ha:QT X a tA)(hb:QW X (.BoolOp .And (b::O3) pos) tB'):QW X (.BoolOp .And (a::b::O3) pos) (vG tA tB'):=⟨ui ha.r hb.r⟩
theorem zC (ha:QT X a tA)(hb:QW X (.BoolOp .Or (b::O3) pos) tB'):QW X (.BoolOp .Or (a::b::O3) pos) (zD tA tB'):=⟨yd ha.r hb.r⟩
theorem R5 {i:Nat}(hN:X.N.Nodup)(hi:X.N[i]?=some x)(hx:sO X.env.scope x)(hf:X.fn x=true∨X.env.scope.names.lookup x=some .local:=by first|exact .inl rfl|exact .inr rfl|assumption):QG X (.Name x pos) (O1 i):=⟨qY hN hi hx hf⟩
theorem vX:yq X [] vC:=⟨rf⟩
theorem qb {g:TG}{u:iz}(h1:QG X e g)(h2:yq X es u)(h:j0 e=true:=by rfl):yq X (e::es) (jY g u):=⟨gC h1.r h2.r h⟩
theorem xy (K:PySem.W.Frag){k:Nat}{u:iz}(hc:X.calm=true)(hg:yq X es u)(hK:X.K=K:=by rfl)(h:k7 es=true:=by rfl):QG X (.Tuple es k pos) (nZ K es.length u):=⟨gT (tg:= .Name Str.empty pos) hc hg.r hK h⟩
theorem iZ {i:Expr}{ti:TE}{u:gU}(ho:QE X o to)(hi:QE X i ti)(hs:kB X u)
  (ha:∀v,assign (.Subscript o i pos) X.env v=(do
   let ov←holding [v] (eval o X.env)
   let iv←holding [v,ov] (eval i X.env)
   standAt pos
   holding [v,ov,iv] (setItem ov iv v)
   release [v,ov,iv] []):=by intro _;rfl):QG X (.Subscript o i pos) (tH to ti u):=⟨sZ ho.r hi.r hs ha⟩
theorem R1 (K:PySem.W.Frag){tg:Expr}(hl:QE X a ta)(h:X.K=K:=by rfl):QI X tg a (yu K ta):=⟨An K hl.r h⟩
def vR (wi:TI):gQ:=fun σ H R=>wi σ H fun J H'=>R J id H'
theorem xR {wi:TI}{σ:St}{H:Hp}{R:It→(Hp→Hp)→Hp→Prop}(q:wi σ H fun J H'=>R J id H'):vR wi σ H R:=q
theorem lN {tg:Expr}(hm:X.mg "range"=none)(ha:QA X [a] t)(hg:Gl X "range":=by rfl)(h:j0 a=true:=by rfl):QI X tg (.Call (.Name "range" p) [a] [] pos) (vR (oQ t)):=⟨(lI hg hm ha.r (D6 h)).two⟩
theorem eY {elts:List Expr}{x1}{tpos:Pos}(ho:QE X o to)
  (hbase:attributeBase o "items" X.env (eval o X.env)=eval o X.env:=by rfl) (hline:(apos.endLine==cpos.line)=true:=by rfl):QI X (.Tuple elts x1 tpos) (.Call (.Attribute o "items" apos) [] [] cpos) (iw to):=⟨nL ho.r hbase hline⟩
variable {st:Stmt} {sts body orelse:List Stmt} {u u':TS} {g:TG}
theorem rV:QSs X [] mU:=⟨rn⟩
theorem D9 (h:QS X st u):QSs X [st] u:=⟨qt h.r⟩
theorem u6 (h1:QS X st u)(h2:QSs X sts u'):QSs X (st::sts) (mr u u'):=⟨oA h1.r h2.r⟩
theorem j7 {i:Nat}{pos':Pos}(hN:X.N.Nodup)(hi:X.N[i]?=some x)(hx:sO X.env.scope x)(he:QE X e te)(hs:swapsWith e (some (.Name x pos')) pos.line X.env=pure false:=by rfl)(hf:X.fn x=true∨X.env.scope.names.lookup x=some .local:=by first|exact .inl rfl|exact .inr rfl):
  QS X (.Assign [.Name x pos'] e pos) (iL te (O1 i)):=⟨tI hN hi hx he.r hs hf⟩
theorem T3 {tg:Expr}(he:QE X e te)(hg:QG X tg g)(hs:swapsWithSole [tg] e pos.line X.env=pure false:=by rfl)(hw:swappedStores [tg] e X.env=pure none:=by rfl)(h:j0 tg=true:=by rfl):QS X (.Assign [tg] e pos) (iL te g):=
 ⟨uS he.r hg.r hs hw (by rw[jW h];rfl)⟩
theorem mn (hc:QT X c tA)(ht:QSs X body u)(he:QSs X orelse u'):QS X (.If c body orelse pos) (ub tA u u'):=⟨xZ hc.r ht.r he.r⟩
theorem E5 (he:QE X e te):QS X (.Return (some e) pos) (tS te):=⟨vm he.r⟩
theorem vV (he:QE X e te)(hs:swapsWith e none pos.line X.env=pure false:=by rfl):QS X (.Expr e pos) (nT te):=⟨rM he.r hs⟩
theorem U0 {tg iter:Expr}{wi:gQ}(hp:PassesOwn (model X.prog X.w) X.A X.env X.xe)(hc:X.calm=true)(hi:QI X tg iter wi)(hg:QG X tg g)(hb:QSs X body u)(hs:∀x,foldedSetIterable iter X.env x=pure x:=by intro _;rfl):QS X (.For tg iter body [] pos) (pJ wi g u):=
 ⟨rL hp hc hi.r hg.r hb.r hs⟩
theorem uJ (hp:PassesOwn (model X.prog X.w) X.A X.env X.xe)(hc:QT X c tA)(hb:QSs X body u):QS X (.While c body [] pos) (nU tA u):=⟨mx hp hc.r hb.r⟩
end
end L2
set_option Elab.async false
set_option linter.all false
set_option maxRecDepth 100000
set_option maxHeartbeats 4000000
namespace L2
open PySem PySem.Spec PyProof.Rows
theorem N7:∀{ss:List Str} {us:List Value},Vals (ss.map V.str) us→StrsAre us ss
 |[],_,.nil=> .nil
 |x::ss,_,.cons r t=>by
  obtain⟨k,rfl⟩:=r
  exact .cons x k (N7 t)
theorem L0:∀{us:List Value} {ss:List Str},StrsAre us ss→Vals (ss.map V.str) us
 |_,_,.nil=> .nil
 |_,_,.cons y t r=> .cons ⟨t,rfl⟩ (L0 r)
theorem G7:∀{xs:List V} {us:List Value},xs.length=us.length→(∀(i:Nat) x u,xs[i]?=some x→us[i]?=some u→RelV x u)→Vals xs us
 |[],[],_,_=> .nil
 |[],_::_,h,_=>by simp at h
 |_::_,[],h,_=>by simp at h
 |x::xs,u::us,h,k=> .cons (k 0 x u rfl rfl) (G7 (by simpa using h) fun i y v e1 e2=>k (i+1) y v (by simpa using e1) (by simpa using e2))
section
variable {X:Cx}
theorem Inv.newL {pins:List (Addr×Obj)}{σ:St}{H:Hp}{s:Shared}{h':Heap}{tk:Nat}{a:Addr}{xs:List V}{out:Array Value}{e:Nat}(I:Inv X pins σ H s)(k:∀b u,s.heap.get? b=some u→h'.get? b=some u)(ha:s.heap.objs.size≤a)
  (ho:h'.get? a=some {cls:= .type "list",data:= .seq out e}) (rv:Vals xs out.toList) (hz:xs.length≤sizeLine):Inv X pins σ (i6 H a (.lst xs)) {s with heap:=h',toks:=tk}:=
 I.laid k ha ⟨hz,out.toList,e,rv,by rw[ho]⟩
theorem ObjOk.live {P:Program}{w:World}{H:Hp}{h:Heap}{a:Addr}{o:HO}(x:ObjOk P w H h a o):∃ob,h.get? a=some ob:=by
 cases o with
 |lst xs=>obtain⟨_,_,_,_,e⟩:=x;exact⟨_,e⟩
 |tup xs=>obtain⟨_,_,_,o,e,_⟩:=x;exact⟨_,e⟩
 |dK kvs=>obtain⟨_,_,_,_,o,_,_,e,_⟩:=x;exact⟨_,e⟩
 |dT kvs=>obtain⟨_,_,_,_,o,_,_,e,_⟩:=x;exact⟨_,e⟩
 |set S n=>obtain⟨o,_,_,_,e,_⟩:=x;exact⟨_,e⟩
 |ins C dx fs=>obtain⟨_,_,_,e,_⟩:=x;exact⟨_,e⟩
 |own y=>exact x
 |xd fs=>obtain⟨_,⟨_,_,_,e,_⟩,_⟩:=x;exact⟨_,e⟩
 |rng lo hi=>obtain⟨_,_,_,e⟩:=x;exact⟨_,e⟩
 |frz ob u=>obtain⟨e,_⟩:=x;exact⟨_,e⟩
 |tbl ps=>exact⟨_,(show h.get? a=some _ from x)⟩
 |met f y=>exact⟨_,(show h.get? a=some _ from x)⟩
 |ext φ=>obtain⟨_,e,_⟩:=x;exact e
theorem Inv.newN {pins:List (Addr×Obj)}{σ:St}{H:Hp}{s:Shared}{h':Heap}{tk:Nat}{a:Addr}{xs:List V}{out:Array Value}{e:Nat}(I:Inv X pins σ H s)(k:∀b u,s.heap.get? b=some u→h'.get? b=some u)(hn:s.heap.get? a=none)
  (ho:h'.get? a=some {cls:= .type "list",data:= .seq out e}) (rv:Vals xs out.toList) (hz:xs.length≤sizeLine):H a=none∧Inv X pins σ (i6 H a (.lst xs)) {s with heap:=h',toks:=tk}:=by
 have hH:H a=none:=by
  cases q:H a with
  |none=>rfl
  |some u=>
   obtain⟨ob,z⟩:=(I.hok a u q).live
   rw[hn] at z;cases z
 have na:∀b o,s.heap.get? b=some o→b≠a:=fun b o z w=>by rw[w,hn] at z;cases z
 have nh:∀b u,H b=some u→b≠a:=fun b u z=>b9 z hH
 refine⟨hH,I.un ⟨fun b o z n _ _=>k b o z,fun b o z n _ _=>⟨o.slots,k b o z⟩,fun b o z n _=>by rw[b0 (na b o z)];exact n,fun b o z _=>⟨o,k b o z⟩,fun b ys z=>by rw[b0 (nh b _ z)];exact z,
  fun b ob u z=>by rw[b0 (nh b _ z)];exact z,fun b ps z=>⟨#[],by rw[b0 (nh b _ z)];simpa using z⟩⟩ fun b u z=>?_⟩
 by_cases hb:b=a
 ·subst hb
  rw[c8] at z;cases z
  exact⟨hz,out.toList,e,rv,by rw[ho]⟩
 ·rw[b0 hb] at z
  exact(I.hok b u z).stay (fun c v _ y=>k c v y) (fun c y=>by rw[b0 (nh c _ y)];exact y) fun c ys y=>by rw[b0 (nh c _ y)];exact y
def aM (K:PySem.W.Frag):List V→Hp→VK→Prop:=fun xs H Q=>∃(p:Addr) (ss:List Str),xs=[.ref p]∧(SqL K H p (ss.map V.str)∨∃kvs:List (g4×V),Rd H p (.dK kvs)∧kvs.map (·.1)=ss.map Sum.inr)∧ss.length<64∧
 ∀ss':List Str,ss'.Perm ss→sortedS ss'=true→∀l,H l=none→Q (.ref l) (i6 H l (.lst (ss'.map V.str)))
theorem lh {M:Program}{w:World}{A:Around}{E:Value→Shared→Prop}{s:Shared}{a:Addr}{vs:List Value}{ss:List Str}{n:Nat}{Q:Value→Shared→Prop}(ho:s.heap.get? a=some (seqObj "list" vs.toArray n))(hS:StrsAre vs ss)(h64:vs.length<64)
  (h:∀(out:Array Value) (ss':List Str),StrsAre out.toList ss'→ss'.Perm ss→sortedS ss'=true→Q .none {s with heap:=sortedHeap s.heap a vs out}):
  wpAny (model M w) A (call (.builtin "list.sort") [.ref a]) Q E s:=by
 refine wpAny_call_entry PySem.F.slot_list_sort ⟨_,ho,rfl⟩ PySem.F.entry_list_sort ?_ (PySem.F.args_list_sort_1 _)
 refine list_sort_treeK strKind_oneLt ho hS.keysOf (fun v₁ v₂ O3 e=>keyKind_strs (by rw[←e];exact hS)) h64 fun st' hp hs=>?_
 obtain⟨ss',h1,h2,h3⟩:=sorted_out_str hS hp hs
 exact⟨_,rfl,h _ ss' h1 h2 h3⟩
theorem eO (hc:X.calm=true):CallR X (.builtin "sorted") (aM X.K):=by
 intro pins s σ H xs us Q I r h
 obtain⟨p,ss,rfl,hx,h64,q⟩:=h
 obtain⟨u,rfl,ru⟩:=D7 r
 cases ru
 have hsl:(64:Nat)≤sizeLine:=by decide
 rcases hx with hx|⟨kvs,hx,hk⟩
 ·obtain⟨its,rv,ht,hz⟩:=I.list hx
  have hS:=N7 rv
  have hl:its.length=ss.length:=by have:=rv.length;simpa using this.symm
  refine sorted_strs ht.isList hS (by lia) fun out ss' a1 a2 a3=>?_
  obtain⟨e,he⟩:=sortedAll_at s.heap its out
  have hl':=a2.length_eq
  exact⟨.ref (s.heap.objs.size+1),_,I.newL (tk:=s.toks) (fun _ _=>sortedAll_old) (Nat.le_succ _) he (L0 a1) (by rw[List.length_map];lia),rfl,q ss' a2 a3 _ (I.hok.fresh (Nat.le_succ _))⟩
 ·obtain⟨hd,o,vs,ep,ho,D⟩:=V8 I.hok hx
  have dat:=D.at_ _ ho
  have hlen:kvs.length=ss.length:=by have:=congrArg List.length hk;simpa using this
  have hlv:=KV.length D.kv
  refine Calls.call_function_entry kind_sorted plain_sorted entry_sorted (args_sorted1 _) ?_
  unfold Builtin.«sorted»
  refine wpAny_bind (m:=checkCount "sorted" 1 1 _) (wpAny_pure ?_)
  refine wpAny_bind (PySem.W.kdu_collect (A:=X.A.in1) (PySem.W.kdl_dict (knd:=h8 X.prog X.w) (kvs:=vs) (ep:=ep) hd) (I.ok.hd hc) dat (by lia) fun h' tk acc hkp hacc=>?_)
  have hl:acc.toList.length=vs.length:=by rw[Array.length_toList];exact hacc.1
  have hS:StrsAre acc.toList ss:=by
   refine N7 (G7 (by rw[List.length_map];lia) fun i x u e1 e2=>?_)
   obtain⟨k,y,hy,hky⟩:=hacc.2 i u (by rw[←Array.getElem?_toList];exact e2)
   have e3:(kvs.map (·.1))[i]?=some k:=by rw[KV.keys D.kv,List.getElem?_map,hy];rfl
   rw[hk,List.getElem?_map] at e3
   rw[List.getElem?_map] at e1
   cases e4:ss[i]? with
   |none=>rw[e4] at e1;cases e1
   |some z=>
    rw[e4] at e1 e3
    cases e1
    cases e3
    exact aO hky
  refine wpAny_bind (wpAny_newList ?_ (by rw[hl];lia))
  refine wpAny_bind (wpAny_holding (lh (s:={s with heap:=h'.push {cls:= .type "list",data:= .seq acc.toList.toArray},toks:=tk}) (n:=0) (Heap.get?_push_size _ rfl) hS (by lia) fun out ss' a1 a2 a3=>?_))
  obtain⟨e,he⟩:=sortedHeap_at (h:=h'.push {cls:= .type "list",data:= .seq acc.toList.toArray}) (a:=h'.objs.size) (vs:=acc.toList) (n:=0) (out:=out) (Heap.get?_push_size _ rfl)
  have hno:s.heap.get? h'.objs.size=none:=by
   cases z:s.heap.get? h'.objs.size with
   |none=>rfl
   |some ob=>exact absurd (Heap.lt_size (hkp _ _ z)) (Nat.lt_irrefl _)
  have hl':=a2.length_eq
  obtain⟨hH,I2⟩:=I.newN (tk:=tk) (h':=sortedHeap (h'.push {cls:= .type "list",data:= .seq acc.toList.toArray}) h'.objs.size acc.toList out) (xs:=ss'.map V.str) (fun b u eb=>by
   have hb:=Heap.lt_size (hkp b u eb)
   rw[sortedHeap_old (b:=b) (Nat.ne_of_lt hb) (by rw[Heap.size_push];exact Nat.lt_succ_of_lt hb)]
   exact Heap.get?_push_of_some _ (hkp b u eb)) hno he (L0 a1) (by rw[List.length_map];lia)
  exact wpAny_pure ⟨_,rfl,.ref h'.objs.size,_,I2,rfl,q ss' a2 a3 _ hH⟩
def iY (K:PySem.W.Frag):List V→Hp→VK→Prop:=fun xs H Q=>(∃p ys,xs=[.ref p]∧(SqL K H p ys∨SqT K H p ys)∧∀l,H l=none→Q (.ref l) (i6 H l (.lst ys)))∨
 (∃(p:Addr) (kvs:List (g4×V)),xs=[.ref p]∧Rd H p (.dK kvs)∧∀l,H l=none→Q (.ref l) (i6 H l (.lst (kvs.map fun kv=>kV kv.1))))
theorem iQ (hc:X.calm=true):CallR X (.type "list") (iY X.K):=by
 refine call_list_of.or ?_
 intro pins s σ H xs us Q I r h
 obtain⟨p,kvs,rfl,hx,q⟩:=h
 obtain⟨u,rfl,ru⟩:=D7 r
 cases ru
 obtain⟨hd,o,vs,ep,ho,D⟩:=V8 I.hok hx
 have hlv:=KV.length D.kv
 have hz:kvs.length≤sizeLine:=(C3 I.hok hx).1
 refine PySem.W.kdl_call (PySem.W.kdl_dict (knd:=h8 X.prog X.w) (kvs:=vs) (ep:=ep) hd) (I.ok.hd hc) (D.at_ _ ho) (by lia) fun h' tk acc c hkp hS hacc=>?_
 refine⟨.ref s.heap.objs.size,_,I.newL (tk:=tk) hkp (Nat.le_refl _) hS (G7 (by have:=hacc.1;simp;lia) fun i x u e1 e2=>?_) (by rw[List.length_map];exact hz),rfl,q _ (I.hok.fresh (Nat.le_refl _))⟩
 obtain⟨k,y,hy,hky⟩:=hacc.2 i u (by rw[←Array.getElem?_toList];exact e2)
 rw[List.getElem?_map] at e1
 cases e4:kvs[i]? with
 |none=>rw[e4] at e1;cases e1
 |some kv=>
  rw[e4] at e1
  cases e1
  have e3:(kvs.map (·.1))[i]?=some kv.1:=by rw[List.getElem?_map,e4];rfl
  rw[KV.keys D.kv,List.getElem?_map,hy] at e3
  cases e3
  exact aO hky
def sJ:List V→Hp→VK→Prop:=fun xs H Q=>∃(p:Addr) (kvs:List (g4×V)),xs=[.ref p]∧Rd H p (.dK kvs)∧∀l,H l=none→Q (.ref l) (i6 H l (.dK kvs))
theorem iA:CallR X (.type "dict") sJ:=by
 intro pins s σ H xs us Q I r h
 obtain⟨p,kvs,rfl,hx,q⟩:=h
 obtain⟨u,rfl,ru⟩:=D7 r
 cases ru
 exact oF I hx fun l s' hl I'=>⟨.ref l,_,I',rfl,q l hl⟩
def sG:R2:=fun x y H Q=>rI CMul (fun i j=> .int (i*j)) x y H Q∨(∃z n,x= .str z∧y= .int n∧z.length≤1000∧-1000≤n∧n≤1000∧Q (.str (Txt.mul z n)) H)
theorem aE:OpR X (binaryOp .Mult) sG:=by
 refine op_mul.or ?_
 intro pins s σ H x y v u Q I rx ry h
 obtain⟨z,n,rfl,rfl,h1,h2,h3,q⟩:=h
 obtain⟨t,rfl⟩:=rx
 obtain⟨t',rfl⟩:=ry
 exact SB.mul (mulOk_of 1000 1000 h1 h3 (by lia) (by decide) (by decide)) fun t2 k=>⟨.str _,H,I.tok _,⟨t2,rfl⟩,q⟩
def jV:gU:=fun o i v H Q=>sj o i v H Q∨(∃a H',o= .ref a∧DPut H a i v H'∧Q H')
theorem qK (hu:X.A.units+1<cLine):kB X jV:=by
 intro pins s σ H o i v ov iv u Q I ro ri rv h
 rcases h with h|⟨a,H',rfl,g,q⟩
 ·exact mX pins s σ H o i v ov iv u Q I ro ri rv h
 ·cases ro
  exact mj hu I g ri rv fun s' I'=>⟨H',I',q⟩
end
end L2
set_option Elab.async false
set_option linter.all false
set_option maxRecDepth 100000
set_option maxHeartbeats 4000000
namespace L2
open PySem PySem.Spec PyProof.Rows
section
variable {X:Cx}
theorem Inv.pairNew {pins:List (Addr×Obj)}{σ:St}{H:Hp}{s:Shared}{fp:List Addr}{h':Heap}{tk:Nat}{x y:V}{u v:Value}{e:Nat}(I:Inv X pins σ H s)(hf:∀b∈fp,L3 X pins H b)
  (kp:∀b o,b∉fp→s.heap.get? b=some o→h'.get? b=some o) (there:∀b∈fp,b<s.heap.objs.size) (tup:h'.get? s.heap.objs.size=some {cls:= .type "tuple",data:= .seq #[u,v] e}) (rx:RelV x u) (ry:RelV y v):
  H s.heap.objs.size=none∧Inv X pins σ (i6 H s.heap.objs.size (.tup [x,y])) {s with heap:=h',toks:=tk}∧∀b∈fp,i6 H s.heap.objs.size (.tup [x,y]) b=none:=by
 have fresh:H s.heap.objs.size=none:=I.hok.fresh (Nat.le_refl _)
 have nsz:∀b o,s.heap.get? b=some o→b≠s.heap.objs.size:=fun b o z=>Nat.ne_of_lt (Heap.lt_size z)
 have hH:∀b w,H b=some w→b≠s.heap.objs.size∧b∉fp:=fun b w z=>⟨b9 z fresh,fun m=>by rw[(hf b m).1] at z;cases z⟩
 have hok:HOk X.prog X.w (i6 H s.heap.objs.size (.tup [x,y])) h':=fun b w z=>by
  by_cases hb:b=s.heap.objs.size
  ·subst hb
   rw[c8] at z;cases z
   exact⟨by show 2≤sizeLine;decide,[u,v],.cons rx (.cons ry .nil),⟨_,tup,rfl,_,rfl⟩⟩
  ·rw[b0 hb] at z
   refine(I.hok b w z).stay (fun c ob hc q=>kp c ob ?_ q) (fun c q=>by rw[b0 (hH c _ q).1];exact q) fun c ys q=>by rw[b0 (hH c _ q).1];exact q
   rcases hc with m|m
   ·rw[m];exact(hH b _ z).2
   ·exact(hH c _ m).2
 refine⟨fresh,I.call' (s':={s with heap:=h',toks:=tk}) (ch:=fp) rfl ⟨fun b o z n _ hx=>kp b o hx z,fun b o z n _ hx=>⟨o.slots,kp b o hx z⟩,fun b o z n _=>by rw[b0 (nsz b o z)];exact n,
  fun b o z hx=>⟨o,kp b o hx z⟩,fun b ys z=>by rw[b0 (hH b _ z).1];exact z,fun b ob w z=>by rw[b0 (hH b _ z).1];exact z,fun b ps z=>⟨#[],by rw[b0 (hH b _ z).1];simpa using z⟩⟩ hok I.bare fun b hb=>?_,fun b hb=>?_⟩
 ·obtain⟨f0,f1,f2,f3,f4,f5⟩:=hf b hb
  exact⟨f3,f1,f4,f5⟩
 ·rw[b0 (Nat.ne_of_lt (there b hb))];exact(hf b hb).1
theorem Inv.turnedAll {pins:List (Addr×Obj)}{σ:St}{H:Hp}{s:Shared}{fp:List Addr}{h':Heap}{tk:Nat}(I:Inv X pins σ H s)(hf:∀b∈fp,L3 X pins H b)
  (kp:∀b o,b∉fp→s.heap.get? b=some o→h'.get? b=some o):Inv X pins σ H {s with heap:=h',toks:=tk}:=by
 have hH:∀b w,H b=some w→b∉fp:=fun b w z m=>by rw[(hf b m).1] at z;cases z
 refine I.call' (s':={s with heap:=h',toks:=tk}) (ch:=fp) rfl ⟨fun b o z n _ hx=>kp b o hx z,fun b o z n _ hx=>⟨o.slots,kp b o hx z⟩,fun b o z n _=>n,
  fun b o z hx=>⟨o,kp b o hx z⟩,fun b ys z=>z,fun b ob w z=>z,fun b ps z=>⟨#[],by simpa using z⟩⟩ (fun b w z=>?_) I.bare fun b hb=>?_
 ·refine(I.hok b w z).stay (fun c ob hc q=>kp c ob ?_ q) (fun c q=>q) fun c ys q=>q
  rcases hc with m|m
  ·rw[m];exact hH b _ z
  ·exact hH c _ m
 ·obtain⟨f0,f1,f2,f3,f4,f5⟩:=hf b hb
  exact⟨f3,f1,f4,f5⟩
end
section
variable {X:Cx} {a b:Expr} {t:TA} {p pos:Pos}
end
def yP (K : PySem.W.Frag) (l m : Addr) : It :=
  ⟨fun i H => ∃ xs ys x y, SqL K H l xs ∧ SqL K H m ys ∧ xs[i]? = some x ∧ ys[i]? = some y,
   fun i H v H' => ∃ t x y, (∀ xs, SqL K H l xs → xs[i]? = some x) ∧ (∀ ys, SqL K H m ys → ys[i]? = some y) ∧ H t = none ∧ v = .ref t ∧ H' = i6 H t (.tup [x, y]),
   fun i H => ∃ xs ys, SqL K H l xs ∧ SqL K H m ys ∧ (xs.length ≤ i ∨ ys.length ≤ i)⟩
theorem i8 {h:Heap}{a b:Addr}{o u:Obj}(e:h.get? a=some o)(e':h.get? b=some u)(n:o.cls≠u.cls):a≠b:=fun z=>by
 subst z;rw[e] at e';cases e';exact n rfl
theorem oH {P:Program}{w:World}{K:PySem.W.Frag}{elts:List Expr}{x1}{tpos:Pos}{z TI TO i1 i2 l m:Addr}(h12:i1≠i2)(hT:TI≠TO):
  aC P w K (.Tuple elts x1 tpos) (yP K l m) [z,TI,TO,i1,i2] z (fun i h=>IsZip h z TI TO .none∧IsPair h TI (.ref i1) (.ref i2)∧(∃a b,IsPair h TO a b)∧h.IsListIter i1 l i∧h.IsListIter i2 m i) where
 mem:=by simp
 obj:=fun i h st b hb=>by
  obtain⟨z1,z2,⟨a,c,z3⟩,⟨o4,e4,c4,d4⟩,⟨o5,e5,c5,d5⟩⟩:=st
  have hb':b=z∨b=TI∨b=TO∨b=i1∨b=i2:=by simpa using hb
  rcases hb' with rfl|rfl|rfl|rfl|rfl
  ·exact⟨_,z1,fun v q=>by
    have q':Data.fields _=Data.cell v:=q
    cases q'⟩
  ·exact⟨_,z2,fun v q=>by
    have q':Data.seq _ _=Data.cell v:=q
    cases q'⟩
  ·exact⟨_,z3,fun v q=>by
    have q':Data.seq _ _=Data.cell v:=q
    cases q'⟩
  ·exact⟨o4,e4,fun v q=>by rw[d4] at q;cases q⟩
  ·exact⟨o5,e5,fun v q=>by rw[d5] at q;cases q⟩
 keep:=fun i h h' st k=>by
  obtain⟨z1,z2,⟨a,c,z3⟩,z4,z5⟩:=st
  exact⟨k z (by simp) _ z1,k TI (by simp) _ z2,⟨a,c,k TO (by simp) _ z3⟩,z4.at fun o e=>k i1 (by simp) o e,z5.at fun o e=>k i2 (by simp) o e⟩
 item:=by
  intro X hP hw hK hc i pins s σ H E I hf st hg
  subst hP hw hK
  obtain⟨z1,z2,⟨a,c,z3⟩,z4,z5⟩:=st
  obtain⟨xs,ys,x,y,hq,hq',hx,hy⟩:=hg
  obtain⟨its,rv,p,hz⟩:=I.list hq
  obtain⟨its',rv',p',hz'⟩:=I.list hq'
  obtain⟨u,hu,ru⟩:=rv.get hx
  obtain⟨u',hu',ru'⟩:=rv'.get hy
  obtain⟨o4,e4,c4,d4⟩:=id z4
  obtain⟨o5,e5,c5,d5⟩:=id z5
  obtain⟨o6,n6,e6,c6,_⟩:=id p
  obtain⟨o7,n7,e7,c7,_⟩:=id p'
  have D:ZipApart z TI TO i1 i2 l m:=
   ⟨i8 z2 z1 (by simp),i8 z3 z1 (by simp),i8 e4 z1 (by rw[c4];simp),i8 e5 z1 (by rw[c5];simp),hT,i8 z2 e4 (by rw[c4];simp),i8 z2 e5 (by rw[c5];simp),i8 z3 e4 (by rw[c4];simp),i8 z3 e5 (by rw[c5];simp),h12,
    i8 e6 z1 (by rw[c6];simp),i8 e6 z3 (by rw[c6];simp),i8 e6 e4 (by rw[c6,c4];simp),i8 e6 e5 (by rw[c6,c5];simp),i8 e7 z1 (by rw[c7];simp),i8 e7 z3 (by rw[c7];simp),i8 e7 e4 (by rw[c7,c4];simp),i8 e7 e5 (by rw[c7,c5];simp)⟩
  refine wpAny_pyNext_zip_item D z1 z2 z3 z4 z5 p.isList p'.isList (x:=u) (y:=u') (by simpa using hu) (by simpa using hu') fun h' a1 a2 a3 a4 a5 a6 a7=>?_
  refine⟨.ref s.heap.objs.size,rfl,wpAny_letOwnedTupleGo_zip (s:={s with heap:=h'}) a1 fun h'' b1 b2=>?_⟩
  have hs2:Heap.SameBut z h' h'':=b2
  have lt:∀b∈[z,TI,TO,i1,i2],b<s.heap.objs.size:=fun b hb=>by
   have hb':b=z∨b=TI∨b=TO∨b=i1∨b=i2:=by simpa using hb
   rcases hb' with rfl|rfl|rfl|rfl|rfl
   ·exact Heap.lt_size z1
   ·exact Heap.lt_size z2
   ·exact Heap.lt_size z3
   ·exact Heap.lt_size e4
   ·exact Heap.lt_size e5
  have kp2:∀b o,b≠z→h'.get? b=some o→h''.get? b=some o:=fun b o hb e=>hs2.extBut b o hb e
  obtain⟨fr,I1,fr2⟩:=I.pairNew (fp:=[z,TI,TO,i1,i2]) (h':=h'') (tk:=s.toks) (x:=x) (y:=y) hf (fun b o hb e=>by
   have hb':b≠z∧b≠TI∧b≠TO∧b≠i1∧b≠i2:=by simpa using hb
   exact kp2 b o hb'.1 (a7 b o hb'.1 hb'.2.2.1 hb'.2.2.2.1 hb'.2.2.2.2 e)) lt (kp2 _ _ (Nat.ne_of_gt (Heap.lt_size z1)) a5) ru ru'
  refine⟨.ref s.heap.objs.size,_,I1,rfl,⟨_,x,y,fun zs hs=>by rw[I.list_inj hs hq];exact hx,fun zs hs=>by rw[I.list_inj hs hq'];exact hy,fr,rfl,rfl⟩,⟨b1,?_,⟨u,u',?_⟩,?_,?_⟩,fr2⟩
  ·exact kp2 _ _ D.TIz (a7 TI _ D.TIz D.TITO D.TIi1 D.TIi2 z2)
  ·exact kp2 _ _ D.TOz a2
  ·exact a3.at fun o e=>kp2 _ o D.i1z e
  ·exact a4.at fun o e=>kp2 _ o D.i2z e
 done:=by
  intro X hP hw hK hc i pins s σ H E I hf st hg
  subst hP hw hK
  obtain⟨z1,z2,⟨a,c,z3⟩,z4,z5⟩:=st
  obtain⟨xs,ys,hq,hq',hx⟩:=hg
  obtain⟨its,rv,p,hz⟩:=I.list hq
  obtain⟨its',rv',p',hz'⟩:=I.list hq'
  have hl:=rv.length
  have hl':=rv'.length
  obtain⟨o4,e4,c4,d4⟩:=id z4
  obtain⟨o5,e5,c5,d5⟩:=id z5
  obtain⟨o6,n6,e6,c6,_⟩:=id p
  obtain⟨o7,n7,e7,c7,_⟩:=id p'
  have D:ZipApart z TI TO i1 i2 l m:=
   ⟨i8 z2 z1 (by simp),i8 z3 z1 (by simp),i8 e4 z1 (by rw[c4];simp),i8 e5 z1 (by rw[c5];simp),hT,i8 z2 e4 (by rw[c4];simp),i8 z2 e5 (by rw[c5];simp),i8 z3 e4 (by rw[c4];simp),i8 z3 e5 (by rw[c5];simp),h12,
    i8 e6 z1 (by rw[c6];simp),i8 e6 z3 (by rw[c6];simp),i8 e6 e4 (by rw[c6,c4];simp),i8 e6 e5 (by rw[c6,c5];simp),i8 e7 z1 (by rw[c7];simp),i8 e7 z3 (by rw[c7];simp),i8 e7 e4 (by rw[c7,c4];simp),i8 e7 e5 (by rw[c7,c5];simp)⟩
  refine wpAny_pyNext_zip_end (I.ok.hd hc) D z1 z2 z3 z4 z5 p.isList p'.isList ?_ fun h' eb=>⟨rfl,I.turnedAll (fp:=[z,TI,TO,i1,i2]) (tk:=s.toks) hf fun b o hb e=>?_⟩
  ·rcases hx with hx|hx
   ·exact .inl (by simp;lia)
   ·exact .inr (by simp;lia)
  ·have hb':b≠z∧b≠TI∧b≠TO∧b≠i1∧b≠i2:=by simpa using hb
   exact eb b o hb'.1 hb'.2.2.1 hb'.2.2.2.1 hb'.2.2.2.2 e
 self:=fun _ _ _ _ _ st h=>wpAny_pyIter_zip st.1 h
section
variable {X:Cx} {a b:Expr} {t:TA} {p pos:Pos}
def vL (K:PySem.W.Frag)(ta:TA):TI:=fun σ H R=>ta σ H fun vs H1=>∃l m xs ys,vs=[.ref l,.ref m]∧SqL K H1 l xs∧SqL K H1 m ys∧R (yP K l m) H1
theorem vD {elts:List Expr}{x1}{tpos:Pos}(hg:Gl X "zip")(hm:X.mg "zip"=none)(ha:PA X [a,b] t)(hs:starEach [a,b] X.env=[(false,eval a X.env),(false,eval b X.env)])(hs2:starEach [b] X.env=[(false,eval b X.env)]):
  PI X (.Tuple elts x1 tpos) (.Call (.Name "zip" p) [a,b] [] pos) (vL X.K t):=by
 intro pins s σ H R I h
 refine Call_ (P1 I hg hm Boot.«zip» (PyProof.Rows.callWith_type1 (A2 (ha pos pins s σ H _ I h) fun us s1 ⟨vs,H1,I1,r1,q1⟩=>?_) (by rw[hs,hs2]) (by rw[hs2];rfl)))
 obtain⟨l,m,xs,ys,e,hq,hq',q⟩:=q1
 subst e
 obtain⟨u,v,rfl,ru,rv⟩:=V1 r1
 cases ru
 cases rv
 obtain⟨its,rv,pl,hz⟩:=I1.list hq
 obtain⟨its',rv',pl',hz'⟩:=I1.list hq'
 refine call_zip_2 pl.isList pl'.isList fun h' z1 z2 z3 z4 z5 hsz hk=>?_
 have I2:Inv X pins σ H1 {s1 with heap:=h'}:=I1.kept (t':=s1.toks) hk
 refine wpAny_pyIter_zip (s:={s1 with heap:=h'}) z1 ?_
 refine⟨s1.heap.objs.size+4,[s1.heap.objs.size+4,s1.heap.objs.size+2,s1.heap.objs.size+3,s1.heap.objs.size,s1.heap.objs.size+1],_,_,H1,rfl,I2,oH (l:=l) (m:=m) (show(s1.heap.objs.size:Nat)≠s1.heap.objs.size+1 by lia) (show(s1.heap.objs.size+2:Nat)≠s1.heap.objs.size+3 by lia),⟨z1,z2,⟨_,_,z3⟩,z4,z5⟩,fun c hc=>?_,q⟩
 have hb':c=s1.heap.objs.size+4∨c=s1.heap.objs.size+2∨c=s1.heap.objs.size+3∨c=s1.heap.objs.size∨c=s1.heap.objs.size+1:=by simpa using hc
 have hle:s1.heap.objs.size≤c:=by
  rcases hb' with rfl|rfl|rfl|rfl|rfl<;>first|exact Nat.le_add_right _ _|exact Nat.le_refl _
 exact I1.fpOk hle (I1.hok.fresh hle)
end
section
variable {X:Cx} (K:PySem.W.Frag) {a b:Expr} {t:TA} {p pos:Pos}
theorem C9 (hc:X.calm=true)(h:X.K=K:=by rfl):CallR X (.builtin "sorted") (aM K):=h▸eO hc
theorem um {elts:List Expr}{x1}{tpos:Pos}(hm:X.mg "zip"=none)(ha:QA X [a,b] t)(hg:Gl X "zip":=by rfl)(h:j0 a=true:=by rfl)(h':j0 b=true:=by rfl)(hK:X.K=K:=by rfl):QI X (.Tuple elts x1 tpos) (.Call (.Name "zip" p) [a,b] [] pos) (vR (vL K t)):=
 ⟨hK▸(vD hg hm ha.r (by rw[D6 h,D6 h'];rfl) (D6 h')).two⟩
end
theorem r9 {X:Cx}:qe X "list.append" ji:=kH
section
variable {K:PySem.W.Frag} {σ:St} {H:Hp} {Q:VK}
theorem eU {p:Addr}{ss:List Str}(h:SqL K H p (ss.map V.str))(h64:ss.length<64)(q:∀ss':List Str,ss'.Perm ss→sortedS ss'=true→∀l,H l=none→Q (.ref l) (i6 H l (.lst (ss'.map V.str)))):aM K [.ref p] H Q:=⟨p,ss,rfl,.inl h,h64,q⟩
theorem l7 {p:Addr}{kvs:List (g4×V)}{ss:List Str}(h:Rd H p (.dK kvs))(hk:kvs.map (·.1)=ss.map Sum.inr)(h64:ss.length<64)(q:∀ss':List Str,ss'.Perm ss→sortedS ss'=true→∀l,H l=none→Q (.ref l) (i6 H l (.lst (ss'.map V.str)))):aM K [.ref p] H Q:=⟨p,ss,rfl,.inr ⟨kvs,h,hk⟩,h64,q⟩
theorem L9 {p:Addr}{kvs:List (g4×V)}(h:Rd H p (.dK kvs))(q:∀l,H l=none→Q (.ref l) (i6 H l (.lst (kvs.map fun kv=>kV kv.1)))):iY K [.ref p] H Q:= .inr ⟨p,kvs,rfl,h,q⟩
theorem kD {i j:Int}(h:CMul i j)(q:Q (.int (i*j)) H):sG (.int i) (.int j) H Q:= .inl ⟨i,j,rfl,rfl,h,q⟩
theorem uj {to ti:TE}{t:gU}{v:V}{Qs:St→Hp→Prop}(q:to σ H fun o H1=>ti σ H1 fun i H2=>t o i v H2 fun H3=>Qs σ H3):tH to ti t v σ H Qs:=q
theorem j4 {a:Addr}{kvs:List (g4×V)}{k:g4}{v:V}{Qh:Hp→Prop}(h:H a=some (.dK kvs))(hl:kvs.length<sizeLine)(q:Qh (i6 H a (.dK (x9 kvs k v)))):jV (.ref a) (kV k) v H Qh:= .inr ⟨a,_,rfl,DPut.k h hl,q⟩
theorem xD {ta:TA}{R:It→Hp→Prop}(q:ta σ H fun vs H1=>∃l m xs ys,vs=[.ref l,.ref m]∧SqL K H1 l xs∧SqL K H1 m ys∧R (yP K l m) H1):vL K ta σ H R:=q
theorem bL {n:Nat}{t:iz}{a:Addr}{xs:List V}{Qs:St→Hp→Prop}(h:SqT K H a xs)(hl:xs.length=n)(q:t xs σ H Qs):nZ K n t (.ref a) σ H Qs:=⟨a,xs,rfl,h,hl,q⟩
theorem qm {t:TG}{u:iz}{v:V}{r:List V}{Qs:St→Hp→Prop}(q:t v σ H fun σ' H'=>u r σ' H' Qs):jY t u (v::r) σ H Qs:=⟨v,r,rfl,q⟩
theorem tV {Qs:St→Hp→Prop}(q:Qs σ H):vC [] σ H Qs:=⟨rfl,q⟩
theorem yF {T:String}{r:V→List V→Hp→VK→Prop}{to:TE}{t:TA}(q:to σ H fun x H1=>xU K T x H1∧t σ H1 fun xs H2=>r x xs H2 Q):zh K T r to t σ H Q:=q
theorem wx {T:String}{r:V→List V→Hp→VK→Prop}{to:TE}(q:to σ H fun x H1=>xU K T x H1∧r x [] H1 Q):uC K T r to σ H Q:=q
theorem K1 {p:Addr}{x:V}{o:Option V}(g:DGet H p x o)(q:Q (.bl o.isSome) H):vA K x (.ref p) H Q:= .inr (.inr ⟨p,o,rfl,g,q⟩)
theorem bM {p:Addr}{xs:List V}{lo hi:Option Int}(h:SqT K H p xs)(hw:¬(HT.sIx xs.length 0 lo=0∧HT.sIx xs.length xs.length hi=xs.length))(q:∀p,H p=none→Q (.ref p) (i6 H p (.tup (Z4 xs lo hi)))):yo K (.ref p) lo hi H Q:= .inr (.inl ⟨p,xs,rfl,h,hw,q⟩)
theorem L7 {a:Addr}{kvs:List (g4×V)}{k:g4}(e:Rd H a (.dK kvs)):DGet H a (kV k) (i5 kvs k):= .inl ⟨kvs,k,e,rfl,rfl⟩
end
end L2
set_option Elab.async false
set_option linter.all false
set_option maxRecDepth 100000
set_option maxHeartbeats 4000000
namespace L2
open PySem PySem.Spec PyProof.Rows
open PySem.AutoSeq1 (wpAny_loadPart')
def EqP (P:Program)(w:World)(A:Around)(s:Shared)(y x:Value)(b:Bool):Prop:=∀(E:Value→Shared→Prop) (Q:Bool→Shared→Prop),Q b s→wpAny (model P w) A (eqBool y x) Q E s
def RcP (P:Program)(w:World)(A:Around)(s:Shared)(y x:Value)(b:Bool):Prop:=∀(E:Value→Shared→Prop) (Q:Value→Shared→Prop),Q (.bool b) s→wpAny (model P w) A (richCompare .Eq y x) Q E s
theorem EqP.of {P:Program}{w:World}{A:Around}{s:Shared}{y x:Value}{b:Bool}(h:SeqAt.EqAt A s y x b):EqP P w A s y x b:=fun E Q q=>h P w E Q q
theorem EqP.refs {P:Program}{w:World}{A:Around}{s:Shared}{l m:Addr}{k:Bool}(hne:l≠m)(h:RcP P w A s (.ref l) (.ref m) k):EqP P w A s (.ref l) (.ref m) k:=fun E Q q=>by
 unfold eqBool
 refine wpAny_holding (wpAny_ite_split (fun z=>absurd (Value.ref.inj (eq_of_beq z)) hne) fun _=>wpAny_bind (h E _ (wpAny_truthy_bool q)))
theorem uI {P:Program}{w:World}(l m:Addr)(xs ys:Array Value)(n1 n2:Nat)(d1 d2:Option Addr)(s1 s2:Array (Option Value))(f:Nat→Bool):
  MeetsIn P w (Builtin.«tuple.__eq__» ⟨[.ref l,.ref m],[]⟩) (fun A R s=>
   s.heap.get? l=some {cls:= .type "tuple",dict:=d1,data:= .seq xs n1,slots:=s1}∧s.heap.get? m=some {cls:= .type "tuple",dict:=d2,data:= .seq ys n2,slots:=s2}∧
   (∀j (g1:j<xs.size) (g2:j<ys.size),EqP P w A.in1 s xs[j] ys[j] (f j))∧
   R (.ok (.ret (.bool ((List.range (min xs.size ys.size)).all f&&xs.size==ys.size)))) s):=
 .of_wp fun A R s hyp=>by
  obtain⟨hp,gg,dr,tk,os⟩:=s
  obtain⟨e1,e2,he,fin⟩:=hyp
  have sub:=AutoSeq1.sub_tuple_tuple
  have len:(xs.toList.zip ys.toList).length=min xs.size ys.size:=by simp
  wp_walk using wpAny_loadPart' e1,wpAny_loadPart' e2,wpAny_forIn_list _ (fun more acc st=>acc.1=none∧st=⟨hp,gg,dr,tk,os⟩∧∃i,more=(xs.toList.zip ys.toList).drop i∧
   R (.ok (.ret (.bool (((List.range (min xs.size ys.size)).drop i).all f&&xs.size==ys.size)))) ⟨hp,gg,dr,tk,os⟩) _
  case turn=>
   rintro⟨y,x⟩ more acc st ⟨ha,rfl,i,hi,hR⟩
   have lt:i<(xs.toList.zip ys.toList).length:=by
    rcases Nat.lt_or_ge i (xs.toList.zip ys.toList).length with z|z
    ·exact z
    ·rw[List.drop_of_length_le z] at hi
     cases hi
   have lm:i<min xs.size ys.size:=len▸lt
   have lx:i<xs.size:=Nat.lt_of_lt_of_le lm (Nat.min_le_left _ _)
   have ly:i<ys.size:=Nat.lt_of_lt_of_le lm (Nat.min_le_right _ _)
   rw[List.drop_eq_getElem_cons lt] at hi
   injection hi with h1 h2
   have q1:y=xs[i]:=by simpa using congrArg Prod.fst h1
   have q2:x=ys[i]:=by simpa using congrArg Prod.snd h1
   subst q1 q2
   have dr1:(List.range (min xs.size ys.size)).drop i=i::(List.range (min xs.size ys.size)).drop (i+1):=by simp [List.drop_eq_getElem_cons,lm]
   rw[dr1,List.all_cons] at hR
   refine wpAny_bind (he i lx ly _ _ ?_)
   cases hf:f i with
   |true=>
    rw[hf] at hR
    wp_walk
    exact⟨rfl,rfl,i+1,h2,by simpa using hR⟩
   |false=>
    rw[hf] at hR
    wp_walk
    exact⟨_,rfl,by simpa using hR⟩
  case fin=>
   rintro⟨c1,c2⟩ st ⟨ha,rfl,i,hi,hR⟩
   simp only at ha
   subst ha
   have ge:min xs.size ys.size≤i:=by
    rcases Nat.lt_or_ge i (xs.toList.zip ys.toList).length with z|z
    ·rw[List.drop_eq_getElem_cons z] at hi
     cases hi
    ·exact len▸z
   rw[List.drop_of_length_le (by simpa using ge)] at hR
   wp_walk
   exact⟨_,rfl,by simpa [Builtin.Tuple.tupleCompareSizes] using hR⟩
  case h=>
   exact⟨rfl,rfl,0,rfl,by simpa using fin⟩
theorem RcP.tup {P:Program}{w:World}{A:Around}{s:Shared}{l m:Addr}{xs ys:Array Value}{f:Nat→Bool}(hl:s.heap.IsTuple l xs)(hm:s.heap.IsTuple m ys)(hu:A.units<cLine)
  (he:∀j (g1:j<xs.size) (g2:j<ys.size),EqP P w A.in1 s xs[j] ys[j] (f j)):RcP P w A s (.ref l) (.ref m) ((List.range (min xs.size ys.size)).all f&&xs.size==ys.size):=fun E Q q=>by
 obtain⟨⟨c1,d1,a1,s1⟩,o1,k1,n1,t1⟩:=id hl
 obtain⟨⟨c2,d2,a2,s2⟩,o2,k2,n2,t2⟩:=id hm
 simp only at k1 t1 k2 t2
 subst k1 t1 k2 t2
 refine wpAny_richCompare_same_room (op:= .Eq) ⟨_,o1,rfl⟩ ⟨_,o2,rfl⟩ PySem.F.slot_tuple_eq (call_meetsIn PySem.F.slot_tuple_eq ⟨_,o1,rfl⟩ PySem.F.entry_tuple_eq (PySem.F.args_tuple_eq_2 _ _) (uI l m xs ys n1 n2 d1 d2 s1 s2 f) ⟨o1,o2,he,?_⟩) hu
 exact⟨(fun z=>nomatch z),q⟩
def G4:List V→List V→Bool
 |[],[]=>true
 |x::xs,y::ys=>U1 x y&&G4 xs ys
 |_,_=>false
inductive Eq1 (K:PySem.W.Frag) (H:Hp):V→V→Bool→Prop
 |flat {x y:V}:x6 x=true→x6 y=true→Eq1 K H x y (U1 x y)
 |tup {a b:Addr} {xs ys:List V}:SqT K H a xs→SqT K H b ys→xs.all x6=true→ys.all x6=true→Eq1 K H (.ref a) (.ref b) (G4 xs ys)
 |nt {a:Addr} {xs:List V}:SqT K H a xs→Eq1 K H .non (.ref a) false
 |tn {a:Addr} {xs:List V}:SqT K H a xs→Eq1 K H (.ref a) .non false
theorem fT:∀{x:V},x6 x=true→U1 x x=true
 | .non,_=>rfl
 | .bl b,_=>by simp [U1]
 | .int i,_=>by simp [U1]
 | .str x,_=>by simp [U1]
theorem Z0:∀{xs:List V},xs.all x6=true→G4 xs xs=true
 |[],_=>rfl
 |x::xs,h=>by
  rw[List.all_cons,Bool.and_eq_true] at h
  show(U1 x x&&G4 xs xs)=true
  rw[fT h.1,Z0 h.2];rfl
theorem B2:∀(xs ys:List V),((List.range (min xs.length ys.length)).all (fun j=>U1 (xs.getD j .non) (ys.getD j .non))&&xs.length==ys.length)=G4 xs ys
 |[],[]=>rfl
 |[],_::_=>by simp [G4]
 |_::_,[]=>by simp [G4]
 |x::xs,y::ys=>by
  have ih:=B2 xs ys
  have e:min (x::xs).length (y::ys).length=min xs.length ys.length+1:=by simp
  rw[e,List.range_succ_eq_map,List.all_cons,List.all_map]
  show((U1 x y&&(List.range (min xs.length ys.length)).all _)&&(xs.length+1==ys.length+1))=(U1 x y&&G4 xs ys)
  rw[←ih,Bool.and_assoc]
  congr 1
  congr 1
  simp
section
variable {X:Cx} {pins:List (Addr×Obj)} {σ:St} {H:Hp} {s:Shared} {A:Around}
theorem Eq1.at_ {x y:V}{u v:Value}{b:Bool}(I:Inv X pins σ H s)(h:Eq1 X.K H x y b)(rx:RelV x u)(ry:RelV y v)(hu:A.units+8<cLine):SeqAt.EqAt A s u v b:=by
 cases h with
 |flat fx fy=>exact N0 rx ry fx fy
 | @tup a c xs ys ha hc fx fy=>
  cases rx
  cases ry
  obtain⟨its,r1,p1,z1⟩:=I.tuple ha
  obtain⟨its',r2,p2,z2⟩:=I.tuple hc
  by_cases hac:a=c
  ·subst hac
   have e:=I.tuple_inj ha hc
   subst e
   rw[Z0 fx]
   exact SeqAt.EqAt.same _
  ·have l1:=r1.length
   have l2:=r2.length
   have q:=SeqAt.RcAt.tuples (A:=A) (e:=fun j=>U1 (xs.getD j .non) (ys.getD j .non)) (show s.heap.IsTuple a its.toArray from p1) (show s.heap.IsTuple c its'.toArray from p2) (by lia) fun j g1 g2=>by
    have g1':j<its.length:=by simpa using g1
    have g2':j<its'.length:=by simpa using g2
    have x1:xs[j]?=some (xs[j]'(by lia)):=by simp [show j<xs.length by lia]
    have y1:ys[j]?=some (ys[j]'(by lia)):=by simp [show j<ys.length by lia]
    obtain⟨u1,hu1,ru1⟩:=r1.get x1
    obtain⟨u2,hu2,ru2⟩:=r2.get y1
    have e1:its.toArray[j]=u1:=by
     have:=List.getElem?_eq_getElem g1'
     rw[hu1] at this
     simpa using(Option.some.inj this).symm
    have e2:its'.toArray[j]=u2:=by
     have:=List.getElem?_eq_getElem g2'
     rw[hu2] at this
     simpa using(Option.some.inj this).symm
    rw[e1,e2]
    have d1:xs.getD j .non=xs[j]'(by lia):=by rw[List.getD_eq_getElem?_getD,x1];rfl
    have d2:ys.getD j .non=ys[j]'(by lia):=by rw[List.getD_eq_getElem?_getD,y1];rfl
    rw[d1,d2]
    exact N0 ru1 ru2 (List.all_eq_true.mp fx _ (List.getElem_mem _)) (List.all_eq_true.mp fy _ (List.getElem_mem _))
   have e3:its.toArray.size=xs.length:=by simp [l1]
   have e4:its'.toArray.size=ys.length:=by simp [l2]
   rw[e3,e4,B2] at q
   exact .of_refs hac q
 | @nt a xs ha=>
  cases rx
  cases ry
  obtain⟨its,r1,p1,z1⟩:=I.tuple ha
  exact SeqAt.EqAt.none_tuple (show s.heap.IsTuple a its.toArray from p1) (by lia)
 | @tn a xs ha=>
  cases rx
  cases ry
  obtain⟨its,r1,p1,z1⟩:=I.tuple ha
  exact SeqAt.EqAt.tuple_none (show s.heap.IsTuple a its.toArray from p1) (by lia)
end
inductive EqH (K:PySem.W.Frag) (H:Hp) (kb:List (g4×V)):List (g4×V)→Bool→Prop
 |nil:EqH K H kb [] true
 |miss {k:g4} {v:V} {r:List (g4×V)}:i5 kb k=none→EqH K H kb ((k,v)::r) false
 |hit {k:g4} {v y:V} {r:List (g4×V)} {e b:Bool}:i5 kb k=some y→Eq1 K H v y e→EqH K H kb r b→EqH K H kb ((k,v)::r) (e&&b)
def EqD (K:PySem.W.Frag)(H:Hp)(a b:Addr)(r:Bool):Prop:=(a=b∧r=true)∨(a≠b∧∃ka kb r0,Rd H a (.dK ka)∧Rd H b (.dK kb)∧EqH K H kb ka r0∧r=(ka.length==kb.length&&r0))
section
variable {X:Cx} {pins:List (Addr×Obj)} {σ:St} {H:Hp} {s:Shared} {A:Around}
theorem EqH.hits {kb:List (g4×V)}{vb:List (g4×Value)}(I:Inv X pins σ H s)(hu:A.units+8<cLine)(rb:KV kb vb){ka:List (g4×V)}{r:Bool}(h:EqH X.K H kb ka r):∀{va:List (g4×Value)},KV ka va→PySem.W.KeqHits A s vb va r:=by
 induction h with
 |nil=>
  intro va t
  cases t
  exact .nil
 | @miss k v r hn=>
  intro va t
  cases t with
  | @cons _ q _ l e t=>
   obtain⟨k',u⟩:=q
   have ek':k=k':=e.1
   subst ek'
   refine .miss ?_
   have z:=KV.val rb k
   rw[hn] at z
   cases e:valueAt vb k with
   |none=>rfl
   |some y=>rw[e] at z;exact False.elim z
 | @hit k v y r e b hy h1 hr ih=>
  intro va t
  cases t with
  | @cons _ q _ l e t=>
   obtain⟨k',u⟩:=q
   have ek':k=k':=e.1
   subst ek'
   have z:=KV.val rb k
   rw[hy] at z
   cases e5:valueAt vb k with
   |none=>rw[e5] at z;exact False.elim z
   |some y'=>
    rw[e5] at z
    exact .hit e5 (h1.at_ I e.2 z hu) (ih t)
theorem EqD.at_ {a b:Addr}{r:Bool}(I:Inv X pins σ H s)(h:EqD X.K H a b r)(hu:A.units+16<cLine):EqP X.prog X.w A s (.ref a) (.ref b) r:=by
 rcases h with⟨rfl,rfl⟩|⟨hne,ka,kb,r0,h1,h2,h3,rfl⟩
 ·exact .of (SeqAt.EqAt.same _)
 ·obtain⟨z1,d1,va,ra,da⟩:=C3 I.hok h1
  obtain⟨z2,d2,vb,rb,db⟩:=C3 I.hok h2
  refine .refs hne fun E Q q=>?_
  have l1:=KV.length ra
  have l2:=KV.length rb
  exact PySem.W.keq_eq (knd:=h8 X.prog X.w) d1 d2 da db (by lia) (fun _=>h3.hits (A:=A.in1) I (by show A.units+1+8<_;lia) rb ra) (by rw[←l1,←l2];exact q)
def xo (K:PySem.W.Frag):R2:=fun x y H Q=>∃a b p q p' q' r r',x= .ref a∧y= .ref b∧SqT K H a [.ref p,.ref q]∧SqT K H b [.ref p',.ref q']∧EqD K H p p' r∧EqD K H q q' r'∧Q (.bl (r&&r')) H
theorem vo (hu:X.A.units+64<cLine):OpR X (compareOp .Eq) (xo X.K):=by
 intro pins s σ H x y v u Q I rx ry h
 obtain⟨a,b,p,q,p',q',r,r',rfl,rfl,ha,hb,h1,h2,k⟩:=h
 cases rx
 cases ry
 obtain⟨its,v1,t1,_⟩:=I.tuple ha
 obtain⟨its',v2,t2,_⟩:=I.tuple hb
 obtain⟨_,_,rfl,e1,e2⟩:=V1 v1
 obtain⟨_,_,rfl,e3,e4⟩:=V1 v2
 cases e1
 cases e2
 cases e3
 cases e4
 refine RcP.tup (P:=X.prog) (w:=X.w) (f:=fun j=>if j=0 then r else r') (show s.heap.IsTuple a _ from t1) (show s.heap.IsTuple b _ from t2) (by lia) (fun j g1 g2=>?_) _ _ ⟨.bl (r&&r'),H,I,by show Value.bool _=Value.bool _;simp [List.range_succ],k⟩
 have g:j<2:=by simpa using g1
 match j,g with
 |0,_=>exact h1.at_ I (by show X.A.units+1+16<_;lia)
 |1,_=>exact h2.at_ I (by show X.A.units+1+16<_;lia)
def we (K:PySem.W.Frag):R2:=fun x y H Q=>∃a b xs ys,x= .ref a∧y= .ref b∧SqL K H a xs∧SqL K H b ys∧xs.all x6=true∧ys.all x6=true∧Q (.bl (G4 xs ys)) H
theorem X7:∀{xs ys:List V},xs.length≠ys.length→G4 xs ys=false
 |[],[],h=>absurd rfl h
 |[],_::_,_=>rfl
 |_::_,[],_=>rfl
 |x::xs,y::ys,h=>by
  show(U1 x y&&G4 xs ys)=false
  rw[X7 (by simpa using h),Bool.and_false]
theorem uF (hu:X.A.units+64<cLine):OpR X (compareOp .Eq) (we X.K):=by
 intro pins s σ H x y v u Q I rx ry h
 obtain⟨a,b,xs,ys,rfl,rfl,ha,hb,fx,fy,k⟩:=h
 cases rx
 cases ry
 obtain⟨its,r1,p1,z1⟩:=I.list ha
 obtain⟨its',r2,p2,z2⟩:=I.list hb
 have l1:=r1.length
 have l2:=r2.length
 have e3:its.toArray.size=xs.length:=by simp [l1]
 have e4:its'.toArray.size=ys.length:=by simp [l2]
 by_cases hl:xs.length=ys.length
 ·have q:=SeqAt.RcAt.lists (A:=X.A) (e:=fun j=>U1 (xs.getD j .non) (ys.getD j .non)) p1.isList p2.isList (by rw[e3,e4];exact hl) (by lia) fun j g1 g2=>by
   have g1':j<its.length:=by simpa using g1
   have g2':j<its'.length:=by simpa using g2
   have x1:xs[j]?=some (xs[j]'(by lia)):=by simp [show j<xs.length by lia]
   have y1:ys[j]?=some (ys[j]'(by lia)):=by simp [show j<ys.length by lia]
   obtain⟨u1,hu1,ru1⟩:=r1.get x1
   obtain⟨u2,hu2,ru2⟩:=r2.get y1
   have e1:its.toArray[j]=u1:=by
    have:=List.getElem?_eq_getElem g1'
    rw[hu1] at this
    simpa using(Option.some.inj this).symm
   have e2:its'.toArray[j]=u2:=by
    have:=List.getElem?_eq_getElem g2'
    rw[hu2] at this
    simpa using(Option.some.inj this).symm
   rw[e1,e2]
   have d1:xs.getD j .non=xs[j]'(by lia):=by rw[List.getD_eq_getElem?_getD,x1];rfl
   have d2:ys.getD j .non=ys[j]'(by lia):=by rw[List.getD_eq_getElem?_getD,y1];rfl
   rw[d1,d2]
   exact N0 ru1 ru2 (List.all_eq_true.mp fx _ (List.getElem_mem _)) (List.all_eq_true.mp fy _ (List.getElem_mem _))
  have e5:=B2 xs ys
  rw[hl,Nat.min_self,beq_self_eq_true,Bool.and_true] at e5
  rw[e3,hl,e5] at q
  exact q X.prog X.w _ _ ⟨.bl _,H,I,rfl,k⟩
 ·refine SeqAt.RcAt.lists_lengths (A:=X.A) p1.isList p2.isList (by rw[e3,e4];simpa using hl) (by lia) X.prog X.w _ _ ⟨.bl _,H,I,?_,k⟩
  rw[X7 hl];rfl
def xN (K:PySem.W.Frag):R2:=fun x y H Q=>(∃a b xs ys,x= .ref a∧y= .ref b∧SqT K H a xs∧SqT K H b ys∧xs.all x6=true∧ys.all x6=true∧Q (.bl (G4 xs ys)) H)∨(∃a xs,x= .non∧y= .ref a∧SqT K H a xs∧Q (.bl false) H)
theorem vc (hu:X.A.units+64<cLine):OpR X (compareOp .Eq) (xN X.K):=by
 intro pins s σ H x y v u Q I rx ry h
 rcases h with⟨a,b,xs,ys,rfl,rfl,ha,hb,fx,fy,k⟩|⟨a,xs,rfl,rfl,ha,k⟩
 ·cases rx
  cases ry
  obtain⟨its,r1,p1,z1⟩:=I.tuple ha
  obtain⟨its',r2,p2,z2⟩:=I.tuple hb
  have l1:=r1.length
  have l2:=r2.length
  have q:=SeqAt.RcAt.tuples (A:=X.A) (e:=fun j=>U1 (xs.getD j .non) (ys.getD j .non)) (show s.heap.IsTuple a its.toArray from p1) (show s.heap.IsTuple b its'.toArray from p2) (by lia) fun j g1 g2=>by
   have g1':j<its.length:=by simpa using g1
   have g2':j<its'.length:=by simpa using g2
   have x1:xs[j]?=some (xs[j]'(by lia)):=by simp [show j<xs.length by lia]
   have y1:ys[j]?=some (ys[j]'(by lia)):=by simp [show j<ys.length by lia]
   obtain⟨u1,hu1,ru1⟩:=r1.get x1
   obtain⟨u2,hu2,ru2⟩:=r2.get y1
   have e1:its.toArray[j]=u1:=by
    have:=List.getElem?_eq_getElem g1'
    rw[hu1] at this
    simpa using(Option.some.inj this).symm
   have e2:its'.toArray[j]=u2:=by
    have:=List.getElem?_eq_getElem g2'
    rw[hu2] at this
    simpa using(Option.some.inj this).symm
   rw[e1,e2]
   have d1:xs.getD j .non=xs[j]'(by lia):=by rw[List.getD_eq_getElem?_getD,x1];rfl
   have d2:ys.getD j .non=ys[j]'(by lia):=by rw[List.getD_eq_getElem?_getD,y1];rfl
   rw[d1,d2]
   exact N0 ru1 ru2 (List.all_eq_true.mp fx _ (List.getElem_mem _)) (List.all_eq_true.mp fy _ (List.getElem_mem _))
  have e3:its.toArray.size=xs.length:=by simp [l1]
  have e4:its'.toArray.size=ys.length:=by simp [l2]
  rw[e3,e4,B2] at q
  exact q X.prog X.w _ _ ⟨.bl _,H,I,rfl,k⟩
 ·cases rx
  cases ry
  obtain⟨its,r1,p1,z1⟩:=I.tuple ha
  exact SeqAt.RcAt.none_tuple (A:=X.A) (show s.heap.IsTuple a its.toArray from p1) (by lia) X.prog X.w _ _ ⟨.bl false,H,I,rfl,k⟩
def lK (K:PySem.W.Frag):R2:=fun x y H Q=>yz x y H Q∨we K x y H Q∨xN K x y H Q∨xo K x y H Q
theorem Ax (K:PySem.W.Frag){k:Nat}(hr:Room k X.A)(h:X.K=K:=by rfl):OpR X (compareOp .Eq) (lK K):=h▸op_eq.or ((uF hr.units).or ((vc hr.units).or (vo hr.units)))
end
section
variable {K:PySem.W.Frag} {H:Hp} {Q:VK}
theorem oD {i j:Int}(q:Q (.bl (decide (i=j))) H):lK K (.int i) (.int j) H Q:= .inl (fq q)
theorem oR {i j:Str}(q:Q (.bl (decide (i=j))) H):lK K (.str i) (.str j) H Q:= .inl (gr q)
end
end L2
set_option Elab.async false
set_option linter.all false
set_option maxRecDepth 100000
set_option maxHeartbeats 4000000
namespace L2
open PySem PySem.Spec PyProof.Rows
section
variable {K:PySem.W.Frag} {σ:St} {H H' H1:Hp} {Q:VK} {d:Addr} {kvs:List (g4×V)} {o:Obj}
def nf:HO→Bool
 | .frz _ _=>false
 |_=>true
def Le (H H':Hp):Prop:=∀a u,nf u=true→Rd H a u→Rd H' a u
theorem Le.trans (a:Le H H1)(b:Le H1 H'):Le H H':=fun x u n h=>b x u n (a x u n h)
theorem Same.le (s:Same H H'):Le H H':=fun a u _ h=>s.rd h
theorem hZ (h:H d=some (.dK kvs)):Le H (A8 d o kvs H):=fun a u n r=>by
 by_cases e:a=d
 ·subst e
  rcases r with r|⟨o',r⟩
  ·rw[h] at r;cases r
   exact .inr ⟨o,c8⟩
  ·rw[h] at r;cases r
 ·unfold A8 Rd
  rw[b0 e];exact r
theorem Le.tup {a:Addr}{xs:List V}(l:Le H H')(h:SqT K H a xs):SqT K H' a xs:=by
 rcases h with h|h
 ·exact .inl (l _ _ rfl h)
 ·exact .inr h
theorem Le.dic {a:Addr}(l:Le H H')(h:Rd H a (.dK kvs)):Rd H' a (.dK kvs):=l _ _ rfl h
abbrev C8:=Str×Str×Str
structure y4 where
 pts:List (Str×Str)
 ts:List (Str×C8)
def d0 (pts:List (Str×Str)):List (g4×V):=pts.map fun x=>(Sum.inr x.1,.str x.2)
def er (t:C8):List V:=[.str t.1,.str t.2.1,.str t.2.2]
def TieAt (K:PySem.W.Frag)(H:Hp)(kv:g4×V)(x:Str×C8):Prop:=kv.1=Sum.inr x.1∧∃a,kv.2= .ref a∧SqT K H a (er x.2)
def TiesIs (K:PySem.W.Frag)(H:Hp)(kvs:List (g4×V))(ts:List (Str×C8)):Prop:=Paired (TieAt K H) kvs ts
structure WebAt (K:PySem.W.Frag) (H:Hp) (a p q:Addr) (kvs:List (g4×V)) (W:y4):Prop where
 tup:SqT K H a [.ref p,.ref q]
 pts:Rd H p (.dK (d0 W.pts))
 ties:Rd H q (.dK kvs)
 ts:TiesIs K H kvs W.ts
theorem TieAt.mono {kv:g4×V}{x:Str×C8}(l:Le H H')(h:TieAt K H kv x):TieAt K H' kv x:=let ⟨e,a,ea,s⟩:=h;⟨e,a,ea,l.tup s⟩
theorem TiesIs.mono {ts:List (Str×C8)}(l:Le H H')(h:TiesIs K H kvs ts):TiesIs K H' kvs ts:=Paired.imp' (fun _ _ z=>z.mono l) h
theorem WebAt.mono {a p q:Addr}{W:y4}(l:Le H H')(h:WebAt K H a p q kvs W):WebAt K H' a p q kvs W:=⟨l.tup h.tup,l.dic h.pts,l.dic h.ties,h.ts.mono l⟩
theorem TiesIs.length {ts:List (Str×C8)}(h:TiesIs K H kvs ts):kvs.length=ts.length:=Paired.length h
theorem TiesIs.keys {ts:List (Str×C8)}(h:TiesIs K H kvs ts):kvs.map (·.1)=ts.map fun x=>Sum.inr x.1:=by
 unfold TiesIs at h
 induction h with
 |nil=>rfl
 |cons r _ ih=>rw[List.map_cons,List.map_cons,ih,r.1]
theorem TiesIs.get {ts:List (Str×C8)}{i:Nat}{kv:g4×V}(h:TiesIs K H kvs ts)(e:kvs[i]?=some kv):∃x,ts[i]?=some x∧TieAt K H kv x:=A1 h e
theorem TiesIs.val {ts:List (Str×C8)}{n:Str}:∀{kvs:List (g4×V)} {ts:List (Str×C8)},TiesIs K H kvs ts→n∈ts.map (·.1)→∃a x,i5 kvs (Sum.inr n:g4)=some (.ref a)∧(n,x)∈ts∧SqT K H a (er x)
 |_,_,.nil,h=>by simp at h
 |kv::r,x::ts,.cons t u,h=>by
  obtain⟨e,a,ea,s⟩:=t
  by_cases hn:x.1=n
  ·subst hn
   refine⟨a,x.2,?_,List.mem_cons_self,s⟩
   rw[p7 e,ea]
  ·have h':n∈ts.map (·.1):=by
    rcases List.mem_cons.mp h with z|z
    ·exact absurd z.symm hn
    ·exact z
   obtain⟨b,y,h1,h2,h3⟩:=TiesIs.val (ts:=ts) u h'
   refine⟨b,y,?_,List.mem_cons_of_mem _ h2,h3⟩
   rw[q8 (by rw[e];intro z;exact hn (Sum.inr.inj z))]
   exact h1
theorem B0 (pts:List (Str×Str)):(d0 pts).map (·.1)=pts.map fun x=>Sum.inr x.1:=by
 unfold d0
 rw[List.map_map];rfl
def lt (a b:Str):Bool:=decide (a.cps.toList<b.cps.toList)
def mQ (ss:List Str):Bool:=(ss.dropLast.zip ss.tail).all fun p=>lt p.1 p.2
theorem jG:∀a b:List Nat,ltCps a b=true∨a=b∨ltCps b a=true
 |[],[]=> .inr (.inl rfl)
 |[],_::_=> .inl rfl
 |_::_,[]=> .inr (.inr rfl)
 |x::r,y::t=>by
  rcases Nat.lt_trichotomy x y with h|h|h
  ·exact .inl (by simp [ltCps,h])
  ·subst h
   rcases jG r t with z|z|z
   ·exact .inl (by simp [ltCps,z])
   ·exact .inr (.inl (by rw[z]))
   ·exact .inr (.inr (by simp [ltCps,z]))
  ·exact .inr (.inr (by simp [ltCps,h]))
theorem xG {a b:Str}(h:ltCps b.cps.toList a.cps.toList=false)(hne:a≠b):lt a b=true:=by
 unfold lt
 rw[←ltCps_eq]
 rcases jG a.cps.toList b.cps.toList with z|z|z
 ·exact z
 ·exfalso
  apply hne
  obtain⟨⟨l⟩⟩:=a
  obtain⟨⟨m⟩⟩:=b
  have z':l=m:=z
  rw[z']
 ·rw[z] at h;cases h
theorem dg (x y:Str)(r:List Str):mQ (x::y::r)=(lt x y&&mQ (y::r)):=by
 unfold mQ
 simp [List.dropLast]
theorem Q8:∀{ss:List Str},sortedS ss=true→ss.Nodup→mQ ss=true
 |[],_,_=>rfl
 |[_],_,_=>rfl
 |x::y::r,h,n=>by
  have h':(!ltCps y.cps.toList x.cps.toList&&risingS y r)=true:=h
  rw[Bool.and_eq_true] at h'
  have n':=List.nodup_cons.mp n
  rw[dg,xG (by simpa using h'.1) (fun z=>n'.1 (by rw[z];exact List.mem_cons_self)),Q8 (ss:=y::r) h'.2 n'.2];rfl
end
end L2
set_option Elab.async false
set_option linter.all false
set_option maxRecDepth 100000
set_option maxHeartbeats 4000000
namespace L2
open PySem PySem.Spec PyProof.Rows
theorem Inv.off {X:Cx}{pins:List (Addr×Obj)}{σ:St}{H:Hp}{s:Shared}{C:Addr}{h':Heap}(I:Inv X pins σ H s)(hH:H C=none)(h0:X.s₀.heap.objs.size≤C)(h1:C≠X.env.locals)(h2:∀x c,X.env.cells.lookup x=some c→c≠C)(h3:∀p∈X.pn++pins,p.1≠C)(sb:Heap.SameBut C s.heap h'):Inv X pins σ H {s with heap:=h'}:=by
 refine I.call' (s':={s with heap:=h'}) (ch:=[C]) rfl ?_ ?_ I.bare fun b hb=>?_
 ·have same:∀b,b∉[C]→h'.get? b=s.heap.get? b:=fun b hb=>sb.2 b fun z=>hb (by rw[z];exact List.mem_cons_self)
  refine⟨fun b o q n hb hx=>?_,fun b o q n hb hx=>?_,fun b o q n hx=>n,fun b o q hx=>?_,fun b xs q=>q,fun b o u q=>q,fun b ps q=>⟨#[],by rw[Array.append_empty];exact q⟩⟩
  ·show h'.get? b=_
   rw[same b hx];exact q
  ·exact⟨o.slots,(same b hx).trans q⟩
  ·exact⟨o,(same b hx).trans q⟩
 ·refine fun b ob e=>(I.hok b ob e).stay (fun c w' hc q=>(sb.2 c ?_).trans q) (fun _ q=>q) fun _ _ q=>q
  rintro rfl
  rcases hc with rfl|hc
  ·rw[hH] at e;cases e
  ·rw[hH] at hc;cases hc
 ·rw[List.mem_singleton.mp hb]
  exact⟨.inr h0,h1,h2,h3⟩
theorem iP {X:Cx}{own:List Str}{js:List Nat}{scope:Scope}{tg iter elt:Expr}{ifs:List Expr}{pos spos py:Pos}{g:TG}{ti:TT}{te:TE}{wi:gQ}{i:Nat}{y:Str}(hN:X.N.Nodup)(hy:X.N[i]?=some y)(hl:sO X.env.scope y)(S:vW X own js scope=true)(hc:X.calm=true)(hit:qP X tg iter wi)
  (hg:∀C s H fp,PG (R8 X own js scope C s H fp) tg g) (hi:∀C s H fp,iB (R8 X own js scope C s H fp) ifs ti) (he:∀C s H fp,PE (R8 X own js scope C s H fp) elt te)
  (hsw:swapsWith (.ListComp elt [⟨tg,iter,ifs,0⟩] scope pos) (some (.Name y py)) spos.line X.env=pure true)
  (hf:X.fn y=true∨X.env.scope.names.lookup y=some .local)
  (hs:∀x,foldedSetIterable iter X.env x=pure x):
  PS X (.Assign [.Name y py] (.ListComp elt [⟨tg,iter,ifs,0⟩] scope pos) spos) (iL (bN own js wi g ti te) (O1 i)):=by
 have SB:=nQ S
 intro pins s σ H D I h
 rw[exec_Assign_Name_used _ _ _ _ hsw]
 refine wpAny_bind (wpAny_standAt (wpAny_bind ?_))
 show wpAny _ X.A (do let _←comprehension (.ListComp elt [⟨tg,iter,ifs,0⟩] scope pos) scope X.env _ (newList []) false (eval iter X.env) (some (assign (.Name y py) X.env))) _ _ s
 refine wpAny_bind (wpAny_mono (wpAny_comprehension_free (use:=some (assign (.Name y py) X.env)) (Q:=fun _ s'=>SP X pins D .next s') rfl hs (U3 (SB.cells I)) SB.kind SB.names (A2 (hit pins s σ H _ I h) fun v s1 h1=>A2 h1 fun itv s2 h2=>?_)) (fun _ s' hq=>wpAny_pure (wpAny_pure hq)) fun _ _ e=>e)
 obtain⟨it,fp,tn,J,H2,e,I2,T,st2,f2,th,hth,W,⟨m0,w0⟩,turn⟩:=h2
 subst e
 refine wpAny_newObj_type (wpAny_newFunctionEnv SB.nocell (by intro y hy;simp at hy) (fun h₁ hns₁ hsb₁=>?_) SB.kind)
 dsimp only at hns₁ hsb₁⊢
 generalize hH2:s2.heap.push {cls:= .type "list",dict:=none,data:= .seq ([]:List Value).toArray}=G2 at hns₁ hsb₁⊢
 have hCs:G2.objs.size=s2.heap.objs.size+1:=by rw[←hH2,Heap.size_push]
 have hDC:s2.heap.objs.size≠G2.objs.size:=by rw[hCs];exact Nat.ne_of_lt (Nat.lt_succ_self _)
 have hC:s2.heap.objs.size≤G2.objs.size:=by rw[hCs];exact Nat.le_succ _
 have old:∀b o,s2.heap.get? b=some o→h₁.get? b=some o:=fun b o e=>
  hsb₁.extBut b o (Nat.ne_of_lt (Nat.lt_of_lt_of_le (Heap.lt_size e) hC)) (Heap.get?_push_of_some _ (hH2▸Heap.get?_push_of_some _ e))
 have off:∀b o,s2.heap.get? b=some o→b≠G2.objs.size:=fun b o e=>Nat.ne_of_lt (Nat.lt_of_lt_of_le (Heap.lt_size e) hC)
 have hob:∀b∈fp,∃o,s2.heap.get? b=some o:=fun b hb=>let ⟨o,e,_⟩:=T.obj _ _ st2 b hb;⟨o,e⟩
 have hacc:h₁.get? s2.heap.objs.size=some {cls:= .type "list",data:= .seq ([]:List Value).toArray}:=
  hsb₁.extBut _ _ hDC (Heap.get?_push_of_some _ (hH2▸Heap.get?_push_size _ rfl))
 have loop:∀s3:Shared,s3={s2 with heap:=h₁,toks:=s2.toks+([]:List (Str×Value)).length}→
   codeAny (model X.prog X.w) X.A (.compLoop (.ListComp elt [⟨tg,iter,ifs,0⟩] scope pos) 0 (.ref it) (.ref s2.heap.objs.size) (compEnvC scope (X8 scope X.env) G2.objs.size X.env))
    (compPost (model X.prog X.w) X.A X.xe (some (assign (.Name y py) X.env)) (fun _ s'=>SP X pins D .next s') (.ref s2.heap.objs.size) G2.objs.size) s3:=by
  rintro s3 rfl
  refine df (K:=fun out H'=>O1 i (.ref s2.heap.objs.size) σ (th (i6 H' s2.heap.objs.size (.lst out))) D.nx) SB hc T I2 f2 (Nat.le_refl _) hC hDC hob (hg _ _ _ _) (hi _ _ _ _) (he _ _ _ _) W (fun i m out H' w=>?_) (fun out H' s' B hl' k=>?_) w0
   ⟨Inv.block SB I2 f2 hob hC hns₁ old,I2.hok.fresh (Nat.le_refl _),[],_,.nil,hacc⟩ (T.keep _ _ _ st2 fun b _ o e=>old b o e) (fun b hb=>(f2 b hb).1)
  ·rcases turn i m out H' w with⟨a,b⟩|c
   ·exact .inl ⟨a,fun n=>b _ n⟩
   ·exact .inr c
  ·obtain⟨mm,hn,_⟩:=B.inv.loc
   have hHC:H' G2.objs.size=none:=B.inv.free
   have IJ:=B.out I2 f2 (Nat.le_refl _) hC hDC hl' (h':=s'.heap) (Heap.SameBut.refl _ _)
   show wpAny _ X.A (assign (.Name y py) X.env (.ref s2.heap.objs.size)) _ _ s'
   refine wpAny_assign_Name (dz IJ hN hy hl (v:= .ref s2.heap.objs.size) rfl (fun s'' I'' hx=>?_) hf)
   obtain⟨a,sa,ha⟩:=hx
   have haC:G2.objs.size≠a:=by
    rcases ha with rfl|ha
    ·exact Ne.symm (Nat.ne_of_lt (Nat.lt_of_lt_of_le I2.lt hC))
    ·obtain⟨_,o,ho,_⟩:=I2.cell _ _ ha
     exact Ne.symm (off _ _ ho)
   refine⟨mm,hn.sameBut sa haC,fun h' sb=>⟨_,_,hth _ _ _ _ (I''.off (by rw[b0 (Ne.symm hDC)];exact hHC) (Nat.le_trans I2.sz hC) (Ne.symm (Nat.ne_of_lt (Nat.lt_of_lt_of_le I2.lt hC))) (fun x c e=>?_) (fun p hp=>off _ _ (I2.pin p hp).1) sb),k⟩⟩
   obtain⟨_,o,ho,_⟩:=I2.cell _ _ e
   exact off _ _ ho
 exact codeAny_compStart_list (loop _ rfl) (T.self _ 0 _ _ _ (T.keep _ _ _ st2 fun b _ o e=>old b o e) (loop _ rfl))
theorem V5 {X:Cx}{own:List Str}{js:List Nat}{scope:Scope}{tg iter elt:Expr}{ifs:List Expr}{pos spos py:Pos}{g:TG}{ti:TT}{te:TE}{wi:gQ}{i:Nat}{y:Str}(hN:X.N.Nodup)(hy:X.N[i]?=some y)(hl:sO X.env.scope y)(S:vW X own js scope=true)(hc:X.calm=true)(hit:QI X tg iter wi)
  (hg:∀C s H fp,QG (R8 X own js scope C s H fp) tg g) (hi:∀C s H fp,yC (R8 X own js scope C s H fp) ifs ti) (he:∀C s H fp,QE (R8 X own js scope C s H fp) elt te)
  (hsw:swapsWith (.ListComp elt [⟨tg,iter,ifs,0⟩] scope pos) (some (.Name y py)) spos.line X.env=pure true:=by rfl)
  (hf:X.fn y=true∨X.env.scope.names.lookup y=some .local:=by first|exact .inl rfl|exact .inr rfl)
  (hs:∀x,foldedSetIterable iter X.env x=pure x:=by intro _;rfl):QS X (.Assign [.Name y py] (.ListComp elt [⟨tg,iter,ifs,0⟩] scope pos) spos) (iL (bN own js wi g ti te) (O1 i)):=
 ⟨iP hN hy hl S hc hit.r (fun C s H fp=>(hg C s H fp).r) (fun C s H fp=>(hi C s H fp).r) (fun C s H fp=>(he C s H fp).r) hsw hf hs⟩
end L2
set_option Elab.async false
set_option linter.all false
set_option maxRecDepth 100000
set_option maxHeartbeats 4000000
namespace L2
open PySem PySem.Spec PyProof.Rows
open PySem.AutoSeq1 (wpAny_loadPart')
def NcP (P:Program)(w:World)(A:Around)(s:Shared)(y x:Value)(b:Bool):Prop:=∀(E:Value→Shared→Prop) (Q:Value→Shared→Prop),Q (.bool b) s→wpAny (model P w) A (richCompare .NotEq y x) Q E s
theorem vM {P:Program}{w:World}(l m:Addr)(xs ys:Array Value)(n1 n2:Nat)(d1 d2:Option Addr)(s1 s2:Array (Option Value))(f:Nat→Bool):
  MeetsIn P w (Builtin.«tuple.__ne__» ⟨[.ref l,.ref m],[]⟩) (fun A R s=>
   s.heap.get? l=some {cls:= .type "tuple",dict:=d1,data:= .seq xs n1,slots:=s1}∧s.heap.get? m=some {cls:= .type "tuple",dict:=d2,data:= .seq ys n2,slots:=s2}∧
   (∀j (g1:j<xs.size) (g2:j<ys.size),EqP P w A.in1 s xs[j] ys[j] (f j))∧
   R (.ok (.ret (.bool (!((List.range (min xs.size ys.size)).all f&&xs.size==ys.size))))) s):=
 .of_wp fun A R s hyp=>by
  obtain⟨hp,gg,dr,tk,os⟩:=s
  obtain⟨e1,e2,he,fin⟩:=hyp
  have sub:=AutoSeq1.sub_tuple_tuple
  have len:(xs.toList.zip ys.toList).length=min xs.size ys.size:=by simp
  wp_walk using wpAny_loadPart' e1,wpAny_loadPart' e2,wpAny_forIn_list _ (fun more acc st=>acc.1=none∧st=⟨hp,gg,dr,tk,os⟩∧∃i,more=(xs.toList.zip ys.toList).drop i∧
   R (.ok (.ret (.bool (!(((List.range (min xs.size ys.size)).drop i).all f&&xs.size==ys.size))))) ⟨hp,gg,dr,tk,os⟩) _
  case turn=>
   rintro⟨y,x⟩ more acc st ⟨ha,rfl,i,hi,hR⟩
   have lt:i<(xs.toList.zip ys.toList).length:=by
    rcases Nat.lt_or_ge i (xs.toList.zip ys.toList).length with z|z
    ·exact z
    ·rw[List.drop_of_length_le z] at hi
     cases hi
   have lm:i<min xs.size ys.size:=len▸lt
   have lx:i<xs.size:=Nat.lt_of_lt_of_le lm (Nat.min_le_left _ _)
   have ly:i<ys.size:=Nat.lt_of_lt_of_le lm (Nat.min_le_right _ _)
   rw[List.drop_eq_getElem_cons lt] at hi
   injection hi with h1 h2
   have q1:y=xs[i]:=by simpa using congrArg Prod.fst h1
   have q2:x=ys[i]:=by simpa using congrArg Prod.snd h1
   subst q1 q2
   have dr1:(List.range (min xs.size ys.size)).drop i=i::(List.range (min xs.size ys.size)).drop (i+1):=by simp [List.drop_eq_getElem_cons,lm]
   rw[dr1,List.all_cons] at hR
   refine wpAny_bind (he i lx ly _ _ ?_)
   cases hf:f i with
   |true=>
    rw[hf] at hR
    wp_walk
    exact⟨rfl,rfl,i+1,h2,by simpa using hR⟩
   |false=>
    rw[hf] at hR
    wp_walk
    exact⟨_,rfl,by simpa using hR⟩
  case fin=>
   rintro⟨c1,c2⟩ st ⟨ha,rfl,i,hi,hR⟩
   simp only at ha
   subst ha
   have ge:min xs.size ys.size≤i:=by
    rcases Nat.lt_or_ge i (xs.toList.zip ys.toList).length with z|z
    ·rw[List.drop_eq_getElem_cons z] at hi
     cases hi
    ·exact len▸z
   rw[List.drop_of_length_le (by simpa using ge)] at hR
   wp_walk
   exact⟨_,rfl,by simpa [Builtin.Tuple.tupleCompareSizes,bne] using hR⟩
  case h=>
   exact⟨rfl,rfl,0,rfl,by simpa using fin⟩
theorem NcP.tup {P:Program}{w:World}{A:Around}{s:Shared}{l m:Addr}{xs ys:Array Value}{f:Nat→Bool}(hl:s.heap.IsTuple l xs)(hm:s.heap.IsTuple m ys)(hu:A.units<cLine)
  (he:∀j (g1:j<xs.size) (g2:j<ys.size),EqP P w A.in1 s xs[j] ys[j] (f j)):NcP P w A s (.ref l) (.ref m) (!((List.range (min xs.size ys.size)).all f&&xs.size==ys.size)):=fun E Q q=>by
 obtain⟨⟨c1,d1,a1,s1⟩,o1,k1,n1,t1⟩:=id hl
 obtain⟨⟨c2,d2,a2,s2⟩,o2,k2,n2,t2⟩:=id hm
 simp only at k1 t1 k2 t2
 subst k1 t1 k2 t2
 refine wpAny_richCompare_same_room (op:= .NotEq) ⟨_,o1,rfl⟩ ⟨_,o2,rfl⟩ PySem.F.slot_tuple_ne (call_meetsIn PySem.F.slot_tuple_ne ⟨_,o1,rfl⟩ PySem.F.entry_tuple_ne (PySem.F.args_tuple_ne_2 _ _) (vM l m xs ys n1 n2 d1 d2 s1 s2 f) ⟨o1,o2,he,?_⟩) hu
 exact⟨(fun z=>nomatch z),q⟩
section
variable {X:Cx} {pins:List (Addr×Obj)} {σ:St} {H:Hp} {s:Shared} {A:Around}
def xY (K:PySem.W.Frag):R2:=fun x y H Q=>∃a b p q p' q' r r',x= .ref a∧y= .ref b∧SqT K H a [.ref p,.ref q]∧SqT K H b [.ref p',.ref q']∧EqD K H p p' r∧EqD K H q q' r'∧Q (.bl (!(r&&r'))) H
theorem tY (hu:X.A.units+64<cLine):OpR X (compareOp .NotEq) (xY X.K):=by
 intro pins s σ H x y v u Q I rx ry h
 obtain⟨a,b,p,q,p',q',r,r',rfl,rfl,ha,hb,h1,h2,k⟩:=h
 cases rx
 cases ry
 obtain⟨its,v1,t1,_⟩:=I.tuple ha
 obtain⟨its',v2,t2,_⟩:=I.tuple hb
 obtain⟨_,_,rfl,e1,e2⟩:=V1 v1
 obtain⟨_,_,rfl,e3,e4⟩:=V1 v2
 cases e1
 cases e2
 cases e3
 cases e4
 refine NcP.tup (P:=X.prog) (w:=X.w) (f:=fun j=>if j=0 then r else r') (show s.heap.IsTuple a _ from t1) (show s.heap.IsTuple b _ from t2) (by lia) (fun j g1 g2=>?_) _ _ ⟨.bl (!(r&&r')),H,I,by show Value.bool _=Value.bool _;simp [List.range_succ],k⟩
 have g:j<2:=by simpa using g1
 match j,g with
 |0,_=>exact h1.at_ I (by show X.A.units+1+16<_;lia)
 |1,_=>exact h2.at_ I (by show X.A.units+1+16<_;lia)
def wU (K:PySem.W.Frag):R2:=fun x y H Q=>∃a b xs ys,x= .ref a∧y= .ref b∧SqL K H a xs∧SqL K H b ys∧xs.all x6=true∧ys.all x6=true∧Q (.bl (!G4 xs ys)) H
theorem ux (hu:X.A.units+64<cLine):OpR X (compareOp .NotEq) (wU X.K):=by
 intro pins s σ H x y v u Q I rx ry h
 obtain⟨a,b,xs,ys,rfl,rfl,ha,hb,fx,fy,k⟩:=h
 cases rx
 cases ry
 obtain⟨its,r1,p1,z1⟩:=I.list ha
 obtain⟨its',r2,p2,z2⟩:=I.list hb
 have l1:=r1.length
 have l2:=r2.length
 have e3:its.toArray.size=xs.length:=by simp [l1]
 have e4:its'.toArray.size=ys.length:=by simp [l2]
 by_cases hl:xs.length=ys.length
 ·have q:=SeqAt.RcNeAt.lists (A:=X.A) (e:=fun j=>U1 (xs.getD j .non) (ys.getD j .non)) p1.isList p2.isList (by rw[e3,e4];exact hl) (by lia) fun j g1 g2=>by
   have g1':j<its.length:=by simpa using g1
   have g2':j<its'.length:=by simpa using g2
   have x1:xs[j]?=some (xs[j]'(by lia)):=by simp [show j<xs.length by lia]
   have y1:ys[j]?=some (ys[j]'(by lia)):=by simp [show j<ys.length by lia]
   obtain⟨u1,hu1,ru1⟩:=r1.get x1
   obtain⟨u2,hu2,ru2⟩:=r2.get y1
   have e1:its.toArray[j]=u1:=by
    have:=List.getElem?_eq_getElem g1'
    rw[hu1] at this
    simpa using(Option.some.inj this).symm
   have e2:its'.toArray[j]=u2:=by
    have:=List.getElem?_eq_getElem g2'
    rw[hu2] at this
    simpa using(Option.some.inj this).symm
   rw[e1,e2]
   have d1:xs.getD j .non=xs[j]'(by lia):=by rw[List.getD_eq_getElem?_getD,x1];rfl
   have d2:ys.getD j .non=ys[j]'(by lia):=by rw[List.getD_eq_getElem?_getD,y1];rfl
   rw[d1,d2]
   exact N0 ru1 ru2 (List.all_eq_true.mp fx _ (List.getElem_mem _)) (List.all_eq_true.mp fy _ (List.getElem_mem _))
  have e5:=B2 xs ys
  rw[hl,Nat.min_self,beq_self_eq_true,Bool.and_true] at e5
  rw[e3,hl,e5] at q
  exact q X.prog X.w _ _ ⟨.bl _,H,I,rfl,k⟩
 ·refine SeqAt.RcNeAt.lists_lengths (A:=X.A) p1.isList p2.isList (by rw[e3,e4];simpa using hl) (by lia) X.prog X.w _ _ ⟨.bl _,H,I,?_,k⟩
  rw[X7 hl];rfl
def xm (K:PySem.W.Frag):R2:=fun x y H Q=>(∃a b xs ys,x= .ref a∧y= .ref b∧SqT K H a xs∧SqT K H b ys∧xs.all x6=true∧ys.all x6=true∧Q (.bl (!G4 xs ys)) H)∨(∃a xs,x= .non∧y= .ref a∧SqT K H a xs∧Q (.bl true) H)
theorem uY (hu:X.A.units+64<cLine):OpR X (compareOp .NotEq) (xm X.K):=by
 intro pins s σ H x y v u Q I rx ry h
 rcases h with⟨a,b,xs,ys,rfl,rfl,ha,hb,fx,fy,k⟩|⟨a,xs,rfl,rfl,ha,k⟩
 ·cases rx
  cases ry
  obtain⟨its,r1,p1,z1⟩:=I.tuple ha
  obtain⟨its',r2,p2,z2⟩:=I.tuple hb
  have l1:=r1.length
  have l2:=r2.length
  have q:=SeqAt.RcNeAt.tuples (A:=X.A) (e:=fun j=>U1 (xs.getD j .non) (ys.getD j .non)) (show s.heap.IsTuple a its.toArray from p1) (show s.heap.IsTuple b its'.toArray from p2) (by lia) fun j g1 g2=>by
   have g1':j<its.length:=by simpa using g1
   have g2':j<its'.length:=by simpa using g2
   have x1:xs[j]?=some (xs[j]'(by lia)):=by simp [show j<xs.length by lia]
   have y1:ys[j]?=some (ys[j]'(by lia)):=by simp [show j<ys.length by lia]
   obtain⟨u1,hu1,ru1⟩:=r1.get x1
   obtain⟨u2,hu2,ru2⟩:=r2.get y1
   have e1:its.toArray[j]=u1:=by
    have:=List.getElem?_eq_getElem g1'
    rw[hu1] at this
    simpa using(Option.some.inj this).symm
   have e2:its'.toArray[j]=u2:=by
    have:=List.getElem?_eq_getElem g2'
    rw[hu2] at this
    simpa using(Option.some.inj this).symm
   rw[e1,e2]
   have d1:xs.getD j .non=xs[j]'(by lia):=by rw[List.getD_eq_getElem?_getD,x1];rfl
   have d2:ys.getD j .non=ys[j]'(by lia):=by rw[List.getD_eq_getElem?_getD,y1];rfl
   rw[d1,d2]
   exact N0 ru1 ru2 (List.all_eq_true.mp fx _ (List.getElem_mem _)) (List.all_eq_true.mp fy _ (List.getElem_mem _))
  have e3:its.toArray.size=xs.length:=by simp [l1]
  have e4:its'.toArray.size=ys.length:=by simp [l2]
  rw[e3,e4,B2] at q
  exact q X.prog X.w _ _ ⟨.bl _,H,I,rfl,k⟩
 ·cases rx
  cases ry
  obtain⟨its,r1,p1,z1⟩:=I.tuple ha
  exact SeqAt.RcNeAt.none_tuple (A:=X.A) (show s.heap.IsTuple a its.toArray from p1) (by lia) X.prog X.w _ _ ⟨.bl true,H,I,rfl,k⟩
def sW (K:PySem.W.Frag):R2:=fun x y H Q=>∃a b ka kb r0,x= .ref a∧y= .ref b∧Rd H a (.dK ka)∧Rd H b (.dK kb)∧EqH K H kb ka r0∧Q (.bl (ka.length==kb.length&&r0)) H
def sN (K:PySem.W.Frag):R2:=fun x y H Q=>∃a b ka kb r0,x= .ref a∧y= .ref b∧Rd H a (.dK ka)∧Rd H b (.dK kb)∧EqH K H kb ka r0∧Q (.bl (!(ka.length==kb.length&&r0))) H
theorem rO (hu:X.A.units+64<cLine):OpR X (compareOp .Eq) (sW X.K):=by
 intro pins s σ H x y v u Q I rx ry h
 obtain⟨a,b,ka,kb,r0,rfl,rfl,h1,h2,h3,k⟩:=h
 cases rx
 cases ry
 obtain⟨z1,d1,va,ra,da⟩:=C3 I.hok h1
 obtain⟨z2,d2,vb,rb,db⟩:=C3 I.hok h2
 have l1:=KV.length ra
 have l2:=KV.length rb
 exact PySem.W.keq_eq (knd:=h8 X.prog X.w) d1 d2 da db (by lia) (fun _=>h3.hits (A:=X.A.in1) I (by show X.A.units+1+8<_;lia) rb ra) ⟨.bl _,H,I,rfl,by rw[←l1,←l2];exact k⟩
theorem qf (hu:X.A.units+64<cLine):OpR X (compareOp .NotEq) (sN X.K):=by
 intro pins s σ H x y v u Q I rx ry h
 obtain⟨a,b,ka,kb,r0,rfl,rfl,h1,h2,h3,k⟩:=h
 cases rx
 cases ry
 obtain⟨z1,d1,va,ra,da⟩:=C3 I.hok h1
 obtain⟨z2,d2,vb,rb,db⟩:=C3 I.hok h2
 have l1:=KV.length ra
 have l2:=KV.length rb
 exact PySem.W.keq_ne (knd:=h8 X.prog X.w) d1 d2 da db (by lia) (fun _=>h3.hits (A:=X.A.in1) I (by show X.A.units+1+8<_;lia) rb ra) ⟨.bl _,H,I,rfl,by rw[←l1,←l2];exact k⟩
def vp (K:PySem.W.Frag):R2:=fun x y H Q=>lK K x y H Q∨sW K x y H Q
theorem yM (K:PySem.W.Frag){k:Nat}(hr:Room k X.A)(h:X.K=K:=by rfl):OpR X (compareOp .Eq) (vp K):=(Ax K hr h).or (h▸rO hr.units)
def xu (K:PySem.W.Frag):R2:=fun x y H Q=>zR x y H Q∨wU K x y H Q∨xm K x y H Q∨xY K x y H Q∨sN K x y H Q
theorem Ao (K:PySem.W.Frag){k:Nat}(hr:Room k X.A)(h:X.K=K:=by rfl):OpR X (compareOp .NotEq) (xu K):=h▸op_ne.or ((ux hr.units).or ((uY hr.units).or ((tY hr.units).or (qf hr.units))))
end
section
variable {K:PySem.W.Frag} {H:Hp} {Q:VK}
theorem zu {x y:V}(q:lK K x y H Q):vp K x y H Q:= .inl q
end
section
variable {X:Cx} {o e f:Expr} {apos cpos:Pos} {td ty tx:TE} {name:Str}
theorem ye (hb:attributeBase o name X.env (eval o X.env)=eval o X.env)(hl:(apos.endLine==cpos.line)=true)(h:j0 e=true)(h':j0 f=true):M2 X o name apos e f cpos:=by
 have z:starEach [e,f] X.env=[(false,eval e X.env),(false,eval f X.env)]:=by rw[D6 (es:=[f]) h,D6 (es:=[]) h'];rfl
 have z2:backTo cpos (starEach [e,f] X.env)=[(false,eval e X.env),(false,eval f X.env)]:=by rw[z];rfl
 exact⟨hb,by rw[z2];rfl,hl,z2⟩
theorem wF (hu:X.A.units+1<cLine)(ho:QE X o td)(he:QE X e ty)(hf:QE X f tx)(hb:attributeBase o "get" X.env (eval o X.env)=eval o X.env:=by rfl)(hl:(apos.endLine==cpos.line)=true:=by rfl)(h:j0 e=true:=by rfl)(h':j0 f=true:=by rfl):
  QE X (.Call (.Attribute o "get" apos) [e,f] [] cpos) (gY td ty tx):=⟨ow hu ho.r he.r hf.r (ye hb hl h h')⟩
end
section
variable {σ:St} {H:Hp} {Q:VK} {td ty tx:TE}
end
end L2
set_option Elab.async false
set_option linter.all false
set_option maxRecDepth 100000
set_option maxHeartbeats 4000000
namespace L2
open PySem PySem.Spec PyProof.Rows
open Sem (wp)
section
variable {prog:Program} {w:World} {KT:Type} [DecidableEq KT] {knd:KeyKind prog w KT} {A:Around} {E:Value→Shared→Prop} {s:Shared}
end
section
variable {prog:Program} {w:World} {KT:Type} [DecidableEq KT] {knd:KeyKind prog w KT} {A:Around} {E:Value→Shared→Prop} {s:Shared}
open PySem.AutoSeq1 (wpAny_loadPart')
end
section
variable {X:Cx} {a:Expr} {t:TA} {p pos:Pos}
end
section
variable {K:PySem.W.Frag} {σ:St} {H:Hp} {ta:TA} {R:It→(Hp→Hp)→Hp→Prop}
end
end L2
set_option Elab.async false
set_option linter.all false
set_option maxRecDepth 100000
set_option maxHeartbeats 4000000
namespace L2
open PySem PySem.Spec PyProof.Rows
open Sem (wp)
theorem eQ:typeLookup (.type "list") "keys"=pure none:=by rw[typeLookup_type,builtinLookup_eq_fast];kernel_rfl
section
variable {prog:Program} {w:World} {A:Around} {E:Value→Shared→Prop} {s:Shared}
theorem lz {a:Addr}{o:Obj}{xs:Array Value}{k:Nat}{Q:Option Value→Shared→Prop}
  (hx:s.heap.get? a=some o) (hc:o.cls= .type "list") (hdat:o.data= .seq xs k) (hd:o.dict=none) (hA:A.handled=none)
  (h:∀h' tk,(∀b ob,s.heap.get? b=some ob→h'.get? b=some ob)→Q none {s with heap:=h',toks:=tk}):
  wpAny (model prog w) A (getAttr? (.ref a) "keys") Q E s:=by
 obtain⟨c,dct,dat,sl⟩:=o
 simp only at hc hdat hd
 subst hc hdat hd
 obtain⟨hp,g,d,tk,os⟩:=s
 have hT:∀tk',(⟨hp,g,d,tk',os⟩:Shared).TypeIs (.ref a) "list":=fun _=>⟨_,hx,rfl⟩
 have f1:=sub_AttributeError
 have f3:=F.slot_list_getattribute.lookup
 have f4:=F.slot_list_getattribute.bind (.ref a)
 have f5:=am_list_getattr_none
 unfold getAttr? getAttrBy? getAttrBy
 repeat(any_goals (first|assumption|exact hT _|((with_reducible show wpAny _ _ (call (Value.builtin "list.__getattribute__") _ _) _ _ _);refine call_meets F.slot_list_getattribute (hT _) am_entry_list_getattribute (F.args_list_getattribute_2 _ _) (meets_getattribute_miss_list a xs k sl "keys" _ eQ (by decide+kernel) (by decide+kernel)) ⟨hx,hA,fun h' tk' e hx'=>?_⟩)|wp_step))
 obtain⟨t',u',he⟩:=hx'.there
 show wpAny _ _ (getattributeRaised _ _ _ _ _ _ _) _ _ _
 unfold getattributeRaised
 repeat(any_goals (first|assumption|wp_step))
 exact h _ _ hx'.keeps
end
theorem C0:entryFor table "dict.update.loop"=some Builtin.«dict.update.loop»:=entryFor_of_tree (by kernel_rfl)
theorem j9:plainId "dict.update.loop"=true:=by decide+kernel
section
variable {prog:Program} {w:World} {KT:Type} [DecidableEq KT] {knd:KeyKind prog w KT} {A:Around} {E:Value→Shared→Prop}
def PairAt (knd:KeyKind prog w KT)(h:Heap)(d it:Addr)(u:Value)(kv:KT×Value):Prop:=∃t key,u= .ref t∧h.IsTuple t #[key,kv.2]∧knd.is kv.1 key=true∧t≠d∧t≠it
theorem PairAt.keep {h h':Heap}{d it:Addr}{u:Value}{kv:KT×Value}(p:PairAt knd h d it u kv)(k:∀b o,b≠d→b≠it→h.get? b=some o→h'.get? b=some o):PairAt knd h' d it u kv:=by
 obtain⟨t,key,e,⟨o,ho,r⟩,hk,h1,h2⟩:=p
 exact⟨t,key,e,⟨o,k t o h1 h2 ho,r⟩,hk,h1,h2⟩
theorem ke {d it l:Addr}{items:List Value}{res:Value}(hh:A.handled=none)(hdi:d≠it)(hli:l≠it)(hld:l≠d):
  ∀(more:List (KT×Value)) (i:Nat) (s:Shared) (kvs:List (KT×Value)) (R:Result→Shared→Prop),
   s.heap.IsListIter it l i→s.heap.IsList l items.toArray→Paired (PairAt knd s.heap d it) (items.drop i) more→s.heap.DictOf knd d kvs→kvs.length+more.length≤sizeLine→
   (∀h' tk,(∀b o,b≠d→b≠it→s.heap.get? b=some o→h'.get? b=some o)→h'.DictOf knd d (more.foldl (fun a x=>stored a x.1 x.2) kvs)→R (.ok (.ret res)) {s with heap:=h',toks:=tk})→
   codeAny (model prog w) A (.builtin "dict.update.loop" ⟨[.ref d,.ref it,rawInt (i:Int),res],[]⟩) R s:=by
 intro more
 induction more with
 |nil=>
  intro i s kvs R hit hl hp hd hz hR
  have hx:items.toArray[i]?=none:=by
   have hn:items.drop i=[]:=by cases hp':items.drop i with
    |nil=>rfl
    |cons x r=>rw[hp'] at hp;cases hp
   have:=List.drop_eq_nil_iff.mp hn
   simp;lia
  refine codeAny_builtin C0 ?_
  rw[Around.under_plainId j9 _]
  show wpAny _ A.in1 (pyNext (.ref it)>>=_) _ _ s
  refine wpAny_bind (wpAny_pyNext_list_end (A:=A.in1) hh hit hl hx fun h' eb=>?_)
  show wpAny _ A.in1 (Builtin.Dict.addKeywords d []>>=_) _ _ _
  refine wpAny_bind (wpAny_pure (wpAny_pure ?_))
  exact hR h' s.toks (fun b o h1 h2 e=>eb b o h2 e) (hd.extBut eb hdi)
 |cons kv more ih=>
  intro i s kvs R hit hl hp hd hz hR
  obtain⟨x,hx,hp0,hp1⟩:∃x,items.toArray[i]?=some x∧PairAt knd s.heap d it x kv∧Paired (PairAt knd s.heap d it) (items.drop (i+1)) more:=by
   cases hp':items.drop i with
   |nil=>rw[hp'] at hp;cases hp
   |cons x r=>
    rw[hp'] at hp
    cases hp with
    |cons h1 h2=>
     refine⟨x,?_,h1,?_⟩
     ·have z:=congrArg List.head? hp'
      simpa using z
     ·have z:=congrArg List.tail hp'
      rw[List.tail_drop] at z
      rw[z];exact h2
  obtain⟨t,key,rfl,⟨ot,hot,hct,nt,hdt⟩,hkey,h1,h2⟩:=hp0
  refine codeAny_builtin C0 ?_
  rw[Around.under_plainId j9 _]
  show wpAny _ A.in1 (pyNext (.ref it)>>=_) _ _ s
  refine wpAny_bind (wpAny_pyNext_list_item hit hl hx fun h' hit' hs'=>?_)
  have hot':h'.get? t=some ot:=hs'.extBut _ _ h2 hot
  refine wpAny_bind (wpAny_holding (wpAny_bind (wpAny_tryCatch ?_)))
  unfold Builtin.Dict.pairItems
  refine wpAny_bind (wpAny_typeOf (s:={s with heap:=h'}) ⟨_,hot',hct⟩ ?_)
  rw[if_pos (by decide)]
  refine wpAny_bind (wpAny_seqItems (s:={s with heap:=h'}) hot' hdt ?_)
  refine wpAny_pure ?_
  show wpAny _ A.in1 (holding [key,kv.2] (dictSet d key kv.2)) _ _ _
  refine wpAny_holding (wpAny_dictSet_pairs (s:={s with heap:=h'}) (kvs:=kvs) hkey (hd.extBut hs'.extBut hdi) (fun h'' dd hs''=>?_) (by simp only[List.length_cons] at hz;lia))
  have kp:∀b o,b≠d→b≠it→s.heap.get? b=some o→h''.get? b=some o:=fun b o hb1 hb2 e=>hs''.extBut b o hb1 (hs'.extBut b o hb2 e)
  refine wpAny_pure ⟨plainId_quiet j9 _,?_⟩
  refine ih (i+1) _ (stored kvs kv.1 kv.2) R ?_ ?_ (Paired.imp' (fun _ _ z=>z.keep kp) hp1) dd ?_ (fun h3 tk k3 d3=>hR h3 tk (fun b o e1 e2 e=>k3 b o e1 e2 (kp b o e1 e2 e)) d3)
  ·exact hit'.at fun o e=>hs''.extBut it o (Ne.symm hdi) e
  ·obtain⟨ol,hol,r⟩:=hl
   exact⟨ol,kp l ol hld hli hol,r⟩
  ·have z:=stored_length_le kvs kv.1 kv.2
   simp only[List.length_cons] at hz
   lia
theorem az {l:Addr}{items:List Value}{o:Obj}{n:Nat}{more:List (KT×Value)}{s:Shared}{Q:Value→Shared→Prop}(hh:A.handled=none)(ho:s.heap.get? l=some o)(hc:o.cls= .type "list")(hdat:o.data= .seq items.toArray n)(hdn:o.dict=none)(hz:more.length≤sizeLine)
  (hp:Paired (fun u kv=>∃t key,u= .ref t∧s.heap.IsTuple t #[key,kv.2]∧knd.is kv.1 key=true) items more)
  (h:∀h' tk,h'.DictOf knd s.heap.objs.size (more.foldl (fun a x=>stored a x.1 x.2) [])→(∀b o,s.heap.get? b=some o→h'.get? b=some o)→Q (.ref s.heap.objs.size) {s with heap:=h',toks:=tk}):
  wpAny (model prog w) A (call (.type "dict") [.ref l]) Q E s:=by
 refine callType_codes (Q₁:=fun obj s₁=>obj= .ref s.heap.objs.size∧s₁={s with heap:=s.heap.push {cls:= .type "dict",data:= .dict #[]}}) F.kt_called_dict (F.kt_typeCall_dict_1 _) F.entry_dict_init (kt_code_dict_new _ ⟨rfl,rfl⟩) ?_
 rintro obj s₁ ⟨rfl,rfl⟩
 have hnew:(s.heap.push {cls:= .type "dict",data:= .dict #[]}).DictOf knd s.heap.objs.size []:=Heap.DictOf.new s.heap
 have hl0:l≠s.heap.objs.size:=Nat.ne_of_lt (Heap.lt_size ho)
 refine⟨hnew.typeIs,F.args_dict_init_2 _ _,?_⟩
 unfold Builtin.«dict.__init__»
 refine wpAny_bind ?_
 unfold Builtin.Dict.selfAndRest
 refine wpAny_bind (wpAny_notOrdered_dict hnew.typeIs ?_)
 show wpAny _ _ (pure (s.heap.objs.size,[Value.ref l])) _ _ _
 refine wpAny_pure ?_
 show wpAny _ _ (Builtin.Dict.updateFrom "dict.__init__" s.heap.objs.size (.ref l) [] .none) _ _ _
 unfold Builtin.Dict.updateFrom
 have ho1:(s.heap.push {cls:= .type "dict",data:= .dict #[]}).get? l=some o:=Heap.get?_push_of_some _ ho
 refine wpAny_bind (wpAny_typeOf (s:={s with heap:=s.heap.push {cls:= .type "dict",data:= .dict #[]}}) ⟨_,ho1,hc⟩ ?_)
 rw[if_pos (by decide)]
 refine wpAny_bind (lz (s:={s with heap:=s.heap.push {cls:= .type "dict",data:= .dict #[]}}) ho1 hc hdat hdn hh fun h2 tk2 k2=>?_)
 rw[if_pos (show((none:Option Value).isNone)=true from rfl)]
 have ho2:h2.get? l=some o:=k2 l o ho1
 have hd2:h2.DictOf knd s.heap.objs.size []:=let ⟨od,es,ep,e,r⟩:=hnew;⟨od,es,ep,k2 _ _ e,r⟩
 have hlt:s.heap.objs.size<h2.objs.size:=by obtain⟨od,es,ep,e,r⟩:=hd2;exact Heap.lt_size e
 have up:∀b ob,s.heap.get? b=some ob→(h2.push {cls:= .type "list_iterator",data:= .fields #[.ref l,.int 0 0]}).get? b=some ob:=fun b ob e=>Heap.get?_push_of_some _ (k2 b ob (Heap.get?_push_of_some _ e))
 refine wpAny_bind (wpAny_rule (wpAny_bind (wpAny_pyIter_list (l:=l) (items:=items.toArray) ⟨o,ho2,hc,n,hdat⟩ ?_)))
 refine wpAny_pure ⟨plainId_quiet j9 _,?_⟩
 refine ke (knd:=knd) (l:=l) (items:=items) (A:=A.in1) hh (Nat.ne_of_lt hlt) (Nat.ne_of_lt (Heap.lt_size ho2)) hl0 more 0 _ [] _ ⟨_,Heap.get?_push_size _ rfl,rfl,rfl⟩ ⟨o,Heap.get?_push_of_some _ ho2,hc,n,hdat⟩ ?_ (hd2.push _) (by simpa using hz) fun h3 tk k3 d3=>⟨rfl,h h3 tk d3 fun b ob e=>k3 b ob (Nat.ne_of_lt (Heap.lt_size e)) (Nat.ne_of_lt (Nat.lt_trans (Heap.lt_size e) hlt)) (up b ob e)⟩
 rw[List.drop_zero]
 refine Paired.imp' (fun u kv z=>?_) hp
 obtain⟨t,key,rfl,⟨ot,hot,r⟩,hk⟩:=z
 exact⟨t,key,rfl,⟨ot,up t ot hot,r⟩,hk,Nat.ne_of_lt (Heap.lt_size hot),Nat.ne_of_lt (Nat.lt_trans (Heap.lt_size hot) hlt)⟩
end
section
variable {X:Cx}
def zU (K:PySem.W.Frag)(H:Hp)(x:V)(kv:g4×V):Prop:=∃t,x= .ref t∧SqT K H t [kV kv.1,kv.2]
def S5 (kvs:List (g4×V)):List (g4×V):=kvs.foldl (fun a x=>x9 a x.1 x.2) []
theorem KV.puts:∀{ps:List (g4×V)} {qs:List (g4×Value)} {a:List (g4×V)} {b:List (g4×Value)},KV ps qs→KV a b→KV (ps.foldl (fun a x=>x9 a x.1 x.2) a) (qs.foldl (fun a x=>stored a x.1 x.2) b)
 |_,_,_,_,.nil,h=>h
 |_::_,_::_,a,b,.cons r t,h=>by
  obtain⟨e,rv⟩:=r
  rw[List.foldl_cons,List.foldl_cons]
  refine KV.puts t ?_
  rw[←e]
  exact KV.put h _ rv
theorem O6:∀(ps:List (g4×V)) (a:List (g4×V)),(ps.foldl (fun a x=>x9 a x.1 x.2) a).length≤a.length+ps.length
 |[],a=>Nat.le_refl _
 |p::r,a=>by
  rw[List.foldl_cons,List.length_cons]
  have z:=O6 r (x9 a p.1 p.2)
  have z2:=D4 a p.1 p.2
  lia
theorem vq {pins : List (Addr × Obj)} {σ : L2.St} {H : Hp} {s : Shared} (I : Inv X pins σ H s) : ∀ {xs : List V} {kvs : List (g4 × V)} {us : List Value}, Paired (zU X.K H) xs kvs → Vals xs us → ∃ more : List (g4 × Value), KV kvs more ∧ Paired (fun u kv => ∃ t key, u = Value.ref t ∧ s.heap.IsTuple t #[key, kv.2] ∧ (h8 X.prog X.w).is kv.1 key = true) us more
 := by
  intro xs kvs us hp hv
  induction hp generalizing us with
  | nil => cases hv; exact ⟨[], .nil, .nil⟩
  | @cons x kv l m r t ih => cases hv with
    | cons r' t' =>
      obtain ⟨tt, rfl, sq⟩ := r
      cases r'
      obtain ⟨its, v1, t1, _⟩ := I.tuple sq
      obtain ⟨key, v, rfl, rk, rv⟩ := V1 v1
      obtain ⟨more, h1, h2⟩ := ih t'
      exact ⟨(kv.1, v) :: more, .cons ⟨rfl, rv⟩ h1, .cons ⟨tt, key, rfl, t1, ak rk⟩ h2⟩
def pI (K:PySem.W.Frag):List V→Hp→VK→Prop:=fun xs H Q=>∃(p:Addr) (ys:List V) (kvs:List (g4×V)),xs=[.ref p]∧SqL K H p ys∧Paired (zU K H) ys kvs∧kvs.length≤sizeLine∧∀l,H l=none→Q (.ref l) (i6 H l (.dK (S5 kvs)))
theorem ij (hc:X.calm=true):CallR X (.type "dict") (pI X.K):=by
 intro pins s σ H xs us Q I r h
 obtain⟨p,ys,kvs,rfl,hq,hp,hz,q⟩:=h
 obtain⟨u,rfl,ru⟩:=D7 r
 cases ru
 obtain⟨its,rv,pl,_⟩:=I.list hq
 obtain⟨more,kv,pr⟩:=vq I hp rv
 obtain⟨o,n,e,c,hd,dt⟩:=pl
 have hl:more.length=kvs.length:=(KV.length kv).symm
 refine az (knd:=h8 X.prog X.w) (I.ok.hd hc) e c dt hd (by lia) pr fun h' tk dd k=>?_
 refine⟨.ref s.heap.objs.size,_,?_,rfl,q _ (I.hok.fresh (Nat.le_refl _))⟩
 refine I.laid (a:=s.heap.objs.size) (o:= .dK (S5 kvs)) (t':=tk) k (Nat.le_refl _) (dJ ?_ (beq_eq_false_iff_ne.mpr (Ne.symm (Nat.ne_of_lt I.big))) (KV.puts kv .nil) dd)
 have z:=O6 kvs []
 unfold S5
 simp only[List.length_nil] at z
 lia
def pK (K:PySem.W.Frag):List V→Hp→VK→Prop:=fun xs H Q=>sJ xs H Q∨pI K xs H Q
theorem wo (K:PySem.W.Frag)(hc:X.calm=true)(h:X.K=K:=by rfl):CallR X (.type "dict") (pK K):=by
 subst h
 intro pins s σ H xs us Q I r h
 rcases h with h|h
 ·exact iA pins s σ H xs us Q I r h
 ·exact ij hc pins s σ H xs us Q I r h
end
section
variable {K:PySem.W.Frag} {H:Hp} {Q:VK}
theorem gZ {p:Addr}{kvs:List (g4×V)}(h:Rd H p (.dK kvs))(q:∀l,H l=none→Q (.ref l) (i6 H l (.dK kvs))):pK K [.ref p] H Q:= .inl ⟨p,kvs,rfl,h,q⟩
end
end L2
set_option Elab.async false
set_option linter.all false
set_option maxRecDepth 100000
set_option maxHeartbeats 4000000
namespace L2
open PySem PySem.Spec PyProof.Rows
section
variable {X:Cx}
end
end L2
set_option Elab.async false
set_option linter.all false
set_option maxRecDepth 100000
set_option maxHeartbeats 4000000
namespace L2
open PySem PySem.Spec PyProof.Rows
structure AB (P:Program) (w:World) (outer:List Env) (H:Hp) (s:Shared) (a C:Addr) (a0:Value) (B:Heap) (H':Hp) (s':Shared):Prop where
 fl:Heap.FlyingW B outer a (.ref C) a0 s'.heap
 os:s'.os=s.os
 bare:AllBare s'.gens
 un:Un (fm outer) [] H H' s.heap s'.heap
 hok:HOk P w H' s'.heap
 kp:∀b o,s.heap.get? b=some o→H b=none→b∉fm outer→B.get? b=some o
 th:∀b o,s.heap.get? b=some o→b∉fm outer→∃o',B.get? b=some o'
 tr:∀b o,H' b=some o→∃u,B.get? b=some u
 nw:H' a=none
section
variable {X:Cx} {pins:List (Addr×Obj)} {σ:St} {H:Hp} {s s':Shared}
end
section
variable {P:Program} {w:World} {K:PySem.W.Frag} {mg:Str→Option Value} {base:Heap} {N:List Str} {qual:Str} {scope:Scope} {f:Addr} {cd:Value} {A:Around} {outer:List Env} {s0:Shared} {H0:Hp} {E:XK}
end
def Aq:List Value:=[.type "ValueError",.type "Exception",.type "BaseException",.type "object"]
structure AE (K:PySem.W.Frag) (mg:Str→Option Value) (x:Str) (C:Addr):Prop where
 bound:mg x=some (.ref C)
 exc:PySem.W.excIn K C Aq "ValueError.__new__"=true
section
variable {X:Cx} {E:XK} {x:Str} {C:Addr} {np cpos pos:Pos} {e:Expr} {es:List Expr} {ta:TA}
end
end L2
set_option Elab.async false
set_option linter.all false
set_option maxRecDepth 100000
set_option maxHeartbeats 4000000
namespace L2
open PySem PySem.Spec PyProof.Rows
abbrev Cx.pinned (X:Cx)(pins:List (Addr×Obj)):Cx:={X with pn:=X.pn++pins}
abbrev Cx.suite (X:Cx)(e:Addr):Cx:={X with A:=X.A.mark (some (.ref e)),calm:=false,xe:=fun _ _=>False}
section
variable {X:Cx} {pins pins':List (Addr×Obj)} {Es:St→XK} {σ:St} {H:Hp} {s:Shared} {e:Addr}
end
section
variable {X:Cx} {pins:List (Addr×Obj)} {Es:St→XK} {k:Nat} {ps:List Str} {dvs:List V} {sp:Sp} {x:Str} {p pos:Pos} {e:Expr} {es:List Expr} {t:TA}
end
structure AD (K:PySem.W.Frag) (mg:Str→Option Value) (x:Str) (T:Addr):Prop where
 bound:mg x=some (.ref T)
 ty:PySem.W.typeIn K (.ref T)=some (.type "type")
 exc:PySem.W.subIn K (.ref T) (.type "BaseException")=some true
 cls:(PySem.W.clsIn K T).isSome=true
section
variable {X:Cx} {x n:Str} {T:Addr} {np hpos pos:Pos} {i:Nat} {b₀:Stmt} {body suite:List Stmt} {tb:(St→XK)→TS} {ts:TS}
end
end L2
set_option Elab.async false
set_option linter.all false
set_option maxRecDepth 100000
set_option maxHeartbeats 4000000
namespace L2
open PySem PySem.Spec PyProof.Rows PySem.W
section
variable {X:Cx}
end
def cA (K:Frag)(x:Str):Addr:=match nsIn K mainGlobals x with
 |some (some (.ref C))=>C
 |_=>0
section
variable {K:Frag} {σ:St} {H:Hp} {Q:VK} {D:ip}
end
section
variable {X:Cx}
def wW (K:Frag):R2:=fun x y H Q=>(∃a xs i,x= .ref a∧y= .int i∧SqT K H a xs∧Q (.bl true) H)∨(∃a xs i,x= .int i∧y= .ref a∧SqT K H a xs∧Q (.bl true) H)
theorem uL (hu:X.A.units+64<cLine):OpR X (compareOp .NotEq) (wW X.K):=by
 intro pins s σ H x y v u Q I rx ry h
 rcases h with⟨a,xs,i,rfl,rfl,ha,k⟩|⟨a,xs,i,rfl,rfl,ha,k⟩
 ·cases rx
  obtain⟨t,rfl⟩:=(show ∃t,u=Value.int i t from ry)
  obtain⟨its,r1,p1,z1⟩:=I.tuple ha
  exact SeqAt.RcNeAt.tuple_int (A:=X.A) i t (show s.heap.IsTuple a its.toArray from p1) (by lia) X.prog X.w _ _ ⟨.bl true,H,I,rfl,k⟩
 ·cases ry
  obtain⟨t,rfl⟩:=(show ∃t,v=Value.int i t from rx)
  obtain⟨its,r1,p1,z1⟩:=I.tuple ha
  exact SeqAt.RcNeAt.int_tuple (A:=X.A) i t (show s.heap.IsTuple a its.toArray from p1) (by lia) X.prog X.w _ _ ⟨.bl true,H,I,rfl,k⟩
def ya (K:Frag):R2:=fun x y H Q=>xu K x y H Q∨wW K x y H Q
theorem yT (K:Frag){k:Nat}(hr:Room k X.A)(h:X.K=K:=by rfl):OpR X (compareOp .NotEq) (ya K):=(Ao K hr h).or (h▸uL hr.units)
end
section
variable {K:Frag} {H:Hp} {Q:VK}
end
end L2
set_option Elab.async false
set_option linter.all false
set_option maxRecDepth 100000
set_option maxHeartbeats 4000000
namespace L2
open PySem PySem.Spec PyProof.Rows
section
variable {X:Cx}
end
section
open PySem.Builtin PySem.Builtin.Str
end
end L2
set_option Elab.async false
set_option linter.all false
set_option maxRecDepth 100000
set_option maxHeartbeats 4000000
namespace L2
open PySem PySem.Spec PyProof.Rows
section
variable {prog:Program} {w:World} {A:Around} {E:Value→Shared→Prop}
def StrsAre:List Value→List Str→Prop:=Paired fun u x=>∃t,u= .str x t
end
section
variable {prog:Program} {w:World} {A:Around} {E:Value→Shared→Prop}
end
def uV (a:Addr)(n:Nat)(h:Heap):Prop:=∃o es ep t,h.get? a=some o∧o.ExactSet∧o.data= .set es ep t∧t.fits es.size=true∧es.size=n
section
variable {X:Cx}
def si (K:PySem.W.Frag):List V→Hp→VK→Prop:=fun xs H Q=>lU K xs H Q∨∃p n,xs=[V.ref p]∧H p=some (.ext (uV p n))∧n≤1000∧Q (.int n) H
theorem call_lenS:CallR X (.builtin "len") (si X.K):=by
 refine call_lenX.or ?_
 intro pins s σ H xs us Q I r h
 obtain⟨p,n,rfl,hp,hn,q⟩:=h
 obtain⟨u,rfl,ru⟩:=D7 r
 cases ru
 obtain⟨o,es,ep,t,h1,h2,h3,h4,h5⟩:=(I.hok p _ hp).1
 exact call_len_set h1 h2 h3 h4 (by lia) ⟨.int n,H,I.tok _,⟨_,by rw[h5]⟩,q⟩
end
end L2
set_option Elab.async false
set_option linter.all false
set_option maxRecDepth 100000
set_option maxHeartbeats 4000000
namespace L2
open PySem PySem.Spec PyProof.Rows
open PySem.AutoSeq1 (wpAny_loadPart')
open PySem.MeetsSeq PySem.MeetsSeq2 PySem.MeetsSeq3
theorem aA:plainId "list.__eq__.loop"=true:=plain_eq_loop
section
variable {P:Program} {w:World}
theorem ft (l m:Addr)(xs ys:Array Value)(n1 n2:Nat)(d1 d2:Option Addr)(s1 s2:Array (Option Value))(hz:xs.size=ys.size)(f:Nat→Bool)(md:Int)(hmd:md=2∨md=3):∀(k i:Nat),xs.size -i=k→
  MeetsIn P w (Builtin.«list.__eq__.loop» ⟨[.ref l,.ref m,rawInt i,rawInt md],[]⟩) (fun A R s=>
   s.heap.get? l=some {cls:= .type "list",dict:=d1,data:= .seq xs n1,slots:=s1}∧s.heap.get? m=some {cls:= .type "list",dict:=d2,data:= .seq ys n2,slots:=s2}∧
   (∀j (g1:j<xs.size) (g2:j<ys.size),EqP P w A.in1 s xs[j] ys[j] (f j))∧
   R (.ok (.ret (.bool (if md=2 then((List.range xs.size).drop i).all f else !((List.range xs.size).drop i).all f)))) s):=by
 intro k
 induction k with
 |zero=>
  intro i hk
  intro A R s hyp
  obtain⟨hp,gg,dr,tk,os⟩:=s
  obtain⟨e1,e2,he,fin⟩:=hyp
  have x1:xs[((i:Nat):Int).toNat]?=none:=by simpa using Nat.le_of_sub_eq_zero hk
  have x2:ys[((i:Nat):Int).toNat]?=none:=by simpa [←hz] using Nat.le_of_sub_eq_zero hk
  have x3:(List.range xs.size).drop i=[]:=by simpa using Nat.le_of_sub_eq_zero hk
  rw[x3] at fin
  rcases hmd with rfl|rfl
  ·wp_walk using wpAny_loadPart' e1,wpAny_loadPart' e2
   rw[x1,x2]
   wp_walk using wpAny_loadPart' e1,wpAny_loadPart' e2
   show R (.ok (.ret (.bool (xs.size==ys.size)))) _
   rw[hz];simpa using fin
  ·wp_walk using wpAny_loadPart' e1,wpAny_loadPart' e2
   rw[x1,x2]
   wp_walk using wpAny_loadPart' e1,wpAny_loadPart' e2
   show R (.ok (.ret (.bool (xs.size !=ys.size)))) _
   rw[hz];simpa using fin
 |succ k ih=>
  intro i hk
  intro A R s hyp
  have ih:=ih (i+1) (by rw[Nat.sub_add_eq,hk];rfl)
  obtain⟨hp,gg,dr,tk,os⟩:=s
  obtain⟨e1,e2,he,fin⟩:=hyp
  have l1:i<xs.size:=Nat.sub_pos_iff_lt.mp (hk▸Nat.succ_pos k)
  have l2:i<ys.size:=hz▸l1
  have x1:xs[((i:Nat):Int).toNat]?=some xs[i]:=by simp [l1]
  have x2:ys[((i:Nat):Int).toNat]?=some ys[i]:=by simp [l2]
  have x3:(List.range xs.size).drop i=i::(List.range xs.size).drop (i+1):=by simp [List.drop_eq_getElem_cons,l1]
  have x4:((i:Int)+1)=((i+1:Nat):Int):=by push_cast;rfl
  rw[x3,List.all_cons] at fin
  rcases hmd with rfl|rfl
  ·wp_walk using wpAny_loadPart' e1,wpAny_loadPart' e2
   rw[x1,x2]
   refine wpAny_bind (he i l1 l2 _ _ ?_)
   cases hf:f i with
   |true=>
    rw[hf] at fin
    wp_walk
    rw[x4]
    refine⟨plainId_quiet aA _,codeAny_builtin entry_eq_loop ?_⟩
    rw[Around.under_plainId aA _]
    exact ih A R _ ⟨e1,e2,he,by simpa using fin⟩
   |false=>
    rw[hf] at fin
    wp_walk using wpAny_loadPart' e1,wpAny_loadPart' e2
    rw[x1,x2]
    wp_walk
    simpa using fin
  ·wp_walk using wpAny_loadPart' e1,wpAny_loadPart' e2
   rw[x1,x2]
   refine wpAny_bind (he i l1 l2 _ _ ?_)
   cases hf:f i with
   |true=>
    rw[hf] at fin
    wp_walk
    rw[x4]
    refine⟨plainId_quiet aA _,codeAny_builtin entry_eq_loop ?_⟩
    rw[Around.under_plainId aA _]
    exact ih A R _ ⟨e1,e2,he,by simpa using fin⟩
   |false=>
    rw[hf] at fin
    wp_walk using wpAny_loadPart' e1,wpAny_loadPart' e2
    rw[x1,x2]
    wp_walk
    simpa using fin
theorem vE (l m:Addr)(xs ys:Array Value)(n1 n2:Nat)(d1 d2:Option Addr)(s1 s2:Array (Option Value))(hz:xs.size=ys.size)(f:Nat→Bool):
  MeetsIn P w (Builtin.«list.__eq__» ⟨[.ref l,.ref m],[]⟩) (fun A R s=>
   s.heap.get? l=some {cls:= .type "list",dict:=d1,data:= .seq xs n1,slots:=s1}∧s.heap.get? m=some {cls:= .type "list",dict:=d2,data:= .seq ys n2,slots:=s2}∧
   (∀j (g1:j<xs.size) (g2:j<ys.size),EqP P w A.in1 s xs[j] ys[j] (f j))∧R (.ok (.ret (.bool ((List.range xs.size).all f)))) s):=by
 intro A R s hyp
 obtain⟨hp,gg,dr,tk,os⟩:=s
 obtain⟨e1,e2,he,fin⟩:=hyp
 have q1:=AutoSeq1.sub_list_list;have q2:¬(xs.size !=ys.size)=true:=by simp [hz]
 wp_walk using wpAny_loadPart' e1,wpAny_loadPart' e2
 refine⟨plainId_quiet aA _,codeAny_builtin entry_eq_loop ?_⟩
 rw[Around.under_plainId aA _]
 exact ft l m xs ys n1 n2 d1 d2 s1 s2 hz f 2 (.inl rfl) _ 0 rfl A R _ ⟨e1,e2,he,by simpa using fin⟩
theorem tm (l m:Addr)(xs ys:Array Value)(n1 n2:Nat)(d1 d2:Option Addr)(s1 s2:Array (Option Value))(hz:xs.size=ys.size)(f:Nat→Bool):
  MeetsIn P w (Builtin.«list.__ne__» ⟨[.ref l,.ref m],[]⟩) (fun A R s=>
   s.heap.get? l=some {cls:= .type "list",dict:=d1,data:= .seq xs n1,slots:=s1}∧s.heap.get? m=some {cls:= .type "list",dict:=d2,data:= .seq ys n2,slots:=s2}∧
   (∀j (g1:j<xs.size) (g2:j<ys.size),EqP P w A.in1 s xs[j] ys[j] (f j))∧R (.ok (.ret (.bool (!(List.range xs.size).all f)))) s):=by
 intro A R s hyp
 obtain⟨hp,gg,dr,tk,os⟩:=s
 obtain⟨e1,e2,he,fin⟩:=hyp
 have q1:=AutoSeq1.sub_list_list;have q2:¬(xs.size !=ys.size)=true:=by simp [hz]
 wp_walk using wpAny_loadPart' e1,wpAny_loadPart' e2
 refine⟨plainId_quiet aA _,codeAny_builtin entry_eq_loop ?_⟩
 rw[Around.under_plainId aA _]
 exact ft l m xs ys n1 n2 d1 d2 s1 s2 hz f 3 (.inr rfl) _ 0 rfl A R _ ⟨e1,e2,he,by simpa using fin⟩
theorem RcP.lst {A:Around}{s:Shared}{l m:Addr}{xs ys:Array Value}{f:Nat→Bool}(hl:s.heap.IsList l xs)(hm:s.heap.IsList m ys)(hz:xs.size=ys.size)(hu:A.units<cLine)
  (he:∀j (g1:j<xs.size) (g2:j<ys.size),EqP P w A.in1 s xs[j] ys[j] (f j)):RcP P w A s (.ref l) (.ref m) ((List.range xs.size).all f):=fun E Q q=>by
 obtain⟨⟨c1,d1,a1,s1⟩,o1,k1,n1,t1⟩:=id hl
 obtain⟨⟨c2,d2,a2,s2⟩,o2,k2,n2,t2⟩:=id hm
 simp only at k1 t1 k2 t2
 subst k1 t1 k2 t2
 refine wpAny_richCompare_same_room (op:= .Eq) ⟨_,o1,rfl⟩ ⟨_,o2,rfl⟩ PySem.F.slot_list_eq (call_meetsIn PySem.F.slot_list_eq ⟨_,o1,rfl⟩ PySem.F.entry_list_eq (PySem.F.args_list_eq_2 _ _) (vE l m xs ys n1 n2 d1 d2 s1 s2 hz f) ⟨o1,o2,he,?_⟩) hu
 exact⟨(fun z=>nomatch z),q⟩
theorem NcP.lst {A:Around}{s:Shared}{l m:Addr}{xs ys:Array Value}{f:Nat→Bool}(hl:s.heap.IsList l xs)(hm:s.heap.IsList m ys)(hz:xs.size=ys.size)(hu:A.units<cLine)
  (he:∀j (g1:j<xs.size) (g2:j<ys.size),EqP P w A.in1 s xs[j] ys[j] (f j)):NcP P w A s (.ref l) (.ref m) (!(List.range xs.size).all f):=fun E Q q=>by
 obtain⟨⟨c1,d1,a1,s1⟩,o1,k1,n1,t1⟩:=id hl
 obtain⟨⟨c2,d2,a2,s2⟩,o2,k2,n2,t2⟩:=id hm
 simp only at k1 t1 k2 t2
 subst k1 t1 k2 t2
 refine wpAny_richCompare_same_room (op:= .NotEq) ⟨_,o1,rfl⟩ ⟨_,o2,rfl⟩ PySem.F.slot_list_ne (call_meetsIn PySem.F.slot_list_ne ⟨_,o1,rfl⟩ PySem.F.entry_list_ne (PySem.F.args_list_ne_2 _ _) (tm l m xs ys n1 n2 d1 d2 s1 s2 hz f) ⟨o1,o2,he,?_⟩) hu
 exact⟨(fun z=>nomatch z),q⟩
end
def EqN (K:PySem.W.Frag)(H:Hp):Nat→V→V→Bool→Prop
 |0,x,y,b=>Eq1 K H x y b∨∃a c,x= .ref a∧y= .ref c∧EqD K H a c b
 |n+1,x,y,b=>EqN K H n x y b∨∃(a c:Addr) (xs ys:List V) (bs:List Bool),x= .ref a∧y= .ref c∧a≠c∧((SqT K H a xs∧SqT K H c ys)∨(SqL K H a xs∧SqL K H c ys))∧xs.length=ys.length∧bs.length=xs.length∧
   (∀(j:Nat) (x' y':V) (b':Bool),xs[j]?=some x'→ys[j]?=some y'→bs[j]?=some b'→EqN K H n x' y' b')∧b=bs.all id
theorem w4:∀(bs:List Bool),(List.range bs.length).all (fun j=>bs.getD j true)=bs.all id
 |[]=>rfl
 |b::r=>by
  rw[List.length_cons,List.range_succ_eq_map,List.all_cons,List.all_map]
  show(b&&(List.range r.length).all fun j=>r.getD j true)=(b&&r.all id)
  rw[w4 r]
section
variable {X:Cx} {pins:List (Addr×Obj)} {σ:St} {H:Hp} {s:Shared}
theorem Y3 {n:Nat}{xs ys:List V}{bs:List Bool}{us vs:List Value}{A:Around}(r1:Vals xs us)(r2:Vals ys vs)(hl:xs.length=ys.length)(hb:bs.length=xs.length)
  (he:∀(j:Nat) (x' y':V) (b':Bool),xs[j]?=some x'→ys[j]?=some y'→bs[j]?=some b'→EqN X.K H n x' y' b')
  (at_:∀{x y:V} {u v:Value} {b:Bool},EqN X.K H n x y b→RelV x u→RelV y v→EqP X.prog X.w A.in1 s u v b):
  ∀j (g1:j<us.toArray.size) (g2:j<vs.toArray.size),EqP X.prog X.w A.in1 s us.toArray[j] vs.toArray[j] (bs.getD j true):=fun j g1 g2=>by
 have l1:=r1.length
 have l2:=r2.length
 have g1':j<us.length:=by simpa using g1
 have g2':j<vs.length:=by simpa using g2
 have x1:xs[j]?=some (xs[j]'(by lia)):=List.getElem?_eq_getElem _
 have y1:ys[j]?=some (ys[j]'(by lia)):=List.getElem?_eq_getElem _
 have b1:bs[j]?=some (bs[j]'(by lia)):=List.getElem?_eq_getElem _
 obtain⟨u1,hu1,ru1⟩:=r1.get x1
 obtain⟨u2,hu2,ru2⟩:=r2.get y1
 have e1:us.toArray[j]=u1:=by
  have:=List.getElem?_eq_getElem g1'
  rw[hu1] at this
  simpa using(Option.some.inj this).symm
 have e2:vs.toArray[j]=u2:=by
  have:=List.getElem?_eq_getElem g2'
  rw[hu2] at this
  simpa using(Option.some.inj this).symm
 rw[e1,e2,List.getD_eq_getElem?_getD,b1]
 exact at_ (he j _ _ _ x1 y1 b1) ru1 ru2
theorem EqN.at_ (I:Inv X pins σ H s):∀{n:Nat} {A:Around} {x y:V} {u v:Value} {b:Bool},EqN X.K H n x y b→RelV x u→RelV y v→A.units+32+n<cLine→EqP X.prog X.w A s u v b:=by
 intro n
 induction n with
 |zero=>
  intro A x y u v b h rx ry hu
  rcases h with h|⟨a,c,rfl,rfl,h⟩
  ·exact .of (h.at_ I rx ry (by lia))
  ·cases rx
   cases ry
   exact h.at_ I (by lia)
 |succ n ih=>
  intro A x y u v b h rx ry hu
  rcases h with h|⟨a,c,xs,ys,bs,rfl,rfl,hne,hh,hl,hb,he,rfl⟩
  ·exact ih h rx ry (by lia)
  ·cases rx
   cases ry
   have hin:A.in1.units=A.units+1:=rfl
   rcases hh with⟨h1,h2⟩|⟨h1,h2⟩
   ·obtain⟨us,r1,p1,z1⟩:=I.tuple h1
    obtain⟨vs,r2,p2,z2⟩:=I.tuple h2
    have l1:=r1.length
    have l2:=r2.length
    have q:=RcP.tup (P:=X.prog) (w:=X.w) (A:=A) (f:=fun j=>bs.getD j true) (show s.heap.IsTuple a us.toArray from p1) (show s.heap.IsTuple c vs.toArray from p2) (by lia) (Y3 r1 r2 hl hb he fun z q1 q2=>ih z q1 q2 (by lia))
    have e3:min us.toArray.size vs.toArray.size=bs.length:=by simp;lia
    have e4:(us.toArray.size==vs.toArray.size)=true:=by simp;lia
    rw[e3,e4,w4,Bool.and_true] at q
    exact .refs hne q
   ·obtain⟨us,r1,p1,z1⟩:=I.list h1
    obtain⟨vs,r2,p2,z2⟩:=I.list h2
    have l1:=r1.length
    have l2:=r2.length
    have q:=RcP.lst (P:=X.prog) (w:=X.w) (A:=A) (f:=fun j=>bs.getD j true) p1.isList p2.isList (by simp;lia) (by lia) (Y3 r1 r2 hl hb he fun z q1 q2=>ih z q1 q2 (by lia))
    have e3:us.toArray.size=bs.length:=by simp;lia
    rw[e3,w4] at q
    exact .refs hne q
end
def zQ (K:PySem.W.Frag)(H:Hp)(x y:V)(bs:List Bool):Prop:=∃(a c:Addr) (xs ys:List V),x= .ref a∧y= .ref c∧((SqT K H a xs∧SqT K H c ys)∨(SqL K H a xs∧SqL K H c ys))∧xs.length=ys.length∧bs.length=xs.length∧
 ∀(j:Nat) (x' y':V) (b':Bool),xs[j]?=some x'→ys[j]?=some y'→bs[j]?=some b'→EqN K H 8 x' y' b'
section
variable {X:Cx}
def xJ (K:PySem.W.Frag):R2:=fun x y H Q=>∃bs,zQ K H x y bs∧Q (.bl (bs.all id)) H
def xq (K:PySem.W.Frag):R2:=fun x y H Q=>∃bs,zQ K H x y bs∧Q (.bl (!bs.all id)) H
theorem ud (hu:X.A.units+64<cLine):OpR X (compareOp .Eq) (xJ X.K):=by
 intro pins s σ H x y v u Q I rx ry h
 obtain⟨bs,⟨a,c,xs,ys,rfl,rfl,hh,hl,hb,he⟩,k⟩:=h
 cases rx
 cases ry
 have hin:X.A.in1.units=X.A.units+1:=rfl
 rcases hh with⟨h1,h2⟩|⟨h1,h2⟩
 ·obtain⟨us,r1,p1,z1⟩:=I.tuple h1
  obtain⟨vs,r2,p2,z2⟩:=I.tuple h2
  have l1:=r1.length
  have l2:=r2.length
  have q:=RcP.tup (P:=X.prog) (w:=X.w) (A:=X.A) (f:=fun j=>bs.getD j true) (show s.heap.IsTuple a us.toArray from p1) (show s.heap.IsTuple c vs.toArray from p2) (by lia) (Y3 r1 r2 hl hb he fun z q1 q2=>EqN.at_ I z q1 q2 (by lia))
  have e3:min us.toArray.size vs.toArray.size=bs.length:=by simp;lia
  have e4:(us.toArray.size==vs.toArray.size)=true:=by simp;lia
  rw[e3,e4,w4,Bool.and_true] at q
  exact q _ _ ⟨.bl _,H,I,rfl,k⟩
 ·obtain⟨us,r1,p1,z1⟩:=I.list h1
  obtain⟨vs,r2,p2,z2⟩:=I.list h2
  have l1:=r1.length
  have l2:=r2.length
  have q:=RcP.lst (P:=X.prog) (w:=X.w) (A:=X.A) (f:=fun j=>bs.getD j true) p1.isList p2.isList (by simp;lia) (by lia) (Y3 r1 r2 hl hb he fun z q1 q2=>EqN.at_ I z q1 q2 (by lia))
  have e3:us.toArray.size=bs.length:=by simp;lia
  rw[e3,w4] at q
  exact q _ _ ⟨.bl _,H,I,rfl,k⟩
theorem uo (hu:X.A.units+64<cLine):OpR X (compareOp .NotEq) (xq X.K):=by
 intro pins s σ H x y v u Q I rx ry h
 obtain⟨bs,⟨a,c,xs,ys,rfl,rfl,hh,hl,hb,he⟩,k⟩:=h
 cases rx
 cases ry
 have hin:X.A.in1.units=X.A.units+1:=rfl
 rcases hh with⟨h1,h2⟩|⟨h1,h2⟩
 ·obtain⟨us,r1,p1,z1⟩:=I.tuple h1
  obtain⟨vs,r2,p2,z2⟩:=I.tuple h2
  have l1:=r1.length
  have l2:=r2.length
  have q:=NcP.tup (P:=X.prog) (w:=X.w) (A:=X.A) (f:=fun j=>bs.getD j true) (show s.heap.IsTuple a us.toArray from p1) (show s.heap.IsTuple c vs.toArray from p2) (by lia) (Y3 r1 r2 hl hb he fun z q1 q2=>EqN.at_ I z q1 q2 (by lia))
  have e3:min us.toArray.size vs.toArray.size=bs.length:=by simp;lia
  have e4:(us.toArray.size==vs.toArray.size)=true:=by simp;lia
  rw[e3,e4,w4,Bool.and_true] at q
  exact q _ _ ⟨.bl _,H,I,rfl,k⟩
 ·obtain⟨us,r1,p1,z1⟩:=I.list h1
  obtain⟨vs,r2,p2,z2⟩:=I.list h2
  have l1:=r1.length
  have l2:=r2.length
  have q:=NcP.lst (P:=X.prog) (w:=X.w) (A:=X.A) (f:=fun j=>bs.getD j true) p1.isList p2.isList (by simp;lia) (by lia) (Y3 r1 r2 hl hb he fun z q1 q2=>EqN.at_ I z q1 q2 (by lia))
  have e3:us.toArray.size=bs.length:=by simp;lia
  rw[e3,w4] at q
  exact q _ _ ⟨.bl _,H,I,rfl,k⟩
def sS (K:PySem.W.Frag):R2:=fun x y H Q=>ya K x y H Q∨xq K x y H Q
theorem wz (K:PySem.W.Frag){k:Nat}(hr:Room k X.A)(h:X.K=K:=by rfl):OpR X (compareOp .NotEq) (sS K):=(yT K hr h).or (h▸uo hr.units)
def jw (K:PySem.W.Frag):R2:=fun x y H Q=>vp K x y H Q∨xJ K x y H Q
theorem V6 (K:PySem.W.Frag){k:Nat}(hr:Room k X.A)(h:X.K=K:=by rfl):OpR X (compareOp .Eq) (jw K):=(yM K hr h).or (h▸ud hr.units)
end
end L2
set_option Elab.async false
set_option linter.all false
set_option maxRecDepth 100000
set_option maxHeartbeats 4000000
namespace L2
open PySem PySem.Spec PyProof.Rows
def fu (v d:Addr)(h:Heap):Prop:=h.IsValuesView v d
theorem qR {P:Program}{w:World}{H:Hp}{h:Heap}{v d:Addr}(x:fu v d h):ObjOk P w H h v (.ext (fu v d)):=by
 obtain⟨o,e,r⟩:=x
 exact⟨⟨o,e,r⟩,⟨o,e⟩,fun h1 h2 ⟨o',e',r'⟩ k=>⟨o',k _ e',r'⟩⟩
section
variable {X:Cx}
def qX:V→List V→Hp→VK→Prop:=fun x vs H Q=>∃d kvs,x= .ref d∧vs=[]∧Rd H d (.dK kvs)∧∀v,H v=none→Q (.ref v) (i6 H v (.ext (fu v d)))
theorem O0:qe X "dict.values" qX:=by
 intro pins s σ H x vs v us Q I rx rv h
 obtain⟨d,kvs,rfl,rfl,hd,q⟩:=h
 cases rx
 have hus:=rv.zero
 subst hus
 obtain⟨z,hs,ws,rel,dd⟩:=C3 I.hok hd
 refine call_meetsIn PySem.F.slot_dict_values dd.typeIs PySem.F.entry_dict_values (PySem.F.args_dict_values_1 _) (meets_dict_values (h8 X.prog X.w) d hs) ⟨⟨ws,dd⟩,?_⟩
 refine⟨.ref s.heap.objs.size,_,?_,rfl,q _ (I.hok.fresh (Nat.le_refl _))⟩
 exact I.laid (a:=s.heap.objs.size) (t':=s.toks) (fun b u e=>Heap.get?_push_of_some _ e) (Nat.le_refl _) (qR ⟨_,Heap.get?_push_size _ rfl,rfl,rfl⟩)
def dU (K:PySem.W.Frag):List V→Hp→VK→Prop:=fun xs H Q=>iY K xs H Q∨∃(v d:Addr) (kvs:List (g4×V)),xs=[.ref v]∧H v=some (.ext (fu v d))∧Rd H d (.dK kvs)∧∀l,H l=none→Q (.ref l) (i6 H l (.lst (kvs.map (·.2))))
theorem iR (hc:X.calm=true):CallR X (.type "list") (dU X.K):=by
 refine(iQ hc).or ?_
 intro pins s σ H xs us Q I r h
 obtain⟨v,d,kvs,rfl,hv,hx,q⟩:=h
 obtain⟨u,rfl,ru⟩:=D7 r
 cases ru
 have hvv:fu v d s.heap:=(I.hok v _ hv).1
 obtain⟨hd,o,vs,ep,ho,D⟩:=V8 I.hok hx
 have hlv:=KV.length D.kv
 have hz:kvs.length≤sizeLine:=(C3 I.hok hx).1
 refine PySem.W.kdl_call (PySem.W.kdl_values (knd:=h8 X.prog X.w) (kvs:=vs) (ep:=ep)) (I.ok.hd hc) ⟨hvv,D.at_ _ ho⟩ (by lia) fun h' tk acc c hkp hS hacc=>?_
 refine⟨.ref s.heap.objs.size,_,I.newL (tk:=tk) hkp (Nat.le_refl _) hS (G7 (by have:=hacc.1;simp;lia) fun i x u e1 e2=>?_) (by rw[List.length_map];exact hz),rfl,q _ (I.hok.fresh (Nat.le_refl _))⟩
 obtain⟨k,hy⟩:=hacc.2 i u (by rw[←Array.getElem?_toList];exact e2)
 rw[List.getElem?_map] at e1
 obtain⟨kv,e4,rfl⟩:=Option.map_eq_some_iff.mp e1
 obtain⟨q1,hq1,q2,q3⟩:=A1 (show Paired _ kvs vs from D.kv) e4
 rw[hy] at hq1
 cases hq1
 exact q3
theorem Z5 (K:PySem.W.Frag)(hc:X.calm=true)(h:X.K=K:=by rfl):CallR X (.type "list") (dU K):=h▸iR hc
end
section
variable {K:PySem.W.Frag} {H:Hp} {Q:VK}
theorem eE {xs:List V}(h:iY K xs H Q):dU K xs H Q:= .inl h
theorem ae {v d:Addr}{kvs:List (g4×V)}(hv:H v=some (.ext (fu v d)))(hd:Rd H d (.dK kvs))(q:∀l,H l=none→Q (.ref l) (i6 H l (.lst (kvs.map (·.2))))):dU K [.ref v] H Q:= .inr ⟨v,d,kvs,rfl,hv,hd,q⟩
end
section
variable {prog:Program} {w:World} {A:Around} {E:Value→Shared→Prop}
end
section
variable {X:Cx}
end
end L2
set_option Elab.async false
set_option linter.all false
set_option maxRecDepth 100000
set_option maxHeartbeats 4000000
namespace L2
open PySem PySem.Spec PyProof.Rows
section
variable {prog:Program} {w:World} {A:Around} {E:Value→Shared→Prop} {s:Shared}
theorem kF {Q:Int→Shared→Prop}(h:Q 0xFCA86420 {s with toks:=s.toks+1}):wpAny (model prog w) A (pyHash .none) Q E s:=by
 have hT:s.TypeIs Value.none "NoneType":=rfl
 unfold pyHash pyHashByItsType
 refine wpAny_bind ?_
 rw[cRoomFor,if_neg (show ¬([Value.none].any Value.onHeap)=true by decide)]
 refine wpAny_pure (wpAny_bind (wpAny_specialOf hT PySem.F.slot_NoneType_hash.lookup ?_))
 refine(show wpAny _ _ (if(some (Value.builtin "NoneType.__hash__")==some Value.none)=true then _ else _) Q E s from ?_)
 rw[if_neg (by decide)]
 refine wpAny_bind (wpAny_specialOf hT PySem.F.slot_NoneType_hash.lookup ?_)
 refine(show wpAny _ _ (callSpecialIfBoundUnlessNone? Value.none "__hash__" _>>=_) Q E s from ?_)
 refine wpAny_bind (wpAny_callSpecialIfBoundUnlessNone?_slot hT PySem.F.slot_NoneType_hash (wpAny_call_entry PySem.F.slot_NoneType_hash hT PySem.F.entry_NoneType_hash (show wpAny _ _ (do ret (←mkInt 0xFCA86420)) _ _ s from wpAny_ret_mkInt ?_) (PySem.F.args_NoneType_hash_1 _)))
 refine(show wpAny _ _ (if(decide (-(2:Int) ^ 63≤0xFCA86420)&&decide ((0xFCA86420:Int)<2 ^ 63))=true then _ else _) Q E _ from ?_)
 rw[if_pos (by decide)]
 exact wpAny_pure h
end
abbrev cu:=Option g4
def zM:cu→Value→Bool
 |none,.none=>true
 |none,_=>false
 |some k,v=>S8 k v
theorem C6:∀{k:cu} {v:Value},zM k v=true→(k=none∧v=Value.none)∨(∃i t,k=some (Sum.inl i)∧v=Value.int i t)∨(∃x t,k=some (Sum.inr x)∧v=Value.str x t)
 |none,v,h=>by cases v<;>first|exact .inl ⟨rfl,rfl⟩|cases h
 |some k,v,h=>by
  rcases j6 (show S8 k v=true from h) with⟨i,t,rfl,rfl⟩|⟨x,t,rfl,rfl⟩
  ·exact .inr (.inl ⟨i,t,rfl,rfl⟩)
  ·exact .inr (.inr ⟨x,t,rfl,rfl⟩)
def wg (w:World):cu→Int
 |none=>0xFCA86420
 |some k=>xT w k
def W2 (prog:Program)(w:World):PySem.KeyKind prog w cu where
 is:=zM
 hash:=wg w
 inj:=fun v a b ha hb=>by
  rcases C6 ha with⟨rfl,rfl⟩|⟨i,t,rfl,rfl⟩|⟨x,t,rfl,rfl⟩<;>rcases C6 hb with⟨rfl,e⟩|⟨j,u,rfl,e⟩|⟨y,u,rfl,e⟩<;>first|rfl|(cases e<;>rfl)
 byValue:=fun k v h=>by
  rcases C6 h with⟨rfl,rfl⟩|⟨i,t,rfl,rfl⟩|⟨x,t,rfl,rfl⟩<;>rfl
 pyHash:=fun hv h=>by
  rcases C6 hv with⟨rfl,rfl⟩|⟨i,t,rfl,rfl⟩|⟨x,t,rfl,rfl⟩
  ·exact kF h
  ·exact wpAny_pyHash_int h
  ·exact wpAny_pyHash_str h
 eqBool:=fun{A E s a b u v Q} hu hv h=>by
  have dk:∀{k k':g4},decide ((some k:cu)=some k')=decide (k=k'):=fun{k k'}=>by
   by_cases e:k=k'
   ·subst e;simp
   ·rw[decide_eq_false e,decide_eq_false fun z=>e (Option.some.inj z)]
  rcases C6 hu with⟨rfl,rfl⟩|⟨i,t,rfl,rfl⟩|⟨x,t,rfl,rfl⟩<;>rcases C6 hv with⟨rfl,rfl⟩|⟨j,t',rfl,rfl⟩|⟨y,t',rfl,rfl⟩
  ·exact SeqAt.EqAt.same _ _ _ _ _ (by simpa using h)
  ·exact SeqAt.EqAt.none_int j t' _ _ _ _ (by simpa using h)
  ·exact SeqAt.EqAt.none_str y t' _ _ _ _ (by simpa using h)
  ·exact SeqAt.EqAt.int_none i t _ _ _ _ (by simpa using h)
  ·rw[dk,nz] at h;exact wpAny_eqBool_int h
  ·rw[dk,pE] at h;exact SeqAt.EqAt.int_str i t y t' _ _ _ _ h
  ·exact SeqAt.EqAt.str_none x t _ _ _ _ (by simpa using h)
  ·rw[dk,oZ] at h;exact SeqAt.EqAt.str_int x t j t' _ _ _ _ h
  ·rw[dk,ou] at h;exact wpAny_eqBool_str h
 «strs»:=fun k x t v h=>by
  rcases C6 h with⟨rfl,e⟩|⟨i,u,rfl,e⟩|⟨y,u,rfl,e⟩
  ·exact nomatch e
  ·exact nomatch e
  ·injection e with e1 _
   subst e1
   cases v<;>rfl
def aN (P:Program)(w:World)(a:Addr)(n:Nat)(h:Heap):Prop:=(a==sysModules)=false∧∃vs,h.DictOf (W2 P w) a vs∧vs.length=n
theorem iC {P P':Program}{w w':World}{H:Hp}{h:Heap}{a:Addr}{n:Nat}(x:aN P w a n h):ObjOk P' w' H h a (.ext (aN P w a n)):=by
 obtain⟨hs,vs,⟨o,es,ep,e,r⟩,hl⟩:=x
 exact⟨⟨hs,vs,⟨o,es,ep,e,r⟩,hl⟩,⟨o,e⟩,fun h1 h2 ⟨hs',vs',⟨o',es',ep',e',r'⟩,hl'⟩ k=>⟨hs',vs',⟨o',es',ep',k _ e',r'⟩,hl'⟩⟩
theorem bJ {P:Program}{w:World}:∀{es:List DictEntry} {vs:List (g4×Value)},Pairs (h8 P w) es vs→Pairs (W2 P w) es (vs.map fun x=>(some x.1,x.2))
 |_,_,.nil=> .nil
 |_,_,.cons h e t=> .cons h e (bJ t)
theorem rN {P:Program}{w:World}{h:Heap}{a:Addr}{vs:List (g4×Value)}(dd:h.DictOf (h8 P w) a vs):h.DictOf (W2 P w) a (vs.map fun x=>(some x.1,x.2)):=by
 obtain⟨o,es,ep,h1,h2,h3,h4,h5,h6⟩:=dd
 refine⟨o,es,ep,h1,h2,h3,fun e he=>?_,bJ h5,?_⟩
 ·obtain⟨k,q1,q2⟩:=h4 e he
  exact⟨some k,q1,q2⟩
 ·rw[List.map_map]
  have e:((fun x:cu×Value=>x.1)∘fun x:g4×Value=>((some x.1:cu),x.2))=(fun k:g4=>(some k:cu))∘fun x:g4×Value=>x.1:=rfl
  rw[e,←List.map_map]
  exact List.Pairwise.map _ (fun a b h z=>h (Option.some.inj z)) h6
theorem iJ {vs:List (g4×Value)}{v:Value}:stored (vs.map fun x=>((some x.1:cu),x.2)) none v=(vs.map fun x=>((some x.1:cu),x.2))++[(none,v)]:=by
 unfold stored
 rw[if_neg]
 intro z
 obtain⟨x,hx,e⟩:=List.any_eq_true.mp z
 obtain⟨y,_,rfl⟩:=List.mem_map.mp hx
 cases of_decide_eq_true e
section
variable {X:Cx}
def nF (P:Program)(w:World):gU:=fun o i v H Q=>jV o i v H Q∨∃a kvs,o= .ref a∧i= .non∧H a=some (.dK kvs)∧kvs.length<1000∧Q (i6 H a (.ext (aN P w a (kvs.length+1))))
theorem nP (hu:X.A.units+1<cLine):kB X (nF X.prog X.w):=by
 intro pins s σ H o i v ov iv u Q I ro ri rv h
 rcases h with h|⟨a,kvs,rfl,rfl,hA,hl,q⟩
 ·exact qK hu pins s σ H o i v ov iv u Q I ro ri rv h
 ·cases ro
  cases ri
  obtain⟨z,hd,vs,rel,dd⟩:=sV I.hok hA
  have hlv:=rel.length
  refine wpAny_setItem_pairs (knd:=W2 X.prog X.w) (k:=none) (hsz:=by rw[List.length_map];lia) rfl (rN dd) fun h' dd' hs=>?_
  rw[iJ] at dd'
  have he:∃q,h'.get? a=some q:=let ⟨q,_,_,hq,_⟩:=dd';⟨q,hq⟩
  exact⟨_,aQ I (by rw[hA];exact True.intro) hs he (iC ⟨hd,_,dd',by rw[List.length_append,List.length_map,hlv];rfl⟩),q⟩
def jH (K:PySem.W.Frag)(P:Program)(w:World):List V→Hp→VK→Prop:=fun xs H Q=>si K xs H Q∨∃p n,xs=[V.ref p]∧H p=some (.ext (aN P w p n))∧n≤1000∧Q (.int n) H
theorem kc:CallR X (.builtin "len") (jH X.K X.prog X.w):=by
 refine call_lenS.or ?_
 intro pins s σ H xs us Q I r h
 obtain⟨p,n,rfl,hp,hn,q⟩:=h
 obtain⟨u,rfl,ru⟩:=D7 r
 cases ru
 obtain⟨hs,vs,dd,hl⟩:=(I.hok p _ hp).1
 refine call_len_dict hs dd (by lia) ?_
 rw[hl]
 exact⟨.int n,H,I.tok _,⟨_,rfl⟩,q⟩
theorem xg (K:PySem.W.Frag)(h:X.K=K:=by rfl):CallR X (.builtin "len") (jH K X.prog X.w):=h▸kc
end
section
variable {K:PySem.W.Frag} {P:Program} {w:World} {H:Hp} {Q:VK}
theorem C5 {xs:List V}(h:lU K xs H Q):jH K P w xs H Q:= .inl (.inl h)
theorem E7 {o i v:V}{Qh:Hp→Prop}(h:jV o i v H Qh):nF P w o i v H Qh:= .inl h
theorem wA {x y:V}(h:lK K x y H Q):jw K x y H Q:= .inl (zu h)
theorem oO {i j:Int}(q:Q (.bl (decide (i=j))) H):jw K (.int i) (.int j) H Q:=wA (oD q)
theorem pN {i j:Str}(q:Q (.bl (decide (i=j))) H):jw K (.str i) (.str j) H Q:=wA (oR q)
end
theorem E6 {X:Cx}(K:PySem.W.Frag)(P:Program)(w:World)(h:X.K=K:=by rfl)(hp:X.prog=P:=by rfl)(hw:X.w=w:=by rfl):CallR X (.builtin "len") (jH K P w):=by subst hp hw;exact xg K h
theorem k6 {X:Cx}(P:Program)(w:World)(hu:X.A.units+1<cLine)(hp:X.prog=P:=by rfl)(hw:X.w=w:=by rfl):kB X (nF P w):=by subst hp hw;exact nP hu
end L2
set_option Elab.async false
set_option linter.all false
set_option maxRecDepth 100000
namespace L2
open PySem PySem.Spec PyProof.Rows
section
variable {X:Cx} {a b:Expr} {ta:TA} {x y:Str} {pos:Pos}
end
section
variable {σ:St} {H:Hp} {nx:St→Hp→Prop} {rt:VK} {bk ct:St→Hp→Prop} {ta:TA}
end
end L2
set_option Elab.async false
set_option linter.all false
set_option maxRecDepth 100000
set_option maxHeartbeats 4000000
namespace L2
open PySem PySem.Spec PyProof.Rows
section
variable {P:Program} {w:World}
end
section
variable {X:Cx} {tg:Expr}
end
end L2
set_option Elab.async false
set_option linter.all false
namespace L2
open PySem PySem.Spec PyProof.Rows
section
variable {J:It} {th:Hp→Hp} {n:Nat} {g:TG} {tb:TS} {nx:L2.St→Hp→Prop} {rt:VK} {σ:L2.St} {H:Hp}
theorem M4 (Pv:Nat→L2.St→Hp→Prop)(h0:Pv 0 σ H)(hgo:∀i σ H,i<n→Pv i σ H→J.go i H)
  (hs:∀(bk:L2.St→Hp→Prop) i x σ H H',i<n→Pv i σ H→J.yld i H x H'→g x σ H' fun σ2 H2=>tb ⟨Pv (i+1),fun v H=>rt v (th H),bk,Pv (i+1)⟩ σ2 H2)
  (hd:∀σ H,Pv n σ H→J.stop n H∧nx σ (th H)):rT J th g tb nx rt σ H:=T8 Pv h0 hgo (hs fun σ H=>nx σ (th H)) hd
end
end L2
set_option Elab.async false
set_option linter.all false
set_option maxRecDepth 100000
set_option maxHeartbeats 4000000
namespace L2
open PySem PySem.Spec PyProof.Rows PySem.Builtin PySem.Builtin.Str
section
variable {X:Cx}
def zT:List TE→Str→TE
 |[],acc=>fun _ H Q=>Q (.str acc) H
 |te::r,acc=>fun σ H Q=>te σ H fun v H1=>∃y:Str,v= .str y∧(acc++y).length≤1000∧zT r (acc++y) σ H1 Q
structure QF (X:Cx) (es:List Expr) (ts:List TE):Prop where
 r:∀(pins:List (Addr×Obj)) (s:Shared) (σ:St) (H:Hp) (acc:Str) (Q:VK),Inv X pins σ H s→acc.length≤1000→zT ts acc σ H Q→wpAny (model X.prog X.w) X.A (joinParts acc (evalEach es X.env)) (EP X pins σ Q) X.xe s
end
end L2
set_option Elab.async false
set_option linter.all false
set_option maxRecDepth 100000
set_option maxHeartbeats 4000000
namespace L2
open PySem PySem.Spec PyProof.Rows
section
variable {prog:Program} {w:World} {A:Around} {E:Value→Shared→Prop} {s:Shared}
end
end L2
set_option Elab.async false
set_option linter.all false
set_option maxRecDepth 100000
set_option maxHeartbeats 4000000
namespace L2
open PySem PySem.Spec PyProof.Rows
theorem ag {α β:Type}{F:α→β→Prop}:∀{l:List α} {m:List β} {b:β},Paired F l m→b∈m→∃a∈l,F a b
 |_,_,_,.cons r t,h=>by
  rcases List.mem_cons.mp h with e|e
  ·exact⟨_,List.mem_cons_self,e▸r⟩
  ·obtain⟨a,h1,h2⟩:=ag t e
   exact⟨a,List.mem_cons_of_mem _ h1,h2⟩
section
variable {X:Cx}
end
section
variable {K:PySem.W.Frag} {P:Program} {w:World} {H:Hp} {Q:VK} {σ:L2.St}
end
end L2
set_option Elab.async false
set_option linter.all false
set_option maxRecDepth 100000
set_option maxHeartbeats 4000000
namespace L2
open PySem PySem.Spec PyProof.Rows
def vU:Value→V
 | .none=> .non
 | .bool b=> .bl b
 | .int i _=> .int i
 | .str x _=> .str x
 | .bytes b _=> .byt b
 | .float b _=> .flt b
 | .ref a=> .ref a
 | .type n=> .ty n
 |_=> .non
theorem pR {v:V}{u:Value}(r:RelV v u):vU u=v:=by
 cases v with
 |non=>rw[show u=Value.none from r];rfl
 |bl b=>rw[show u=Value.bool b from r];rfl
 |int i=>obtain⟨t,rfl⟩:=r;rfl
 |str x=>obtain⟨t,rfl⟩:=r;rfl
 |byt x=>obtain⟨t,rfl⟩:=r;rfl
 |flt x=>obtain⟨t,rfl⟩:=r;rfl
 |ref a=>rw[show u=Value.ref a from r];rfl
 |ty n=>rw[show u=Value.type n from r];rfl
theorem xC {f:V→Bool}:∀{xs:List V} {us:List Value},Vals xs us→us.countP (f∘vU)=xs.countP f
 |_,_,.nil=>rfl
 |_,_,.cons r t=>by rw[List.countP_cons,List.countP_cons,xC t,Function.comp,pR r]
section
variable {X:Cx}
end
def ph (K:PySem.W.Frag)(a:Addr)(xs:List V):It:=
 ⟨fun i H=>SqL K H a xs∧i<xs.length,fun i H x H'=>H'=H∧xs[xs.length -1 -i]?=some x,fun i _=>i=xs.length⟩
theorem pq {P:Program}{w:World}{K:PySem.W.Frag}{tg:Expr}(a it:Addr)(xs:List V):aC P w K tg (ph K a xs) [it] it (fun i h=>h.IsRevIter it a ((xs.length:Int) -1 -(i:Int))) where
 mem:=by simp
 obj:=fun i h st b hb=>by
  have e:b=it:=by simpa using hb
  subst e
  obtain⟨o,e,c,d⟩:=st
  exact⟨o,e,fun v z=>by rw[d] at z;cases z⟩
 keep:=fun i h h' st k=>st.at fun o e=>k it (by simp) o e
 item:=by
  intro X hP hw hK hc i pins s σ H E I hf st hg
  subst hP hw hK
  obtain⟨hq,hi⟩:=hg
  obtain⟨its,rv,p,hz⟩:=I.list hq
  have hj:xs.length -1 -i<xs.length:=Nat.lt_of_le_of_lt (Nat.sub_le _ _) (Nat.sub_one_lt_of_lt hi)
  obtain⟨u,hu,ru⟩:=rv.get (List.getElem?_eq_getElem hj)
  obtain⟨f0,f1,f2,f3,f4,f5⟩:=hf it (by simp)
  have st1:s.heap.IsRevIter it a ((xs.length -1 -i:Nat):Int):=by
   have e:((xs.length -1 -i:Nat):Int)=(xs.length:Int) -1 -(i:Int):=by lia
   rw[e];exact st
  refine wpAny_pyNext_rev_item st1 p.isList (x:=u) (by simpa using hu) fun h' st' sb=>?_
  have I1:Inv X pins σ H {s with heap:=h'}:=I.turned (t':=s.toks) (fun b o hb e=>(sb.2 b hb).trans e) f0 f1 f3 f4 f5
  obtain⟨o,e,c,d⟩:=id st'
  have st2:h'.IsRevIter it a ((xs.length:Int) -1 -((i+1:Nat):Int)):=by
   have e:(xs.length:Int) -1 -((i+1:Nat):Int)=((xs.length -1 -i:Nat):Int) -1:=by lia
   rw[e];exact st'
  exact⟨u,rfl,jS (s:={s with heap:=h'}) e c d (by decide) ⟨_,H,I1,ru,⟨rfl,List.getElem?_eq_getElem hj⟩,st2,fun b hb=>(hf b hb).1⟩⟩
 done:=by
  intro X hP hw hK hc i pins s σ H E I hf st hg
  subst hP hw hK
  have hg':i=xs.length:=hg
  obtain⟨f0,f1,f2,f3,f4,f5⟩:=hf it (by simp)
  have st1:s.heap.IsRevIter it a (-1):=by
   have e:(-1:Int)=(xs.length:Int) -1 -(i:Int):=by lia
   rw[e];exact st
  exact wpAny_pyNext_rev_end (I.ok.hd hc) st1 fun h' eb=>⟨rfl,I.turned (t':=s.toks) (fun b o hb e=>eb b o hb e) f0 f1 f3 f4 f5⟩
 self:=fun _ _ _ _ _ st h=>wpAny_pyIter_revIter st h
section
variable {X:Cx} {a:Expr} {t:TA} {p pos:Pos} {tg:Expr}
def tO (K:PySem.W.Frag)(ta:TA):gQ:=fun σ H R=>ta σ H fun vs H1=>∃l xs,vs=[.ref l]∧SqL K H1 l xs∧R (ph K l xs) id H1
theorem uX (hg:Gl X "reversed")(hm:X.mg "reversed"=none)(ha:PA X [a] t)(hs:starEach [a] X.env=[(false,eval a X.env)]):qP X tg (.Call (.Name "reversed" p) [a] [] pos) (tO X.K t):=by
 intro pins s σ H R I h
 refine Call_ (P1 I hg hm Boot.«reversed» (PyProof.Rows.callWith_type1 (A2 (ha pos pins s σ H _ I h) fun us s1 ⟨vs,H1,I1,r1,q1⟩=>?_) hs rfl))
 obtain⟨l,xs,e,hq,q⟩:=q1
 subst e
 obtain⟨u,rfl,ru⟩:=D7 r1
 cases ru
 obtain⟨its,rv,pl,hz⟩:=I1.list hq
 have hl:=rv.length
 refine call_reversed_list pl.isList ?_
 have I2:Inv X pins σ H1 {s1 with heap:=s1.heap.push (revObj l ((its.toArray.size:Int) -1))}:=I1.kept (t':=s1.toks) fun b o e=>Heap.get?_push_of_some _ e
 have st:(s1.heap.push (revObj l ((its.toArray.size:Int) -1))).IsRevIter s1.heap.objs.size l ((xs.length:Int) -1 -((0:Nat):Int)):=by
  refine⟨_,Heap.get?_push_size _ rfl,rfl,?_⟩
  show Data.fields #[.ref l,rawInt ((its.toArray.size:Int) -1)]=_
  rw[show(its.toArray.size:Int) -1=(xs.length:Int) -1 -((0:Nat):Int) by rw[List.size_toArray];lia]
 refine wpAny_pyIter_revIter (s:={s1 with heap:=s1.heap.push (revObj l ((its.toArray.size:Int) -1))}) st ?_
 refine⟨s1.heap.objs.size,[s1.heap.objs.size],_,_,H1,rfl,I2,pq l _ xs,st,fun b hb=>?_,id,aF,q⟩
 have e:b=s1.heap.objs.size:=by simpa using hb
 subst e
 exact I1.fpOk (Nat.le_refl _) (I1.hok.fresh (Nat.le_refl _))
theorem gB (K:PySem.W.Frag)(hm:X.mg "reversed"=none)(ha:QA X [a] t)(hg:Gl X "reversed":=by rfl)(h:j0 a=true:=by rfl)(hK:X.K=K:=by rfl):QI X tg (.Call (.Name "reversed" p) [a] [] pos) (tO K t):=
 ⟨hK▸uX hg hm ha.r (D6 h)⟩
end
section
variable {K:PySem.W.Frag} {σ:L2.St} {H:Hp} {ta:TA} {R:It→(Hp→Hp)→Hp→Prop}
theorem xH (q:ta σ H fun vs H1=>∃l xs,vs=[V.ref l]∧SqL K H1 l xs∧R (ph K l xs) id H1):tO K ta σ H R:=q
end
end L2
set_option Elab.async false
set_option linter.all false
set_option maxRecDepth 100000
set_option maxHeartbeats 4000000
namespace L2
open PySem PySem.Spec PyProof.Rows
abbrev cK (h:Heap)(z TI TO:Addr)(f0:Value)(b:Bool):Prop:=h.get? z=some {cls:= .type "zip",dict:=none,data:= .fields #[f0,.bool b,.bool false,.ref TI,.ref TO],slots:= #[]}
section
variable {prog:Program} {w:World} {A:Around} {E:Value→Shared→Prop} {s:Shared}
theorem fO {z TI TO T:Addr}{b:Bool}{ot:Obj}{Q:Bool→Shared→Prop}(hz:cK s.heap z TI TO (rawInt T) b)(hT:s.heap.get? T=some ot)
  (hQ:∀h',cK h' z TI TO (rawInt T) true→Heap.SameBut z s.heap h'→Q false {s with heap:=h'}):wpAny (model prog w) A (Builtin.SmallTypes.ownedTupleIsFree (.ref z)) Q E s:=by
 unfold Builtin.SmallTypes.ownedTupleIsFree
 refine wpAny_bind (wpAny_field hz rfl (x:=rawInt T) rfl ?_)
 refine wpAny_bind (PySem.W.kdx_alive (show s.heap.get? ((T:Int).toNat)=some ot by rw[Int.toNat_natCast];exact hT) ?_)
 rw[if_neg (by simp)]
 refine wpAny_bind (wpAny_field hz rfl (x:= .bool b) rfl ?_)
 cases b with
 |true=>
  rw[if_neg (by decide)]
  exact wpAny_pure (hQ s.heap hz (Heap.SameBut.refl _ _))
 |false=>
  rw[if_pos (by decide)]
  exact wpAny_bind (wpAny_setField_rec hz (by simp) fun h' g' s'=>wpAny_pure (hQ h' g' s'))
theorem kP {z TI TO T i1 i2 l1 l2:Addr}{k1 k2:Nat}{b:Bool}{ot:Obj}{xs ys:Array Value}{x y:Value}{Q:Option Value→Shared→Prop}(D:ZipApart z TI TO i1 i2 l1 l2)
  (hz:cK s.heap z TI TO (rawInt T) b) (hTa:s.heap.get? T=some ot) (hTI:IsPair s.heap TI (.ref i1) (.ref i2))
  (h1:s.heap.IsListIter i1 l1 k1) (h2:s.heap.IsListIter i2 l2 k2) (hl1:s.heap.IsList l1 xs) (hl2:s.heap.IsList l2 ys) (hx:xs[k1]?=some x) (hy:ys[k2]?=some y)
  (hQ:∀h',cK h' z TI TO (rawInt T) true→h'.IsListIter i1 l1 (k1+1)→h'.IsListIter i2 l2 (k2+1)→IsPair h' s.heap.objs.size x y→
   (∀c o,c≠z→c≠i1→c≠i2→s.heap.get? c=some o→h'.get? c=some o)→Q (some (.ref s.heap.objs.size)) {s with heap:=h'}):wpAny (model prog w) A (pyNext (.ref z)) Q E s:=by
 have hT:s.TypeIs (.ref z) "zip":=⟨_,hz,rfl⟩
 unfold pyNext
 refine wpAny_bind (wpAny_attempt (wpAny_callSpecial?_slot (name:=Str.ofString "__next__") hT F.slot_zip_next (wpAny_call_entry F.slot_zip_next hT F.entry_zip_next ?_ (F.args_zip_next_1 _))))
 show wpAny (model prog w) _ (field (.ref z) 2>>=_) _ _ _
 refine wpAny_bind (wpAny_field hz rfl (x:= .bool false) rfl ?_)
 show wpAny (model prog w) _ (field (.ref z) 3>>=_) _ _ _
 refine wpAny_bind (wpAny_field hz rfl (x:= .ref TI) rfl (wpAny_bind (wpAny_seqItems hTI rfl ?_)))
 show wpAny (model prog w) _ (Builtin.SmallTypes.ownedTupleIsFree (.ref z)>>=_) _ _ _
 refine wpAny_bind (fO hz hTa fun k1' g1 s1=>?_)
 rw[if_neg (by decide)]
 dsimp only
 refine wpAny_bind ?_
 rw[←Array.forIn_toList]
 simp only[List.forIn_cons,List.forIn_nil]
 refine wpAny_bind (wpAny_bind (wpAny_holding ?_))
 show wpAny (model prog w) _ (Builtin.SmallTypes.nextOf (.ref i1)>>=_) _ _ _
 refine wpAny_bind (wpAny_nextOf_list_item (h1.extBut s1.extBut D.i1z) (hl1.extBut s1.extBut D.l1z) hx fun k2' g2 s2=>wpAny_pure (wpAny_pure ?_))
 refine wpAny_bind (wpAny_bind (wpAny_holding ?_))
 show wpAny (model prog w) _ (Builtin.SmallTypes.nextOf (.ref i2)>>=_) _ _ _
 refine wpAny_bind (wpAny_nextOf_list_item ((h2.extBut s1.extBut D.i2z).extBut s2.extBut D.i12.symm) ((hl2.extBut s1.extBut D.l2z).extBut s2.extBut D.l2i1) hy fun k3' g3 s3=>wpAny_pure (wpAny_pure (wpAny_pure ?_)))
 have sz:k3'.objs.size=s.heap.objs.size:=by rw[s3.1,s2.1,s1.1]
 have up:∀c o,c≠z→c≠i1→c≠i2→s.heap.get? c=some o→k3'.get? c=some o:=fun c o c1 c2 c3 e=>s3.extBut _ _ c3 (s2.extBut _ _ c2 (s1.extBut _ _ c1 e))
 refine wpAny_bind (wpAny_newTuple (wpAny_pure ⟨_,rfl,?_⟩) (by show 2≤sizeLine;decide))
 refine wpAny_pure ?_
 show Q (some (.ref k3'.objs.size)) _
 rw[sz]
 refine hQ _ (Heap.get?_push_of_some _ (s3.extBut _ _ D.i2z.symm (s2.extBut _ _ D.i1z.symm g1))) ((g2.extBut s3.extBut D.i12).at fun o e=>Heap.get?_push_of_some _ e) (g3.at fun o e=>Heap.get?_push_of_some _ e) ?_ fun c o c1 c2 c3 e=>Heap.get?_push_of_some _ (up c o c1 c2 c3 e)
 rw[←sz]
 exact Heap.get?_push_size _ rfl
theorem oU {z TI TO T i1 i2 l1 l2:Addr}{k1 k2:Nat}{b:Bool}{ot:Obj}{xs ys:Array Value}{Q:Option Value→Shared→Prop}(hh:A.handled=none)(D:ZipApart z TI TO i1 i2 l1 l2)
  (hz:cK s.heap z TI TO (rawInt T) b) (hTa:s.heap.get? T=some ot) (hTI:IsPair s.heap TI (.ref i1) (.ref i2))
  (h1:s.heap.IsListIter i1 l1 k1) (h2:s.heap.IsListIter i2 l2 k2) (hl1:s.heap.IsList l1 xs) (hl2:s.heap.IsList l2 ys) (hend:xs[k1]?=none∨ys[k2]?=none)
  (hQ:∀h',(∀c o,c≠z→c≠i1→c≠i2→s.heap.get? c=some o→h'.get? c=some o)→Q none {s with heap:=h'}):wpAny (model prog w) A (pyNext (.ref z)) Q E s:=by
 have hT:s.TypeIs (.ref z) "zip":=⟨_,hz,rfl⟩
 unfold pyNext
 refine wpAny_bind (wpAny_attempt (wpAny_callSpecial?_slot (name:=Str.ofString "__next__") hT F.slot_zip_next (wpAny_call_entry F.slot_zip_next hT F.entry_zip_next ?_ (F.args_zip_next_1 _))))
 show wpAny (model prog w) _ (field (.ref z) 2>>=_) _ _ _
 refine wpAny_bind (wpAny_field hz rfl (x:= .bool false) rfl ?_)
 show wpAny (model prog w) _ (field (.ref z) 3>>=_) _ _ _
 refine wpAny_bind (wpAny_field hz rfl (x:= .ref TI) rfl (wpAny_bind (wpAny_seqItems hTI rfl ?_)))
 show wpAny (model prog w) _ (Builtin.SmallTypes.ownedTupleIsFree (.ref z)>>=_) _ _ _
 refine wpAny_bind (fO hz hTa fun k1' g1 s1=>?_)
 rw[if_neg (by decide)]
 dsimp only
 refine wpAny_bind ?_
 rw[←Array.forIn_toList]
 simp only[List.forIn_cons,List.forIn_nil]
 refine wpAny_bind (wpAny_bind (wpAny_holding ?_))
 show wpAny (model prog w) _ (Builtin.SmallTypes.nextOf (.ref i1)>>=_) _ _ _
 cases hx:xs[k1]? with
 |none=>
  refine wpAny_bind (wpAny_nextOf_list_end hh (h1.extBut s1.extBut D.i1z) (hl1.extBut s1.extBut D.l1z) hx fun k2' e s2 he=>?_)
  obtain⟨oe,hoe,hce⟩:=he
  exact wpAny_bind (wpAny_isInstance (T:="StopIteration") (b:=true) ⟨oe,hoe,hce⟩ isSubtype_stop (wpAny_pure (hQ _ fun c o c1 c2 c3 x=>s2 _ _ c2 (s1.extBut _ _ c1 x))))
 |some x=>
  have hy:ys[k2]?=none:=by
   rcases hend with h|h
   ·rw[hx] at h;cases h
   ·exact h
  refine wpAny_bind (wpAny_nextOf_list_item (h1.extBut s1.extBut D.i1z) (hl1.extBut s1.extBut D.l1z) hx fun k2' g2 s2=>wpAny_pure (wpAny_pure ?_))
  refine wpAny_bind (wpAny_bind (wpAny_holding ?_))
  show wpAny (model prog w) _ (Builtin.SmallTypes.nextOf (.ref i2)>>=_) _ _ _
  refine wpAny_bind (wpAny_nextOf_list_end hh ((h2.extBut s1.extBut D.i2z).extBut s2.extBut D.i12.symm) ((hl2.extBut s1.extBut D.l2z).extBut s2.extBut D.l2i1) hy fun k3' e s3 he=>?_)
  obtain⟨oe,hoe,hce⟩:=he
  exact wpAny_bind (wpAny_isInstance (T:="StopIteration") (b:=true) ⟨oe,hoe,hce⟩ isSubtype_stop (wpAny_pure (hQ _ fun c o c1 c2 c3 x=>s3 _ _ c3 (s2.extBut _ _ c2 (s1.extBut _ _ c1 x)))))
end
theorem fz:typeLookup (.type "zip") "keys"=pure none:=by rw[typeLookup_type,builtinLookup_eq_fast];kernel_rfl
theorem me:typeLookup (.type "zip") "__getattr__"=pure none:=by rw[typeLookup_type,builtinLookup_eq_fast];kernel_rfl
section
variable {prog:Program} {w:World} {A:Around} {E:Value→Shared→Prop} {s:Shared}
theorem nY (a:Addr)(fs:Array Value)(u:Tok):Meets (Builtin.«object.__getattribute__» ⟨[.ref a,.str "keys" u],[]⟩) (fun A R s=>s.heap.get? a=some {cls:= .type "zip",dict:=none,data:= .fields fs,slots:= #[]}∧raisesAttr (.ref a) "keys" A R s):=
 Meets.of_wp fun prog w A R s hs=>by
  obtain⟨hp,g,d,tk,os⟩:=s
  obtain⟨hx,hs⟩:=hs
  have hT:(⟨hp,g,d,tk,os⟩:Shared).TypeIs (.ref a) "zip":=⟨_,hx,rfl⟩
  have hmiss:=fz
  unfold Builtin.«object.__getattribute__»
  repeat(any_goals (first|assumption|wp_step))
  exact wpAny_raiseAttrError hs.1 hs.2 (attrMsg_fits (by decide+kernel) (by decide+kernel))
theorem iF:entryFor table "zip.__getattribute__"=some Builtin.«object.__getattribute__»:=entryFor_alias (id':="object.__getattribute__") (by kernel_rfl) (by decide+kernel) (by decide+kernel) (by kernel_rfl)
theorem fI {a:Addr}{fs:Array Value}{Q:Option Value→Shared→Prop}(hx:s.heap.get? a=some {cls:= .type "zip",dict:=none,data:= .fields fs,slots:= #[]})(hA:A.handled=none)
  (h:∀h' tk,(∀b ob,s.heap.get? b=some ob→h'.get? b=some ob)→Q none {s with heap:=h',toks:=tk}):wpAny (model prog w) A (getAttr? (.ref a) "keys") Q E s:=by
 obtain⟨hp,g,d,tk,os⟩:=s
 have hT:∀tk',(⟨hp,g,d,tk',os⟩:Shared).TypeIs (.ref a) "zip":=fun _=>⟨_,hx,rfl⟩
 have f1:=sub_AttributeError
 have f3:=F.slot_zip_getattribute.lookup
 have f4:=F.slot_zip_getattribute.bind (.ref a)
 have f5:=me
 unfold getAttr? getAttrBy? getAttrBy
 repeat(any_goals (first|assumption|exact hT _|((with_reducible show wpAny _ _ (call (Value.builtin "zip.__getattribute__") _ _) _ _ _);refine call_meets F.slot_zip_getattribute (hT _) iF (F.args_zip_getattribute_2 _ _) (nY a fs _) ⟨hx,hA,fun h' tk' e hx'=>?_⟩)|wp_step))
 obtain⟨t',u',he⟩:=hx'.there
 show wpAny _ _ (getattributeRaised _ _ _ _ _ _ _) _ _ _
 unfold getattributeRaised
 repeat(any_goals (first|assumption|wp_step))
 exact h _ _ hx'.keeps
end
end L2
set_option Elab.async false
set_option linter.all false
set_option maxRecDepth 100000
set_option maxHeartbeats 4000000
namespace L2
open PySem PySem.Spec PyProof.Rows
section
variable {prog:Program} {w:World} {A:Around} {E:Value→Shared→Prop} {s:Shared}
structure ZipSt (h:Heap) (d z TI TO i1 i2 l1 l2:Addr) (k:Nat) (xs ys:Array Value):Prop where
 ti:IsPair h TI (.ref i1) (.ref i2)
 a1:h.IsListIter i1 l1 k
 a2:h.IsListIter i2 l2 k
 b1:h.IsList l1 xs
 b2:h.IsList l2 ys
 st:(∃a b,IsZip h z TI TO .none∧IsPair h TO a b)∨∃(T:Addr) (b:Bool) (ot:Obj),cK h z TI TO (rawInt T) b∧h.get? T=some ot∧T≠z∧T≠i1∧T≠i2∧T≠d
structure dO (d z TI TO i1 i2 l1 l2:Addr):Prop where
 z:z≠d
 TI:TI≠d
 TO:TO≠d
 i1:i1≠d
 i2:i2≠d
 l1:l1≠d
 l2:l2≠d
theorem ZipSt.keep {h h':Heap}{d z TI TO i1 i2 l1 l2:Addr}{k:Nat}{xs ys:Array Value}(Z:ZipSt h d z TI TO i1 i2 l1 l2 k xs ys)(O:dO d z TI TO i1 i2 l1 l2)(kp:∀c o,c≠d→h.get? c=some o→h'.get? c=some o):ZipSt h' d z TI TO i1 i2 l1 l2 k xs ys:=by
 refine⟨kp _ _ O.TI Z.ti,Z.a1.at fun o e=>kp _ o O.i1 e,Z.a2.at fun o e=>kp _ o O.i2 e,?_,?_,?_⟩
 ·obtain⟨o,ho,r⟩:=Z.b1;exact⟨o,kp _ _ O.l1 ho,r⟩
 ·obtain⟨o,ho,r⟩:=Z.b2;exact⟨o,kp _ _ O.l2 ho,r⟩
 ·rcases Z.st with⟨a,b,h1,h2⟩|⟨T,b,ot,h1,h2,h3⟩
  ·exact .inl ⟨a,b,kp _ _ O.z h1,kp _ _ O.TO h2⟩
  ·exact .inr ⟨T,b,ot,kp _ _ O.z h1,kp _ _ h3.2.2.2 h2,h3⟩
theorem kO {d z TI TO i1 i2 l1 l2:Addr}{k:Nat}{xs ys:Array Value}{x y:Value}{od:Obj}{Q:Option Value→Shared→Prop}(D:ZipApart z TI TO i1 i2 l1 l2)(O:dO d z TI TO i1 i2 l1 l2)(hd:s.heap.get? d=some od)
  (Z:ZipSt s.heap d z TI TO i1 i2 l1 l2 k xs ys) (hx:xs[k]?=some x) (hy:ys[k]?=some y)
  (hQ:∀h',ZipSt h' d z TI TO i1 i2 l1 l2 (k+1) xs ys→IsPair h' s.heap.objs.size x y→(∀c o,c≠z→c≠TO→c≠i1→c≠i2→s.heap.get? c=some o→h'.get? c=some o)→Q (some (.ref s.heap.objs.size)) {s with heap:=h'}):
  wpAny (model prog w) A (pyNext (.ref z)) Q E s:=by
 have lt:∀{c:Addr} {o:Obj},s.heap.get? c=some o→s.heap.objs.size≠c:=fun{c o} e=>Nat.ne_of_gt (Heap.lt_size e)
 rcases Z.st with⟨a,b,h1,h2⟩|⟨T,b,ot,h1,h2,h3,h4,h5,h6⟩
 ·refine wpAny_pyNext_zip_item D h1 Z.ti h2 Z.a1 Z.a2 Z.b1 Z.b2 hx hy fun h' q1 q2 q3 q4 q5 q6 q7=>hQ h' ⟨q7 _ _ D.TIz D.TITO D.TIi1 D.TIi2 Z.ti,q3,q4,?_,?_,?_⟩ q5 q7
  ·obtain⟨o,ho,r⟩:=Z.b1;exact⟨o,q7 _ _ D.l1z D.l1TO D.l1i1 D.l1i2 ho,r⟩
  ·obtain⟨o,ho,r⟩:=Z.b2;exact⟨o,q7 _ _ D.l2z D.l2TO D.l2i1 D.l2i2 ho,r⟩
  ·obtain⟨o1,e1,_⟩:=Z.a1
   obtain⟨o2,e2,_⟩:=Z.a2
   exact .inr ⟨_,false,_,q1,q5,lt h1,lt e1,lt e2,lt hd⟩
 ·refine kP D h1 h2 Z.ti Z.a1 Z.a2 Z.b1 Z.b2 hx hy fun h' q1 q3 q4 q5 q7=>hQ h' ⟨q7 _ _ D.TIz D.TIi1 D.TIi2 Z.ti,q3,q4,?_,?_,.inr ⟨T,true,ot,q1,q7 _ _ h3 h4 h5 h2,h3,h4,h5,h6⟩⟩ q5 fun c o c1 _ c3 c4 e=>q7 c o c1 c3 c4 e
  ·obtain⟨o,ho,r⟩:=Z.b1;exact⟨o,q7 _ _ D.l1z D.l1i1 D.l1i2 ho,r⟩
  ·obtain⟨o,ho,r⟩:=Z.b2;exact⟨o,q7 _ _ D.l2z D.l2i1 D.l2i2 ho,r⟩
theorem nv {d z TI TO i1 i2 l1 l2:Addr}{k:Nat}{xs ys:Array Value}{Q:Option Value→Shared→Prop}(hh:A.handled=none)(D:ZipApart z TI TO i1 i2 l1 l2)
  (Z:ZipSt s.heap d z TI TO i1 i2 l1 l2 k xs ys) (hend:xs[k]?=none∨ys[k]?=none)
  (hQ:∀h',(∀c o,c≠z→c≠TO→c≠i1→c≠i2→s.heap.get? c=some o→h'.get? c=some o)→Q none {s with heap:=h'}):wpAny (model prog w) A (pyNext (.ref z)) Q E s:=by
 rcases Z.st with⟨a,b,h1,h2⟩|⟨T,b,ot,h1,h2,h3,h4,h5,h6⟩
 ·exact wpAny_pyNext_zip_end hh D h1 Z.ti h2 Z.a1 Z.a2 Z.b1 Z.b2 hend hQ
 ·exact oU hh D h1 h2 Z.ti Z.a1 Z.a2 Z.b1 Z.b2 hend fun h' q=>hQ h' fun c o c1 _ c3 c4 e=>q c o c1 c3 c4 e
end
section
variable {prog:Program} {w:World} {KT:Type} [DecidableEq KT] {knd:KeyKind prog w KT} {A:Around} {E:Value→Shared→Prop}
def bD (knd:KeyKind prog w KT)(u:Value×Value)(kv:KT×Value):Prop:=knd.is kv.1 u.1=true∧u.2=kv.2
theorem iq {d z TI TO i1 i2 l1 l2:Addr}{xs ys:List Value}{res:Value}(hh:A.handled=none)(D:ZipApart z TI TO i1 i2 l1 l2)(O:dO d z TI TO i1 i2 l1 l2):
  ∀(more:List (KT×Value)) (i:Nat) (s:Shared) (kvs:List (KT×Value)) (R:Result→Shared→Prop),
   ZipSt s.heap d z TI TO i1 i2 l1 l2 i xs.toArray ys.toArray→Paired (bD knd) ((xs.zip ys).drop i) more→s.heap.DictOf knd d kvs→kvs.length+more.length≤sizeLine→
   (∀h' tk,(∀b o,b≠d→b≠z→b≠TO→b≠i1→b≠i2→s.heap.get? b=some o→h'.get? b=some o)→h'.DictOf knd d (more.foldl (fun a x=>stored a x.1 x.2) kvs)→R (.ok (.ret res)) {s with heap:=h',toks:=tk})→
   codeAny (model prog w) A (.builtin "dict.update.loop" ⟨[.ref d,.ref z,rawInt (i:Int),res],[]⟩) R s:=by
 intro more
 induction more with
 |nil=>
  intro i s kvs R Z hp hd hz hR
  have hend:xs.toArray[i]?=none∨ys.toArray[i]?=none:=by
   have hn:(xs.zip ys).drop i=[]:=by cases hp':(xs.zip ys).drop i with
    |nil=>rfl
    |cons x r=>rw[hp'] at hp;cases hp
   have hl:=List.drop_eq_nil_iff.mp hn
   rw[List.length_zip] at hl
   by_cases h:xs.length≤i
   ·exact .inl (by simp;lia)
   ·exact .inr (by simp;lia)
  refine codeAny_builtin C0 ?_
  rw[Around.under_plainId j9 _]
  show wpAny _ A.in1 (pyNext (.ref z)>>=_) _ _ s
  refine wpAny_bind (nv (A:=A.in1) hh D Z hend fun h' kp=>?_)
  show wpAny _ A.in1 (Builtin.Dict.addKeywords d []>>=_) _ _ _
  refine wpAny_bind (wpAny_pure (wpAny_pure ?_))
  refine hR h' s.toks (fun b o _ h1 h2 h3 h4 e=>kp b o h1 h2 h3 h4 e) ?_
  obtain⟨od,es,ep,e,r⟩:=hd
  exact⟨od,es,ep,kp d od (Ne.symm O.z) (Ne.symm O.TO) (Ne.symm O.i1) (Ne.symm O.i2) e,r⟩
 |cons kv more ih=>
  intro i s kvs R Z hp hd hz hR
  obtain⟨x,y,hx,hy,hk,hp1⟩:∃x y,xs.toArray[i]?=some x∧ys.toArray[i]?=some y∧bD knd (x,y) kv∧Paired (bD knd) ((xs.zip ys).drop (i+1)) more:=by
   cases hp':(xs.zip ys).drop i with
   |nil=>rw[hp'] at hp;cases hp
   |cons u r=>
    rw[hp'] at hp
    cases hp with
    |cons h1 h2=>
     have z1:(xs.zip ys)[i]?=some u:=by
      have z:=congrArg List.head? hp'
      simpa using z
     obtain⟨q1,q2⟩:=List.getElem?_zip_eq_some.mp z1
     refine⟨u.1,u.2,by simpa using q1,by simpa using q2,h1,?_⟩
     have z:=congrArg List.tail hp'
     rw[List.tail_drop] at z
     rw[z];exact h2
  obtain⟨hkey,hv⟩:=hk
  obtain⟨od,es,ep,eod,rod⟩:=id hd
  refine codeAny_builtin C0 ?_
  rw[Around.under_plainId j9 _]
  show wpAny _ A.in1 (pyNext (.ref z)>>=_) _ _ s
  refine wpAny_bind (kO D O eod Z hx hy fun h' Z' hT kp=>?_)
  refine wpAny_bind (wpAny_holding (wpAny_bind (wpAny_tryCatch ?_)))
  unfold Builtin.Dict.pairItems
  refine wpAny_bind (wpAny_typeOf (s:={s with heap:=h'}) ⟨_,hT,rfl⟩ ?_)
  rw[if_pos (by decide)]
  refine wpAny_bind (wpAny_seqItems (s:={s with heap:=h'}) hT rfl ?_)
  refine wpAny_pure ?_
  show wpAny _ A.in1 (holding [x,y] (dictSet d x y)) _ _ _
  have hd':h'.DictOf knd d kvs:=⟨od,es,ep,kp d od (Ne.symm O.z) (Ne.symm O.TO) (Ne.symm O.i1) (Ne.symm O.i2) eod,rod⟩
  refine wpAny_holding (wpAny_dictSet_pairs (s:={s with heap:=h'}) (kvs:=kvs) hkey hd' (fun h'' dd hs''=>?_) (by simp only[List.length_cons] at hz;lia))
  have kp2:∀b o,b≠d→b≠z→b≠TO→b≠i1→b≠i2→s.heap.get? b=some o→h''.get? b=some o:=fun b o h0 h1 h2 h3 h4 e=>hs''.extBut b o h0 (kp b o h1 h2 h3 h4 e)
  refine wpAny_pure ⟨plainId_quiet j9 _,?_⟩
  have ey:y=kv.2:=hv
  rw[ey] at dd
  refine ih (i+1) _ (stored kvs kv.1 kv.2) R (Z'.keep O fun c o hc e=>hs''.extBut c o hc e) hp1 dd ?_ (fun h3 tk k3 d3=>hR h3 tk (fun b o h0 h1 h2 h3 h4 e=>k3 b o h0 h1 h2 h3 h4 (kp2 b o h0 h1 h2 h3 h4 e)) d3)
  have z:=stored_length_le kvs kv.1 kv.2
  simp only[List.length_cons] at hz
  lia
end
end L2
set_option Elab.async false
set_option linter.all false
set_option maxRecDepth 100000
set_option maxHeartbeats 4000000
namespace L2
open PySem PySem.Spec PyProof.Rows
section
variable {prog:Program} {w:World} {KT:Type} [DecidableEq KT] {knd:KeyKind prog w KT} {A:Around} {E:Value→Shared→Prop}
theorem ck {z TI TO i1 i2 l1 l2:Addr}{xs ys:List Value}{more:List (KT×Value)}{a b:Value}{s:Shared}{Q:Value→Shared→Prop}(hh:A.handled=none)(D:ZipApart z TI TO i1 i2 l1 l2)
  (hz:IsZip s.heap z TI TO .none) (hTI:IsPair s.heap TI (.ref i1) (.ref i2)) (hTO:IsPair s.heap TO a b) (h1:s.heap.IsListIter i1 l1 0) (h2:s.heap.IsListIter i2 l2 0) (hl1:s.heap.IsList l1 xs.toArray) (hl2:s.heap.IsList l2 ys.toArray)
  (hlen:more.length≤sizeLine) (hp:Paired (bD knd) (xs.zip ys) more)
  (h:∀h' tk,h'.DictOf knd s.heap.objs.size (more.foldl (fun a x=>stored a x.1 x.2) [])→(∀b o,b≠z→b≠TO→b≠i1→b≠i2→s.heap.get? b=some o→h'.get? b=some o)→Q (.ref s.heap.objs.size) {s with heap:=h',toks:=tk}):
  wpAny (model prog w) A (call (.type "dict") [.ref z]) Q E s:=by
 refine callType_codes (Q₁:=fun obj s₁=>obj= .ref s.heap.objs.size∧s₁={s with heap:=s.heap.push {cls:= .type "dict",data:= .dict #[]}}) F.kt_called_dict (F.kt_typeCall_dict_1 _) F.entry_dict_init (kt_code_dict_new _ ⟨rfl,rfl⟩) ?_
 rintro obj s₁ ⟨rfl,rfl⟩
 have hnew:(s.heap.push {cls:= .type "dict",data:= .dict #[]}).DictOf knd s.heap.objs.size []:=Heap.DictOf.new s.heap
 have ne:∀{c:Addr} {o:Obj},s.heap.get? c=some o→c≠s.heap.objs.size:=fun{c o} e=>Nat.ne_of_lt (Heap.lt_size e)
 obtain⟨o1,e1,r1⟩:=id h1
 obtain⟨o2,e2,r2⟩:=id h2
 obtain⟨o3,e3,r3⟩:=id hl1
 obtain⟨o4,e4,r4⟩:=id hl2
 have O:dO s.heap.objs.size z TI TO i1 i2 l1 l2:=⟨ne hz,ne hTI,ne hTO,ne e1,ne e2,ne e3,ne e4⟩
 refine⟨hnew.typeIs,F.args_dict_init_2 _ _,?_⟩
 unfold Builtin.«dict.__init__»
 refine wpAny_bind ?_
 unfold Builtin.Dict.selfAndRest
 refine wpAny_bind (wpAny_notOrdered_dict hnew.typeIs ?_)
 show wpAny _ _ (pure (s.heap.objs.size,[Value.ref z])) _ _ _
 refine wpAny_pure ?_
 show wpAny _ _ (Builtin.Dict.updateFrom "dict.__init__" s.heap.objs.size (.ref z) [] .none) _ _ _
 unfold Builtin.Dict.updateFrom
 have hz1:(s.heap.push {cls:= .type "dict",data:= .dict #[]}).get? z=some _:=Heap.get?_push_of_some _ hz
 refine wpAny_bind (wpAny_typeOf (s:={s with heap:=s.heap.push {cls:= .type "dict",data:= .dict #[]}}) ⟨_,hz1,rfl⟩ ?_)
 rw[if_pos (by decide)]
 refine wpAny_bind (fI (s:={s with heap:=s.heap.push {cls:= .type "dict",data:= .dict #[]}}) hz1 hh fun h2 tk2 k2=>?_)
 rw[if_pos (show((none:Option Value).isNone)=true from rfl)]
 have up:∀b ob,s.heap.get? b=some ob→h2.get? b=some ob:=fun b ob e=>k2 b ob (Heap.get?_push_of_some _ e)
 have hd2:h2.DictOf knd s.heap.objs.size []:=let ⟨od,es,ep,e,r⟩:=hnew;⟨od,es,ep,k2 _ _ e,r⟩
 refine wpAny_bind (wpAny_rule (wpAny_bind (wpAny_pyIter_zip (f0:= .none) (up _ _ hz) ?_)))
 refine wpAny_pure ⟨plainId_quiet j9 _,?_⟩
 refine iq (knd:=knd) (xs:=xs) (ys:=ys) (A:=A.in1) hh D O more 0 _ [] _ ⟨up _ _ hTI,⟨o1,up _ _ e1,r1⟩,⟨o2,up _ _ e2,r2⟩,⟨o3,up _ _ e3,r3⟩,⟨o4,up _ _ e4,r4⟩,.inl ⟨a,b,up _ _ hz,up _ _ hTO⟩⟩ (by rw[List.drop_zero];exact hp) hd2 (by simpa using hlen) fun h3 tk k3 d3=>⟨rfl,h h3 tk d3 fun b ob c1 c2 c3 c4 e=>k3 b ob (ne e) c1 c2 c3 c4 (up b ob e)⟩
end
section
variable {X:Cx} {a b:Expr} {t:TA} {p pos p2 pos2:Pos}
def zA (K:PySem.W.Frag)(t:TA):TE:=fun σ H Q=>t σ H fun vs H1=>∃(l m:Addr) (ks:List g4) (ys:List V),vs=[.ref l,.ref m]∧SqL K H1 l (ks.map kV)∧SqL K H1 m ys∧∀d,H1 d=none→Q (.ref d) (i6 H1 d (.dK (S5 (ks.zip ys))))
theorem kN {P : Program} {w : World} : ∀ {ks : List g4} {ys : List V} {us vs : List Value}, Vals (ks.map kV) us → Vals ys vs → ∃ more, Paired (bD (h8 P w)) (us.zip vs) more ∧ KV (ks.zip ys) more
 := by
  intro ks ys us vs hu hv
  induction ks generalizing ys us vs with
  | nil => cases hu; exact ⟨[], .nil, .nil⟩
  | cons k ks ih => cases hu with
    | cons r t => cases hv with
      | nil => exact ⟨[], .nil, .nil⟩
      | cons r' t' =>
        obtain ⟨more, h1, h2⟩ := ih t t'
        exact ⟨(k, _) :: more, .cons ⟨ak r, rfl⟩ h1, .cons ⟨rfl, r'⟩ h2⟩
theorem xE (hgd:Gl X "dict")(hmd:X.mg "dict"=none)(hgz:Gl X "zip")(hmz:X.mg "zip"=none)(hc:X.calm=true)(ha:PA X [a,b] t)(hs:starEach [a,b] X.env=[(false,eval a X.env),(false,eval b X.env)])(hs2:starEach [b] X.env=[(false,eval b X.env)])
  (hs3:starEach [Expr.Call (.Name "zip" p2) [a,b] [] pos2] X.env=[(false,eval (Expr.Call (.Name "zip" p2) [a,b] [] pos2) X.env)]):PE X (.Call (.Name "dict" p) [.Call (.Name "zip" p2) [a,b] [] pos2] [] pos) (zA X.K t):=by
 intro pins s σ H Q I h
 refine wpAny_Call_Name_kw (P1 I hgd hmd Boot.«dict» (PyProof.Rows.callWith_type1 ?_ hs3 rfl) (by decide) (by decide))
 rw[hs3]
 show wpAny _ _ (spliced [(false,eval (Expr.Call (.Name "zip" p2) [a,b] [] pos2) X.env)]) _ _ s
 refine Calls.spliced_cons ?_
 refine wpAny_Call_Name_kw (P1 I hgz hmz Boot.«zip» (PyProof.Rows.callWith_type1 (A2 (ha pos2 pins s σ H _ I h) fun us s1 ⟨vs,H1,I1,r1,q1⟩=>?_) (by rw[hs,hs2]) (by rw[hs2];rfl)) (by decide) (by decide))
 obtain⟨l,m,ks,ys,e,hq,hq',q⟩:=q1
 subst e
 obtain⟨u,v,rfl,ru,rv⟩:=V1 r1
 cases ru
 cases rv
 obtain⟨its,rv,pl,hz⟩:=I1.list hq
 obtain⟨its',rv',pl',hz'⟩:=I1.list hq'
 obtain⟨more,g1,g2⟩:=kN (P:=X.prog) (w:=X.w) rv rv'
 refine call_zip_2 pl.isList pl'.isList fun h' z1 z2 z3 z4 z5 hsz hk=>?_
 refine Calls.spliced_nil ?_
 have ll:(l:Nat)<(s1.heap.objs.size:Nat):=by obtain⟨o,e,_⟩:=pl.isList;exact Heap.lt_size e
 have lm:(m:Nat)<(s1.heap.objs.size:Nat):=by obtain⟨o,e,_⟩:=pl'.isList;exact Heap.lt_size e
 have D:ZipApart (s1.heap.objs.size+4) (s1.heap.objs.size+2) (s1.heap.objs.size+3) s1.heap.objs.size (s1.heap.objs.size+1) l m:=by
  constructor<;>first|exact Nat.ne_of_lt (Nat.lt_of_lt_of_le ll (by lia))|exact Nat.ne_of_lt (Nat.lt_of_lt_of_le lm (by lia))|(intro z;have z':(_:Nat)=(_:Nat):=z;lia)
 have hml:more.length≤sizeLine:=by
  have e1:=KV.length g2
  rw[List.length_zip] at e1
  lia
 refine ck (knd:=h8 X.prog X.w) (s:={s1 with heap:=h'}) (I.ok.hd hc) D z1 z2 z3 z4 z5 ?_ ?_ hml g1 fun h3 tk d3 k3=>?_
 ·obtain⟨o,e,r⟩:=pl.isList;exact⟨o,hk _ _ e,r⟩
 ·obtain⟨o,e,r⟩:=pl'.isList;exact⟨o,hk _ _ e,r⟩
 have hdn:s1.heap.objs.size≤h'.objs.size:=by rw[hsz];lia
 refine⟨.ref h'.objs.size,_,I1.laid (a:=h'.objs.size) (t':=tk) (fun b o e=>?_) hdn (dJ (kvs:=S5 (ks.zip ys)) ?_ ?_ (KV.puts g2 .nil) d3),rfl,q _ (I1.hok.fresh hdn)⟩
 ·have hb:(b:Nat)<(s1.heap.objs.size:Nat):=Heap.lt_size e
  exact k3 b o (Nat.ne_of_lt (Nat.lt_of_lt_of_le hb (by lia))) (Nat.ne_of_lt (Nat.lt_of_lt_of_le hb (by lia))) (Nat.ne_of_lt (Nat.lt_of_lt_of_le hb (by lia))) (Nat.ne_of_lt (Nat.lt_of_lt_of_le hb (by lia))) (hk _ _ e)
 ·have z:=O6 (ks.zip ys) []
  unfold S5
  have e1:=KV.length g2
  simp only[List.length_nil] at z
  lia
 ·exact beq_eq_false_iff_ne.mpr (Ne.symm (Nat.ne_of_lt (Nat.lt_of_lt_of_le I1.big hdn)))
theorem zN (K:PySem.W.Frag)(hmd:X.mg "dict"=none)(hmz:X.mg "zip"=none)(hc:X.calm=true)(ha:QA X [a,b] t)(hgd:Gl X "dict":=by rfl)(hgz:Gl X "zip":=by rfl)(h:j0 a=true:=by rfl)(h':j0 b=true:=by rfl)(hK:X.K=K:=by rfl):
  QE X (.Call (.Name "dict" p) [.Call (.Name "zip" p2) [a,b] [] pos2] [] pos) (zA K t):=⟨hK▸xE hgd hmd hgz hmz hc ha.r (by rw[D6 h,D6 h'];rfl) (D6 h') (D6 rfl)⟩
theorem yN {K:PySem.W.Frag}{σ:L2.St}{H:Hp}{Q:VK}{t:TA}(q:t σ H fun vs H1=>∃(l m:Addr) (ks:List g4) (ys:List V),vs=[.ref l,.ref m]∧SqL K H1 l (ks.map kV)∧SqL K H1 m ys∧∀d,H1 d=none→Q (.ref d) (i6 H1 d (.dK (S5 (ks.zip ys))))):zA K t σ H Q:=q
end
end L2
set_option Elab.async false
set_option linter.all false
set_option maxRecDepth 100000
set_option maxHeartbeats 4000000
namespace L2
open PySem PySem.Spec PyProof.Rows
open PySem.AutoSeq1 (wpAny_loadPart')
open PySem.MeetsSeq PySem.MeetsSeq2 PySem.MeetsSeq3
def EqL (K:PySem.W.Frag)(H:Hp)(x y:V)(b:Bool):Prop:=∃(a c:Addr) (xs ys:List V),x= .ref a∧y= .ref c∧SqL K H a xs∧SqL K H c ys∧xs.all x6=true∧ys.all x6=true∧b=G4 xs ys
section
variable {X:Cx} {pins:List (Addr×Obj)} {σ:St} {H:Hp} {s:Shared} {A:Around}
theorem EqL.at_ {x y:V}{u v:Value}{b:Bool}(I:Inv X pins σ H s)(h:EqL X.K H x y b)(rx:RelV x u)(ry:RelV y v)(hu:A.units+8<cLine):SeqAt.EqAt A s u v b:=by
 obtain⟨a,c,xs,ys,rfl,rfl,ha,hc,fx,fy,rfl⟩:=h
 cases rx
 cases ry
 obtain⟨its,r1,p1,z1⟩:=I.list ha
 obtain⟨its',r2,p2,z2⟩:=I.list hc
 by_cases hac:a=c
 ·subst hac
  have e:=I.list_inj ha hc
  subst e
  rw[Z0 fx]
  exact SeqAt.EqAt.same _
 ·have l1:=r1.length
  have l2:=r2.length
  by_cases hl:xs.length=ys.length
  ·have q:=SeqAt.RcAt.lists (A:=A) (e:=fun j=>U1 (xs.getD j .non) (ys.getD j .non)) p1.isList p2.isList (by simp;lia) (by lia) fun j g1 g2=>by
    have g1':j<its.length:=by simpa using g1
    have g2':j<its'.length:=by simpa using g2
    have x1:xs[j]?=some (xs[j]'(by lia)):=by simp [show j<xs.length by lia]
    have y1:ys[j]?=some (ys[j]'(by lia)):=by simp [show j<ys.length by lia]
    obtain⟨u1,hu1,ru1⟩:=r1.get x1
    obtain⟨u2,hu2,ru2⟩:=r2.get y1
    have e1:its.toArray[j]=u1:=by
     have:=List.getElem?_eq_getElem g1'
     rw[hu1] at this
     simpa using(Option.some.inj this).symm
    have e2:its'.toArray[j]=u2:=by
     have:=List.getElem?_eq_getElem g2'
     rw[hu2] at this
     simpa using(Option.some.inj this).symm
    rw[e1,e2]
    have d1:xs.getD j .non=xs[j]'(by lia):=by rw[List.getD_eq_getElem?_getD,x1];rfl
    have d2:ys.getD j .non=ys[j]'(by lia):=by rw[List.getD_eq_getElem?_getD,y1];rfl
    rw[d1,d2]
    exact N0 ru1 ru2 (List.all_eq_true.mp fx _ (List.getElem_mem _)) (List.all_eq_true.mp fy _ (List.getElem_mem _))
   have e3:its.toArray.size=min xs.length ys.length:=by simp;lia
   have z:=B2 xs ys
   rw[show(xs.length==ys.length)=true by simpa using hl,Bool.and_true] at z
   rw[e3,z] at q
   exact .of_refs hac q
  ·rw[X7 hl]
   exact .of_refs hac (SeqAt.RcAt.lists_lengths p1.isList p2.isList (by simp;lia) (by lia))
end
section
variable {X:Cx}
def jZ (K:PySem.W.Frag):V→List V→Hp→VK→Prop:=fun x vs H Q=>∃(l:Addr) (xs:List V) (y:V) (f:V→Bool),x= .ref l∧vs=[y]∧H l=some (.lst xs)∧(∀z∈xs,EqL K H z y (f z))∧Q (.int (xs.countP f:Nat)) H
theorem aB {k:Nat}(hr:Room k X.A):qe X "list.count" (jZ X.K):=by
 intro pins s σ H x vs v us Q I rx rv h
 obtain⟨l,xs,y,f,rfl,rfl,hl,he,q⟩:=h
 cases rx
 obtain⟨u,rfl,ru⟩:=D7 rv
 obtain⟨hz,its,n,r,hle,e⟩:=I.lstM hl
 refine call_meets F.slot_list_count ⟨_,e,rfl⟩ F.entry_list_count (F.args_list_count_2 _ _) (SeqAt.list_countAt l its.toArray n _ _ u (f∘vU)) ⟨e,fun w hw=>?_,?_⟩
 ·obtain⟨z,hz',rz⟩:=ag r (show w∈its by simpa using hw)
  have g:=EqL.at_ (A:=X.A.in1) I (he z hz') rz ru (by have:=hr.un;show X.A.units+1+8<cLine;lia)
  rw[show(f∘vU) w=f z by show f (vU w)=f z;rw[pR rz]]
  exact g
 ·refine⟨.int (xs.countP f:Nat),H,I.tok _,⟨s.toks,?_⟩,q⟩
  show Value.int (its.countP (f∘vU):Nat) _=_
  rw[xC r]
theorem au {X:Cx}{k:Nat}(K:PySem.W.Frag)(hr:Room k X.A)(h:X.K=K:=by rfl):qe X "list.count" (jZ K):=h▸aB hr
theorem dB {X:Cx}:qe X "list.pop" xb:=uO
theorem yO {pos:Pos}:QE X (.Dict [] [] pos) nI:=⟨oi⟩
end
section
variable {P:Program} {w:World}
end
section
variable {X:Cx}
end
section
variable {K:PySem.W.Frag} {H:Hp} {Q:VK} {x y:V}
end
end L2
set_option Elab.async false
set_option linter.all false
set_option maxRecDepth 100000
set_option maxHeartbeats 4000000
namespace PySem
section
variable {prog:Program} {w:World} {K:Type} [DecidableEq K] {A:Around} {E:Value→Shared→Prop} {s:Shared}
theorem G1 {knd:HeapKind prog w K}{d a:Addr}{xs:List (K×Addr×Value)}{k:K}{v:Value}{Q:Value→Shared→Prop}(hu:knd.room A)(hkey:knd.is s.heap k a)(hm:s.heap.DictOfH knd d xs)
  (hthere:∀p,atKey xs k=some p→Q p.2 {s with toks:=s.toks+knd.draws k})
  (hQ:atKey xs k=none→∀h',h'.DictOfH knd d (storedH xs k a v)→Heap.SameBut d s.heap h'→Q v {s with heap:=h',toks:=s.toks+knd.draws k})
  (hsz:xs.length≤sizeLine):
  wpAny (model prog w) A (dictSetDefault d (.ref a) v) Q E s:=by
 obtain⟨o,es,ep,ho,hc,hd,he,his,hn⟩:=hm
 unfold dictSetDefault
 try with_reducible refine wpAny_holding ?_
 refine wpAny_bind (knd.pyHash hu hkey ?_)
 refine wpAny_bind (wpAny_dictFind_heap (s:={s with toks:=s.toks+knd.draws k}) hu hkey ho hd he his hn ?_ ?_)
 ·intro hno
  have hnot:k∉xs.map (·.1):=not_mem_keys_of_get hno
  refine wpAny_bind (wpAny_rule (wpAny_bind (wpAny_updateDictKeys (hz:=by have e:=size_of_entries he;lia) (s:={s with toks:=s.toks+knd.draws k}) ho hd (wpAny_pure (hQ (atKey_none_of_get hno) _ ⟨_,_,ep+1,Heap.get?_update_self _ ho (Obj.isFreed_of_dict (Obj.data_mapDictKeys hd _)),
   hc.mapDictKeys _,Obj.data_mapDictKeys hd _,?_,?_,?_⟩ (Heap.SameBut.update ..))))))
  ·rw[storedH_new (atKey_none_of_get hno)]
   simp [he,entryOfKey]
  ·rw[storedH_new (atKey_none_of_get hno)]
   intro x hx
   rcases List.mem_append.mp hx with hx|hx
   ·exact knd.keeps (his x hx) ho hd (Heap.SameBut.update ..)
   ·simp only[List.mem_singleton] at hx
    subst hx
    exact knd.keeps hkey ho hd (Heap.SameBut.update ..)
  ·rw[storedH_new (atKey_none_of_get hno)]
   rw[List.map_append,List.nodup_append]
   refine⟨hn,by simp,?_⟩
   intro x hx y hy
   simp only[List.map_cons,List.map_nil,List.mem_singleton] at hy
   subst hy
   exact fun e=>hnot (e▸hx)
 ·intro j p hj
  refine wpAny_bind (wpAny_dictEntries (s:={s with toks:=s.toks+knd.draws k}) ho hd ?_)
  rw[entry_at he j,hj]
  exact wpAny_bind (wpAny_rule (wpAny_pure (hthere _ (atKey_of_get hn hj))))
theorem N6 (knd:HeapKind prog w K)(d a:Addr)(hd:(d==sysModules)=false)(dflt:Value):
  MeetsIn prog w (Builtin.«dict.setdefault» ⟨[.ref d,.ref a,dflt],[]⟩) (fun A R s=>knd.room A.in1∧∃k xs,knd.is s.heap k a∧s.heap.DictOfH knd d xs∧xs.length≤sizeLine∧
   (∀p,atKey xs k=some p→R (.ok (.ret p.2)) {s with toks:=s.toks+knd.draws k})∧
   (atKey xs k=none→∀h',h'.DictOfH knd d (storedH xs k a dflt)→Heap.SameBut d s.heap h'→R (.ok (.ret dflt)) {s with heap:=h',toks:=s.toks+knd.draws k})):=
 .of_wp fun A R s ⟨hu,k,xs,hk,hm,hz,h1,h2⟩=>by
  unfold Builtin.«dict.setdefault»
  refine wpAny_bind ?_
  unfold Builtin.Dict.keyAndDefault
  refine wpAny_bind (wpAny_notOrdered_dict hm.typeIs ?_)
  show wpAny _ _ (pure (d,Value.ref a,some dflt)) _ _ s
  refine wpAny_pure ?_
  show wpAny _ _ (if(d==sysModules)=true then _ else(dictSetDefault d (.ref a) dflt>>=_)) _ _ s
  rw[if_neg (by rw[hd];exact Bool.false_ne_true)]
  exact wpAny_bind (G1 hu hk hm (fun p hp=>wpAny_pure ⟨_,rfl,h1 p hp⟩) (fun hn h' hm' hs'=>wpAny_pure ⟨dflt,rfl,h2 hn h' hm' hs'⟩) hz)
end
end PySem
namespace L2
open PySem PySem.Spec PyProof.Rows
section
variable {X:Cx}
def rY:V→List V→Hp→VK→Prop:=fun x vs H Q=>∃(d t:Addr) (kvs:List (List g4×V)) (k:List g4) (v:V),x= .ref d∧vs=[.ref t,v]∧H d=some (.dT kvs)∧H t=some (.tup (k.map kV))∧kvs.length<sizeLine∧
 (match i5 kvs k with|some u=>Q u H|none=>Q v (i6 H d (.dT (x9 kvs k v))))
theorem R6 {k:Nat}(hr:Room k X.A):qe X "dict.setdefault" rY:=by
 intro pins s σ H x vs v us Q I rx rv h
 obtain⟨d,t,kvs,k',y,rfl,rfl,e,et,hl,q⟩:=h
 cases rx
 obtain⟨u1,u2,rfl,r1,r2⟩:=V1 rv
 cases r1
 obtain⟨z,hd,xs,rel,dd⟩:=sD I.hok e
 have hz:xs.length≤sizeLine:=by rw[←Paired.length rel];exact z
 have hl':(x9 kvs k' y).length≤sizeLine:=by have:=D4 kvs k' y;lia
 refine call_meetsIn F.slot_dict_setdefault dd.typeIs F.entry_dict_setdefault (F.args_dict_setdefault_3 _ _ _) (N6 (tupleKind (h8 X.prog X.w)) d t hd u2) ⟨tupleKind_room_in1 (by have:=hr.un;lia),k',xs,key_of I.hok et,dd,hz,fun p hp=>?_,fun hn h' dd' hs=>?_⟩
 ·have hw:(atKey xs k').map (·.2)=some p.2:=by rw[hp];rfl
  have ro:=rel.val k'
  rw[hw] at ro
  cases hv:i5 kvs k' with
  |none=>rw[hv] at ro;cases ro
  |some w'=>
   rw[hv] at ro q
   exact⟨w',H,I.tok _,ro,q⟩
 ·have ro:=rel.val k'
  rw[hn] at ro
  cases hv:i5 kvs k' with
  |some w'=>rw[hv] at ro;cases ro
  |none=>
   rw[hv] at q
   refine⟨y,_,?_,r2,q⟩
   obtain⟨o',es,ep,hq,h2,h3,h4,_,h5⟩:=dd'
   refine aQ I (by rw[e];exact True.intro) hs ⟨o',hq⟩ ⟨hl',hd,_,(rel.put k' et r2).keeps fun c ys ec=>?_,o',es,ep,hq,h2,h3,h4,h5⟩
   rw[b0 (sv ec e (fun z=>nomatch z))]
   exact ec
end
section
variable {X:Cx}
def mw (K:PySem.W.Frag):List V→Hp→VK→Prop:=fun xs H Q=>∃(t:Addr) (a b:Str),xs=[.ref t]∧SqT K H t [.str a,.str b]∧Q (.str (if a.cps.toList<b.cps.toList then b else a)) H
theorem kG (hc:X.calm=true):CallR X (.builtin "max") (mw X.K):=by
 intro pins s σ H xs us Q I r h
 obtain⟨t,a,b,rfl,ht,q⟩:=h
 obtain⟨u,rfl,ru⟩:=D7 r
 cases ru
 obtain⟨its,rv,p,hz⟩:=I.tuple ht
 obtain⟨_,_,rfl,⟨t1,rfl⟩,⟨t2,rfl⟩⟩:=V1 rv
 refine call_max_walk (wpAny_pyIter_tuple (show s.heap.IsTuple t #[Value.str a t1,Value.str b t2] from p) ?_)
 have hlt:t<s.heap.objs.size:=by
  obtain⟨o,e,_⟩:=(show s.heap.IsTuple t #[Value.str a t1,Value.str b t2] from p)
  exact Heap.lt_size e
 have kp:∀c o,s.heap.get? c=some o→(s.heap.push {cls:= .type "tuple_iterator",data:= .fields #[.ref t,.int 0 0]}).get? c=some o:=fun c o e=>Heap.get?_push_of_some _ e
 refine⟨s.heap.objs.size,[s.heap.objs.size,t],[s.heap.objs.size],2,_,_,fun i j=>decide ((if j=0 then a else b).cps.toList<(if i=0 then a else b).cps.toList),rfl,Walks.tuple (A:=X.A.in1) (show X.A.in1.handled=none from I.ok.hd hc) s.heap.objs.size t (Nat.ne_of_lt hlt) #[Value.str a t1,Value.str b t2],⟨⟨_,Heap.get?_push_size _ rfl,rfl,rfl⟩,let ⟨o,e,r⟩:=p;⟨o,kp _ _ e,r⟩⟩,fun c hc'=>?_,by decide,?_,?_⟩
 ·show c<(s.heap.push _).objs.size
  rcases List.mem_cons.mp hc' with rfl|hc'
  ·simp [Heap.push]
  ·rw[List.mem_singleton.mp hc']
   have z:s.heap.objs.size<(s.heap.push {cls:= .type "tuple_iterator",data:= .fields #[.ref t,.int 0 0]}).objs.size:=by simp [Heap.push]
   exact Nat.lt_trans hlt z
 ·intro i j vi vj s' Q' E' hi hj hQ
  have key:∀(i:Nat) (v:Value),(#[Value.str a t1,Value.str b t2]:Array Value)[i]?=some v→∃tk,v= .str (if i=0 then a else b) tk:=fun i v h=>by
   match i,h with
   |0,h=>exact⟨t1,by simpa using h.symm⟩
   |1,h=>exact⟨t2,by simpa using h.symm⟩
   |n+2,h=>simp at h
  obtain⟨k1,rfl⟩:=key i vi hi
  obtain⟨k2,rfl⟩:=key j vj hj
  exact richCompare_gives (op:= .Gt) (typeIs_str _ _ _) (typeIs_str _ _ _) F.slot_str_gt F.entry_str_gt (F.args_str_gt_2 _ _) (gives_str_gt _ _ _ _) (fun e=>nomatch e) hQ
 ·intro v h' tk hv hk
  have I2:Inv X pins σ H {s with heap:=h',toks:=tk}:=I.kept fun c o e=>hk c o (fun z=>by rw[List.mem_singleton.mp z] at e;exact absurd (Heap.lt_size e) (Nat.lt_irrefl _)) (kp c o e)
  refine⟨_,H,I2,?_,q⟩
  by_cases hl:a.cps.toList<b.cps.toList
  ·have e:argBest (fun i j=>decide ((if j=0 then a else b).cps.toList<(if i=0 then a else b).cps.toList)) (2 -1)=1:=by show(if decide (a.cps.toList<b.cps.toList)=true then 1 else 0)=1;rw[if_pos (decide_eq_true hl)]
   rw[e] at hv
   rw[if_pos hl]
   exact⟨t2,by simpa using hv.symm⟩
  ·have e:argBest (fun i j=>decide ((if j=0 then a else b).cps.toList<(if i=0 then a else b).cps.toList)) (2 -1)=0:=by show(if decide (a.cps.toList<b.cps.toList)=true then 1 else 0)=0;rw[if_neg (by rw[decide_eq_false hl];decide)]
   rw[e] at hv
   rw[if_neg hl]
   exact⟨t1,by simpa using hv.symm⟩
theorem wQ (K:PySem.W.Frag)(hc:X.calm=true)(h:X.K=K:=by rfl):CallR X (.builtin "max") (mw K):=h▸kG hc
end
theorem uR {K:PySem.W.Frag}{H:Hp}{Q:VK}{t:Addr}{a b:Str}(h:SqT K H t [.str a,.str b])(q:Q (.str (if a.cps.toList<b.cps.toList then b else a)) H):mw K [.ref t] H Q:=⟨t,a,b,rfl,h,q⟩
structure FunD (K:PySem.W.Frag) (x qual:Str) (st:Stmt) (T:Addr) (f:Addr) (fd:FuncData):Prop where
 ex:∃(oc:Value) (od:Option Addr) (kV doc pm:Value) (an:Option Addr) (cdv ct:Value) (osl:Array (Option Value)),
  fd=PySem.W.fnOf x qual (A3 st) (t5 st) (d8 st) (.ref T) kV doc pm an cdv ct∧K.lookup f=some ⟨oc,od,.func fd,osl⟩∧PySem.W.codeIn K cdv qual=true
 kp:PySem.W.keepIn K (.ref f)=true
section
variable {P:Program} {w:World} {K:PySem.W.Frag} {mg:Str→Option Value} {base:Heap}
theorem FunD.ok {x qual:Str}{st:Stmt}{T f:Addr}{fd:FuncData}{N ps:List Str}{k:Nat}{sp:Sp}(F:FunD K x qual st T f fd)(S:i7 N ps (d8 st))(len:∀vs H Q E,sp vs H Q E→vs.length=ps.length)
  (hbody:∀(cdv:Value) (A:Around) (outer:List Env) (s:Shared) (H:Hp) (vs:List V) (Q:VK) (E:XK),Room k (A.deeper (envOfC qual (d8 st) s.heap.objs.size f cdv))→sp vs H Q E→
   ∃t,PSs (fi C7 P w K mg base N qual (d8 st) f cdv A outer s H E).nox (t5 st) t∧t {nx:=fun _ H'=>Q .non H',rt:=Q} (S0 N vs) H):A0 P w K mg base C7 (k+1) f fd ps sp:=by
 obtain⟨oc,od,kV,doc,pm,an,cdv,ct,osl,rfl,lk,hcd⟩:=F.ex
 refine oJ lk hcd S len fun A outer s H vs Q E hr hsp=>?_
 obtain⟨t,h,q⟩:=hbody cdv A outer s H vs Q E hr hsp
 exact⟨t,h.nox,q⟩
theorem rE {x qual:Str}{st:Stmt}{T f:Addr}{oc:Value}{od an:Option Addr}{osl:Array (Option Value)}{kV doc pm cdv ct:Value}(l:K.lookup f=some ⟨oc,od,.func (PySem.W.fnOf x qual (A3 st) (t5 st) (d8 st) (.ref T) kV doc pm an cdv ct),osl⟩)
  (c:PySem.W.codeIn K cdv qual=true) (k:PySem.W.keepIn K (.ref f)=true):FunD K x qual st T f (PySem.W.fnOf x qual (A3 st) (t5 st) (d8 st) (.ref T) kV doc pm an cdv ct):=⟨⟨oc,od,kV,doc,pm,an,cdv,ct,osl,rfl,l,c⟩,k⟩
end
end L2
set_option Elab.async false
set_option linter.all false
set_option maxRecDepth 100000
set_option maxHeartbeats 4000000
namespace L2
open PySem PySem.Spec PyProof.Rows
open PySem.AutoSeq1 (wpAny_loadPart')
open PySem.MeetsSeq PySem.MeetsSeq2 PySem.MeetsSeq3
section
variable {P:Program} {w:World}
end
section
variable {X:Cx}
end
end L2
set_option Elab.async false
set_option linter.all false
set_option maxRecDepth 100000
set_option maxHeartbeats 4000000
namespace L2
open PySem PySem.Spec PyProof.Rows
section
variable {α β:Type}
theorem og (g:α→β)(xs:Array α)(a b:Nat):(xs.swapIfInBounds a b).map g=(xs.map g).swapIfInBounds a b:=by
 by_cases h1:a<xs.size
 ·by_cases h2:b<xs.size
  ·refine Array.ext_getElem? fun k=>?_
   rw[Array.getElem?_map,getElem?_swapIB h1 h2,getElem?_swapIB (by simpa using h1) (by simpa using h2),Array.getElem?_map,Array.getElem?_map,Array.getElem?_map]
   repeat' split
   all_goals rfl
  ·rw[Array.swapIfInBounds_def,Array.swapIfInBounds_def,dif_pos h1,dif_neg h2,dif_pos (by simpa using h1),dif_neg (by simpa using h2)]
 ·rw[Array.swapIfInBounds_def,Array.swapIfInBounds_def,dif_neg h1,dif_neg (by simpa using h1)]
theorem Y2 (g:α→β)(u v:Nat→Nat):∀(l:List Nat) (xs:Array α),(l.foldl (fun z k=>z.swapIfInBounds (u k) (v k)) xs).map g=l.foldl (fun z k=>z.swapIfInBounds (u k) (v k)) (xs.map g)
 |[],_=>rfl
 |k::l,xs=>by
  rw[List.foldl_cons,List.foldl_cons,Y2 g u v l,og]
theorem ie (g:α→β)(xs:Array α)(i j d:Nat):(mirror xs i j d).map g=mirror (xs.map g) i j d:=Y2 g _ _ _ _
theorem ig (g:α→β)(xs:Array α)(c d:Nat):(bubble xs c d).map g=bubble (xs.map g) c d:=Y2 g _ _ _ _
end
def yE (rk:Value→Int)(p:Keyed):Keyed:=(.int (rk p.1) 0,p.2)
def kA (rk:Value→Int)(st:SortSt)(i:Nat):Int:=K ((arrOf st).map (yE rk)) i
structure TB (kd:SortKind) (base:Array Keyed) (st:SortSt):Prop where
 pm:(arrOf st).Perm base
 kd:kindOf st=kd
 fl:failedOf st=none
 pe:pendingOf st= #[]
def aq (prog:Program)(w:World)(A:Around)(s:Shared)(rk:Value→Int)(kd:SortKind)(base:Array Keyed):Prop:=
 ∀(x y:Value) (E:Value→Shared→Prop) (Q:Bool→Shared→Prop),(∃p∈base.toList,p.1=x)→(∃p∈base.toList,p.1=y)→Q (decide (rk x<rk y)) s→wpAny (model prog w) A (keyLt' kd x y) Q E s
section
variable {prog:Program} {w:World} {A:Around} {E:Value→Shared→Prop} {s:Shared} {rk:Value→Int} {kd:SortKind} {base:Array Keyed} {st:SortSt}
theorem TB.sz (h:TB kd base st):(arrOf st).size=base.size:=h.pm.size_eq
theorem bu {i:Nat}(h:i<(arrOf st).size):kA rk st i=rk (arrOf st)[i].1:=by
 unfold kA K
 rw[Array.getElem?_map,Array.getElem?_eq_getElem h];rfl
theorem ia {i j:Nat}(h:j≤(arrOf st).size)(k:Nat):kA rk (setArr st (mirror (arrOf st) i j ((j -i)/2))) k=if i≤k∧k<j then kA rk st (i+j -1 -k) else kA rk st k:=by
 show K ((mirror (arrOf st) i j ((j -i)/2)).map (yE rk)) k=_
 rw[ie,K_mirror (by simpa using h)];rfl
theorem aJ {i j:Nat}(h:j≤(arrOf st).size)(e:∀k,i≤k→k<j→kA rk st k=kA rk st (j -1))(k:Nat):kA rk (setArr st (mirror (arrOf st) i j ((j -i)/2))) k=kA rk st k:=by
 rw[ia h]
 split
 ·next z=>rw[e _ (by lia) (by lia),e k z.1 z.2]
 ·rfl
theorem oX {c d:Nat}(hc:c<(arrOf st).size)(hd:d≤c)(k:Nat):kA rk (setArr st (bubble (arrOf st) c d)) k=if k=c -d then kA rk st c else if c -d<k∧k≤c then kA rk st (k -1) else kA rk st k:=by
 show K ((bubble (arrOf st) c d).map (yE rk)) k=_
 rw[ig,K_bubble (by simpa using hc) hd];rfl
def yw (rk:Value→Int)(st:SortSt)(n:Nat):Prop:=∀i j,i≤j→j<n→kA rk st i≤kA rk st j
end
end L2
set_option Elab.async false
set_option linter.all false
set_option maxRecDepth 100000
set_option maxHeartbeats 4000000
namespace L2
open PySem PySem.Spec PyProof.Rows
section
variable {prog:Program} {w:World} {A:Around} {E:Value→Shared→Prop} {s:Shared} {rk:Value→Int} {kd:SortKind} {base:Array Keyed} {st:SortSt}
structure TD (rk:Value→Int) (base:Array Keyed) (st:SortSt):Prop where
 pm:(arrOf st).Perm base
 fl:failedOf st=none
 pe:pendingOf st= #[(0,base.size,0)]
 up:yw rk st base.size
end
def zE:V→List Nat
 | .str a=>a.cps.toList
 | .bl b=>[b.toNat]
 |_=>[]
abbrev zv (xs:List V):List (List Nat):=xs.map zE
theorem jb {a b:Str}(h:a.cps.toList=b.cps.toList):a=b:=by
 cases a;cases b
 congr
 exact Array.toList_inj.mp h
section
variable {P:Program} {w:World} {A:Around} {E:Value→Shared→Prop} {s:Shared}
end
end L2
set_option Elab.async false
set_option linter.all false
set_option maxRecDepth 100000
set_option maxHeartbeats 4000000
namespace L2
open PySem PySem.Spec PyProof.Rows
abbrev iD:=List (List Nat)
def qa (ks:List iD)(k:iD):Int:=(ks.countP (fun x=>decide (x<k)):Nat)
theorem nj {a b c:iD}(h1:a<b)(h2:b<c):a<c:=List.lt_trans h1 h2
theorem wj {a b c:iD}(h1:a<b)(h2:¬c<b):a<c:=Decidable.byContradiction fun z=>h2 (List.lt_of_le_of_lt (List.not_lt.mp z) h1)
theorem uh (a:iD):¬a<a:=List.lt_irrefl a
theorem qH {a b:iD}(h1:¬a<b)(h2:¬b<a):a=b:=List.le_antisymm (List.not_lt.mp h2) (List.not_lt.mp h1)
theorem cZ {α:Type}{p q:α→Bool}:∀{l:List α},(∀x∈l,p x=true→q x=true)→(∃x∈l,q x=true∧p x=false)→l.countP p<l.countP q
 |[],_,h=>by obtain⟨_,h,_⟩:=h;cases h
 |a::l,h1,h2=>by
  have le:l.countP p≤l.countP q:=List.countP_mono_left fun x hx=>h1 x (List.mem_cons_of_mem _ hx)
  by_cases e:q a=true∧p a=false
  ·rw[List.countP_cons_of_pos e.1,List.countP_cons_of_neg (by rw[e.2];decide)]
   lia
  ·have ih:l.countP p<l.countP q:=by
    refine cZ (fun x hx=>h1 x (List.mem_cons_of_mem _ hx)) ?_
    obtain⟨x,hx,h3⟩:=h2
    rcases List.mem_cons.mp hx with rfl|hx
    ·exact absurd h3 e
    ·exact⟨x,hx,h3⟩
   have ha:=h1 a List.mem_cons_self
   cases hp:p a with
   |true=>rw[List.countP_cons_of_pos hp,List.countP_cons_of_pos (ha hp)];lia
   |false=>
    rw[List.countP_cons_of_neg (by rw[hp];decide)]
    have:l.countP q≤(a::l).countP q:=by rw[List.countP_cons];lia
    lia
theorem sI {ks:List iD}{a b:iD}(ha:a∈ks):decide (qa ks a<qa ks b)=decide (a<b):=by
 rw[Bool.eq_iff_iff,decide_eq_true_eq,decide_eq_true_eq]
 unfold qa
 constructor
 ·intro h
  by_cases z:a<b
  ·exact z
  ·exfalso
   have le:ks.countP (fun x=>decide (x<b))≤ks.countP (fun x=>decide (x<a)):=List.countP_mono_left fun x _ hx=>by
    rw[decide_eq_true_eq] at hx⊢
    exact wj hx z
   lia
 ·intro h
  have lt:ks.countP (fun x=>decide (x<a))<ks.countP (fun x=>decide (x<b)):=cZ (fun x _ hx=>by
   rw[decide_eq_true_eq] at hx⊢
   exact nj hx h) ⟨a,ha,decide_eq_true h,decide_eq_false (uh a)⟩
  lia
theorem wu {ks:List iD}{a b:iD}(hb:b∈ks)(h:qa ks a≤qa ks b):¬b<a:=fun z=>by
 have e:=sI (ks:=ks) (b:=a) hb
 rw[decide_eq_true z] at e
 have:=of_decide_eq_true e
 lia
section
variable {P:Program} {w:World} {A:Around} {E:Value→Shared→Prop} {s:Shared}
theorem dP {β:Type}{f:Value→Sem β}{g:Value→β}:∀{l:List Value} {Q:List β→Shared→Prop},(∀v∈l,∀Q':β→Shared→Prop,Q' (g v) s→wpAny (model P w) A (f v) Q' E s)→Q (l.map g) s→wpAny (model P w) A (l.mapM f) Q E s
 |[],Q,_,q=>by rw[List.mapM_nil];exact wpAny_pure q
 |v::l,Q,h,q=>by
  rw[List.mapM_cons]
  exact wpAny_bind (h v List.mem_cons_self _ (wpAny_bind (dP (fun u hu=>h u (List.mem_cons_of_mem _ hu)) (wpAny_pure q))))
theorem iO (v:Value):firstOfTuple' v=(do
  if(←typeOf v) != .type "tuple" then return none
  return (←Builtin.List.listItems v)[0]?):=rfl
structure Aa (h:Heap) (kf:Value→iD) (v:Value):Prop where
 at_:∃(a:Addr) (us:List Value) (xs:List V) (x:Str) (r:List V),v= .ref a∧h.IsTuple a us.toArray∧Vals xs us∧xs= .str x::r∧kf v=zv xs
end
end L2
set_option Elab.async false
set_option linter.all false
set_option maxRecDepth 100000
set_option maxHeartbeats 4000000
namespace L2
open PySem PySem.Spec PyProof.Rows
section
variable {P:Program} {w:World} {A:Around} {E:Value→Shared→Prop} {s:Shared}
end
theorem fW {α β:Type}(f:α→β):∀{l m:List β},l.Perm m→∀ts:List α,m=ts.map f→∃ts':List α,l=ts'.map f∧ts'.Perm ts:=by
 intro l m p
 induction p with
 |nil=>intro ts e;exact⟨ts,e,.refl _⟩
 |cons x p ih=>
  intro ts e
  match ts,e with
  |t::r,e=>
   obtain⟨r',e1,p1⟩:=ih r (List.cons.inj e).2
   exact⟨t::r',by rw[e1,(List.cons.inj e).1];rfl,p1.cons t⟩
 |swap x y l=>
  intro ts e
  match ts,e with
  |t::u::r,e=>
   have e1:=(List.cons.inj e).1
   have e2:=(List.cons.inj (List.cons.inj e).2).1
   have e3:=(List.cons.inj (List.cons.inj e).2).2
   exact⟨u::t::r,by rw[e1,e2,e3];rfl,.swap t u r⟩
 |trans p1 p2 ih1 ih2=>
  intro ts e
  obtain⟨t2,e2,q2⟩:=ih2 ts e
  obtain⟨t1,e1,q1⟩:=ih1 t2 e2
  exact⟨t1,e1,q1.trans q2⟩
section
variable {X:Cx}
end
end L2
set_option Elab.async false
set_option linter.all false
set_option maxRecDepth 100000
set_option maxHeartbeats 4000000
namespace L2
open PySem PySem.Spec PyProof.Rows
abbrev Lk:=Str×Bool×Bool
def Ai (c:Lk):List V:=[.str c.1,.bl c.2.1,.bl c.2.2]
def wy (K:PySem.W.Frag)(H:Hp)(xs:List V)(cs:List Lk):Prop:=Paired (fun v c=>∃t,v=V.ref t∧SqT K H t (Ai c)) xs cs
structure AF (K:PySem.W.Frag) (H:Hp) (u:V) (kd:Str) (cs:List Lk):Prop where
 ex:∃(a l:Addr) (xs:List V),u= .ref a∧SqT K H a [.str kd,.ref l]∧SqL K H l xs∧wy K H xs cs
section
variable {X:Cx} {pins:List (Addr×Obj)} {σ:St} {H:Hp} {s:Shared}
end
section
variable {X:Cx}
end
end L2
set_option Elab.async false
set_option linter.all false
set_option maxRecDepth 100000
set_option maxHeartbeats 4000000
namespace L2
open PySem PySem.Spec PyProof.Rows
open PySem.AutoSeq1 (wpAny_loadPart')
open PySem.MeetsSeq PySem.MeetsSeq2 PySem.MeetsSeq3
section
variable {P:Program} {w:World}
end
section
variable {X:Cx}
end
end L2
set_option Elab.async false
set_option linter.all false
set_option maxRecDepth 100000
set_option maxHeartbeats 4000000
namespace L2
open PySem PySem.Spec PyProof.Rows
structure FnIn (K:PySem.W.Frag) (n:Str) (st:Stmt) (f:Addr):Prop where
 a:PySem.W.nsIn K mainGlobals n=some (some (.ref f))
 F:∃fd,Fun K n n st f fd
theorem FnIn.mk' {K:PySem.W.Frag}{n:Str}{st:Stmt}{f:Addr}{oc:Value}{od an:Option Addr}{osl:Array (Option Value)}{kV doc pm cdv ct:Value}(a:PySem.W.nsIn K mainGlobals n=some (some (.ref f)))(l:K.lookup f=some ⟨oc,od,.func (PySem.W.fnOf n n (A3 st) (t5 st) (d8 st) .none kV doc pm an cdv ct),osl⟩)
  (c:PySem.W.codeIn K cdv n=true) (k:PySem.W.keepIn K (.ref f)=true):FnIn K n st f:=⟨a,_,pW l c k⟩
theorem w5 {P:Program}{w:World}{K:PySem.W.Frag}{mg:Str→Option Value}{base h:Heap}{CX:fQ}{k:Nat}{n:Str}{st:Stmt}{ps:List Str}{sp:Sp}{f:Addr}(X:K.In h)(G:h.Ns mainGlobals mg)(a:FnIn K n st f)(ok:∀{f fd},Fun K n n st f fd→A0 P w K mg base CX k f fd ps sp)
  (b:∀(kV doc pm:Value) (an:Option Addr) (cdv ct:Value) (us:List Value),us.length=ps.length→bindArgs (PySem.W.fnOf n n (A3 st) (t5 st) (d8 st) .none kV doc pm an cdv ct) ⟨us,[]⟩=pure (ps.zip us)):Z6 P w K mg base CX k n ps [] sp:=by
 obtain⟨fd,F⟩:=a.F
 exact⟨f,_,[],ok F,PySem.W.mg_of X G a.a,F.kp,F.binds b,.nil⟩
section
variable {fd:FuncData} {ps:List Str} {us:List Value}
theorem uc {us:List Value}{n:Nat}(h:us.length=n+1):∃a r,us=a::r∧r.length=n:=by
 cases us with
 |nil=>cases h
 |cons a r=>exact⟨a,r,rfl,Nat.succ.inj h⟩
theorem Ay (h:us.length=1)(g:∀a:Value,bindArgs fd ⟨[a],[]⟩=pure (ps.zip [a])):bindArgs fd ⟨us,[]⟩=pure (ps.zip us):=by
 obtain⟨a,us,rfl,h1⟩:=uc h;cases us with
 |nil=>exact g a
 |cons _ _=>cases h1
theorem Ae (h:us.length=2)(g:∀a b:Value,bindArgs fd ⟨[a,b],[]⟩=pure (ps.zip [a,b])):bindArgs fd ⟨us,[]⟩=pure (ps.zip us):=by
 obtain⟨a,us,rfl,h1⟩:=uc h;obtain⟨b,us,rfl,h2⟩:=uc h1;cases us with
 |nil=>exact g a b
 |cons _ _=>cases h2
theorem Aj (h:us.length=3)(g:∀a b c:Value,bindArgs fd ⟨[a,b,c],[]⟩=pure (ps.zip [a,b,c])):bindArgs fd ⟨us,[]⟩=pure (ps.zip us):=by
 obtain⟨a,us,rfl,h1⟩:=uc h;obtain⟨b,us,rfl,h2⟩:=uc h1;obtain⟨c,us,rfl,h3⟩:=uc h2;cases us with
 |nil=>exact g a b c
 |cons _ _=>cases h3
theorem Ab (h:us.length=4)(g:∀a b c d:Value,bindArgs fd ⟨[a,b,c,d],[]⟩=pure (ps.zip [a,b,c,d])):bindArgs fd ⟨us,[]⟩=pure (ps.zip us):=by
 obtain⟨a,us,rfl,h1⟩:=uc h;obtain⟨b,us,rfl,h2⟩:=uc h1;obtain⟨c,us,rfl,h3⟩:=uc h2;obtain⟨d,us,rfl,h4⟩:=uc h3;cases us with
 |nil=>exact g a b c d
 |cons _ _=>cases h4
theorem Au (h:us.length=5)(g:∀a b c d e:Value,bindArgs fd ⟨[a,b,c,d,e],[]⟩=pure (ps.zip [a,b,c,d,e])):bindArgs fd ⟨us,[]⟩=pure (ps.zip us):=by
 obtain⟨a,us,rfl,h1⟩:=uc h;obtain⟨b,us,rfl,h2⟩:=uc h1;obtain⟨c,us,rfl,h3⟩:=uc h2;obtain⟨d,us,rfl,h4⟩:=uc h3;obtain⟨e,us,rfl,h5⟩:=uc h4;cases us with
 |nil=>exact g a b c d e
 |cons _ _=>cases h5
theorem Al (h:us.length=6)(g:∀a b c d e f:Value,bindArgs fd ⟨[a,b,c,d,e,f],[]⟩=pure (ps.zip [a,b,c,d,e,f])):bindArgs fd ⟨us,[]⟩=pure (ps.zip us):=by
 obtain⟨a,us,rfl,h1⟩:=uc h;obtain⟨b,us,rfl,h2⟩:=uc h1;obtain⟨c,us,rfl,h3⟩:=uc h2;obtain⟨d,us,rfl,h4⟩:=uc h3;obtain⟨e,us,rfl,h5⟩:=uc h4;obtain⟨f,us,rfl,h6⟩:=uc h5;cases us with
 |nil=>exact g a b c d e f
 |cons _ _=>cases h6
end
section
variable {J:It} {th:Hp→Hp} {g:V→St→Hp→(St→Hp→Prop)→Prop} {tb:TS} {nx:St→Hp→Prop} {rt:V→Hp→Prop} {σ:St} {H:Hp} {n:Nat}
end
end L2
set_option Elab.async false
set_option linter.all false
set_option maxRecDepth 100000
set_option maxHeartbeats 4000000
namespace L2
open PySem PySem.Spec PyProof.Rows
section
variable {X:Cx} {x:Str} {T:Addr} {np hpos pos:Pos} {b₀:Stmt} {body suite:List Stmt} {tb:(St→XK)→TS} {ts:TS}
end
theorem vf {α β:Type}{f:α→Option β}{g:α→β}{l:List α}(h:∀k∈l,f k=some (g k)):l.filterMap f=l.map g:=by
 induction l with
 |nil=>rfl
 |cons a r ih=>rw[List.filterMap_cons,h a List.mem_cons_self,List.map_cons,ih fun k hk=>h k (List.mem_cons_of_mem _ hk)]
theorem cm (its:List Value):slicePick its.toArray none none (some (-1))=its.reverse.toArray:=by
 have e:sliceRange (sliceBounds none none (some (-1)) its.toArray.size).1 (sliceBounds none none (some (-1)) its.toArray.size).2.1 (sliceBounds none none (some (-1)) its.toArray.size).2.2=(List.range its.length).map fun k=>its.length -1 -k:=by
  rw[←picked_rev]
  simp only[sliceBounds,List.size_toArray]
  rfl
 unfold slicePick
 rw[e]
 congr 1
 rw[List.filterMap_map]
 refine List.ext_getElem? fun j=>?_
 have hall:∀k∈List.range its.length,((fun i=>its.toArray[i]?)∘fun k=>its.length -1 -k) k=some (its.reverse.getD k .none):=fun k hk=>by
  have hk':=List.mem_range.mp hk
  show its.toArray[its.length -1 -k]?=_
  rw[List.getElem?_toArray,←List.getElem?_reverse hk',List.getD_eq_getElem?_getD,List.getElem?_eq_getElem (by rw[List.length_reverse];exact hk')];rfl
 rw[vf hall,List.getElem?_map]
 by_cases hj:j<its.length
 ·rw[List.getElem?_range hj,List.getElem?_eq_getElem (by rw[List.length_reverse];exact hj)]
  simp [List.getD_eq_getElem?_getD,List.getElem?_eq_getElem (l:=its.reverse) (i:=j) (by rw[List.length_reverse];exact hj)]
 ·rw[List.getElem?_eq_none (by rw[List.length_range];lia),List.getElem?_eq_none (by rw[List.length_reverse];lia)];rfl
def sQ (K:PySem.W.Frag):V→Hp→VK→Prop:=fun x H Q=>∃a xs,x= .ref a∧SqL K H a xs∧∀p,H p=none→Q (.ref p) (i6 H p (.lst xs.reverse))
def nr (K:PySem.W.Frag)(te:TE):TE:=fun σ H Q=>te σ H fun x H1=>sQ K x H1 Q
theorem oy {K:PySem.W.Frag}{te:TE}{σ:St}{H:Hp}{Q:VK}(q:te σ H fun x H1=>sQ K x H1 Q):nr K te σ H Q:=q
theorem Vals.rev:∀{xs:List V} {us:List Value},Vals xs us→Vals xs.reverse us.reverse
 |_,_,.nil=> .nil
 |_,_,.cons a t=>by
  rw[List.reverse_cons,List.reverse_cons]
  exact(Vals.rev t).append (.cons a .nil)
section
variable {X:Cx} {e:Expr} {te:TE} {pos p2 p3 p4:Pos} {j:Nat}
theorem qj (he:PE X e te):PE X (.Subscript e (.Slice none none (some (.UnaryOp .USub (.Constant (.int 1) j p3) p4)) p2) pos) (nr X.K te):=by
 intro pins s σ H Q I h
 refine Subscript_ (A2 (he pins s σ H _ I h) fun v s1 ⟨x,H1,I1,r1,q1⟩=>?_)
 refine wpAny_Slice ?_
 rw[evalPart_none]
 refine wpAny_pure (wpAny_pure ?_)
 rw[evalPart_some]
 refine A2 (wL vh pG pins s1 σ H1 (fun y H2=>y= .int (-1)∧H2=H1) I1 ⟨1,rfl,rfl,rfl⟩) fun u s3 ⟨y,H3,I3,ru,e1,e2⟩=>?_
 subst e1 e2
 obtain⟨t,rfl⟩:=ru
 obtain⟨a,xs,rfl,hx,q⟩:=q1
 cases r1
 have I4:Inv X pins σ H3 {s3 with heap:=s3.heap.push {cls:= .type "slice",data:= .fields #[.none,.none,.int (-1) t]}}:=I3.kept (t':=s3.toks) fun b ob q=>Heap.get?_push_of_some _ q
 obtain⟨its,r,ht,hz⟩:=I4.list hx
 have hlen:=r.length
 refine tail_any (ops:=[.ref a,.ref s3.heap.objs.size]) (T:="list") ht.isList.typeIs slot_list_getitem.lookup ?_ (by with_unfolding_all rfl)
 refine wpAny_getItem_list_slice ht.isList (Heap.IsSliceOf.new ..) .none .none (.int (-1) t) (by decide) ?_ (by rw[List.size_toArray]<;>lia)
 rw[cm]
 refine⟨.ref _,_,I4.laid (t':=s3.toks) (o:= .lst xs.reverse) (fun b ob q=>Heap.get?_push_of_some _ q) (Nat.le_refl _) ?_,rfl,q _ (I4.hok.fresh (Nat.le_refl _))⟩
 exact⟨by rw[List.length_reverse];exact hz,_,0,Vals.rev r,Heap.get?_push_size _ rfl⟩
theorem sC (K:PySem.W.Frag)(he:QE X e te)(h:X.K=K:=by rfl):QE X (.Subscript e (.Slice none none (some (.UnaryOp .USub (.Constant (.int 1) j p3) p4)) p2) pos) (nr K te):=⟨h▸qj he.r⟩
end
section
variable {X:Cx} {pins:List (Addr×Obj)} {σ:St} {H:Hp} {s:Shared} {h':Heap}
end
section
variable {X:Cx}
end
section
variable {K:PySem.W.Frag} {H:Hp} {Q:VK}
end
end L2
set_option Elab.async false
set_option linter.all false
set_option maxRecDepth 100000
set_option maxHeartbeats 4000000
namespace L2
open PySem PySem.Spec PyProof.Rows
structure TQ (kd:SortKind) (base:Array Keyed) (lo:Nat) (pre:Array Keyed) (pe:Array (Nat×Nat×Nat)) (st:SortSt):Prop where
 pm:(arrOf st).Perm base
 kd:kindOf st=kd
 fl:failedOf st=none
 pe:pendingOf st=pe
 fr:∀p,p<lo→(arrOf st)[p]?=pre[p]?
section
variable {prog:Program} {w:World} {A:Around} {E:Value→Shared→Prop} {s:Shared} {rk:Value→Int} {kd:SortKind} {base:Array Keyed} {st:SortSt} {lo:Nat} {pre:Array Keyed} {pe:Array (Nat×Nat×Nat)}
theorem TQ.sz (h:TQ kd base lo pre pe st):(arrOf st).size=base.size:=h.pm.size_eq
theorem TQ.rev (h:TQ kd base lo pre pe st){i j:Nat}(hi:lo≤i)(hj:j≤base.size):TQ kd base lo pre pe (setArr st (mirror (arrOf st) i j ((j -i)/2))):=
 ⟨(mirror_perm _ _ _ _).trans h.pm,h.kd,h.fl,h.pe,fun p hp=>by
  show(mirror (arrOf st) i j ((j -i)/2))[p]?=_
  rw[getElem?_mirror_all (by rw[h.sz];exact hj),if_neg (by lia)];exact h.fr p hp⟩
theorem TQ.mov (h:TQ kd base lo pre pe st){c d:Nat}(hc:c<base.size)(hd:lo+d≤c):TQ kd base lo pre pe (setArr st (bubble (arrOf st) c d)):=
 ⟨(bubble_perm _ _ _).trans h.pm,h.kd,h.fl,h.pe,fun p hp=>by
  show(bubble (arrOf st) c d)[p]?=_
  rw[getElem?_bubble (by rw[h.sz];exact hc) d (by lia),if_neg (by lia),if_neg (by lia)];exact h.fr p hp⟩
theorem gN (hL:aq prog w A s rk kd base)(hk:kindOf st=kd){x y:Keyed}{Q:Option Bool→SortSt→Prop}(hx:x∈base.toList)(hy:y∈base.toList)(h:Q (some (decide (rk x.1<rk y.1))) st):wpS (model prog w) A E s (lt' x y) Q st:=by
 rw[lt'_eq]
 refine wpS_bind (wpS_get ?_)
 rw[hk]
 exact wpS_bind (wpS_lift (wpAny_attempt (hL _ _ _ _ ⟨x,hx,rfl⟩ ⟨y,hy,rfl⟩ ⟨rfl,wpS_pure h⟩)))
theorem y9 {arr:Array Keyed}{i:Nat}{Q:Keyed→SortSt→Prop}(hi:i<arr.size)(h:Q arr[i] st):wpS (model prog w) A E s (elem' arr i) Q st:=by
 rw[elem'_eq,Array.getElem?_eq_getElem hi]
 exact wpS_pure h
theorem TQ.lt (hL:aq prog w A s rk kd base)(hB:TQ kd base lo pre pe st){i j:Nat}{Q:Option Bool→SortSt→Prop}(hi:i<base.size)(hj:j<base.size)(h:Q (some (decide (kA rk st i<kA rk st j))) st):wpS (model prog w) A E s (ltAt' i j) Q st:=by
 have z:=hB.sz
 have hi':i<(arrOf st).size:=by lia
 have hj':j<(arrOf st).size:=by lia
 have mem:∀k (hk:k<(arrOf st).size),(arrOf st)[k]∈base.toList:=fun k hk=>(Array.perm_iff_toList_perm.mp hB.pm).mem_iff.mp (by simp)
 rw[bu hi',bu hj'] at h
 rw[ltAt'_eq]
 refine wpS_bind (wpS_get ?_)
 exact wpS_bind (y9 hi' (wpS_bind (y9 hj' (gN hL hB.kd (mem i hi') (mem j hj') h))))
def AO (rk:Value→Int)(st:SortSt)(lo n:Nat):Prop:=∀i j,i≤j→j<n→kA rk st (lo+i)≤kA rk st (lo+j)
def DO (rk:Value→Int)(st:SortSt)(lo n:Nat):Prop:=∀i j,i≤j→j<n→kA rk st (lo+j)≤kA rk st (lo+i)
theorem yW {l r:Nat}(h:¬l≥r):l≤(l+r)/2∧(l+r)/2<r:=by lia
theorem xp {a b:Nat}(h:¬a≥b):a≤a+(b -a)/2∧a+(b -a)/2<b:=by lia
theorem zK {lo k i:Nat}(h:i<k):lo+(k -1 -i)=lo+(lo+k) -1 -(lo+i):=by lia
theorem vT {lo j:Nat}(h:1≤j):lo+(j -1)=lo+j -1:=(Nat.add_sub_assoc h lo).symm
theorem Ac {n i k:Nat}(h:n -i=k+1):n -(i+1)=k:=by rw[Nat.sub_add_eq,h];rfl
theorem AA {n i k:Nat}(h:n -i=k+1):i<n:=Nat.sub_pos_iff_lt.mp (h▸Nat.succ_pos k)
theorem As {f k n:Nat}(h:k≤n)(h3:¬n -k=0):f+(n -1)=f+k+(n -k) -1:=by lia
theorem Ah {f k n s:Nat}(h1:f+n≤s)(h:k≤n)(h3:¬n -k=0):f+k+(n -k) -1<s:=by lia
theorem Av {k n m:Nat}(h:m=n -k)(h2:k≤n)(h3:¬n -k=0):k+(m -1)=n -1:=by lia
theorem Ak {f k n m:Nat}(h:k≤n):f+k+0+(n -k+m)=f+(n+m):=by lia
theorem AO.one:AO rk st lo 1:=fun i j h1 h2=>by
 rw[show i=j by lia];exact Int.le_refl _
theorem AO.next {n:Nat}(h:AO rk st lo n)(h1:1≤n)(hx:¬kA rk st (lo+n)<kA rk st (lo+n -1)):AO rk st lo (n+1):=fun i j hij hj=>by
 rcases Nat.lt_or_ge j n with z|z
 ·exact h i j hij z
 ·have e:j=n:=by lia
  subst e
  rcases Nat.lt_or_ge i j with y|y
  ·have:=h i (j -1) (by lia) (by lia)
   rw[vT (show 1≤j by lia)] at this
   lia
  ·rw[show i=j by lia];exact Int.le_refl _
theorem DO.next {st2:SortSt}{n:Nat}(h:DO rk st lo n)(h1:1≤n)(hx:kA rk st (lo+n)≤kA rk st (lo+n -1))(e:∀k,kA rk st2 k=kA rk st k):DO rk st2 lo (n+1):=fun i j hij hj=>by
 rw[e,e]
 rcases Nat.lt_or_ge j n with z|z
 ·exact h i j hij z
 ·have e:j=n:=by lia
  subst e
  rcases Nat.lt_or_ge i j with y|y
  ·have:=h i (j -1) (by lia) (by lia)
   rw[vT (show 1≤j by lia)] at this
   lia
  ·rw[show i=j by lia];exact Int.le_refl _
theorem rD {α:Type}{J X:StateT SortSt Sem α}{P:SortSt→Prop}{Q:α→SortSt→Prop}(h1:(∀st',P st'→wpS (model prog w) A E s J Q st')→wpS (model prog w) A E s X Q st)(h2:∀st',P st'→wpS (model prog w) A E s J Q st'):wpS (model prog w) A E s X Q st:=h1 h2
theorem tJ (hL:aq prog w A s rk kd base)(hB:TQ kd base lo pre pe st){n:Nat}{Q:Option Nat→SortSt→Prop}(h1:1≤n)(hn:lo+n≤base.size)
  (h:∀k st',TQ kd base lo pre pe st'→1≤k→k≤n→AO rk st' lo k→Q (some k) st'):wpS (model prog w) A E s (countRun' lo n) Q st:=by
 have asc:∀(st:SortSt) (a:Nat),TQ kd base lo pre pe st→1≤a→a≤n→AO rk st lo a→∀(Q':Option (Option Nat)×Nat→SortSt→Prop),(∀m,a≤m→m≤n→AO rk st lo m→(m=n∨kA rk st (lo+m)<kA rk st (lo+m -1))→Q' (none,m) st)→wpS (model prog w) A E s (forIn [a:n] ((none:Option (Option Nat)),a) fun _ r=>do
   let x←ltAt' (lo+r.2) (lo+r.2 -1)
   match x with
   |some smaller=>if smaller=true then pure (ForInStep.done (none,r.2)) else pure (ForInStep.yield (none,r.2+1))
   |_=>pure (ForInStep.done (some none,r.2))) Q' st:=fun st a hB ha han hs Q' kk=>by
  refine wpS_forRange (I:=fun k c z=>z=st∧c=(none,k)∧AO rk st lo k) (fun k c z h1 h2 h3=>?_) (fun c z h3=>?_) ⟨rfl,rfl,hs⟩
  ·obtain⟨rfl,rfl,h4⟩:=h3
   dsimp only
   refine wpS_bind (hB.lt hL (by lia) (by lia) ?_)
   by_cases e:kA rk z (lo+k)<kA rk z (lo+k -1)
   ·rw[decide_eq_true e]
    exact wpS_pure (kk k h1 (by lia) h4 (.inr e))
   ·rw[decide_eq_false e]
    exact wpS_pure ⟨rfl,rfl,h4.next (by lia) e⟩
  ·obtain⟨rfl,rfl,h4⟩:=h3
   have e:max a n=n:=by lia
   rw[e] at h4⊢
   exact kk n han (Nat.le_refl _) h4 (.inl rfl)
 rw[countRun'_eq]
 refine wpS_bind (asc st 1 hB (Nat.le_refl 1) h1 AO.one _ fun m m1 m2 hs hor=>?_)
 dsimp only
 by_cases e:m=n
 ·rw[if_pos (by simpa using e)]
  exact wpS_pure (h m st hB m1 m2 hs)
 ·rw[if_neg (by simpa using e)]
  have hlt:=hor.resolve_left e
  refine' rD (P:=fun st'=>TQ kd base lo pre pe st'∧DO rk st' lo (m+1)) (fun hj=>_) (fun st' hp=>_)
  rotate_left
  ·by_cases hg:m>1
   ·rw[if_pos hg]
    refine wpS_bind (hB.lt hL (by lia) (by lia) ?_)
    by_cases r:kA rk st lo<kA rk st (lo+m -1)
    ·rw[decide_eq_true r]
     exact wpS_pure (h m st hB m1 m2 hs)
    ·rw[decide_eq_false r]
     have hz:lo+m≤(arrOf st).size:=by rw[hB.sz];lia
     have all:∀k,lo≤k→k<lo+m→kA rk st k=kA rk st (lo+m -1):=fun k k1 k2=>by
      have c1:=hs 0 (k -lo) (by lia) (by lia)
      have c2:=hs (k -lo) (m -1) (by lia) (by lia)
      rw[show lo+(k -lo)=k by lia,Nat.add_zero] at c1
      rw[show lo+(k -lo)=k by lia,show lo+(m -1)=lo+m -1 by lia] at c2
      lia
     dsimp only
     rw[if_neg (by decide)]
     refine wpS_bind (wpS_reverse (hj _ ⟨hB.rev (Nat.le_refl _) (by lia),?_⟩))
     refine DO.next (st:=st) (fun i j hij hj=>?_) (by lia) (Int.le_of_lt hlt) (aJ hz all)
     rw[all (lo+i) (by lia) (by lia),all (lo+j) (by lia) (by lia)];exact Int.le_refl _
   ·rw[if_neg hg]
    have e1:m=1:=by lia
    subst e1
    refine hj _ ⟨hB,DO.next (st:=st) (fun i j hij hj=>?_) (Nat.le_refl 1) (Int.le_of_lt hlt) fun _=>rfl⟩
    rw[show i=j by lia];exact Int.le_refl _
  ·obtain⟨hB',hD⟩:=hp
   have tail:∀(k:Nat) (st:SortSt),TQ kd base lo pre pe st→1≤k→k≤n→DO rk st lo k→TQ kd base lo pre pe (setArr st (mirror (arrOf st) lo (lo+k) ((lo+k -lo)/2)))∧AO rk (setArr st (mirror (arrOf st) lo (lo+k) ((lo+k -lo)/2))) lo k:=fun k st hB k1 k2 hD=>by
    have hz:lo+k≤(arrOf st).size:=by rw[hB.sz];lia
    refine⟨hB.rev (Nat.le_refl _) (by lia),fun i j hij hj=>?_⟩
    rw[ia hz,ia hz,if_pos ⟨by lia,by lia⟩,if_pos ⟨by lia,by lia⟩]
    have z:=hD (k -1 -j) (k -1 -i) (by lia) (by lia)
    rw[zK (Nat.lt_of_le_of_lt hij hj),zK hj] at z
    exact z
   refine wpS_bind (wpS_lift (wpAny_rule ⟨rfl,?_⟩))
   refine wpS_bind (wpS_mono (wpS_forRange (I:=fun k c z=>∃q,c=(none,k,q)∧TQ kd base lo pre pe z∧DO rk z lo k∧q+1≤k∧∀i,lo+k -(q+1)≤i→i<lo+k→kA rk z i=kA rk z (lo+k -1)) (Q:=fun c z=>∃k q,m+1≤k∧k≤n∧c=(none,k,q)∧TQ kd base lo pre pe z∧DO rk z lo k∧q+1≤k∧∀i,lo+k -(q+1)≤i→i<lo+k→kA rk z i=kA rk z (lo+k -1)) (fun k c z a1 a2 a3=>?_) (fun c z a3=>?_) ⟨0,rfl,hB',hD,by lia,fun i b1 b2=>by rw[show i=lo+(m+1) -1 by lia]⟩) fun c z a3=>?_)
   ·obtain⟨q,rfl,b1,b2,b3,b4⟩:=a3
    dsimp only
    have hz:lo+k≤(arrOf z).size:=by rw[b1.sz];lia
    have one:∀z':SortSt,∀i,lo+(k+1) -(0+1)≤i→i<lo+(k+1)→kA rk z' i=kA rk z' (lo+(k+1) -1):=fun z' i c1 c2=>by rw[show i=lo+(k+1) -1 by lia]
    refine wpS_bind (b1.lt hL (by lia) (by lia) ?_)
    by_cases e:kA rk z (lo+k)<kA rk z (lo+k -1)
    ·rw[decide_eq_true e]
     dsimp only
     rw[if_pos rfl]
     by_cases hq:q>0
     ·rw[if_pos hq]
      exact wpS_bind (wpS_reverse (wpS_pure ⟨0,rfl,b1.rev (by lia) (by lia),b2.next (by lia) (Int.le_of_lt e) (aJ hz b4),by lia,one _⟩))
     ·rw[if_neg hq]
      exact wpS_pure ⟨0,rfl,b1,b2.next (by lia) (Int.le_of_lt e) (fun _=>rfl),by lia,one _⟩
    ·rw[decide_eq_false e]
     dsimp only
     rw[if_neg (by decide)]
     refine wpS_bind (b1.lt hL (by lia) (by lia) ?_)
     by_cases e2:kA rk z (lo+k -1)<kA rk z (lo+k)
     ·rw[decide_eq_true e2]
      exact wpS_pure ⟨k,q,a1,by lia,rfl,b1,b2,b3,b4⟩
     ·rw[decide_eq_false e2]
      have e3:kA rk z (lo+k)=kA rk z (lo+k -1):=by lia
      refine wpS_pure ⟨q+1,rfl,b1,b2.next (by lia) (by lia) (fun _=>rfl),by lia,fun i c1 c2=>?_⟩
      rw[show lo+(k+1) -1=lo+k by lia]
      rcases Nat.lt_or_ge i (lo+k) with y|y
      ·rw[e3];exact b4 i (by lia) y
      ·rw[show i=lo+k by lia]
   ·obtain⟨q,rfl,b1,b2,b3,b4⟩:=a3
    have e:max (m+1) n=n:=by lia
    rw[e] at b2 b3 b4⊢
    exact⟨n,q,by lia,Nat.le_refl _,rfl,b1,b2,b3,b4⟩
   ·obtain⟨k,q,k1,k2,rfl,b1,b2,b3,b4⟩:=a3
    dsimp only
    by_cases hq:q>0
    ·rw[if_pos hq]
     have hz:lo+k≤(arrOf z).size:=by rw[b1.sz];lia
     refine wpS_bind (wpS_reverse ?_)
     have t:=tail k _ (b1.rev (i:=lo+k -(q+1)) (j:=lo+k) (by lia) (by lia)) (by lia) k2 (fun i j hij hj=>by
      rw[aJ hz b4,aJ hz b4]
      exact b2 i j hij hj)
     refine wpS_bind (wpS_reverse (wpS_bind (asc _ k t.1 (by lia) k2 t.2 _ fun m' m1' m2' hs' _=>wpS_pure (h m' _ t.1 (by lia) m2' hs'))))
    ·rw[if_neg hq]
     have t:=tail k z b1 (by lia) k2 b2
     refine wpS_bind (wpS_reverse (wpS_bind (asc _ k t.1 (by lia) k2 t.2 _ fun m' m1' m2' hs' _=>wpS_pure (h m' _ t.1 (by lia) m2' hs'))))
theorem uu (hL:aq prog w A s rk kd base)(hB:TQ kd base lo pre pe st){n ok:Nat}{Q:Bool→SortSt→Prop}(hn:lo+n≤base.size)(hok:ok≤n)(hs:AO rk st lo ok)
  (h:∀st',TQ kd base lo pre pe st'→AO rk st' lo n→Q true st'):wpS (model prog w) A E s (binarySort' lo n ok) Q st:=by
 rw[binarySort'_eq]
 refine wpS_bind (wpS_mono (wpS_forRange (I:=fun k c z=>c=(none,())∧TQ kd base lo pre pe z∧AO rk z lo (min k n)) (Q:=fun c z=>c=(none,())∧TQ kd base lo pre pe z∧AO rk z lo n) (fun k c z a1 a2 a3=>?_) (fun c z a3=>?_) ⟨rfl,hB,fun i j hij hj=>?_⟩) fun c z a3=>?_)
 ·obtain⟨rfl,b1,b2⟩:=a3
  rw[show min k n=k by lia] at b2
  refine wpS_bind (wpS_mono (wpS_forRange (I:=fun x c y=>y=z∧∃l r,c=(none,l,r)∧l≤r∧r≤k∧r -l≤k -x∧(∀i,i<l→kA rk z (lo+i)≤kA rk z (lo+k))∧(∀i,r≤i→i<k→kA rk z (lo+k)<kA rk z (lo+i)))
   (Q:=fun c y=>y=z∧∃l r,c=(none,l,r)∧l≤k∧(∀i,i<l→kA rk z (lo+i)≤kA rk z (lo+k))∧(∀i,l≤i→i<k→kA rk z (lo+k)<kA rk z (lo+i))) (fun x c y c1 c2 c3=>?_) (fun c y c3=>?_) ⟨rfl,0,k,rfl,Nat.zero_le _,Nat.le_refl _,by lia,fun i q=>absurd q (by lia),fun i q1 q2=>absurd q2 (by lia)⟩) fun c y c3=>?_)
  ·obtain⟨rfl,l,r,rfl,d1,d2,d3,d4,d5⟩:=c3
   dsimp only
   by_cases g:l≥r
   ·rw[if_pos g]
    have e:l=r:=Nat.le_antisymm d1 g
    subst e
    exact wpS_pure ⟨rfl,l,l,rfl,d2,d4,d5⟩
   ·rw[if_neg g]
    obtain⟨u1,u2⟩:=yW g
    generalize (l+r)/2=m at u1 u2⊢
    refine wpS_bind (b1.lt hL (by lia) (by lia) ?_)
    by_cases e:kA rk y (lo+k)<kA rk y (lo+m)
    ·rw[decide_eq_true e]
     refine wpS_pure ⟨rfl,l,m,rfl,u1,by lia,by lia,d4,fun i q1 q2=>?_⟩
     have:=b2 m i q1 q2
     lia
    ·rw[decide_eq_false e]
     refine wpS_pure ⟨rfl,m+1,r,rfl,u2,d2,by lia,fun i q1=>?_,d5⟩
     have:=b2 i m (Nat.le_of_lt_succ q1) (Nat.lt_of_lt_of_le u2 d2)
     lia
  ·obtain⟨rfl,l,r,rfl,d1,d2,d3,d4,d5⟩:=c3
   have e:l=r:=by lia
   subst e
   exact⟨rfl,l,l,rfl,d2,d4,d5⟩
  ·obtain⟨rfl,l,r,rfl,d1,d4,d5⟩:=c3
   show wpS _ _ _ _ (do moveDown' (lo+k) (lo+l);pure (ForInStep.yield (none,()))) _ y
   rw[moveDown'_eq]
   refine wpS_bind (wpS_modify (wpS_pure ⟨rfl,b1.mov (by lia) (by lia),fun i j hij hj=>?_⟩))
   have hk:lo+k<(arrOf y).size:=by rw[b1.sz];lia
   rw[oX hk (by lia),oX hk (by lia),show lo+k -(lo+k -(lo+l))=lo+l by lia]
   by_cases i1:i=l
   ·rw[if_pos (by lia)]
    by_cases j1:j=l
    ·rw[if_pos (by lia)];exact Int.le_refl _
    ·rw[if_neg (by lia),if_pos ⟨by lia,by lia⟩]
     have z:=d5 (j -1) (by lia) (by lia)
     rw[vT (show 1≤j by lia)] at z
     exact Int.le_of_lt z
   ·rw[if_neg (by lia)]
    by_cases i2:l<i∧i≤k
    ·rw[if_pos ⟨by lia,by lia⟩,if_neg (by lia),if_pos ⟨by lia,by lia⟩]
     have z:=b2 (i -1) (j -1) (by lia) (by lia)
     rw[vT (show 1≤i by lia),vT (show 1≤j by lia)] at z
     exact z
    ·rw[if_neg (by lia)]
     have il:i<l:=by lia
     by_cases j1:j=l
     ·rw[if_pos (by lia)];exact d4 i il
     ·rw[if_neg (by lia)]
      by_cases j2:l<j∧j≤k
      ·rw[if_pos ⟨by lia,by lia⟩]
       have z:=b2 i (j -1) (by lia) (by lia)
       rw[vT (show 1≤j by lia)] at z
       exact z
      ·rw[if_neg (by lia)];exact b2 _ _ hij (by lia)
 ·obtain⟨hc,b1,b2⟩:=a3
  rw[show min (max (max ok 1) n) n=n by lia] at b2
  exact⟨hc,b1,b2⟩
 ·by_cases e:ok=0
  ·rw[show i=j by lia];exact Int.le_refl _
  ·exact hs i j hij (by lia)
 ·obtain⟨rfl,b1,b2⟩:=a3
  exact wpS_pure (h z b1 b2)
end
end L2
set_option Elab.async false
set_option linter.all false
set_option maxRecDepth 100000
set_option maxHeartbeats 4000000
namespace L2
open PySem PySem.Spec PyProof.Rows
abbrev qN:Bool→Keyed→Array Keyed→Nat→Nat→Nat→StateT SortSt Sem (Option Nat):=sortPriv% PySem.Builtin.gallop
section
variable {prog:Program} {w:World} {A:Around} {E:Value→Shared→Prop} {s:Shared} {rk:Value→Int} {kd:SortKind} {base:Array Keyed} {st:SortSt}
def O5 (rk:Value→Int)(xs:Array Keyed)(i:Nat):Int:=match xs[i]? with
 |some p=>rk p.1
 |none=>0
theorem x5 {xs:Array Keyed}{i:Nat}(h:i<xs.size):O5 rk xs i=rk xs[i].1:=by
 unfold O5
 rw[Array.getElem?_eq_getElem h]
def fP (rk:Value→Int)(left:Bool)(key:Keyed)(arr:Array Keyed)(i:Nat):Bool:=if left then decide (O5 rk arr i<rk key.1) else !decide (rk key.1<O5 rk arr i)
theorem vZ {β:Type}{By:Nat→Bool}{n lo hi:Nat}{f:Nat→Option β×Nat×Nat→StateT SortSt Sem (ForInStep (Option β×Nat×Nat))}
  (f1:∀x a b,a≥b→f x (none,a,b)=pure (.done (none,a,b))) (f2:∀x a b,a<b→b≤n→∀Q':ForInStep (Option β×Nat×Nat)→SortSt→Prop,Q' (.yield (if By (a+(b -a)/2)=true then(none,a+(b -a)/2+1,b) else(none,a,a+(b -a)/2))) st→wpS (model prog w) A E s (f x (none,a,b)) Q' st)
  (mono:∀i j,i≤j→j<n→By j=true→By i=true) (h1:lo≤hi) (h2:hi≤n) (h3:∀i,i<lo→By i=true) (h4:∀i,hi≤i→i<n→By i=false):wpS (model prog w) A E s (forIn [0:n] ((none:Option β),lo,hi) f) (fun c z=>z=st∧∃a k,c=(none,a,k)∧k≤n∧(∀i,i<k→By i=true)∧∀i,k≤i→i<n→By i=false) st:=by
 refine wpS_forRange (I:=fun x c z=>z=st∧∃a b,c=(none,a,b)∧a≤b∧b≤n∧b -a≤n -x∧(∀i,i<a→By i=true)∧∀i,b≤i→i<n→By i=false) (fun x c z a1 a2 a3=>?_) (fun c z a3=>?_) ⟨rfl,lo,hi,rfl,h1,h2,by lia,h3,h4⟩
 ·obtain⟨rfl,a,b,rfl,c1,c2,c3,c4,c5⟩:=a3
  by_cases e:a≥b
  ·rw[f1 x a b e]
   have e':a=b:=Nat.le_antisymm c1 e
   subst e'
   exact wpS_pure ⟨rfl,a,a,rfl,c2,c4,c5⟩
  ·refine f2 x a b (Nat.lt_of_not_le e) c2 _ ?_
   obtain⟨u1,u2⟩:=xp e
   have u3:b -(a+(b -a)/2+1)≤n -(x+1)∧a+(b -a)/2 -a≤n -(x+1):=by lia
   generalize a+(b -a)/2=m at u1 u2 u3⊢
   cases e2:By m with
   |true=>exact⟨rfl,_,_,rfl,u2,c2,u3.1,fun i hi=>mono i _ (Nat.le_of_lt_succ hi) (Nat.lt_of_lt_of_le u2 c2) e2,c5⟩
   |false=>
    refine⟨rfl,_,_,rfl,u1,Nat.le_trans (Nat.le_of_lt u2) c2,u3.2,c4,fun i q1 q2=>?_⟩
    cases e3:By i with
    |false=>rfl
    |true=>rw[mono _ i q1 q2 e3] at e2;cases e2
 ·obtain⟨rfl,a,b,rfl,c1,c2,c3,c4,c5⟩:=a3
  have e':a=b:=by lia
  subst e'
  exact⟨rfl,a,a,rfl,c2,c4,c5⟩
theorem Y9 (hL:aq prog w A s rk kd base)(hk:kindOf st=kd){left:Bool}{key:Keyed}{arr:Array Keyed}{bs n hint:Nat}{Q:Option Nat→SortSt→Prop}(hkey:key∈base.toList)(hsz:bs+n≤arr.size)(hin:∀i (h:i<arr.size),arr[i]∈base.toList)(hh:hint<n)
  (asc:∀i j,i≤j→j<n→O5 rk arr (bs+i)≤O5 rk arr (bs+j)) (h:∀k,k≤n→(∀i,i<k→fP rk left key arr (bs+i)=true)→(∀i,k≤i→i<n→fP rk left key arr (bs+i)=false)→Q (some k) st):wpS (model prog w) A E s (qN left key arr bs n hint) Q st:=by
 obtain⟨By,hBy⟩:∃By:Nat→Bool,∀i,By i=fP rk left key arr (bs+i):=⟨_,fun _=>rfl⟩
 have mono:∀i j,i≤j→j<n→By j=true→By i=true:=fun i j hij hj hy=>by
  have z:=asc i j hij hj
  rw[hBy] at hy⊢
  unfold fP at hy⊢
  cases left<;>simp at hy⊢<;>lia
 have ask:∀i,i<n→∀Q':Option Bool→SortSt→Prop,Q' (some (By i)) st→wpS (model prog w) A E s (elem' arr (bs+i)>>=fun x=>if left=true then lt' x key else lt' key x>>=fun r=>pure (Option.map (fun x=>!x) r)) Q' st:=fun i hi Q' q=>by
  have hl:bs+i<arr.size:=by lia
  refine wpS_bind (y9 hl ?_)
  rw[hBy] at q
  unfold fP at q
  rw[x5 hl] at q
  cases left with
  |true=>exact gN hL hk (hin _ hl) hkey q
  |false=>exact wpS_bind (gN hL hk hkey (hin _ hl) (wpS_pure q))
 simp only[←hBy] at h
 refine wpS_bind (ask hint hh _ ?_)
 dsimp only
 cases hr:By hint with
 |true=>
  rw[if_pos rfl]
  refine wpS_bind (wpS_mono (wpS_forRange (I:=fun x c z=>z=st∧∃a b,c=(none,a,b)∧a<b∧hint+a<n∧x+1≤b∧By (hint+a)=true) (Q:=fun c z=>z=st∧∃a b,c=(none,a,b)∧a<b∧hint+a<n∧By (hint+a)=true∧(n -hint≤b∨By (hint+b)=false)) (fun x c z a1 a2 a3=>?_) (fun c z a3=>?_) ⟨rfl,0,1,rfl,by lia,by lia,by lia,hr⟩) fun c z a3=>?_)
  ·obtain⟨rfl,a,b,rfl,c1,c2,c3,c4⟩:=a3
   dsimp only
   by_cases e:b≥n -hint
   ·rw[if_pos e]
    exact wpS_pure ⟨rfl,a,b,rfl,c1,c2,c4,.inl e⟩
   ·rw[if_neg e]
    refine wpS_bind (ask (hint+b) (by lia) _ ?_)
    cases e2:By (hint+b) with
    |false=>exact wpS_pure ⟨rfl,a,b,rfl,c1,c2,c4,.inr e2⟩
    |true=>exact wpS_pure ⟨rfl,b,2*b+1,rfl,by lia,by lia,by lia,e2⟩
  ·obtain⟨rfl,a,b,rfl,c1,c2,c3,c4⟩:=a3
   exact⟨rfl,a,b,rfl,c1,c2,c4,.inl (by lia)⟩
  ·obtain⟨rfl,a,b,rfl,c1,c2,c4,c5⟩:=a3
   dsimp only
   refine wpS_bind (wpS_mono (vZ (By:=By) (fun x a b e=>if_pos e) (fun x a b e e' Q' q=>?_) mono (by lia) (by lia) (fun i hi=>mono i _ (by lia) c2 c4) (fun i q1 q2=>?_)) fun c z hz=>by
    obtain⟨rfl,a,k,rfl,k1,k2,k3⟩:=hz
    exact wpS_pure (h k k1 k2 k3))
   ·dsimp only
    rw[if_neg (by lia)]
    refine wpS_bind (ask _ (by lia) _ ?_)
    cases e2:By (a+(b -a)/2) with
    |true=>rw[e2,if_pos rfl] at q;exact wpS_pure q
    |false=>rw[e2,if_neg (by decide)] at q;exact wpS_pure q
   ·rcases c5 with c5|c5
    ·exact absurd q1 (by lia)
    ·cases e3:By i with
     |false=>rfl
     |true=>rw[mono (hint+b) i (by lia) q2 e3] at c5;cases c5
 |false=>
  rw[if_neg (by decide)]
  refine wpS_bind (wpS_mono (wpS_forRange (I:=fun x c z=>z=st∧∃a b,c=(none,a,b)∧a<b∧a≤hint∧x+1≤b∧By (hint -a)=false) (Q:=fun c z=>z=st∧∃a b,c=(none,a,b)∧a<b∧a≤hint∧By (hint -a)=false∧(hint+1≤b∨(b≤hint∧By (hint -b)=true))) (fun x c z a1 a2 a3=>?_) (fun c z a3=>?_) ⟨rfl,0,1,rfl,by lia,by lia,by lia,hr⟩) fun c z a3=>?_)
  ·obtain⟨rfl,a,b,rfl,c1,c2,c3,c4⟩:=a3
   dsimp only
   by_cases e:b≥hint+1
   ·rw[if_pos e]
    exact wpS_pure ⟨rfl,a,b,rfl,c1,c2,c4,.inl e⟩
   ·rw[if_neg e]
    refine wpS_bind (ask (hint -b) (by lia) _ ?_)
    cases e2:By (hint -b) with
    |true=>exact wpS_pure ⟨rfl,a,b,rfl,c1,c2,c4,.inr ⟨by lia,e2⟩⟩
    |false=>exact wpS_pure ⟨rfl,b,2*b+1,rfl,by lia,by lia,by lia,e2⟩
  ·obtain⟨rfl,a,b,rfl,c1,c2,c3,c4⟩:=a3
   exact⟨rfl,a,b,rfl,c1,c2,c4,.inl (by lia)⟩
  ·obtain⟨rfl,a,b,rfl,c1,c2,c4,c5⟩:=a3
   dsimp only
   refine wpS_bind (wpS_mono (vZ (By:=By) (fun x a b e=>if_pos e) (fun x a b e e' Q' q=>?_) mono (by lia) (by lia) (fun i hi=>?_) (fun i q1 q2=>?_)) fun c z hz=>by
    obtain⟨rfl,a,k,rfl,k1,k2,k3⟩:=hz
    exact wpS_pure (h k k1 k2 k3))
   ·dsimp only
    rw[if_neg (by lia)]
    refine wpS_bind (ask _ (by lia) _ ?_)
    cases e2:By (a+(b -a)/2) with
    |true=>rw[e2,if_pos rfl] at q;exact wpS_pure q
    |false=>rw[e2,if_neg (by decide)] at q;exact wpS_pure q
   ·rcases c5 with c5|⟨c5,c6⟩
    ·exact absurd hi (by lia)
    ·exact mono i (hint -b) (by lia) (by lia) c6
   ·cases e3:By i with
    |false=>rfl
    |true=>rw[mono (hint -a) i q1 q2 e3] at c4;cases c4
end
end L2
set_option Elab.async false
set_option linter.all false
set_option maxRecDepth 100000
set_option maxHeartbeats 4000000
namespace L2
open PySem PySem.Spec PyProof.Rows
abbrev oo:Array Keyed→Array Keyed→StateT SortSt Sem (Array Keyed):=sortPriv% PySem.Builtin.mergeLo
abbrev oI:Array Keyed→Array Keyed→StateT SortSt Sem (Array Keyed):=sortPriv% PySem.Builtin.mergeHi
section
variable {prog:Program} {w:World} {A:Around} {E:Value→Shared→Prop} {s:Shared} {rk:Value→Int} {kd:SortKind} {base:Array Keyed} {st:SortSt}
theorem z7 {α:Type}(xs:Array α)(i j:Nat):(xs.extract i j).toList=(xs.toList.drop i).take (j -i):=by
 simp [Array.toList_extract,List.extract_eq_drop_take]
theorem B7 {α:Type}(xs:Array α)(i:Nat):(xs.extract i).toList=xs.toList.drop i:=by
 rw[z7,List.take_of_length_le (by simp)]
theorem bH {α:Type}{X:List α}{i k:Nat}{x:α}(h:x∈(X.drop i).take k):∃t,t<k∧X[i+t]?=some x:=by
 obtain⟨t,ht⟩:=List.getElem?_of_mem h
 rw[List.getElem?_take] at ht
 split at ht
 ·next z=>exact⟨t,z,by rw[List.getElem?_drop] at ht;exact ht⟩
 ·cases ht
theorem cI {α:Type}{X:List α}{i:Nat}{x:α}(h:x∈X.drop i):∃t,X[i+t]?=some x:=by
 obtain⟨t,ht⟩:=List.getElem?_of_mem h
 exact⟨t,by rw[List.getElem?_drop] at ht;exact ht⟩
def Srt (rk:Value→Int)(l:List Keyed):Prop:=l.Pairwise fun x y=>rk x.1≤rk y.1
theorem Srt.at_ {l:List Keyed}(h:Srt rk l){i j:Nat}{x y:Keyed}(hij:i≤j)(hx:l[i]?=some x)(hy:l[j]?=some y):rk x.1≤rk y.1:=by
 have li:i<l.length:=List.getElem?_eq_some_iff.mp hx|>.1
 have lj:j<l.length:=List.getElem?_eq_some_iff.mp hy|>.1
 have ex:l[i]=x:=(List.getElem?_eq_some_iff.mp hx).2
 have ey:l[j]=y:=(List.getElem?_eq_some_iff.mp hy).2
 rcases Nat.lt_or_ge i j with z|z
 ·have q:=List.pairwise_iff_getElem.mp h i j li lj z
  rw[ex,ey] at q;exact q
 ·have e:i=j:=by lia
  subst e
  rw[←ex,←ey];exact Int.le_refl _
structure MI (rk:Value→Int) (X Y o:List Keyed) (i j:Nat):Prop where
 p:(o++(X.drop i++Y.drop j)).Perm (X++Y)
 s1:Srt rk (o++X.drop i)
 s2:Srt rk (o++Y.drop j)
def MF (rk:Value→Int)(X Y r:List Keyed):Prop:=r.Perm (X++Y)∧Srt rk r
theorem MI.swap {X Y o:List Keyed}{i j:Nat}(h:MI rk X Y o i j):MI rk Y X o j i:=
 ⟨((List.Perm.append_left o List.perm_append_comm).trans h.p).trans List.perm_append_comm,h.s2,h.s1⟩
theorem MI.mv {X Y o:List Keyed}{i j:Nat}(h:MI rk X Y o i j)(k:Nat)(hc:∀x∈(X.drop i).take k,∀y∈Y.drop j,rk x.1≤rk y.1):MI rk X Y (o++(X.drop i).take k) (i+k) j:=by
 have e:(X.drop i).take k++X.drop (i+k)=X.drop i:=by rw[←List.drop_drop];exact List.take_append_drop k _
 refine⟨?_,?_,?_⟩
 ·have p:=h.p
  rw[←e] at p
  refine List.Perm.trans (List.Perm.of_eq ?_) p
  simp only[List.append_assoc]
 ·show Srt rk _
  rw[List.append_assoc,e];exact h.s1
 ·have z:=List.pairwise_append.mp h.s1
  have z2:=List.pairwise_append.mp h.s2
  have tk:∀x,x∈(X.drop i).take k→x∈X.drop i:=fun x hx=>List.mem_of_mem_take hx
  refine List.pairwise_append.mpr ⟨List.pairwise_append.mpr ⟨z.1,z.2.1.sublist (List.take_sublist _ _),fun x hx y hy=>z.2.2 x hx y (tk y hy)⟩,z2.2.1,fun x hx y hy=>?_⟩
  rcases List.mem_append.mp hx with q|q
  ·exact z2.2.2 x q y hy
  ·exact hc x q y hy
theorem jj {α:Type}{X:List α}{i:Nat}{x:α}(h:X[i]?=some x):(X.drop i).take 1=[x]:=by
 have li:i<X.length:=(List.getElem?_eq_some_iff.mp h).1
 rw[List.drop_eq_getElem_cons li,List.take_succ_cons,List.take_zero,(List.getElem?_eq_some_iff.mp h).2]
theorem MI.one {X Y o:List Keyed}{i j:Nat}{x:Keyed}(h:MI rk X Y o i j)(hx:X[i]?=some x)(hc:∀y∈Y.drop j,rk x.1≤rk y.1):MI rk X Y (o++[x]) (i+1) j:=by
 have z:=h.mv 1 (by rw[jj hx];intro u hu;rw[List.mem_singleton.mp hu];exact hc)
 rw[jj hx] at z;exact z
theorem MI.endY {X Y o:List Keyed}{i j:Nat}(h:MI rk X Y o i j)(hj:Y.length≤j):MF rk X Y (o++X.drop i++Y.drop j):=by
 have e:Y.drop j=[]:=List.drop_eq_nil_of_le hj
 have p:=h.p
 rw[e,List.append_nil] at p⊢
 exact⟨p,h.s1⟩
theorem MI.endX {X Y o:List Keyed}{i j:Nat}(h:MI rk X Y o i j)(hi:X.length≤i):MF rk X Y (o++X.drop i++Y.drop j):=by
 have e:X.drop i=[]:=List.drop_eq_nil_of_le hi
 have p:=h.p
 rw[e,List.nil_append] at p
 rw[e,List.append_nil]
 exact⟨p,h.s2⟩
theorem MI.last {X Y o:List Keyed}{i j:Nat}(h:MI rk X Y o i j)(hl:∀y∈Y.drop j,∀x∈X.drop i,rk y.1≤rk x.1):MF rk X Y (o++Y.drop j++X.drop i):=by
 have z:=List.pairwise_append.mp h.s1
 refine⟨?_,List.pairwise_append.mpr ⟨h.s2,z.2.1,fun u hu v hv=>?_⟩⟩
 ·rw[List.append_assoc]
  exact(List.Perm.append_left o List.perm_append_comm).trans h.p
 ·rcases List.mem_append.mp hu with q|q
  ·exact z.2.2 u q v hv
  ·exact hl u q v hv
end
end L2
set_option Elab.async false
set_option linter.all false
set_option maxRecDepth 100000
set_option maxHeartbeats 4000000
namespace L2
open PySem PySem.Spec PyProof.Rows
def SG (st z:SortSt):Prop:=kindOf z=kindOf st∧arrOf z=arrOf st∧pendingOf z=pendingOf st∧failedOf z=failedOf st
section
variable {prog:Program} {w:World} {A:Around} {E:Value→Shared→Prop} {s:Shared} {rk:Value→Int} {kd:SortKind} {base:Array Keyed} {st:SortSt}
abbrev cf:Nat→StateT SortSt Sem Unit:=sortPriv% PySem.Builtin.setMinGallop
theorem dW {g:Nat}{Q:Unit→SortSt→Prop}{z:SortSt}(hz:SG st z)(h:∀z',SG st z'→Q () z'):wpS (model prog w) A E s (cf g) Q z:=by
 exact wpS_modify (h _ hz)
structure Hd (T:Prop):Prop where
 g:T
theorem kt {T G:Prop}(a:Hd T→G)(b:T):G:=a ⟨b⟩
theorem vH (hL:aq prog w A s rk kd base)(hk:kindOf st=kd){a b:Array Keyed}{Q:Array Keyed→SortSt→Prop}(ha:∀x∈a.toList,x∈base.toList)(hb:∀x∈b.toList,x∈base.toList)(sa:Srt rk a.toList)(sb:Srt rk b.toList)(la:0<a.size)(lb:0<b.size)
  (h0:∀x∈a.toList,O5 rk b 0≤rk x.1) (hl:∀y∈b.toList,rk y.1≤O5 rk a (a.size -1)) (h:∀o z,SG st z→MF rk a.toList b.toList o.toList→Q o z):wpS (model prog w) A E s (oo a b) Q st:=by
 have ga:∀i (hi:i<a.size),a.toList[i]?=some a[i]:=fun i hi=>by rw[Array.getElem?_toList,Array.getElem?_eq_getElem hi]
 have gb:∀i (hi:i<b.size),b.toList[i]?=some b[i]:=fun i hi=>by rw[Array.getElem?_toList,Array.getElem?_eq_getElem hi]
 have ina:∀i (hi:i<a.size),a[i]∈base.toList:=fun i hi=>ha _ (List.mem_of_getElem? (ga i hi))
 have inb:∀i (hi:i<b.size),b[i]∈base.toList:=fun i hi=>hb _ (List.mem_of_getElem? (gb i hi))
 have aa:∀i j,i≤j→j<a.size→O5 rk a i≤O5 rk a j:=fun i j hij hj=>by
  rw[x5 (show i<a.size by lia),x5 hj]
  exact sa.at_ hij (ga i (by lia)) (ga j hj)
 have ab:∀i j,i≤j→j<b.size→O5 rk b i≤O5 rk b j:=fun i j hij hj=>by
  rw[x5 (show i<b.size by lia),x5 hj]
  exact sb.at_ hij (gb i (by lia)) (gb j hj)
 have ix:∀{X:Array Keyed} {i:Nat} {x:Keyed},X.toList[i]?=some x→i<X.size∧rk x.1=O5 rk X i:=fun{X i x} e=>by
  rw[Array.getElem?_toList] at e
  unfold O5
  rw[e]
  refine⟨?_,rfl⟩
  rcases Nat.lt_or_ge i X.size with z|z
  ·exact z
  ·rw[Array.getElem?_eq_none z] at e;cases e
 have za:a.toList.length=a.size:=Array.length_toList
 have zb:b.toList.length=b.size:=Array.length_toList
 have fY:∀(o:Array Keyed) (i j:Nat) (z:SortSt),SG st z→MI rk a.toList b.toList o.toList i j→b.size≤j→Q (o++a.extract i++b.extract j) z:=fun o i j z hz M hj=>h _ z hz (by
  rw[Array.toList_append,Array.toList_append,B7,B7];exact M.endY (by lia))
 have fX:∀(o:Array Keyed) (i j:Nat) (z:SortSt),SG st z→MI rk a.toList b.toList o.toList i j→a.size≤i→Q (o++a.extract i++b.extract j) z:=fun o i j z hz M hj=>h _ z hz (by
  rw[Array.toList_append,Array.toList_append,B7,B7];exact M.endX (by lia))
 have fL:∀(o:Array Keyed) (i j:Nat) (z:SortSt),SG st z→MI rk a.toList b.toList o.toList i j→i+1=a.size→Q (o++b.extract j++a.extract i) z:=fun o i j z hz M hi=>h _ z hz (by
  rw[Array.toList_append,Array.toList_append,B7,B7]
  refine M.last fun y hy x hx=>?_
  obtain⟨t,ht⟩:=cI hx
  obtain⟨l1,e1⟩:=ix ht
  have e:i+t=a.size -1:=by lia
  rw[e1,e]
  exact hl y (List.mem_of_mem_drop hy))
 have M0:MI rk a.toList b.toList (#[b[0]]:Array Keyed).toList 0 1:=by
  have e:b.toList=b[0]::b.toList.drop 1:=by
   have z:=List.drop_eq_getElem_cons (l:=b.toList) (i:=0) (by lia)
   rw[List.drop_zero] at z
   exact z
  refine⟨?_,?_,?_⟩
  ·show([b[0]]++(a.toList.drop 0++b.toList.drop 1)).Perm (a.toList++b.toList)
   rw[List.drop_zero]
   refine List.Perm.trans ?_ (List.Perm.of_eq (congrArg (a.toList++·) e.symm))
   exact(List.perm_middle (a:=b[0]) (l₁:=a.toList) (l₂:=b.toList.drop 1)).symm
  ·show Srt rk ([b[0]]++a.toList.drop 0)
   rw[List.drop_zero]
   exact List.pairwise_cons.mpr ⟨fun x hx=>by have z:=h0 x hx;rw[x5 lb] at z;exact z,sa⟩
  ·show Srt rk ([b[0]]++b.toList.drop 1)
   have z:=sb
   rw[e] at z
   exact z
 have tkB:∀(o:Array Keyed) (i j:Nat) (hj:j<b.size),MI rk a.toList b.toList o.toList i j→(∀x∈a.toList.drop i,rk b[j].1≤rk x.1)→MI rk a.toList b.toList (o.push b[j]).toList i (j+1):=fun o i j hj M hc=>by
  rw[Array.toList_push]
  exact(M.swap.one (gb j hj) hc).swap
 have tkA:∀(o:Array Keyed) (i j:Nat) (hi:i<a.size),MI rk a.toList b.toList o.toList i j→(∀y∈b.toList.drop j,rk a[i].1≤rk y.1)→MI rk a.toList b.toList (o.push a[i]).toList (i+1) j:=fun o i j hi M hc=>by
  rw[Array.toList_push]
  exact M.one (ga i hi) hc
 have geA:∀(i:Nat) (v:Int),(i<a.size→v≤O5 rk a i)→∀x∈a.toList.drop i,v≤rk x.1:=fun i v hv x hx=>by
  obtain⟨t,ht⟩:=cI hx
  obtain⟨l1,e1⟩:=ix ht
  rw[e1]
  exact Int.le_trans (hv (by lia)) (aa i (i+t) (by lia) l1)
 have geB:∀(i:Nat) (v:Int),(i<b.size→v≤O5 rk b i)→∀x∈b.toList.drop i,v≤rk x.1:=fun i v hv x hx=>by
  obtain⟨t,ht⟩:=cI hx
  obtain⟨l1,e1⟩:=ix ht
  rw[e1]
  exact Int.le_trans (hv (by lia)) (ab i (i+t) (by lia) l1)
 have sg0:SG st st:=⟨rfl,rfl,rfl,rfl⟩
 refine wpS_bind (wpS_lift (wpAny_rule ⟨rfl,wpS_bind (y9 lb ?_)⟩))
 by_cases e1:1=b.size
 ·rw[if_pos (by simpa using e1)]
  exact wpS_pure (fY _ 0 1 st sg0 M0 (by lia))
 rw[if_neg (by simpa using e1)]
 by_cases e2:1=a.size
 ·rw[if_pos (by simpa using e2)]
  exact wpS_pure (fL _ 0 1 st sg0 M0 e2)
 rw[if_neg (by simpa using e2)]
 refine wpS_bind (wpS_get ?_)
 refine wpS_bind (wpS_mono (wpS_forRange (I:=fun x c z=>SG st z∧∃o i j g,c=(none,o,i,j,g)∧MI rk a.toList b.toList o.toList i j∧i+1<a.size∧j<b.size∧x+1≤i+j) (Q:=fun c z=>∃r o i j g,c=(some r,o,i,j,g)∧Q r z) (fun x c z a1 a2 a3=>?_) (fun c z a3=>?_) ⟨sg0,_,_,_,_,rfl,M0,by lia,by lia,by lia⟩) fun c z a3=>?_)
 ·obtain⟨hz,o,i,j,g,rfl,M,c1,c2,c3⟩:=a3
  dsimp only
  refine wpS_bind (wpS_mono (wpS_forRange (I:=fun y c z=>SG st z∧∃o i' j' ac bc,c=(none,o,i',j',ac,bc)∧MI rk a.toList b.toList o.toList i' j'∧i'+1<a.size∧j'<b.size∧i+j+y≤i'+j') (Q:=fun c z=>(∃r o i j ac bc,c=(some r,o,i,j,ac,bc)∧Q r z)∨(SG st z∧∃o i' j' ac bc,c=(none,o,i',j',ac,bc)∧MI rk a.toList b.toList o.toList i' j'∧i'+1<a.size∧j'<b.size∧i+j+1≤i'+j')) (fun y c z a1' a2' a3=>?_) (fun c z a3=>?_) ⟨hz,_,_,_,_,_,rfl,M,c1,c2,by lia⟩) fun c z a3=>?_)
  ·obtain⟨hz,o,i',j',ac,bc,rfl,M,d1,d2,d3⟩:=a3
   dsimp only
   have d1':i'<a.size:=by lia
   refine wpS_bind (y9 d2 (wpS_bind (y9 d1' (wpS_bind (gN hL (hz.1.trans hk) (inb j' d2) (ina i' d1') ?_)))))
   by_cases e:rk b[j'].1<rk a[i'].1
   ·rw[decide_eq_true e]
    dsimp only
    rw[if_pos rfl]
    refine wpS_bind (y9 d2 ?_)
    have M':=tkB o i' j' d2 M (geA i' _ fun _=>by rw[x5 d1'];exact Int.le_of_lt e)
    by_cases eb:j'+1=b.size
    ·rw[if_pos (by simpa using eb)]
     exact wpS_pure (.inl ⟨_,_,_,_,_,_,rfl,fY _ _ _ z hz M' (by lia)⟩)
    ·rw[if_neg (by simpa using eb)]
     split
     ·exact wpS_pure (.inr ⟨hz,_,_,_,_,_,rfl,M',d1,by lia,by lia⟩)
     ·exact wpS_pure ⟨hz,_,_,_,_,_,rfl,M',d1,by lia,by lia⟩
   ·rw[decide_eq_false e]
    dsimp only
    rw[if_neg (by decide)]
    refine wpS_bind (y9 d1' ?_)
    have M':=tkA o i' j' d1' M (geB j' _ fun _=>by rw[x5 d2];exact Int.not_lt.mp e)
    by_cases eb:i'+1+1=a.size
    ·rw[if_pos (by simpa using eb)]
     exact wpS_pure (.inl ⟨_,_,_,_,_,_,rfl,fL _ _ _ z hz M' eb⟩)
    ·rw[if_neg (by simpa using eb)]
     split
     ·exact wpS_pure (.inr ⟨hz,_,_,_,_,_,rfl,M',by lia,d2,by lia⟩)
     ·exact wpS_pure ⟨hz,_,_,_,_,_,rfl,M',by lia,d2,by lia⟩
  ·obtain⟨hz,o,i',j',ac,bc,rfl,M,d1,d2,d3⟩:=a3
   exact .inr ⟨hz,_,_,_,_,_,rfl,M,d1,d2,by lia⟩
  ·rcases a3 with⟨r,o,i',j',ac,bc,rfl,hr⟩|⟨hz,o,i',j',ac,bc,rfl,M,d1,d2,d3⟩
   ·exact wpS_pure ⟨r,_,_,_,_,rfl,hr⟩
   dsimp only
   refine wpS_bind (wpS_lift (wpAny_rule ⟨rfl,?_⟩))
   refine wpS_bind (wpS_mono (wpS_forRange (I:=fun y c z=>SG st z∧∃o i' j' g ac bc,c=(none,o,i',j',g,ac,bc)∧MI rk a.toList b.toList o.toList i' j'∧i'+1<a.size∧j'<b.size∧i+j+1≤i'+j') (Q:=fun c z=>(∃r o i j g ac bc,c=(some r,o,i,j,g,ac,bc)∧Q r z)∨(SG st z∧∃o i' j' g ac bc,c=(none,o,i',j',g,ac,bc)∧MI rk a.toList b.toList o.toList i' j'∧i'+1<a.size∧j'<b.size∧i+j+1≤i'+j')) (fun y c z a1' a2' a3=>?_) (fun c z a3=> .inr a3) ⟨hz,_,_,_,_,_,_,rfl,M,d1,d2,d3⟩) fun c z a3=>?_)
   ·obtain⟨hz,o,i',j',g,ac,bc,rfl,M,d1,d2,d3⟩:=a3
    dsimp only
    have d1':i'<a.size:=by lia
    apply kt
    case a=>
     intro key
     by_cases hg:g>1
     ·rw[if_pos hg];generalize g -1=x;revert x;exact key.g
     ·rw[if_neg hg];exact key.g _
    case b=>
     intro g
     refine wpS_bind (dW hz fun z hz=>?_)
     refine wpS_bind (y9 d2 ?_)
     refine wpS_bind (Y9 hL (hz.1.trans hk) (inb j' d2) (by lia) ina (by lia) (fun p q hpq hq=>aa _ _ (by lia) (by lia)) fun k k1 k2 k3=>?_)
     dsimp only
     have cA:∀x∈a.toList.drop (i'+k),rk b[j'].1≤rk x.1:=geA _ _ fun hlt=>by
      have z:=k3 k (Nat.le_refl _) (by lia)
      unfold fP at z
      simp at z
      exact Int.le_of_lt z
     have Mk:=M.mv k fun x hx y hy=>by
      obtain⟨t,t1,ht⟩:=bH hx
      obtain⟨l1,e1⟩:=ix ht
      have z:=k2 t t1
      unfold fP at z
      simp at z
      rw[e1]
      refine Int.le_trans z ?_
      exact geB j' _ (fun _=>by rw[x5 d2];exact Int.le_refl _) y hy
     apply kt
     case a=>
      intro key
      by_cases e:k>0
      case pos=>
       rw[if_pos e]
       have M':MI rk a.toList b.toList (o++a.extract i' (i'+k)).toList (i'+k) j':=by
        rw[Array.toList_append,z7,show i'+k -i'=k by lia];exact Mk
       by_cases ea:i'+k+1=a.size
       ·rw[if_pos (by simpa using ea)]
        exact wpS_pure (.inl ⟨_,_,_,_,_,_,_,rfl,fL _ _ _ z hz M' ea⟩)
       rw[if_neg (by simpa using ea)]
       by_cases eb:i'+k=a.size
       ·rw[if_pos (by simpa using eb)]
        exact wpS_pure (.inl ⟨_,_,_,_,_,_,_,rfl,fX _ _ _ z hz M' (by lia)⟩)
       rw[if_neg (by simpa using eb)]
       have h1:i'+k+1<a.size:=by lia
       have h2:i+j+1≤i'+k+j':=by lia
       have c:=cA;revert M' h1 h2 c;generalize o++a.extract i' (i'+k)=x;generalize i'+k=y;revert x y;exact key.g
      case neg=>
       rw[if_neg e]
       have e0:k=0:=by lia
       rw[e0,Nat.add_zero] at cA;exact key.g _ _ M d1 d3 cA
     case b=>
      intro o i' M d1 d3 cA
      have d1':i'<a.size:=by lia
      refine wpS_bind (y9 d2 ?_)
      have M':=tkB o i' j' d2 M cA
      by_cases eb:j'+1=b.size
      ·rw[if_pos (by simpa using eb)]
       exact wpS_pure (.inl ⟨_,_,_,_,_,_,_,rfl,fY _ _ _ z hz M' (by lia)⟩)
      rw[if_neg (by simpa using eb)]
      refine wpS_bind (y9 d1' ?_)
      refine wpS_bind (Y9 hL (hz.1.trans hk) (ina i' d1') (by lia) inb (by lia) (fun p q hpq hq=>ab _ _ (by lia) (by lia)) fun k' k1' k2' k3'=>?_)
      dsimp only
      have cB:∀x∈b.toList.drop (j'+1+k'),rk a[i'].1≤rk x.1:=geB _ _ fun hlt=>by
       have z:=k3' k' (Nat.le_refl _) (by lia)
       unfold fP at z
       simp at z
       exact z
      have Mk':=(M'.swap.mv k' fun x hx y hy=>by
       obtain⟨t,t1,ht⟩:=bH hx
       obtain⟨l1,e1⟩:=ix ht
       have z:=k2' t t1
       unfold fP at z
       simp at z
       rw[e1]
       refine Int.le_trans (Int.le_of_lt z) ?_
       exact geA i' _ (fun _=>by rw[x5 d1'];exact Int.le_refl _) y hy).swap
      apply kt
      case a=>
       intro key
       by_cases e:k'>0
       case pos=>
        rw[if_pos e]
        have M2:MI rk a.toList b.toList (o.push b[j']++b.extract (j'+1) (j'+1+k')).toList i' (j'+1+k'):=by
         rw[Array.toList_append,z7,show j'+1+k' -(j'+1)=k' by lia];exact Mk'
        by_cases ea:j'+1+k'=b.size
        ·rw[if_pos (by simpa using ea)]
         exact wpS_pure (.inl ⟨_,_,_,_,_,_,_,rfl,fY _ _ _ z hz M2 (by lia)⟩)
        rw[if_neg (by simpa using ea)]
        have h1:j'+1+k'<b.size:=by lia
        have h2:i+j+1≤i'+(j'+1+k'):=by lia
        have c:=cB;revert M2 h1 h2 c;generalize o.push b[j']++b.extract (j'+1) (j'+1+k')=x;generalize j'+1+k'=y;revert x y;exact key.g
       case neg=>
        rw[if_neg e]
        have e0:k'=0:=by lia
        rw[e0,Nat.add_zero] at cB;exact key.g _ _ M' (by lia) (by lia) cB
      case b=>
       intro o j'' M d2 d3 cB
       refine wpS_bind (y9 d1' ?_)
       have M2:=tkA o i' j'' d1' M cB
       by_cases ea:i'+1+1=a.size
       ·rw[if_pos (by simpa using ea)]
        exact wpS_pure (.inl ⟨_,_,_,_,_,_,_,rfl,fL _ _ _ z hz M2 ea⟩)
       ·rw[if_neg (by simpa using ea)]
        split
        ·exact wpS_pure (.inr ⟨hz,_,_,_,_,_,_,rfl,M2,by lia,d2,by lia⟩)
        ·exact wpS_pure ⟨hz,_,_,_,_,_,_,rfl,M2,by lia,d2,by lia⟩
   ·rcases a3 with⟨r,o,i',j',g,ac,bc,rfl,hr⟩|⟨hz,o,i',j',g,ac,bc,rfl,M,d1,d2,d3⟩
    ·exact wpS_pure ⟨r,_,_,_,_,rfl,hr⟩
    ·exact wpS_bind (dW hz fun z hz=>wpS_pure ⟨hz,_,_,_,_,rfl,M,d1,d2,by lia⟩)
 ·obtain⟨hz,o,i,j,g,rfl,M,c1,c2,c3⟩:=a3
  exfalso
  lia
 ·obtain⟨r,o,i,j,g,rfl,hr⟩:=a3
  exact wpS_pure hr
end
end L2
set_option Elab.async false
set_option linter.all false
set_option maxRecDepth 100000
set_option maxHeartbeats 4000000
namespace L2
open PySem PySem.Spec PyProof.Rows
section
variable {prog:Program} {w:World} {A:Around} {E:Value→Shared→Prop} {s:Shared} {rk:Value→Int} {kd:SortKind} {base:Array Keyed} {st:SortSt}
structure MH (rk:Value→Int) (X Y o:List Keyed) (i j:Nat):Prop where
 p:(X.take i++Y.take j++o).Perm (X++Y)
 s1:Srt rk (X.take i++o)
 s2:Srt rk (Y.take j++o)
theorem MH.swap {X Y o:List Keyed}{i j:Nat}(h:MH rk X Y o i j):MH rk Y X o j i:=
 ⟨((List.Perm.append_right o List.perm_append_comm).trans h.p).trans List.perm_append_comm,h.s2,h.s1⟩
theorem MH.mv {X Y o:List Keyed}{i j:Nat}(h:MH rk X Y o i j)(k:Nat)(hk:k≤i)(hc:∀x∈(X.drop k).take (i -k),∀y∈Y.take j,rk y.1≤rk x.1):MH rk X Y ((X.drop k).take (i -k)++o) k j:=by
 have e:X.take k++(X.drop k).take (i -k)=X.take i:=by
  have z:=List.take_append_drop k (X.take i)
  rw[List.take_take,Nat.min_eq_left hk,List.drop_take] at z
  exact z
 refine⟨?_,?_,?_⟩
 ·have p:=h.p
  rw[←e] at p
  refine List.Perm.trans ?_ p
  simp only[List.append_assoc]
  exact List.Perm.append_left _ (List.perm_append_comm_assoc _ _ _)
 ·show Srt rk _
  rw[←List.append_assoc,e];exact h.s1
 ·have z:=h.s1
  rw[←e,List.append_assoc] at z
  have z1:=List.pairwise_append.mp z
  have z2:=List.pairwise_append.mp h.s2
  refine List.pairwise_append.mpr ⟨z2.1,z1.2.1,fun x hx y hy=>?_⟩
  rcases List.mem_append.mp hy with q|q
  ·exact hc y q x hx
  ·exact z2.2.2 x hx y q
theorem MH.one {X Y o:List Keyed}{i j:Nat}{x:Keyed}(h:MH rk X Y o i j)(h1:1≤i)(hx:X[i -1]?=some x)(hc:∀y∈Y.take j,rk y.1≤rk x.1):MH rk X Y (x::o) (i -1) j:=by
 have z:=h.mv (i -1) (by lia)
 rw[show i -(i -1)=1 by lia,jj hx] at z
 exact z fun u hu=>by rw[List.mem_singleton.mp hu];exact hc
theorem MH.endX {X Y o:List Keyed}{j:Nat}(h:MH rk X Y o 0 j):MF rk X Y (X.take 0++Y.take j++o):=⟨h.p,h.s2⟩
theorem MH.endY {X Y o:List Keyed}{i:Nat}(h:MH rk X Y o i 0):MF rk X Y (X.take i++Y.take 0++o):=by
 refine⟨h.p,?_⟩
 rw[List.take_zero,List.append_nil]
 exact h.s1
theorem MH.first {X Y o:List Keyed}{i j:Nat}(h:MH rk X Y o i j)(hl:∀y∈Y.take j,∀x∈X.take i,rk y.1≤rk x.1):MF rk X Y (Y.take j++X.take i++o):=by
 have z2:=List.pairwise_append.mp h.s2
 refine⟨(List.Perm.append_right o List.perm_append_comm).trans h.p,?_⟩
 show Srt rk _
 rw[List.append_assoc]
 refine List.pairwise_append.mpr ⟨z2.1,h.s1,fun u hu v hv=>?_⟩
 rcases List.mem_append.mp hv with q|q
 ·exact hl u hu v q
 ·exact z2.2.2 u hu v q
theorem gP {α:Type}{X:List α}{i:Nat}{x:α}(h:x∈X.take i):∃t,t<i∧X[t]?=some x:=by
 have z:=bH (X:=X) (i:=0) (k:=i) (by rw[List.drop_zero];exact h)
 simpa using z
theorem B8 {α:Type}(xs:Array α)(i:Nat):(xs.extract 0 i).toList=xs.toList.take i:=by
 rw[z7,List.drop_zero,Nat.sub_zero]
theorem tK (hL:aq prog w A s rk kd base)(hk:kindOf st=kd){a b:Array Keyed}{Q:Array Keyed→SortSt→Prop}(ha:∀x∈a.toList,x∈base.toList)(hb:∀x∈b.toList,x∈base.toList)(sa:Srt rk a.toList)(sb:Srt rk b.toList)(la:0<a.size)(lb:0<b.size)
  (h0:∀x∈a.toList,O5 rk b 0≤rk x.1) (hl:∀y∈b.toList,rk y.1≤O5 rk a (a.size -1)) (h:∀o z,SG st z→MF rk a.toList b.toList o.toList→Q o z):wpS (model prog w) A E s (oI a b) Q st:=by
 have ga:∀i (hi:i<a.size),a.toList[i]?=some a[i]:=fun i hi=>by rw[Array.getElem?_toList,Array.getElem?_eq_getElem hi]
 have gb:∀i (hi:i<b.size),b.toList[i]?=some b[i]:=fun i hi=>by rw[Array.getElem?_toList,Array.getElem?_eq_getElem hi]
 have ina:∀i (hi:i<a.size),a[i]∈base.toList:=fun i hi=>ha _ (List.mem_of_getElem? (ga i hi))
 have inb:∀i (hi:i<b.size),b[i]∈base.toList:=fun i hi=>hb _ (List.mem_of_getElem? (gb i hi))
 have aa:∀i j,i≤j→j<a.size→O5 rk a i≤O5 rk a j:=fun i j hij hj=>by
  rw[x5 (show i<a.size by lia),x5 hj]
  exact sa.at_ hij (ga i (by lia)) (ga j hj)
 have ab:∀i j,i≤j→j<b.size→O5 rk b i≤O5 rk b j:=fun i j hij hj=>by
  rw[x5 (show i<b.size by lia),x5 hj]
  exact sb.at_ hij (gb i (by lia)) (gb j hj)
 have ix:∀{X:Array Keyed} {i:Nat} {x:Keyed},X.toList[i]?=some x→i<X.size∧rk x.1=O5 rk X i:=fun{X i x} e=>by
  rw[Array.getElem?_toList] at e
  unfold O5
  rw[e]
  refine⟨?_,rfl⟩
  rcases Nat.lt_or_ge i X.size with z|z
  ·exact z
  ·rw[Array.getElem?_eq_none z] at e;cases e
 have za:a.toList.length=a.size:=Array.length_toList
 have zb:b.toList.length=b.size:=Array.length_toList
 have fA:∀(o:Array Keyed) (i j:Nat) (z:SortSt),SG st z→MH rk a.toList b.toList o.toList.reverse i j→i=0→Q (a.extract 0 i++b.extract 0 j++o.reverse) z:=fun o i j z hz M hj=>h _ z hz (by
  subst hj
  rw[Array.toList_append,Array.toList_append,B8,B8,Array.toList_reverse];exact M.endX)
 have fZ:∀(o:Array Keyed) (i j:Nat) (z:SortSt),SG st z→MH rk a.toList b.toList o.toList.reverse i j→j=0→Q (a.extract 0 i++b.extract 0 j++o.reverse) z:=fun o i j z hz M hj=>h _ z hz (by
  subst hj
  rw[Array.toList_append,Array.toList_append,B8,B8,Array.toList_reverse];exact M.endY)
 have fF:∀(o:Array Keyed) (i j:Nat) (z:SortSt),SG st z→MH rk a.toList b.toList o.toList.reverse i j→j=1→Q (b.extract 0 j++a.extract 0 i++o.reverse) z:=fun o i j z hz M hi=>h _ z hz (by
  rw[Array.toList_append,Array.toList_append,B8,B8,Array.toList_reverse]
  refine M.first fun y hy x hx=>?_
  obtain⟨t,t1,ht⟩:=gP hy
  obtain⟨l1,e1⟩:=ix ht
  have e:t=0:=by lia
  rw[e1,e]
  exact h0 x (List.mem_of_mem_take hx))
 have hal:a.size -1<a.size:=by lia
 have M0:MH rk a.toList b.toList (#[a[a.size -1]]:Array Keyed).toList.reverse (a.size -1) b.size:=by
  have e:a.toList=a.toList.take (a.size -1)++[a[a.size -1]]:=by
   have z:=(List.take_append_drop (a.size -1) a.toList).symm
   have z2:=jj (ga _ hal)
   rw[List.take_of_length_le (by rw[List.length_drop];lia)] at z2
   rw[z2] at z
   exact z
  have eb:b.toList.take b.size=b.toList:=List.take_of_length_le (by lia)
  refine⟨?_,?_,?_⟩
  ·show(a.toList.take (a.size -1)++b.toList.take b.size++[a[a.size -1]]).Perm (a.toList++b.toList)
   rw[eb]
   refine List.Perm.trans ?_ (List.Perm.of_eq (congrArg (·++b.toList) e.symm))
   rw[List.append_assoc,List.append_assoc]
   exact List.Perm.append_left _ List.perm_append_comm
  ·show Srt rk (a.toList.take (a.size -1)++[a[a.size -1]])
   rw[←e];exact sa
  ·show Srt rk (b.toList.take b.size++[a[a.size -1]])
   rw[eb]
   refine List.pairwise_append.mpr ⟨sb,List.pairwise_singleton _ _,fun x hx y hy=>?_⟩
   have z:=hl x hx
   rw[x5 hal] at z
   rw[List.mem_singleton.mp hy];exact z
 have tkB:∀(o:Array Keyed) (i j:Nat) (h1:1≤j) (hj:j -1<b.size),MH rk a.toList b.toList o.toList.reverse i j→(∀x∈a.toList.take i,rk x.1≤rk b[j -1].1)→MH rk a.toList b.toList (o.push b[j -1]).toList.reverse i (j -1):=fun o i j h1 hj M hc=>by
  rw[Array.toList_push,List.reverse_append]
  exact(M.swap.one h1 (gb _ hj) hc).swap
 have tkA:∀(o:Array Keyed) (i j:Nat) (h1:1≤i) (hi:i -1<a.size),MH rk a.toList b.toList o.toList.reverse i j→(∀y∈b.toList.take j,rk y.1≤rk a[i -1].1)→MH rk a.toList b.toList (o.push a[i -1]).toList.reverse (i -1) j:=fun o i j h1 hi M hc=>by
  rw[Array.toList_push,List.reverse_append]
  exact M.one h1 (ga _ hi) hc
 have leA:∀(i:Nat) (v:Int),(1≤i→i≤a.size→O5 rk a (i -1)≤v)→i≤a.size→∀x∈a.toList.take i,rk x.1≤v:=fun i v hv hi x hx=>by
  obtain⟨t,t1,ht⟩:=gP hx
  obtain⟨l1,e1⟩:=ix ht
  rw[e1]
  exact Int.le_trans (aa t (i -1) (by lia) (by lia)) (hv (by lia) hi)
 have leB:∀(i:Nat) (v:Int),(1≤i→i≤b.size→O5 rk b (i -1)≤v)→i≤b.size→∀x∈b.toList.take i,rk x.1≤v:=fun i v hv hi x hx=>by
  obtain⟨t,t1,ht⟩:=gP hx
  obtain⟨l1,e1⟩:=ix ht
  rw[e1]
  exact Int.le_trans (ab t (i -1) (by lia) (by lia)) (hv (by lia) hi)
 have sg0:SG st st:=⟨rfl,rfl,rfl,rfl⟩
 refine wpS_bind (wpS_lift (wpAny_rule ⟨rfl,wpS_bind (y9 hal ?_)⟩))
 by_cases e1:a.size -1=0
 ·rw[if_pos (by simpa using e1)]
  exact wpS_pure (fA _ _ b.size st sg0 M0 e1)
 rw[if_neg (by simpa using e1)]
 by_cases e2:b.size=1
 ·rw[if_pos (by simpa using e2)]
  exact wpS_pure (fF _ _ b.size st sg0 M0 e2)
 rw[if_neg (by simpa using e2)]
 refine wpS_bind (wpS_get ?_)
 refine wpS_bind (wpS_mono (wpS_forRange (I:=fun x c z=>SG st z∧∃i j o g,c=(none,i,j,o,g)∧MH rk a.toList b.toList o.toList.reverse i j∧1≤i∧2≤j∧i≤a.size∧j≤b.size∧x+(i+j)+1≤a.size+b.size) (Q:=fun c z=>∃r i j o g,c=(some r,i,j,o,g)∧Q r z) (fun x c z a1 a2 a3=>?_) (fun c z a3=>?_) ⟨sg0,_,_,_,_,rfl,M0,by lia,by lia,by lia,by lia,by lia⟩) fun c z a3=>?_)
 ·obtain⟨hz,i,j,o,g,rfl,M,c1,c2,c1',c2',c3⟩:=a3
  dsimp only
  refine wpS_bind (wpS_mono (wpS_forRange (I:=fun y c z=>SG st z∧∃i' j' o ac bc,c=(none,i',j',o,ac,bc)∧MH rk a.toList b.toList o.toList.reverse i' j'∧1≤i'∧2≤j'∧i'≤a.size∧j'≤b.size∧i'+j'+y≤i+j) (Q:=fun c z=>(∃r i j o ac bc,c=(some r,i,j,o,ac,bc)∧Q r z)∨(SG st z∧∃i' j' o ac bc,c=(none,i',j',o,ac,bc)∧MH rk a.toList b.toList o.toList.reverse i' j'∧1≤i'∧2≤j'∧i'≤a.size∧j'≤b.size∧i'+j'+1≤i+j)) (fun y c z a1' a2' a3=>?_) (fun c z a3=>?_) ⟨hz,_,_,_,_,_,rfl,M,c1,c2,c1',c2',by lia⟩) fun c z a3=>?_)
  ·obtain⟨hz,i',j',o,ac,bc,rfl,M,d1,d2,d1',d2',d3⟩:=a3
   dsimp only
   have ei:i' -1<a.size:=by lia
   have ej:j' -1<b.size:=by lia
   refine wpS_bind (y9 ej (wpS_bind (y9 ei (wpS_bind (gN hL (hz.1.trans hk) (inb _ ej) (ina _ ei) ?_)))))
   by_cases e:rk b[j' -1].1<rk a[i' -1].1
   ·rw[decide_eq_true e]
    dsimp only
    rw[if_pos rfl]
    refine wpS_bind (y9 ei ?_)
    have M':=tkA o i' j' d1 ei M (leB j' _ (fun _ _=>by rw[x5 ej];exact Int.le_of_lt e) d2')
    by_cases eb:i' -1=0
    ·rw[if_pos (by simpa using eb)]
     exact wpS_pure (.inl ⟨_,_,_,_,_,_,rfl,fA _ _ _ z hz M' eb⟩)
    ·rw[if_neg (by simpa using eb)]
     split
     ·exact wpS_pure (.inr ⟨hz,_,_,_,_,_,rfl,M',by lia,d2,by lia,d2',by lia⟩)
     ·exact wpS_pure ⟨hz,_,_,_,_,_,rfl,M',by lia,d2,by lia,d2',by lia⟩
   ·rw[decide_eq_false e]
    dsimp only
    rw[if_neg (by decide)]
    refine wpS_bind (y9 ej ?_)
    have M':=tkB o i' j' (by lia) ej M (leA i' _ (fun _ _=>by rw[x5 ei];exact Int.not_lt.mp e) d1')
    by_cases eb:j' -1=1
    ·rw[if_pos (by simpa using eb)]
     exact wpS_pure (.inl ⟨_,_,_,_,_,_,rfl,fF _ _ _ z hz M' eb⟩)
    ·rw[if_neg (by simpa using eb)]
     split
     ·exact wpS_pure (.inr ⟨hz,_,_,_,_,_,rfl,M',d1,by lia,d1',by lia,by lia⟩)
     ·exact wpS_pure ⟨hz,_,_,_,_,_,rfl,M',d1,by lia,d1',by lia,by lia⟩
  ·obtain⟨hz,i',j',o,ac,bc,rfl,M,d1,d2,d1',d2',d3⟩:=a3
   exact .inr ⟨hz,_,_,_,_,_,rfl,M,d1,d2,d1',d2',by lia⟩
  ·rcases a3 with⟨r,i',j',o,ac,bc,rfl,hr⟩|⟨hz,i',j',o,ac,bc,rfl,M,d1,d2,d1',d2',d3⟩
   ·exact wpS_pure ⟨r,_,_,_,_,rfl,hr⟩
   dsimp only
   refine wpS_bind (wpS_lift (wpAny_rule ⟨rfl,?_⟩))
   refine wpS_bind (wpS_mono (wpS_forRange (I:=fun y c z=>SG st z∧∃i' j' o g ac bc,c=(none,i',j',o,g,ac,bc)∧MH rk a.toList b.toList o.toList.reverse i' j'∧1≤i'∧2≤j'∧i'≤a.size∧j'≤b.size∧i'+j'+1≤i+j) (Q:=fun c z=>(∃r i j o g ac bc,c=(some r,i,j,o,g,ac,bc)∧Q r z)∨(SG st z∧∃i' j' o g ac bc,c=(none,i',j',o,g,ac,bc)∧MH rk a.toList b.toList o.toList.reverse i' j'∧1≤i'∧2≤j'∧i'≤a.size∧j'≤b.size∧i'+j'+1≤i+j)) (fun y c z a1' a2' a3=>?_) (fun c z a3=> .inr a3) ⟨hz,_,_,_,_,_,_,rfl,M,d1,d2,d1',d2',d3⟩) fun c z a3=>?_)
   ·obtain⟨hz,i',j',o,g,ac,bc,rfl,M,d1,d2,d1',d2',d3⟩:=a3
    dsimp only
    have ej:j' -1<b.size:=by lia
    apply kt
    case a=>
     intro key
     by_cases hg:g>1
     ·rw[if_pos hg];generalize g -1=x;revert x;exact key.g
     ·rw[if_neg hg];exact key.g _
    case b=>
     intro g
     refine wpS_bind (dW hz fun z hz=>?_)
     refine wpS_bind (y9 ej ?_)
     refine wpS_bind (Y9 hL (hz.1.trans hk) (inb _ ej) (by lia) ina (by lia) (fun p q hpq hq=>aa _ _ (by lia) (by lia)) fun k k1 k2 k3=>?_)
     dsimp only
     have cA:∀x∈a.toList.take k,rk x.1≤rk b[j' -1].1:=leA _ _ (fun h1 h2=>by
      have z:=k2 (k -1) (by lia)
      unfold fP at z
      simp at z
      exact z) (by lia)
     have Mk:=M.mv k k1 fun x hx y hy=>by
      obtain⟨t,t1,ht⟩:=bH hx
      obtain⟨l1,e1⟩:=ix ht
      have z:=k3 (k+t) (by lia) (by lia)
      unfold fP at z
      simp at z
      rw[e1]
      refine Int.le_trans ?_ (Int.le_of_lt z)
      exact leB j' _ (fun _ _=>by rw[x5 ej];exact Int.le_refl _) d2' y hy
     apply kt
     case a=>
      intro key
      by_cases e:i' -k>0
      case pos=>
       rw[if_pos e]
       have M':MH rk a.toList b.toList (o++(a.extract k i').reverse).toList.reverse k j':=by
        rw[Array.toList_append,Array.toList_reverse,List.reverse_append,List.reverse_reverse,z7];exact Mk
       by_cases ea:k=0
       ·rw[if_pos (by simpa using ea)]
        exact wpS_pure (.inl ⟨_,_,_,_,_,_,_,rfl,fA _ _ _ z hz M' ea⟩)
       rw[if_neg (by simpa using ea)]
       have h1:1≤k:=by lia
       have h3:k≤a.size:=by lia
       have h2:k+j'+1≤i+j:=by lia
       have c:=cA;revert M' h1 h3 h2 c;generalize i' -k=kk;generalize o++(a.extract k i').reverse=x;generalize k=y;revert kk x y;exact key.g
      case neg=>
       rw[if_neg e]
       have e0:k=i':=by lia
       rw[e0] at cA;exact key.g _ _ _ M d1 d1' d3 cA
     case b=>
      intro kk o i' M d1 d1' d3 cA
      have ei:i' -1<a.size:=by lia
      refine wpS_bind (y9 ej ?_)
      have M':=tkB o i' j' (by lia) ej M cA
      by_cases eb:j' -1=1
      ·rw[if_pos (by simpa using eb)]
       exact wpS_pure (.inl ⟨_,_,_,_,_,_,_,rfl,fF _ _ _ z hz M' eb⟩)
      rw[if_neg (by simpa using eb)]
      refine wpS_bind (y9 ei ?_)
      refine wpS_bind (Y9 hL (hz.1.trans hk) (ina _ ei) (by lia) inb (by lia) (fun p q hpq hq=>ab _ _ (by lia) (by lia)) fun k' k1' k2' k3'=>?_)
      dsimp only
      have cB:∀x∈b.toList.take k',rk x.1≤rk a[i' -1].1:=leB _ _ (fun h1 h2=>by
       have z:=k2' (k' -1) (by lia)
       unfold fP at z
       simp at z
       exact Int.le_of_lt z) (by lia)
      have Mk':=(M'.swap.mv k' k1' fun x hx y hy=>by
       obtain⟨t,t1,ht⟩:=bH hx
       obtain⟨l1,e1⟩:=ix ht
       have z:=k3' (k'+t) (by lia) (by lia)
       unfold fP at z
       simp at z
       rw[e1]
       refine Int.le_trans ?_ z
       exact leA i' _ (fun _ _=>by rw[x5 ei];exact Int.le_refl _) d1' y hy).swap
      apply kt
      case a=>
       intro key
       by_cases e:j' -1 -k'>0
       case pos=>
        rw[if_pos e]
        have M2:MH rk a.toList b.toList (o.push b[j' -1]++(b.extract k' (j' -1)).reverse).toList.reverse i' k':=by
         rw[Array.toList_append,Array.toList_reverse,List.reverse_append,List.reverse_reverse,z7];exact Mk'
        by_cases ea:k'=1
        ·rw[if_pos (by simpa using ea)]
         exact wpS_pure (.inl ⟨_,_,_,_,_,_,_,rfl,fF _ _ _ z hz M2 ea⟩)
        rw[if_neg (by simpa using ea)]
        by_cases ez:k'=0
        ·rw[if_pos (by simpa using ez)]
         exact wpS_pure (.inl ⟨_,_,_,_,_,_,_,rfl,fZ _ _ _ z hz M2 ez⟩)
        rw[if_neg (by simpa using ez)]
        have h1:2≤k':=by lia
        have h3:k'≤b.size:=by lia
        have h2:i'+k'+1≤i+j:=by lia
        have c:=cB;revert M2 h1 h3 h2 c;generalize j' -1 -k'=kz;generalize o.push b[j' -1]++(b.extract k' (j' -1)).reverse=x;generalize k'=y;revert kz x y;exact key.g
       case neg=>
        rw[if_neg e]
        have e0:k'=j' -1:=by lia
        rw[e0] at cB;exact key.g _ _ _ M' (by lia) (by lia) (by lia) cB
      case b=>
       intro kz o j'' M d2 d2' d3 cB
       refine wpS_bind (y9 ei ?_)
       have M2:=tkA o i' j'' d1 ei M cB
       by_cases ea:i' -1=0
       ·rw[if_pos (by simpa using ea)]
        exact wpS_pure (.inl ⟨_,_,_,_,_,_,_,rfl,fA _ _ _ z hz M2 ea⟩)
       ·rw[if_neg (by simpa using ea)]
        split
        ·exact wpS_pure (.inr ⟨hz,_,_,_,_,_,_,rfl,M2,by lia,d2,by lia,d2',by lia⟩)
        ·exact wpS_pure ⟨hz,_,_,_,_,_,_,rfl,M2,by lia,d2,by lia,d2',by lia⟩
   ·rcases a3 with⟨r,i',j',o,g,ac,bc,rfl,hr⟩|⟨hz,i',j',o,g,ac,bc,rfl,M,d1,d2,d1',d2',d3⟩
    ·exact wpS_pure ⟨r,_,_,_,_,rfl,hr⟩
    ·exact wpS_bind (dW hz fun z hz=>wpS_pure ⟨hz,_,_,_,_,rfl,M,d1,d2,d1',d2',by lia⟩)
 ·obtain⟨hz,i,j,o,g,rfl,M,c1,c2,c1',c2',c3⟩:=a3
  exfalso
  lia
 ·obtain⟨r,i,j,o,g,rfl,hr⟩:=a3
  exact wpS_pure hr
end
end L2
set_option Elab.async false
set_option linter.all false
set_option maxRecDepth 100000
set_option maxHeartbeats 4000000
namespace L2
open PySem PySem.Spec PyProof.Rows
def cc:Nat→List Nat→List (Nat×Nat)
 |_,[]=>[]
 |o,n::r=>(o,n)::cc (o+n) r
theorem V9:∀(l m:List Nat) (o:Nat),cc o (l++m)=cc o l++cc (o+l.sum) m
 |[],m,o=>by simp [cc]
 |n::l,m,o=>by
  show(o,n)::cc (o+n) (l++m)=(o,n)::(cc (o+n) l++_)
  rw[V9 l m (o+n),List.sum_cons,Nat.add_assoc]
theorem bt:∀(l:List Nat) (o:Nat),(cc o l).length=l.length
 |[],_=>rfl
 |n::l,o=>by
  show(cc (o+n) l).length+1=l.length+1
  rw[bt l]
theorem U9 {α:Type}:∀rs:List (List α),rs.flatten.length=(rs.map List.length).sum
 |[]=>rfl
 |r::rs=>by rw[List.flatten_cons,List.length_append,U9 rs,List.map_cons,List.sum_cons]
theorem jD {α:Type}(o:Nat):∀(l:List α) (n:Nat) (xs:Array α),o+n+l.length≤xs.size→((l.zipIdx n).foldl (fun a x=>a.setIfInBounds (o+x.2) x.1) xs).toList=xs.toList.take (o+n)++l++xs.toList.drop (o+n+l.length)
 |[],n,xs,h=>by simp
 |p::l,n,xs,h=>by
  rw[List.length_cons] at h
  rw[List.zipIdx_cons,List.foldl_cons,jD o l (n+1) _ (by rw[Array.size_setIfInBounds];lia)]
  have hz:o+n<xs.toList.length:=by rw[Array.length_toList];lia
  show List.take (o+(n+1)) (xs.setIfInBounds (o+n) p).toList++l++List.drop (o+(n+1)+l.length) (xs.setIfInBounds (o+n) p).toList=_
  rw[Array.toList_setIfInBounds]
  have e1:(xs.toList.set (o+n) p).take (o+(n+1))=xs.toList.take (o+n)++[p]:=by
   rw[show o+(n+1)=(o+n)+1 by lia,List.take_succ,List.take_set_of_le (Nat.le_refl _),List.getElem?_set_self hz]
   rfl
  have e2:(xs.toList.set (o+n) p).drop (o+(n+1)+l.length)=xs.toList.drop (o+n+(p::l).length):=by
   rw[List.drop_set_of_lt (by lia),List.length_cons]
   congr 1
   lia
  rw[e1,e2]
  simp only[List.append_assoc,List.singleton_append,List.cons_append,List.nil_append]
section
variable {prog:Program} {w:World} {A:Around} {E:Value→Shared→Prop} {s:Shared} {rk:Value→Int} {kd:SortKind} {base:Array Keyed} {st:SortSt}
structure RN (rk:Value→Int) (kd:SortKind) (base:Array Keyed) (st:SortSt) (rs:List (List Keyed)) (T:List Keyed):Prop where
 pm:(arrOf st).Perm base
 kd:kindOf st=kd
 fl:failedOf st=none
 ar:(arrOf st).toList=rs.flatten++T
 so:∀r∈rs,Srt rk r∧r≠[]
 pe:(pendingOf st).toList.map (fun p=>(p.1,p.2.1))=cc 0 (rs.map List.length)
theorem qU {st':SortSt}{Q:PUnit→SortSt→Prop}(h:Q ⟨⟩ st'):wpS (model prog w) A E s (set st':StateT SortSt Sem PUnit) Q st:=by
 unfold wpS
 rw[StateT.run_set]
 exact wpAny_pure ⟨rfl,h⟩
theorem RN.sz {rs:List (List Keyed)}{T:List Keyed}(h:RN rk kd base st rs T):(pendingOf st).size=rs.length:=by
 have z:=congrArg List.length h.pe
 rw[List.length_map,bt,List.length_map,Array.length_toList] at z
 exact z
theorem Srt.cat {a b:List Keyed}(ha:Srt rk a)(hb:Srt rk b)(hc:∀x∈a,∀y∈b,rk x.1≤rk y.1):Srt rk (a++b):=List.pairwise_append.mpr ⟨ha,hb,hc⟩
theorem Srt.le_last {a:List Keyed}(ha:Srt rk a){i:Nat}{x y:Keyed}(hx:x∈a)(hi:i+1=a.length)(hy:a[i]?=some y):rk x.1≤rk y.1:=by
 obtain⟨t,ht⟩:=List.getElem?_of_mem hx
 have:=(List.getElem?_eq_some_iff.mp ht).1
 exact ha.at_ (by lia) ht hy
theorem Srt.ge_at {a:List Keyed}(ha:Srt rk a){i:Nat}{x y:Keyed}(hy:a[i]?=some y)(hx:x∈a.drop i):rk y.1≤rk x.1:=by
 obtain⟨t,ht⟩:=cI hx
 exact ha.at_ (by lia) hy ht
theorem mW (hL:aq prog w A s rk kd base){rs:List (List Keyed)}{T:List Keyed}(hR:RN rk kd base st rs T){i:Nat}(hi:i+1<rs.length){Q:Bool→SortSt→Prop}
  (h:∀st' rs',RN rk kd base st' rs' T→rs'.length+1=rs.length→Q true st'):wpS (model prog w) A E s (mergeAt' i) Q st:=by
 obtain⟨X,a,b,Y,rfl,hX⟩:∃X a b Y,rs=X++a::b::Y∧X.length=i:=⟨rs.take i,rs[i],rs[i+1],rs.drop (i+2),by
  rw[←List.drop_eq_getElem_cons hi,←List.drop_eq_getElem_cons (by lia),List.take_append_drop],by rw[List.length_take];lia⟩
 have sA:=hR.so a (by simp)
 have sB:=hR.so b (by simp)
 have la:0<a.length:=List.length_pos_iff.mpr sA.2
 have lb:0<b.length:=List.length_pos_iff.mpr sB.2
 have pe:=hR.pe
 rw[List.map_append,V9,List.map_cons,List.map_cons,Nat.zero_add] at pe
 obtain⟨F,hF⟩:∃F,F=X.flatten:=⟨_,rfl⟩
 rw[←U9,←hF] at pe
 obtain⟨PX,P2,e1,e2,e3⟩:=List.map_eq_append_iff.mp pe
 obtain⟨pa,P3,rfl,e4,e5⟩:=List.map_eq_cons_iff.mp e3
 obtain⟨pb,P4,rfl,e6,e7⟩:=List.map_eq_cons_iff.mp e5
 obtain⟨sa,na,pw⟩:=pa
 obtain⟨sb,nb,pv⟩:=pb
 have hPX:PX.length=i:=by
  have z:=congrArg List.length e2
  rw[List.length_map,bt,List.length_map,hX] at z
  exact z
 obtain⟨q1,q2⟩:sa=F.length∧na=a.length:=⟨congrArg Prod.fst e4,congrArg Prod.snd e4⟩
 obtain⟨q3,q4⟩:sb=F.length+a.length∧nb=b.length:=⟨congrArg Prod.fst e6,congrArg Prod.snd e6⟩
 have g1:(pendingOf st)[i]?=some (sa,na,pw):=by
  rw[←Array.getElem?_toList,e1,List.getElem?_append_right (by lia),hPX,Nat.sub_self];rfl
 have g2:(pendingOf st)[i+1]?=some (sb,nb,pv):=by
  rw[←Array.getElem?_toList,e1,List.getElem?_append_right (by lia),hPX,show i+1 -i=1 by lia];rfl
 obtain⟨R,hRr⟩:∃R,R=Y.flatten++T:=⟨_,rfl⟩
 have ar:(arrOf st).toList=F++(a++(b++R)):=by
  rw[hR.ar,hF,hRr]
  simp only[List.flatten_append,List.flatten_cons,List.append_assoc]
 have hz:(arrOf st).size=F.length+(a.length+(b.length+R.length)):=by
  have z:=congrArg List.length ar
  rw[Array.length_toList] at z
  rw[z,List.length_append,List.length_append,List.length_append]
 have atA:∀t,t<a.length→(arrOf st)[F.length+t]?=a[t]?:=fun t ht=>by
  rw[←Array.getElem?_toList,ar,List.getElem?_append_right (by lia),List.getElem?_append_left (by lia)]
  congr 1
  lia
 have atB:∀t,t<b.length→(arrOf st)[F.length+a.length+t]?=b[t]?:=fun t ht=>by
  rw[←Array.getElem?_toList,ar,List.getElem?_append_right (by lia),List.getElem?_append_right (by lia),List.getElem?_append_left (by lia)]
  congr 1
  lia
 have rA:∀t (ht:t<a.length),O5 rk (arrOf st) (F.length+t)=rk a[t].1:=fun t ht=>by
  unfold O5
  rw[atA t ht,List.getElem?_eq_getElem ht]
 have rB:∀t (ht:t<b.length),O5 rk (arrOf st) (F.length+a.length+t)=rk b[t].1:=fun t ht=>by
  unfold O5
  rw[atB t ht,List.getElem?_eq_getElem ht]
 have inS:∀t (ht:t<(arrOf st).size),(arrOf st)[t]∈base.toList:=fun t ht=>(Array.perm_iff_toList_perm.mp hR.pm).mem_iff.mp (by simp)
 have inA:∀x∈a,x∈base.toList:=fun x hx=>(Array.perm_iff_toList_perm.mp hR.pm).mem_iff.mp (by rw[ar];simp [hx])
 have inB:∀x∈b,x∈base.toList:=fun x hx=>(Array.perm_iff_toList_perm.mp hR.pm).mem_iff.mp (by rw[ar];simp [hx])
 have fin:∀(z:SortSt) (c:List Keyed),kindOf z=kd→failedOf z=none→(pendingOf z).toList=PX++(sa,na+nb,pw)::P4→(arrOf z).toList=F++(c++R)→c.Perm (a++b)→Srt rk c→Q true z:=fun z c z1 z2 z3 z4 z5 z6=>by
  refine h z (X++c::Y) ⟨?_,z1,z2,?_,fun r hr=>?_,?_⟩ (by simp;lia)
  ·refine Array.perm_iff_toList_perm.mpr (List.Perm.trans ?_ (Array.perm_iff_toList_perm.mp hR.pm))
   rw[z4,ar,←List.append_assoc a b R]
   exact List.Perm.append_left _ (List.Perm.append_right _ z5)
  ·rw[z4,hF,hRr]
   simp only[List.flatten_append,List.flatten_cons,List.append_assoc]
  ·rcases List.mem_append.mp hr with q|q
   ·exact hR.so r (by simp [q])
   ·rcases List.mem_cons.mp q with rfl|q
    ·refine⟨z6,fun e=>?_⟩
     rw[e] at z5
     have l:=z5.length_eq
     rw[List.length_nil,List.length_append] at l
     lia
    ·exact hR.so r (by simp [q])
  ·have lc:c.length=a.length+b.length:=by rw[z5.length_eq,List.length_append]
   rw[z3,List.map_append,e2,List.map_cons,e7,List.map_append,V9,List.map_cons,Nat.zero_add,←U9,←hF,lc,q1,q2,q4]
   show _++_::_=_++_::_
   rw[Nat.add_assoc]
 show wpS (model prog w) A E s ((sortPriv% PySem.Builtin.mergeAt) i) Q st
 refine wpS_bind (wpS_get ?_)
 rw[g1,g2]
 dsimp only
 refine wpS_bind (qU ?_)
 have hp:(((pendingOf st).setIfInBounds i (sa,na+nb,pw)).eraseIdxIfInBounds (i+1)).toList=PX++(sa,na+nb,pw)::P4:=by
  rw[Array.toList_eraseIdxIfInBounds,Array.toList_setIfInBounds,e1,List.set_append_right _ _ (by lia),hPX,Nat.sub_self,List.eraseIdx_append_of_length_le (by lia),hPX,show i+1 -i=1 by lia]
  rfl
 obtain⟨z0,hz0⟩:∃z0,z0=SortSt.mk' (kindOf st) (arrOf st) (((pendingOf st).setIfInBounds i (sa,na+nb,pw)).eraseIdxIfInBounds (i+1)) (gallopOf st) (failedOf st):=⟨_,rfl⟩
 show wpS _ _ _ _ _ _ (SortSt.mk' (kindOf st) (arrOf st) (((pendingOf st).setIfInBounds i (sa,na+nb,pw)).eraseIdxIfInBounds (i+1)) (gallopOf st) (failedOf st))
 rw[←hz0]
 have k0:kindOf z0=kd:=by rw[hz0];exact hR.kd
 have f0:failedOf z0=none:=by rw[hz0];exact hR.fl
 have p0:(pendingOf z0).toList=PX++(sa,na+nb,pw)::P4:=by rw[hz0];exact hp
 have a0:arrOf z0=arrOf st:=by rw[hz0]
 subst q1 q2 q3 q4
 have hsb:F.length+a.length<(arrOf st).size:=by lia
 have eB0:(arrOf st)[F.length+a.length]=b[0]:=by
  have z:=atB 0 lb
  rw[Nat.add_zero,Array.getElem?_eq_getElem hsb,List.getElem?_eq_getElem lb] at z
  exact Option.some.inj z
 refine wpS_bind (y9 hsb ?_)
 rw[eB0]
 refine wpS_bind (Y9 hL k0 (inB _ (List.getElem_mem lb)) (by lia) inS la (fun p q hpq hq=>?_) fun k k1 k2 k3=>?_)
 ·rw[rA p (by lia),rA q hq]
  exact sA.1.at_ hpq (List.getElem?_eq_getElem (by lia)) (List.getElem?_eq_getElem hq)
 have k2':∀x∈a.take k,rk x.1≤rk b[0].1:=fun x hx=>by
  obtain⟨t,t1,ht⟩:=gP hx
  obtain⟨l1,e⟩:=List.getElem?_eq_some_iff.mp ht
  have z:=k2 t t1
  unfold fP at z
  rw[rA t l1] at z
  simp at z
  rw[←e];exact z
 have k3':∀x∈a.drop k,rk b[0].1≤rk x.1:=fun x hx=>by
  obtain⟨t,ht⟩:=cI hx
  obtain⟨l1,e⟩:=List.getElem?_eq_some_iff.mp ht
  have z:=k3 (k+t) (by lia) l1
  unfold fP at z
  rw[rA _ l1] at z
  simp at z
  rw[←e];exact Int.le_of_lt z
 have b0le:∀y∈b,rk b[0].1≤rk y.1:=fun y hy=>sB.1.ge_at (List.getElem?_eq_getElem lb) (by rw[List.drop_zero];exact hy)
 dsimp only
 by_cases ek:a.length -k=0
 ·rw[if_pos (by simpa using ek)]
  refine wpS_pure (fin z0 (a++b) k0 f0 p0 (by rw[a0,ar,List.append_assoc]) (List.Perm.refl _) (sA.1.cat sB.1 fun x hx y hy=>?_))
  have z:=k2' x (by rw[List.take_of_length_le (by lia)];exact hx)
  exact Int.le_trans z (b0le y hy)
 rw[if_neg (by simpa using ek)]
 have hl1:a.length -1<a.length:=by lia
 have hsl:F.length+k+(a.length -k) -1<(arrOf st).size:=Ah (Nat.le_of_lt hsb) k1 ek
 have eAl:(arrOf st)[F.length+k+(a.length -k) -1]=a[a.length -1]:=by
  have z:=atA (a.length -1) hl1
  rw[As k1 ek,Array.getElem?_eq_getElem hsl,List.getElem?_eq_getElem hl1] at z
  exact Option.some.inj z
 refine wpS_bind (y9 hsl ?_)
 rw[eAl]
 refine wpS_bind (Y9 hL k0 (inA _ (List.getElem_mem hl1)) (by lia) inS (by lia) (fun p q hpq hq=>?_) fun m m1 m2 m3=>?_)
 ·rw[rB p (by lia),rB q hq]
  exact sB.1.at_ hpq (List.getElem?_eq_getElem (by lia)) (List.getElem?_eq_getElem hq)
 have m2':∀x∈b.take m,rk x.1≤rk a[a.length -1].1:=fun x hx=>by
  obtain⟨t,t1,ht⟩:=gP hx
  obtain⟨l1,e⟩:=List.getElem?_eq_some_iff.mp ht
  have z:=m2 t t1
  unfold fP at z
  rw[rB t l1] at z
  simp at z
  rw[←e];exact Int.le_of_lt z
 have m3':∀x∈b.drop m,rk a[a.length -1].1≤rk x.1:=fun x hx=>by
  obtain⟨t,ht⟩:=cI hx
  obtain⟨l1,e⟩:=List.getElem?_eq_some_iff.mp ht
  have z:=m3 (m+t) (by lia) l1
  unfold fP at z
  rw[rB _ l1] at z
  simp at z
  rw[←e];exact z
 have aLe:∀x∈a,rk x.1≤rk a[a.length -1].1:=fun x hx=>sA.1.le_last hx (by lia) (List.getElem?_eq_getElem hl1)
 dsimp only
 by_cases em:m=0
 ·rw[if_pos (by simpa using em)]
  refine wpS_pure (fin z0 (a++b) k0 f0 p0 (by rw[a0,ar,List.append_assoc]) (List.Perm.refl _) (sA.1.cat sB.1 fun x hx y hy=>?_))
  exact Int.le_trans (aLe x hx) (m3' y (by rw[em,List.drop_zero];exact hy))
 rw[if_neg (by simpa using em)]
 have ex:((arrOf st).extract (F.length+k) (F.length+a.length)).toList=a.drop k:=by
  rw[z7,ar,←List.drop_drop,List.drop_left,List.drop_append_of_le_length (by lia),List.take_append_of_le_length (by rw[List.length_drop];lia),List.take_of_length_le (by rw[List.length_drop];lia)]
 have ey:((arrOf st).extract (F.length+a.length) (F.length+a.length+m)).toList=b.take m:=by
  rw[z7,ar,←List.drop_drop,List.drop_left,List.drop_left,List.take_append_of_le_length (by lia)]
  congr 1
  lia
 generalize hx:(arrOf st).extract (F.length+k) (F.length+a.length)=x at ex
 generalize hy:(arrOf st).extract (F.length+a.length) (F.length+a.length+m)=y at ey
 have lx:x.size=a.length -k:=by rw[←Array.length_toList,ex,List.length_drop]
 have ly:y.size=m:=by rw[←Array.length_toList,ey,List.length_take];lia
 have sx:Srt rk (a.drop k):=sA.1.sublist (List.drop_sublist _ _)
 have sy:Srt rk (b.take m):=sB.1.sublist (List.take_sublist _ _)
 have y0:O5 rk y 0=rk b[0].1:=by
  unfold O5
  rw[←Array.getElem?_toList,ey,List.getElem?_take,if_pos (by lia),List.getElem?_eq_getElem lb]
 have xl:O5 rk x (x.size -1)=rk a[a.length -1].1:=by
  unfold O5
  rw[←Array.getElem?_toList,ex,List.getElem?_drop,Av lx k1 ek,List.getElem?_eq_getElem hl1]
 have c1:∀u∈x.toList,u∈base.toList:=fun u hu=>inA u (List.mem_of_mem_drop (by rw[ex] at hu;exact hu))
 have c2:∀u∈y.toList,u∈base.toList:=fun u hu=>inB u (List.mem_of_mem_take (by rw[ey] at hu;exact hu))
 have c3:∀u∈x.toList,O5 rk y 0≤rk u.1:=fun u hu=>by rw[y0];exact k3' u (by rw[ex] at hu;exact hu)
 have c4:∀u∈y.toList,rk u.1≤O5 rk x (x.size -1):=fun u hu=>by rw[xl];exact m2' u (by rw[ey] at hu;exact hu)
 apply kt
 case a=>
  intro key
  by_cases hle:a.length -k≤m
  case pos=>
   rw[if_pos hle]
   refine wpS_bind (vH hL k0 c1 c2 (by rw[ex];exact sx) (by rw[ey];exact sy) (by lia) (by lia) c3 c4 fun mg z hz hm=>?_)
   revert mg z hz hm;exact key.g
  case neg=>
   rw[if_neg hle]
   refine wpS_bind (tK hL k0 c1 c2 (by rw[ex];exact sx) (by rw[ey];exact sy) (by lia) (by lia) c3 c4 fun mg z hz hm=>?_)
   exact key.g _ _ hz hm
 case b=>
  intro mg z hz hm
  rw[ex,ey] at hm
  obtain⟨h5,h6⟩:=hm
  have h1:=hz.1.trans k0
  have h2:=hz.2.1.trans a0
  have h3:=hz.2.2.1
  have h4:=hz.2.2.2.trans f0
  have lm:mg.toList.length=a.length -k+m:=by rw[h5.length_eq,List.length_append,List.length_drop,List.length_take];lia
  refine wpS_bind (wpS_modify (wpS_bind (wpS_get (wpS_pure ?_))))
  show Q (failedOf z).isNone _
  rw[h4]
  have pn:(a.take k++(mg.toList++b.drop m)).Perm (a++b):=by
   have z:=List.Perm.append_left (a.take k) (List.Perm.append_right (b.drop m) h5)
   refine z.trans (List.Perm.of_eq ?_)
   rw[List.append_assoc,List.take_append_drop,←List.append_assoc,List.take_append_drop]
  refine fin _ (a.take k++(mg.toList++b.drop m)) h1 h4 (by rw[←p0,←h3]) ?_ pn ?_
  ·show(List.foldl (fun a x=>a.setIfInBounds (F.length+k+x.snd) x.fst) (arrOf z) mg.toList.zipIdx).toList=_
   rw[h2,jD (F.length+k) mg.toList 0 _ (by lia),ar,lm]
   have t1:(F++(a++(b++R))).take (F.length+k+0)=F++a.take k:=by
    rw[Nat.add_zero,List.take_length_add_append,List.take_append_of_le_length k1]
   have t2:(F++(a++(b++R))).drop (F.length+k+0+(a.length -k+m))=b.drop m++R:=by
    rw[Ak k1,List.drop_length_add_append,List.drop_length_add_append,List.drop_append_of_le_length m1]
   rw[t1,t2]
   simp only[List.append_assoc]
  ·have tk:Srt rk (a.take k):=sA.1.sublist (List.take_sublist _ _)
   have dm:Srt rk (b.drop m):=sB.1.sublist (List.drop_sublist _ _)
   have mm:∀u,u∈mg.toList→u∈a.drop k∨u∈b.take m:=fun u hu=>List.mem_append.mp (h5.mem_iff.mp hu)
   have sAd:=sA.1
   rw[←List.take_append_drop k a] at sAd
   have sBd:=sB.1
   rw[←List.take_append_drop m b] at sBd
   refine tk.cat (h6.cat dm fun u hu v hv=>?_) fun u hu v hv=>?_
   ·rcases mm u hu with q|q
    ·exact Int.le_trans (aLe u (List.mem_of_mem_drop q)) (m3' v hv)
    ·exact(List.pairwise_append.mp sBd).2.2 u q v hv
   ·rcases List.mem_append.mp hv with q|q
    ·rcases mm v q with q|q
     ·exact(List.pairwise_append.mp sAd).2.2 u hu v q
     ·exact Int.le_trans (k2' u hu) (b0le v (List.mem_of_mem_take q))
    ·exact Int.le_trans (k2' u hu) (b0le v (List.mem_of_mem_drop q))
end
end L2
set_option Elab.async false
set_option linter.all false
set_option maxRecDepth 100000
set_option maxHeartbeats 4000000
namespace L2
open PySem PySem.Spec PyProof.Rows
section
variable {prog:Program} {w:World} {A:Around} {E:Value→Shared→Prop} {s:Shared} {rk:Value→Int} {kd:SortKind} {base:Array Keyed} {st:SortSt}
theorem wH {α:Type}{m:StateT SortSt Sem α}{Q:α→SortSt→Prop}{P:SortSt→Prop}(hP:P st)(h:∀z,P z→wpS (model prog w) A E s m Q z):wpS (model prog w) A E s m Q st:=h st hP
theorem rW {α β:Type}(g:α→β)(f:α→α)(hg:∀x,g (f x)=g x)(l:List α)(i:Nat):(l.modify i f).map g=l.map g:=by
 refine List.ext_getElem? fun j=>?_
 rw[List.getElem?_map,List.getElem?_map,List.getElem?_modify]
 cases l[j]? with
 |none=>rfl
 |some x=>
  show some (g (if i=j then f x else x))=some (g x)
  split
  ·rw[hg]
  ·rfl
theorem RN.flen {rs:List (List Keyed)}{T:List Keyed}(h:RN rk kd base st rs T):rs.flatten.length+T.length=base.size:=by
 have z:=congrArg List.length h.ar
 rw[List.length_append,Array.length_toList,h.pm.size_eq] at z
 exact z.symm
theorem mZ:∀{rs:List (List Keyed)},(∀r∈rs,r≠[])→rs.length≤rs.flatten.length
 |[],_=>Nat.le_refl _
 |r::rs,h=>by
  have z:=mZ (rs:=rs) fun x hx=>h x (List.mem_cons_of_mem _ hx)
  have y:=List.length_pos_iff.mpr (h r List.mem_cons_self)
  rw[List.flatten_cons,List.length_append,List.length_cons]
  lia
theorem uA (hL : aq prog w A s rk kd base) (hB : TB kd base st) {Q : Unit → SortSt → Prop}
    (h : ∀ st', (arrOf st').Perm base → failedOf st' = none → yw rk st' base.size → Q () st') : wpS (model prog w) A E s sortRuns' Q st := by
  have fin : ∀ (z : SortSt) (rs : List (List Keyed)), RN rk kd base z rs [] → rs.length ≤ 1 → Q () z := fun z rs hR hl => by
    refine h z hR.pm hR.fl fun i j hij hj => ?_
    have so : Srt rk (arrOf z).toList := by
      rw [hR.ar, List.append_nil]
      match rs, hR.so, hl with
      | [], _, _ => exact List.Pairwise.nil
      | [r], h, _ => rw [List.flatten_singleton]; exact (h r List.mem_cons_self).1
    have zz := hR.pm.size_eq
    rw [bu (show i < (arrOf z).size by lia), bu (show j < (arrOf z).size by lia)]
    refine so.at_ hij ?_ ?_
    · rw [Array.getElem?_toList, Array.getElem?_eq_getElem]
    · rw [Array.getElem?_toList, Array.getElem?_eq_getElem]
  show wpS (model prog w) A E s (sortPriv% PySem.Builtin.sortRuns) Q st
  refine wpS_bind (wpS_get ?_)
  have en : (arrOf st).size = base.size := hB.sz
  generalize hn : base.size = n at en
  dsimp only
  simp only [en]
  refine wpS_bind (wpS_mono (wpS_forRange (I := fun x c z => ∃ rs T lo, c = (none, lo) ∧ RN rk kd base z rs T ∧ lo = rs.flatten.length ∧ x ≤ lo) (Q := fun c z => ∃ rs lo, c = (none, lo) ∧ RN rk kd base z rs []) (fun x c z a1 a2 a3 => ?_) (fun c z a3 => ?_) ⟨[], (arrOf st).toList, 0, rfl, ⟨hB.pm, hB.kd, hB.fl, rfl, (fun _ h => nomatch h), by rw [hB.pe]; rfl⟩, rfl, Nat.le_refl _⟩) fun c z a3 => ?_)
  · obtain ⟨rs, T, lo, rfl, hR, hlo, hxl⟩ := a3
    have hf := hR.flen
    dsimp only
    by_cases e : lo ≥ n
    · rw [if_pos e]
      have eT : T = [] := List.eq_nil_of_length_eq_zero (by lia)
      subst eT
      exact wpS_pure ⟨rs, lo, rfl, hR⟩
    rw [if_neg e]
    refine wpS_bind (tJ hL (lo := lo) (pre := arrOf z) (pe := pendingOf z) ⟨hR.pm, hR.kd, hR.fl, rfl, fun _ _ => rfl⟩ (by lia) (by lia) fun k z2 b2 k1 k2 u2 => ?_)
    dsimp only
    apply kt
    case a =>
      intro key
      by_cases hlt : k < (sortPriv% PySem.Builtin.minRun) n n 0
      case pos =>
        rw [if_pos hlt]
        refine wpS_bind (wpS_lift (wpAny_rule ⟨rfl, wpS_bind (uu hL b2 (by lia) (by lia) u2 fun z3 b3 u3 => ?_)⟩))
        rw [if_neg (by decide)]
        have hP : TQ kd base lo (arrOf z) (pendingOf z) z3 ∧ 1 ≤ min (n - lo) ((sortPriv% PySem.Builtin.minRun) n n 0) ∧ lo + min (n - lo) ((sortPriv% PySem.Builtin.minRun) n n 0) ≤ n ∧ AO rk z3 lo (min (n - lo) ((sortPriv% PySem.Builtin.minRun) n n 0)) := ⟨b3, by lia, by lia, u3⟩
        revert hP; generalize min (n - lo) ((sortPriv% PySem.Builtin.minRun) n n 0) = m; generalize z3 = x; revert m x; exact key.g
      case neg =>
        rw [if_neg hlt]; exact key.g _ _ ⟨b2, k1, by lia, u2⟩
    case b =>
      intro m z3 hP
      obtain ⟨b3, m1, m2, u3⟩ := hP
      have sz3 : (arrOf z3).toList.length = n := by rw [Array.length_toList, b3.sz, hn]
      obtain ⟨r, hr⟩ : ∃ r, r = ((arrOf z3).toList.drop lo).take m := ⟨_, rfl⟩
      obtain ⟨T', hT'⟩ : ∃ T', T' = (arrOf z3).toList.drop (lo + m) := ⟨_, rfl⟩
      have lr : r.length = m := by rw [hr, List.length_take, List.length_drop, sz3]; lia
      have lT : T'.length = n - (lo + m) := by rw [hT', List.length_drop, sz3]
      have ar3 : (arrOf z3).toList = rs.flatten ++ (r ++ T') := by
        have t1 : (arrOf z3).toList.take lo = rs.flatten := by
          have t0 : (arrOf z).toList.take lo = rs.flatten := by rw [hR.ar, hlo, List.take_left]
          rw [← t0]
          refine List.ext_getElem? fun p => ?_
          rw [List.getElem?_take, List.getElem?_take]
          split
          · next hp =>
            rw [Array.getElem?_toList, Array.getElem?_toList]
            exact b3.fr p hp
          · rfl
        rw [← t1, hr, hT', ← List.drop_drop, List.take_append_drop, List.take_append_drop]
      have sr : Srt rk r := List.pairwise_iff_getElem.mpr fun i j hi hj hij => by
        rw [lr] at hi hj
        have g : ∀ t (ht : t < r.length), rk r[t].1 = kA rk z3 (lo + t) := fun t ht => by
          have hlt : lo + t < (arrOf z3).size := by rw [b3.sz]; lia
          rw [bu hlt]
          have e : r[t]? = some (arrOf z3)[lo + t] := by
            rw [hr, List.getElem?_take, if_pos (by lia), List.getElem?_drop, Array.getElem?_toList, Array.getElem?_eq_getElem hlt]
          rw [(List.getElem?_eq_some_iff.mp e).2]
        rw [g, g]
        exact u3 i j (Nat.le_of_lt hij) hj
      have R3 : RN rk kd base z3 rs (r ++ T') := ⟨b3.pm, b3.kd, b3.fl, ar3, hR.so, by rw [b3.pe]; exact hR.pe⟩
      refine wpS_bind (wpS_get ?_)
      apply kt
      case a =>
        intro key
        obtain hb | ⟨⟨s1, n1, p1⟩, hb⟩ : (pendingOf z3).back? = none ∨ ∃ q, (pendingOf z3).back? = some q := by
           cases (pendingOf z3).back? with
           | none => exact .inl rfl
           | some q => exact .inr ⟨q, rfl⟩
        case inl =>
          rw [hb]
          have hP4 : ∃ rs, RN rk kd base z3 rs (r ++ T') := ⟨rs, R3⟩
          revert hP4; generalize z3 = z4; revert z4; exact key.g
        case inr =>
          rw [hb]
          dsimp only
          refine wpS_bind (wpS_mono (wpS_forRange (I := fun x c z => c = (none, ()) ∧ ∃ rs, RN rk kd base z rs (r ++ T')) (Q := fun c z => c = (none, ()) ∧ ∃ rs, RN rk kd base z rs (r ++ T')) (fun y c z b1 b2 b3 => ?_) (fun c z b3 => b3) ⟨rfl, rs, R3⟩) fun c z b3 => ?_)
          · obtain ⟨rfl, rs, hR⟩ := b3
            refine wpS_bind (wpS_get ?_)
            have hp := hR.sz
            by_cases g : (pendingOf z).size > 1
            · rw [if_pos g, Array.getElem?_eq_getElem (by lia)]
              generalize (pendingOf z)[(pendingOf z).size - 2] = q
              obtain ⟨q1, q2, q3⟩ := q
              dsimp only
              split
              · exact wpS_pure ⟨rfl, rs, hR⟩
              · refine wpS_bind (mW hL hR (by lia) fun z' rs' hR' _ => ?_)
                rw [if_neg (by decide)]
                exact wpS_pure ⟨rfl, rs', hR'⟩
            · rw [if_neg g]
              exact wpS_pure ⟨rfl, rs, hR⟩
          obtain ⟨rfl, rs, hR⟩ := b3
          refine wpS_bind (wpS_modify (wH (P := fun z => ∃ rs, RN rk kd base z rs (r ++ T')) ⟨rs, hR.pm, hR.kd, hR.fl, hR.ar, hR.so, ?_⟩ fun z4 hP4 => ?_))
          · rw [← hR.pe]
            show List.map _ (Array.toList (Array.modify _ _ _)) = _
            rw [Array.toList_modify]
            refine rW _ _ ?_ _ _
            intro x
            rfl
          exact key.g _ hP4
      case b =>
        intro z4 hP4
        obtain ⟨rs4, R4⟩ := hP4
        have f4 := R4.flen
        rw [List.length_append, lr, lT] at f4
        refine wpS_bind (wpS_modify (wpS_pure ⟨rs4 ++ [r], T', lo + m, rfl, ⟨R4.pm, R4.kd, R4.fl, ?_, fun u hu => ?_, ?_⟩, ?_, by lia⟩))
        · show (arrOf z4).toList = _
          rw [R4.ar, List.flatten_append, List.flatten_singleton, List.append_assoc]
        · rcases List.mem_append.mp hu with q | q
          · exact R4.so u q
          · rw [List.mem_singleton.mp q]
            exact ⟨sr, fun e => by rw [e] at lr; simp at lr; lia⟩
        · show ((pendingOf z4).push (lo, m, 0)).toList.map _ = _
          rw [Array.toList_push, List.map_append, R4.pe, List.map_append, V9, Nat.zero_add, ← U9, show rs4.flatten.length = lo by lia]
          show _ ++ [(lo, m)] = _ ++ [(lo, r.length)]
          rw [lr]
        · rw [List.flatten_append, List.length_append, List.flatten_singleton, lr]; lia
  · obtain ⟨rs, T, lo, rfl, hR, hlo, hxl⟩ := a3
    have hf := hR.flen
    have eT : T = [] := List.eq_nil_of_length_eq_zero (by lia)
    subst eT
    exact ⟨rs, lo, rfl, hR⟩
  · obtain ⟨rs, lo, rfl, hR⟩ := a3
    dsimp only
    have hf := hR.flen
    have hc := mZ fun r hr => (hR.so r hr).2
    rw [List.length_nil] at hf
    refine wpS_bind (wpS_mono (wpS_forRange (I := fun x c z => c = (none, ()) ∧ ∃ rs, RN rk kd base z rs [] ∧ rs.length + x ≤ n) (Q := fun c z => c = (none, ()) ∧ ∃ rs, RN rk kd base z rs [] ∧ rs.length ≤ 1) (fun y c z b1 b2 b3 => ?_) (fun c z b3 => ?_) ⟨rfl, rs, hR, by lia⟩) fun c z b3 => ?_)
    · obtain ⟨rfl, rs, hR, hl⟩ := b3
      have hp := hR.sz
      refine wpS_bind (wpS_get ?_)
      by_cases g : (pendingOf z).size ≤ 1
      · rw [if_pos g]
        exact wpS_pure ⟨rfl, rs, hR, by lia⟩
      · rw [if_neg g]
        refine wpS_bind (mW hL hR ?_ fun z' rs' hR' hl' => ?_)
        · split <;> lia
        · rw [if_neg (by decide)]
          exact wpS_pure ⟨rfl, rs', hR', by lia⟩
    · obtain ⟨rfl, rs, hR, hl⟩ := b3
      exact ⟨rfl, rs, hR, by lia⟩
    · obtain ⟨rfl, rs, hR, hl⟩ := b3
      exact wpS_pure (fin z rs hR hl)
end
end L2
set_option Elab.async false
set_option linter.all false
set_option maxRecDepth 100000
set_option maxHeartbeats 4000000
namespace L2
open PySem PySem.Spec PyProof.Rows
open PySem.AutoSeq1 (wpAny_loadPart')
open PySem.MeetsSeq PySem.MeetsSeq2 PySem.MeetsSeq3
def CmP (op:CmpOp)(P:Program)(w:World)(A:Around)(s:Shared)(y x:Value)(b:Bool):Prop:=∀(E:Value→Shared→Prop) (Q:Value→Shared→Prop),Q (.bool b) s→wpAny (model P w) A (richCompare op y x) Q E s
def lO (f g:Nat→Bool)(fin:Bool):List Nat→Bool
 |[]=>fin
 |i::r=>if f i=true then lO f g fin r else g i
section
variable {P:Program} {w:World}
theorem jQ (l m:Addr)(xs ys:Array Value)(n1 n2:Nat)(d1 d2:Option Addr)(s1 s2:Array (Option Value))(f g:Nat→Bool):∀(k i:Nat),min xs.size ys.size -i=k→
  MeetsIn P w (Builtin.«list.__eq__.loop» ⟨[.ref l,.ref m,rawInt i,rawInt 0],[]⟩) (fun A R s=>
   s.heap.get? l=some {cls:= .type "list",dict:=d1,data:= .seq xs n1,slots:=s1}∧s.heap.get? m=some {cls:= .type "list",dict:=d2,data:= .seq ys n2,slots:=s2}∧
   (∀j (g1:j<xs.size) (g2:j<ys.size),EqP P w A.in1 s xs[j] ys[j] (f j))∧(∀j (g1:j<xs.size) (g2:j<ys.size),f j=false→CmP .Lt P w A.in1 s xs[j] ys[j] (g j))∧
   R (.ok (.ret (.bool (lO f g (decide (xs.size<ys.size)) ((List.range (min xs.size ys.size)).drop i))))) s)
 |0,i,hk=>by
  intro A R s hyp
  obtain⟨hp,gg,dr,tk,os⟩:=s
  obtain⟨e1,e2,he,hc,fin⟩:=hyp
  rw[List.drop_of_length_le (by rw[List.length_range];lia)] at fin
  have fin':R (.ok (.ret (.bool (decide (xs.size<ys.size))))) ⟨hp,gg,dr,tk,os⟩:=fin
  rcases Nat.lt_or_ge i xs.size with hx|hx
  ·have x1:xs[((i:Nat):Int).toNat]?=some xs[i]:=by simp [hx]
   have x2:ys[((i:Nat):Int).toNat]?=none:=by simp;lia
   wp_walk using wpAny_loadPart' e1,wpAny_loadPart' e2
   rw[x1,x2]
   wp_walk using wpAny_loadPart' e1,wpAny_loadPart' e2
   exact fin'
  ·have x1:xs[((i:Nat):Int).toNat]?=none:=by simp;lia
   wp_walk using wpAny_loadPart' e1,wpAny_loadPart' e2
   rw[x1]
   wp_walk using wpAny_loadPart' e1,wpAny_loadPart' e2
   exact fin'
 |k+1,i,hk=>by
  intro A R s hyp
  have ih:=jQ l m xs ys n1 n2 d1 d2 s1 s2 f g k (i+1) (Ac hk)
  obtain⟨hp,gg,dr,tk,os⟩:=s
  obtain⟨e1,e2,he,hc,fin⟩:=hyp
  have lm:i<min xs.size ys.size:=AA hk
  have l1:i<xs.size:=Nat.lt_of_lt_of_le lm (Nat.min_le_left _ _)
  have l2:i<ys.size:=Nat.lt_of_lt_of_le lm (Nat.min_le_right _ _)
  have dr1:(List.range (min xs.size ys.size)).drop i=i::(List.range (min xs.size ys.size)).drop (i+1):=by simp [List.drop_eq_getElem_cons,lm]
  rw[dr1] at fin
  unfold lO at fin
  have x1:xs[((i:Nat):Int).toNat]?=some xs[i]:=by simp [l1]
  have x2:ys[((i:Nat):Int).toNat]?=some ys[i]:=by simp [l2]
  have x4:((i:Int)+1)=((i+1:Nat):Int):=by push_cast;rfl
  wp_walk using wpAny_loadPart' e1,wpAny_loadPart' e2
  rw[x1,x2]
  refine wpAny_bind (he i l1 l2 _ _ ?_)
  cases hf:f i with
  |true=>
   rw[if_pos hf] at fin
   wp_walk
   rw[x4]
   refine⟨plainId_quiet aA _,codeAny_builtin entry_eq_loop ?_⟩
   rw[Around.under_plainId aA _]
   exact ih A R _ ⟨e1,e2,he,hc,fin⟩
  |false=>
   rw[if_neg (by rw[hf];decide)] at fin
   wp_walk using wpAny_loadPart' e1,wpAny_loadPart' e2
   rw[x1,x2]
   refine wpAny_bind (hc i l1 l2 hf _ _ ?_)
   wp_walk
   exact fin
theorem vd (l m:Addr)(xs ys:Array Value)(n1 n2:Nat)(d1 d2:Option Addr)(s1 s2:Array (Option Value))(f g:Nat→Bool):
  MeetsIn P w (Builtin.«list.__lt__» ⟨[.ref l,.ref m],[]⟩) (fun A R s=>
   s.heap.get? l=some {cls:= .type "list",dict:=d1,data:= .seq xs n1,slots:=s1}∧s.heap.get? m=some {cls:= .type "list",dict:=d2,data:= .seq ys n2,slots:=s2}∧
   (∀j (g1:j<xs.size) (g2:j<ys.size),EqP P w A.in1 s xs[j] ys[j] (f j))∧(∀j (g1:j<xs.size) (g2:j<ys.size),f j=false→CmP .Lt P w A.in1 s xs[j] ys[j] (g j))∧
   R (.ok (.ret (.bool (lO f g (decide (xs.size<ys.size)) (List.range (min xs.size ys.size)))))) s):=by
 intro A R s hyp
 obtain⟨hp,gg,dr,tk,os⟩:=s
 obtain⟨e1,e2,he,hc,fin⟩:=hyp
 have q1:=AutoSeq1.sub_list_list
 wp_walk using wpAny_loadPart' e1,wpAny_loadPart' e2
 refine⟨plainId_quiet aA _,codeAny_builtin entry_eq_loop ?_⟩
 rw[Around.under_plainId aA _]
 exact jQ l m xs ys n1 n2 d1 d2 s1 s2 f g _ 0 rfl A R _ ⟨e1,e2,he,hc,by simpa using fin⟩
theorem CmP.strLt {A:Around}{s:Shared}{a b:Str}{t u:Tok}:CmP .Lt P w A s (.str a t) (.str b u) (decide (a.cps.toList<b.cps.toList)):=fun E Q q=>
 richCompare_gives (op:= .Lt) (typeIs_str _ _ _) (typeIs_str _ _ _) F.slot_str_lt F.entry_str_lt (F.args_str_lt_2 _ _) (gives_str_lt _ _ _ _) (fun e=>nomatch e) q
end
end L2
set_option Elab.async false
set_option linter.all false
set_option maxRecDepth 100000
set_option maxHeartbeats 4000000
namespace L2
open PySem PySem.Spec PyProof.Rows
section
variable {P:Program} {w:World} {A:Around} {E:Value→Shared→Prop} {s:Shared}
theorem jT (f g:Nat→Bool)(c:Bool)(u:Nat→Nat):∀l:List Nat,lO f g c (l.map u)=lO (f∘u) (g∘u) c l
 |[]=>rfl
 |i::l=>by
  show(if f (u i)=true then lO f g c (l.map u) else g (u i))=if f (u i)=true then lO (f∘u) (g∘u) c l else g (u i)
  rw[jT f g c u l]
theorem cH {f f' g g':Nat→Bool}{c:Bool}:∀{l:List Nat},(∀i∈l,f i=f' i)→(∀i∈l,f i=false→g i=g' i)→lO f g c l=lO f' g' c l
 |[],_,_=>rfl
 |i::l,h1,h2=>by
  have e:=h1 i List.mem_cons_self
  have ih:=cH (c:=c) (fun j hj=>h1 j (List.mem_cons_of_mem _ hj)) (fun j hj=>h2 j (List.mem_cons_of_mem _ hj))
  show(if f i=true then _ else _)=if f' i=true then _ else _
  cases z:f i with
  |true=>rw[←e,z,if_pos rfl,if_pos rfl,ih]
  |false=>rw[←e,z,if_neg (by decide),if_neg (by decide),h2 i List.mem_cons_self z]
end
end L2
set_option Elab.async false
set_option linter.all false
set_option maxRecDepth 100000
set_option maxHeartbeats 4000000
namespace L2
open PySem PySem.Spec PyProof.Rows
section
variable {P:Program} {w:World} {A:Around} {E:Value→Shared→Prop} {s:Shared}
theorem nW {vs:List Value}{Q:SortKind→Shared→Prop}(hne:vs≠[])(h:∀v∈vs,∃(a:Addr) (us:Array Value),v= .ref a∧s.heap.IsList a us)(q:Q oneType' s):wpAny (model P w) A (keyKind' vs.toArray) Q E s:=by
 have ty:∀v∈vs,s.TypeIs v "list":=fun v hv=>by
  obtain⟨a,us,rfl,o,e,hc,_⟩:=h v hv
  exact⟨o,e,hc⟩
 rw[keyKind'_eq,List.mapM_toArray]
 refine wpAny_bind (wpAny_map (dP (g:=fun _=>(none:Option Value)) (fun v hv Q' q'=>?_) ?_))
 ·rw[iO]
  refine wpAny_bind (wpAny_typeOf (T:="list") (ty v hv) ?_)
  rw[if_pos (by decide)]
  exact wpAny_pure q'
 obtain⟨v,r,rfl⟩:=List.exists_cons_of_ne_nil hne
 rw[if_neg (by simp),if_neg (by simp),oneTypeOnly'_eq,List.mapM_toArray]
 refine wpAny_bind (wpAny_bind (wpAny_map (dP (g:=fun _=>Value.type "list") (fun v hv Q' q'=>wpAny_typeOf (ty v hv) q') ?_)))
 have h0:((v::r).map fun _=>Value.type "list").toArray[0]?=some (Value.type "list"):=by simp
 rw[h0]
 have ha:(((v::r).map fun _=>Value.type "list").toArray.all fun x=>x==Value.type "list")=true:=by
  simp only[List.all_toArray,List.all_map,List.all_eq_true]
  intro _ _
  rfl
 dsimp only
 rw[if_pos ha]
 exact wpAny_pure (wpAny_pure q)
end
section
variable {X:Cx}
theorem ik {α:Type}(f:α→Addr){ts:List α}:∀{us:List Value},Vals (ts.map fun t=>V.ref (f t)) us→us=ts.map fun t=>Value.ref (f t):=by
 induction ts with
 |nil=>intro us h;cases h;rfl
 |cons t r ih=>
  intro us h
  cases h with
  |cons rx t2=>
   have e:_=Value.ref (f t):=rx
   rw[e,ih t2];rfl
theorem aW {α:Type}(f:α→Addr):∀ts:List α,Vals (ts.map fun t=>V.ref (f t)) (ts.map fun t=>Value.ref (f t))
 |[]=> .nil
 |t::r=> .cons rfl (aW f r)
end
end L2
set_option Elab.async false
set_option linter.all false
set_option maxRecDepth 100000
set_option maxHeartbeats 4000000
namespace L2
open PySem PySem.Spec PyProof.Rows
section
variable {P:Program} {w:World} {A:Around} {E:Value→Shared→Prop} {s:Shared}
def dG (rk:Value→Int)(ks vs:List Value)(out:Array Value):Prop:=
 ∃ps:List (Value×Value),ps.Perm (ks.zip vs)∧out.toList=ps.map Prod.snd∧ps.Pairwise (fun p q=>rk p.1≤rk q.1)
theorem rP {a kS:Addr}{vs ks:List Value}{e e1:Nat}{kd:SortKind}{rk:Value→Int}{Q:Fin→Shared→Prop}(hk:s.heap.get? kS=some (seqObj "list" ks.toArray e))(ha:s.heap.get? a=some (seqObj "list" #[] e1))(hka:kS≠a)
  (hl:ks.length=vs.length) (hz:vs.length≤sizeLine)
  (hL:2≤vs.length→(∀Q':SortKind→Shared→Prop,Q' kd s→wpAny (model P w) A (keyKind' ks.toArray) Q' E s)∧aq P w A s rk kd (ks.toArray.zip vs.toArray))
  (h:∀out:Array Value,dG rk ks vs out→Q (.done (.ret .none)) {s with heap:=(s.heap.update kS (Obj.mapSeq fun _=> #[])).update a (Obj.mapSeq fun _=>out)}):
  wpAny (model P w) A (ksk_end a false vs.toArray e1 (.ref kS) ks.toArray) Q E s:=by
 have hzs:(ks.toArray.zip vs.toArray).size=vs.length:=by rw[Array.size_zip,List.size_toArray,List.size_toArray,hl,Nat.min_self]
 have tail:∀st:SortSt,(arrOf st).Perm (ks.toArray.zip vs.toArray)→yw rk st (ks.toArray.zip vs.toArray).size→failedOf st=none→wpAny (model P w) A (ksk_tail a false e1 (.ref kS) st) Q E s:=fun st pm up fl=>by
  have s1:=Heap.SameBut.update s.heap kS (Obj.mapSeq fun _=>(#[]:Array Value))
  have na1:(s.heap.update kS (Obj.mapSeq fun _=>(#[]:Array Value))).get? a=some (seqObj "list" #[] e1):=(s1.2 a hka.symm).trans ha
  unfold ksk_tail
  try dsimp only
  refine wpAny_bind (listUpdate_at hk rfl ?_ (by rw[List.size_toArray,hl];omega) (Nat.zero_le _))
  refine wpAny_bind (wpAny_letGo ?_)
  refine wpAny_bind (seqEpoch_at na1 rfl ?_)
  refine wpAny_bind (listUpdate_at na1 rfl ?_ (Nat.zero_le _) (by simp only[Bool.false_eq_true,if_false,Array.size_map];rw[pm.size_eq,hzs];omega))
  rw[fl]
  simp only[bne_self_eq_false,Bool.false_eq_true,if_false]
  have pl:=Array.perm_iff_toList_perm.mp pm
  rw[show(ks.toArray.zip vs.toArray).toList=ks.zip vs by simp] at pl
  refine wpAny_pure (h _ ⟨(arrOf st).toList,pl,by rw[Array.toList_map],?_⟩)
  refine List.pairwise_iff_getElem.mpr fun i j hi hj hij=>?_
  have li:i<(arrOf st).size:=by simpa using hi
  have lj:j<(arrOf st).size:=by simpa using hj
  have z:=up i j (Nat.le_of_lt hij) (by rw[←pm.size_eq];exact lj)
  rw[bu li,bu lj] at z
  simpa using z
 unfold ksk_end
 try dsimp only
 simp only[Bool.false_eq_true,if_false]
 by_cases h2:vs.toArray.size<2
 ·rw[if_pos h2,if_pos h2]
  refine wpAny_bind (wpAny_pure ?_)
  rw[StateT.run_pure]
  refine wpAny_bind (wpAny_pure ?_)
  dsimp only
  refine tail (SortSt.mk' general' (ks.toArray.zip vs.toArray) #[] 7 none) (Array.Perm.refl _) (fun i j hij hj=>?_) rfl
  rw[List.size_toArray] at h2
  rw[show i=j by omega];exact Int.le_refl _
 ·rw[if_neg h2,if_neg h2]
  rw[List.size_toArray] at h2
  obtain⟨hk1,hk2⟩:=hL (by omega)
  refine wpAny_bind (hk1 _ ?_)
  refine wpAny_bind (wpAny_mono (uA (base:=ks.toArray.zip vs.toArray) (st:=SortSt.mk' kd (ks.toArray.zip vs.toArray) #[] 7 none) (Q:=fun _ st'=>(arrOf st').Perm (ks.toArray.zip vs.toArray)∧failedOf st'=none∧yw rk st' (ks.toArray.zip vs.toArray).size) hk2 ⟨Array.Perm.refl _,rfl,rfl,rfl⟩ fun st' a1 a2 a3=>⟨a1,a2,a3⟩) ?_ fun _ _ e=>e)
  rintro⟨⟨⟩,st'⟩ s' ⟨rfl,pm,fl,up⟩
  dsimp only
  exact tail st' pm up fl
theorem pB {a f:Addr}{vs:List Value}{n:Nat}{kd:SortKind}{rk:Shared→Value→Int}{Q:Fin→Shared→Prop}(J:List Value→Shared→Prop)(ho:s.heap.get? a=some (seqObj "list" vs.toArray n))(hz:vs.length≤sizeLine)
  (h0:J [] {s with heap:=((s.heap.update a (Obj.mapSeq fun _=> #[])).push (seqObj "tuple" vs.toArray 0)).push (seqObj "list" #[] 0)})
  (hat:∀ks s',J ks s'→(∃e,s'.heap.get? (s.heap.objs.size+1)=some (seqObj "list" ks.toArray e))∧s'.heap.get? a=(s.heap.update a (Obj.mapSeq fun _=> #[])).get? a)
  (turn:∀(ks:List Value) (v:Value) (s':Shared),vs[ks.length]?=some v→J ks s'→wpAny (model P w) A (call (.ref f) [v]) (fun k s''=>(∃e,s''.heap.get? (s.heap.objs.size+1)=some (seqObj "list" ks.toArray e))∧J (ks++[k]) {s'' with heap:=s''.heap.update (s.heap.objs.size+1) (Obj.mapSeq (·.push k))}) (fun _ _=>False) s')
  (hL:∀ks s',J ks s'→ks.length=vs.length→2≤vs.length→(∀Q':SortKind→Shared→Prop,Q' kd s'→wpAny (model P w) A (keyKind' ks.toArray) Q' E s')∧aq P w A s' (rk s') kd (ks.toArray.zip vs.toArray))
  (h:∀ks s' out,J ks s'→ks.length=vs.length→dG (rk s') ks vs out→Q (.done (.ret .none)) {s' with heap:=(s'.heap.update (s.heap.objs.size+1) (Obj.mapSeq fun _=> #[])).update a (Obj.mapSeq fun _=>out)}):
  wpAny (model P w) A (ksk_tree a (.ref f) false) Q E s:=by
 have hlt:a<s.heap.objs.size:=Heap.lt_size ho
 obtain⟨e1,ho1⟩:∃e1,(s.heap.update a (Obj.mapSeq fun _=>(#[]:Array Value))).get? a=some (seqObj "list" #[] e1):=⟨_,get?_update_seq ho fun _=> #[]⟩
 have hkS:((s.heap.update a (Obj.mapSeq fun _=>(#[]:Array Value))).push (seqObj "tuple" vs.toArray 0)).objs.size=s.heap.objs.size+1:=by rw[size_push',Heap.size_update]
 unfold ksk_tree
 refine wpAny_bind (listItems_at ho rfl ?_)
 refine wpAny_bind (listUpdate_at ho rfl ?_ (by rw[List.size_toArray];exact hz) (Nat.zero_le _))
 refine wpAny_bind (seqEpoch_at ho1 rfl ?_)
 refine wpAny_bind (wpAny_newTuple ?_ (by show vs.length≤_;exact hz))
 refine wpAny_bind (wpAny_newList ?_ (Nat.zero_le _))
 refine wpAny_holding ?_
 dsimp only
 rw[hkS]
 unfold ksk_rest
 refine wpAny_bind (wpAny_rule ?_)
 rw[List.forIn_toArray]
 refine wpAny_bind (ksk_fold (fun i s'=>∃ks,J ks s'∧ks.length=i) vs 0 _ ⟨[],h0,rfl⟩ ?step ?done)
 case step=>
  rintro j x s' hx ⟨ks,hJ,hlen⟩
  rw[Nat.zero_add] at hlen
  have hj:j<vs.length:=(List.getElem?_eq_some_iff.mp hx).1
  refine wpAny_bind (wpAny_attempt (wpAny_mono (turn ks x s' (by rw[hlen];exact hx) hJ) (fun v s'' he=>?_) fun _ _ hF=>hF.elim))
  obtain⟨⟨e,he⟩,hJ2⟩:=he
  dsimp only
  refine wpAny_bind (listUpdate_at he rfl ?_ (by rw[List.size_toArray];omega) (by rw[Array.size_push,List.size_toArray];omega))
  exact wpAny_pure ⟨rfl,_,hJ2,by rw[List.length_append,hlen];simp⟩
 case done=>
  rintro s' ⟨ks,hJ,hlen⟩
  rw[Nat.zero_add] at hlen
  obtain⟨⟨e,he⟩,ha⟩:=hat ks s' hJ
  refine wpAny_bind (listItems_at he rfl ?_)
  exact rP he (ha.trans ho1) (Nat.ne_of_gt (Nat.lt_succ_of_lt hlt)) hlen hz (hL ks s' hJ hlen) fun out ko=>h ks s' out hJ hlen ko
theorem iH {l f:Addr}{vs:List Value}{kd:SortKind}{rk:Shared→Value→Int}{Q:Value→Shared→Prop}(J:List Value→Shared→Prop)(hl:s.heap.IsList l vs.toArray)(hz:vs.length≤sizeLine)
  (h0:∀h6:Heap,(∀b o,s.heap.get? b=some o→h6.get? b=some o)→h6.objs.size=s.heap.objs.size+4→h6.get? (s.heap.objs.size+3)=some (seqObj "list" #[] 0)→(∃e1,h6.get? (s.heap.objs.size+1)=some (seqObj "list" #[] e1))→J [] {s with heap:=h6})
  (hat:∀ks s',J ks s'→(∃e,s'.heap.get? (s.heap.objs.size+3)=some (seqObj "list" ks.toArray e)))
  (turn:∀(ks:List Value) (v:Value) (s':Shared),vs[ks.length]?=some v→J ks s'→wpAny (model P w) A.in1.in1 (call (.ref f) [v]) (fun k s''=>s''.heap.get? (s.heap.objs.size+1)=s'.heap.get? (s.heap.objs.size+1)∧(∃e,s''.heap.get? (s.heap.objs.size+3)=some (seqObj "list" ks.toArray e))∧J (ks++[k]) {s'' with heap:=s''.heap.update (s.heap.objs.size+3) (Obj.mapSeq (·.push k))}) (fun _ _=>False) s')
  (hL:∀ks s',J ks s'→ks.length=vs.length→2≤vs.length→(∀(E':Value→Shared→Prop) (Q':SortKind→Shared→Prop),Q' kd s'→wpAny (model P w) A.in1.in1 (keyKind' ks.toArray) Q' E' s')∧aq P w A.in1.in1 s' (rk s') kd (ks.toArray.zip vs.toArray))
  (h:∀ks s' out h' e,J ks s'→ks.length=vs.length→dG (rk s') ks vs out→(∀b o,b≠s.heap.objs.size+3→b≠s.heap.objs.size+1→s'.heap.get? b=some o→h'.get? b=some o)→h'.get? (s.heap.objs.size+1)=some (seqObj "list" out e)→(∃o,h'.get? (s.heap.objs.size+3)=some o)→h'.objs.size=s'.heap.objs.size→Q (.ref (s.heap.objs.size+1)) {s' with heap:=h'}):
  wpAny (model P w) A (call (.builtin "sorted") [.ref l] [(Str.ofString "key",.ref f)]) Q E s:=by
 refine call_function_entry_kw kind_sorted plain_sorted entry_sorted (ksk_s1 _ _) ?_
 unfold Builtin.«sorted»
 refine wpAny_bind (m:=checkCount "sorted" 1 1 _) (wpAny_pure ?_)
 refine wpAny_bind (collect_list hl ?_ (by exact hz))
 refine wpAny_bind (wpAny_newList ?_ (by exact hz))
 obtain⟨h1,e1⟩:∃h1:Heap,h1=(s.heap.push (seqObj "list" #[] 0)).update s.heap.objs.size (Obj.mapSeq (·++vs.toArray)):=⟨_,rfl⟩
 have sz:h1.objs.size=s.heap.objs.size+1:=by rw[e1,Heap.size_update,size_push']
 have old:∀b o,s.heap.get? b=some o→h1.get? b=some o:=fun b o e=>by
  rw[e1,Heap.get?_update_ne _ _ _ _ (Nat.ne_of_lt (Heap.lt_size e))]
  exact Heap.get?_push_of_some _ e
 obtain⟨h2,e2⟩:∃h2:Heap,h2=h1.push (seqObj "list" vs.toArray 0):=⟨_,rfl⟩
 have o2:h2.get? (s.heap.objs.size+1)=some (seqObj "list" vs.toArray 0):=by rw[e2,←sz];exact Heap.get?_push_size _ rfl
 have sz2:h2.objs.size=s.heap.objs.size+2:=by rw[e2,size_push',sz]
 show wpAny _ _ _ _ _ {s with heap:=((s.heap.push (seqObj "list" #[] 0)).update s.heap.objs.size (Obj.mapSeq (·++vs.toArray))).push (seqObj "list" vs.toArray 0)}
 rw[←e1,sz,←e2]
 refine wpAny_bind (wpAny_holding (wpAny_call_entry_kw slot_list_sort ⟨_,o2,rfl⟩ entry_list_sort ?body (ksk_l1 _ _)))
 case body=>
  show wpAny (model P w) A.in1.in1 (Builtin.«list.sort» ⟨[.ref (s.heap.objs.size+1)],[(Str.ofString "key",.ref f)]⟩) _ _ _
  rw[ksk_t1]
  obtain⟨ea,hea⟩:∃ea,(h2.update (s.heap.objs.size+1) (Obj.mapSeq fun _=>(#[]:Array Value))).get? (s.heap.objs.size+1)=some (seqObj "list" #[] ea):=⟨_,get?_update_seq o2 fun _=> #[]⟩
  refine pB (s:={s with heap:=h2}) (kd:=kd) (rk:=rk) (fun ks s'=>J ks s'∧s'.heap.get? (s.heap.objs.size+1)=(h2.update (s.heap.objs.size+1) (Obj.mapSeq fun _=>(#[]:Array Value))).get? (s.heap.objs.size+1)) o2 hz ⟨h0 _ (fun b o e=>?_) ?_ ?_ ?_,?_⟩ (fun ks s' hJ=>⟨?_,hJ.2⟩) (fun ks v s' hv hJ=>?_) (fun ks s' hJ e l2=>⟨(hL ks s' hJ.1 e l2).1 _,(hL ks s' hJ.1 e l2).2⟩) fun ks s' out hJ e ko=>⟨_,rfl,?_⟩
  ·have lt:=Heap.lt_size e
   refine Heap.get?_push_of_some _ (Heap.get?_push_of_some _ ?_)
   show(h2.update (s.heap.objs.size+1) _).get? b=some o
   rw[Heap.get?_update_ne _ _ _ _ (Nat.ne_of_lt (Nat.lt_succ_of_lt lt)),e2]
   exact Heap.get?_push_of_some _ (old b o e)
  ·rw[size_push',size_push',Heap.size_update]
   show h2.objs.size+1+1=_
   rw[sz2]
  ·have:((h2.update (s.heap.objs.size+1) (Obj.mapSeq fun _=>(#[]:Array Value))).push (seqObj "tuple" vs.toArray 0)).objs.size=s.heap.objs.size+3:=by rw[size_push',Heap.size_update,sz2]
   rw[←this]
   exact Heap.get?_push_size _ rfl
  ·exact⟨ea,Heap.get?_push_of_some _ (Heap.get?_push_of_some _ hea)⟩
  ·exact(Heap.get?_push_of_some _ (Heap.get?_push_of_some _ hea)).trans hea.symm
  ·show ∃e,s'.heap.get? (h2.objs.size+1)=_
   rw[sz2];exact hat ks s' hJ.1
  ·show wpAny _ _ _ (fun k s''=>(∃e,s''.heap.get? (h2.objs.size+1)=_)∧J (ks++[k]) {s'' with heap:=s''.heap.update (h2.objs.size+1) _}∧(s''.heap.update (h2.objs.size+1) _).get? _=_) _ _
   rw[sz2]
   refine wpAny_mono (turn ks v s' hv hJ.1) (fun k s'' hh=>⟨hh.2.1,hh.2.2,?_⟩) fun _ _ z=>z
   rw[Heap.get?_update_ne _ _ _ _ (show s.heap.objs.size+1≠s.heap.objs.size+2+1 by omega),hh.1]
   exact hJ.2
  ·refine wpAny_pure ⟨_,rfl,?_⟩
   show Q _ {s' with heap:=(s'.heap.update (h2.objs.size+1) _).update (s.heap.objs.size+1) _}
   rw[sz2]
   have n13:s.heap.objs.size+1≠s.heap.objs.size+2+1:=by omega
   have g1:(s'.heap.update (s.heap.objs.size+2+1) (Obj.mapSeq fun _=>(#[]:Array Value))).get? (s.heap.objs.size+1)=some (seqObj "list" #[] ea):=by
    rw[Heap.get?_update_ne _ _ _ _ n13,hJ.2,hea]
   obtain⟨ee,hee⟩:∃ee,((s'.heap.update (s.heap.objs.size+2+1) (Obj.mapSeq fun _=>(#[]:Array Value))).update (s.heap.objs.size+1) (Obj.mapSeq fun _=>out)).get? (s.heap.objs.size+1)=some (seqObj "list" out ee):=⟨_,get?_update_seq g1 fun _=>out⟩
   obtain⟨e3,h3⟩:=hat ks s' hJ.1
   have h3':s'.heap.get? (s.heap.objs.size+2+1)=some (seqObj "list" ks.toArray e3):=h3
   refine h ks s' out _ ee hJ.1 e ko (fun b o b1 b2 eb=>?_) hee ?_ (by rw[Heap.size_update,Heap.size_update])
   ·rw[Heap.get?_update_ne _ _ _ _ b2,Heap.get?_update_ne _ _ _ _ b1];exact eb
   ·exact⟨_,(Heap.get?_update_ne _ _ _ _ n13.symm).trans (get?_update_seq h3' fun _=> #[])⟩
end
end L2
set_option Elab.async false
set_option linter.all false
set_option maxRecDepth 100000
set_option maxHeartbeats 4000000
namespace L2
open PySem PySem.Spec PyProof.Rows
def A7 (ss:List Str):iD:=ss.map fun x=>x.cps.toList
def gS (ps qs:List Str)(j:Nat):Bool:=match ps[j]?,qs[j]? with
 |some p,some q=>decide (p.cps.toList<q.cps.toList)
 |_,_=>false
theorem wC {ps qs:List Str}{j:Nat}{p q:Str}(h1:ps[j]?=some p)(h2:qs[j]?=some q):gS ps qs j=decide (p.cps.toList<q.cps.toList):=by
 unfold gS
 rw[h1,h2]
theorem su:∀(ps qs:List Str),lO (fun j=>decide (ps[j]?=qs[j]?)) (gS ps qs) (decide (ps.length<qs.length)) (List.range (min ps.length qs.length))=decide (A7 ps<A7 qs)
 |[],[]=>by
  show decide (0<0)=_
  rw[decide_eq_false (by decide),decide_eq_false (List.lt_irrefl _)]
 |[],q::qs=>by
  show lO _ _ _ (List.range (min 0 _))=_
  rw[Nat.zero_min]
  show decide (0<qs.length+1)=_
  rw[decide_eq_true (Nat.succ_pos _)]
  exact(decide_eq_true (show([]:iD)<A7 (q::qs) from List.nil_lt_cons _ _)).symm
 |p::ps,[]=>by
  show lO _ _ _ (List.range (min _ 0))=_
  rw[Nat.min_zero]
  show decide (ps.length+1<0)=_
  rw[decide_eq_false (Nat.not_lt_zero _)]
  exact(decide_eq_false (show ¬A7 (p::ps)<([]:iD) from List.not_lt_nil _)).symm
 |p::ps,q::qs=>by
  have ih:=su ps qs
  rw[List.length_cons,List.length_cons,Nat.add_min_add_right,List.range_succ_eq_map]
  show(if decide (some p=some q)=true then _ else _)=_
  have key:decide (A7 (p::ps)<A7 (q::qs))=(decide (p.cps.toList<q.cps.toList)||(decide (p=q)&&decide (A7 ps<A7 qs))):=by
   rw[Bool.eq_iff_iff,decide_eq_true_eq,Bool.or_eq_true,Bool.and_eq_true,decide_eq_true_eq,decide_eq_true_eq,decide_eq_true_eq]
   show p.cps.toList::A7 ps<q.cps.toList::A7 qs↔_
   rw[List.cons_lt_cons_iff]
   exact⟨fun z=>z.imp id fun y=>⟨jb y.1,y.2⟩,fun z=>z.imp id fun y=>⟨by rw[y.1],y.2⟩⟩
  rw[key]
  by_cases e:p=q
  ·subst e
   rw[if_pos (by simp),jT]
   have n:decide (p.cps.toList<p.cps.toList)=false:=decide_eq_false (List.lt_irrefl _)
   rw[n,decide_eq_true rfl,Bool.false_or,Bool.true_and,←ih,show decide (ps.length+1<qs.length+1)=decide (ps.length<qs.length) by rw[Bool.eq_iff_iff,decide_eq_true_eq,decide_eq_true_eq];exact Nat.succ_lt_succ_iff]
   exact cH (fun i _=>rfl) (fun i _ _=>rfl)
  ·rw[if_neg (by simpa using e),decide_eq_false e,Bool.false_and,Bool.or_false]
   rfl
section
variable {P:Program} {w:World} {A:Around} {E:Value→Shared→Prop} {s:Shared}
def LTx (h:Heap)(v:Value)(ss:List Str):Prop:=∃(a:Addr) (us:List Value),v= .ref a∧h.IsList a us.toArray∧Vals (ss.map V.str) us
theorem LTx.lt {v u:Value}{ps qs:List Str}{Q:Bool→Shared→Prop}(hv:LTx s.heap v ps)(hu:LTx s.heap u qs)(hA:A.units+8<cLine)(q:Q (decide (A7 ps<A7 qs)) s):wpAny (model P w) A (keyLt' oneType' v u) Q E s:=by
 obtain⟨a,us,rfl,ha,pa⟩:=hv
 obtain⟨b,vs,rfl,hb,pb⟩:=hu
 have l1:us.length=ps.length:=by have:=Vals.length pa;simpa using this.symm
 have l2:vs.length=qs.length:=by have:=Vals.length pb;simpa using this.symm
 obtain⟨⟨c1,d1,a1,s1⟩,o1,k1,n1,w1⟩:=id ha
 obtain⟨⟨c2,d2,a2,s2⟩,o2,k2,n2,w2⟩:=id hb
 simp only at k1 w1 k2 w2
 subst k1 w1 k2 w2
 have gt:∀{xs:List Value} {rs:List Str} (j:Nat) (g:j<xs.toArray.size),Vals (rs.map V.str) xs→∃p t,rs[j]?=some p∧xs.toArray[j]= .str p t:=fun{xs rs} j g pr=>by
  have g':j<xs.length:=by simpa using g
  have gl:j<rs.length:=by have:=Vals.length pr;simp at this;omega
  have e1:(rs.map V.str)[j]?=some (V.str rs[j]):=by simp [gl]
  obtain⟨u,hu,rv⟩:=pr.get e1
  obtain⟨t,rfl⟩:=(show ∃tk,u=Value.str rs[j] tk from rv)
  exact⟨rs[j],t,List.getElem?_eq_getElem gl,by rw[List.getElem?_eq_getElem g'] at hu;simpa using Option.some.inj hu⟩
 have hs:∀(x y:Str) (t u:Tok),EqP P w A.in1 s (.str x t) (.str y u) (decide (x=y)):=fun x y t u=>by
  have z:=N0 (A:=A.in1) (s:=s) (y:= .str x) (x:= .str y) (u:= .str x t) (v:= .str y u) ⟨t,rfl⟩ ⟨u,rfl⟩ rfl rfl
  rw[show U1 (.str x) (.str y)=decide (x=y) by show(x==y)=_;rw[Bool.eq_iff_iff,beq_iff_eq,decide_eq_true_eq]] at z
  exact EqP.of z
 rw[keyLt'_oneType,oneLt'_eq]
 simp only[if_true]
 refine wpAny_bind (wpAny_cRoomFor (by lia) ?_)
 refine wpAny_bind (wpAny_callSpecialIfBound?_slot ⟨_,o1,rfl⟩ PySem.F.slot_list_lt (call_meetsIn PySem.F.slot_list_lt ⟨_,o1,rfl⟩ PySem.F.entry_list_lt (PySem.F.args_list_lt_2 _ _) (vd a b us.toArray vs.toArray n1 n2 d1 d2 s1 s2 (fun j=>decide (ps[j]?=qs[j]?)) (gS ps qs)) ⟨o1,o2,fun j g1 g2=>?_,fun j g1 g2 _=>?_,?_⟩))
 ·obtain⟨p,t,hp,z1⟩:=gt j g1 pa
  obtain⟨q,t',hq,z2⟩:=gt j g2 pb
  rw[hp,hq,show decide (some p=some q)=decide (p=q) by rw[Bool.eq_iff_iff,decide_eq_true_eq,decide_eq_true_eq];exact⟨Option.some.inj,fun e=>by rw[e]⟩,z1,z2]
  exact hs _ _ _ _
 ·obtain⟨p,t,hp,z1⟩:=gt j g1 pa
  obtain⟨q,t',hq,z2⟩:=gt j g2 pb
  rw[wC hp hq,z1,z2]
  exact CmP.strLt
 ·rw[List.size_toArray,List.size_toArray,l1,l2,su]
  exact wpAny_truthy_bool q
end
section
variable {P:Program} {w:World} {H:Hp} {h h':Heap} {Pl:Addr} {ps more:Array Value}
theorem HOk.tab (ok:HOk P w H h)(hT:H Pl=some (.tbl ps))(k:∀b u,b≠Pl→h.get? b=some u→h'.get? b=some u)(new:h'.get? Pl=some {cls:= .none,data:= .fields more}):HOk P w (i6 H Pl (.tbl more)) h':=fun b u q=>by
 have ne:∀c o,H c=some o→(∀qs,o≠ .tbl qs)→c≠Pl:=fun c o e d z=>by rw[z,hT] at e;exact d ps (Option.some.inj e).symm
 by_cases hb:b=Pl
 ·subst hb;rw[c8] at q;cases q;exact new
 ·rw[b0 hb] at q
  refine(ok b u q).stay (fun c v hc r=>k c v ?_ r) (fun c r=>by rw[b0 (ne c _ r fun _ z=>nomatch z)];exact r) fun c xs r=>by rw[b0 (ne c _ r fun _ z=>nomatch z)];exact r
  rcases hc with rfl|hc
  ·exact hb
  ·exact ne c _ hc fun _ z=>nomatch z
end
section
variable {X:Cx} {pins:List (Addr×Obj)} {σ:St} {H:Hp} {s:Shared} {h':Heap} {Pl:Addr} {ps more:Array Value}
theorem Inv.tabbed {t':Nat}(I:Inv X pins σ H s)(hT:H Pl=some (.tbl ps))(k:∀b u,b≠Pl→s.heap.get? b=some u→h'.get? b=some u)(new:h'.get? Pl=some {cls:= .none,data:= .fields (ps++more)}):
  Inv X pins σ (i6 H Pl (.tbl (ps++more))) {s with heap:=h',toks:=t'}:=by
 have nn:∀b,H b=none→b≠Pl:=fun b n z=>by rw[z,hT] at n;cases n
 have ne:∀c o,H c=some o→(∀qs,o≠ .tbl qs)→c≠Pl:=fun c o e d z=>by rw[z,hT] at e;exact d ps (Option.some.inj e).symm
 refine I.step (g':=s.gens) (d':=s.drawn) (ch:=[]) (fun _ z=>nomatch z) (fun b o _ _ _ e n=>k b o (nn b n) e) (fun b o _ _ _ e n=>⟨o.slots,k b o (nn b n) e⟩) (fun b o _ _ n=>by rw[b0 (nn b n)];exact n)
  (fun b o _ e=>?_) (fun b xs e=>by rw[b0 (ne b _ e fun _ z=>nomatch z)];exact e) (fun b o u e=>by rw[b0 (ne b _ e fun _ z=>nomatch z)];exact e) (fun b qs e=>?_) (fun m hm=>?_) (I.hok.tab hT k new) I.bare
 ·by_cases z:b=Pl
  ·exact⟨_,z▸new⟩
  ·exact⟨o,k b o z e⟩
 ·by_cases z:b=Pl
  ·rw[z,hT] at e
   cases e
   exact⟨more,by rw[z,c8]⟩
  ·exact⟨#[],by rw[b0 z,e];simp⟩
 ·obtain⟨o,es,ep,ho,r⟩:=hm
  exact⟨o,es,ep,k _ o (nn _ I.free) ho,r⟩
end
def Q0 (mg:Str→Option Value)(base:Heap):Prop:=∃bm ob,mg "__builtins__"=some (.ref bm)∧bm≠builtinsNs∧base.get? bm=some ob∧ob.cls= .type "module"∧ob.dict=some builtinsNs∧ob.data= .plain
section
variable {X:Cx} {pins:List (Addr×Obj)} {σ:St} {H:Hp} {s:Shared} {c Pl:Addr} {ps:Array Value} {params:Arguments} {body:Expr} {scope:Scope} {pos:Pos} {E:Value→Shared→Prop} {clos:List (Str×Addr)}
theorem oB {Q:Value→Shared→Prop}(I:Inv X pins σ H s)(hcode:X.env.code= .ref c)(C:PySem.W.CodeHd X.base c Pl)(hT:H Pl=some (.tbl ps))(ht:TriplesOk ps.toList)(hnf:codeAmong pos ps.toList=none)(B:Q0 X.mg X.base)
  (hcl:closureFor scope X.env=pure clos) (hdef:defaultsOf params X.env=([],[]))
  (h:∀f c' ctv pm h' tk,Inv X pins σ (i6 H Pl (.tbl (ps++ #[rawInt pos.line,rawInt pos.col,.ref c']))) {s with heap:=h',toks:=tk}→h'.get? f=some (PySem.W.kla_obj "<lambda>" (X.env.qual++"<lambda>") params body scope clos pm c' ctv)→
   h'.CodeRec (.ref c') (X.env.qual++"<lambda>")→s.heap.objs.size≤f→s.heap.objs.size≤c'→(∀b o,b≠Pl→s.heap.get? b=some o→h'.get? b=some o)→Q (.ref f) {s with heap:=h',toks:=tk}):
  wpAny (model X.prog X.w) X.A (eval (.Lambda params body scope pos) X.env) Q E s:=by
 obtain⟨bm,ob,b1,b2,b3,b4,b5,b6⟩:=B
 have hP:s.heap.get? Pl=some (PySem.W.tabObj ps):=I.hok Pl _ hT
 have hgs:s.heap.Ns mainGlobals X.mg:=I.mod.glob.keeps I.bk
 have hgP:mainGlobals≠Pl:=fun q=>by
  obtain⟨o,es,ep,e,hd,_⟩:=hgs
  rw[q,hP] at e;cases e;cases hd
 have hbP:bm≠Pl:=fun q=>by
  have e:=I.bk _ _ b3
  rw[q,hP] at e;cases e;cases b4
 have hbG:bm≠mainGlobals:=fun q=>by
  obtain⟨o,es,ep,e,hd,_⟩:=I.mod.glob
  rw[q,e] at b3;cases b3;rw[hd] at b6;cases b6
 refine PySem.W.kla_eval hdef (PySem.W.kla_makeFunction (mg:=X.mg) hcl I.ok.glob hgs hcode (C.keeps I.bk) hP ht hnf hgP ⟨bm,ob,b1,b2,hbG,hbP,I.bk _ _ b3,b4,b5,b6⟩ fun c' ctv h' tk hx hge hlt hrec htb=>?_)
 have sz:s.heap.objs.size≤h'.objs.size:=Nat.le_trans hge (Nat.le_of_lt hlt)
 refine h h'.objs.size c' ctv _ _ tk (I.tabbed hT (fun b u n e=>Heap.get?_push_of_some _ (hx b u n e)) (Heap.get?_push_of_some _ htb)) (Heap.get?_push_size _ rfl) ?_ sz hge fun b o n e=>Heap.get?_push_of_some _ (hx b o n e)
 obtain⟨c₂,oc,vs,t,e2,hoc,hd,hv⟩:=hrec
 exact⟨c₂,oc,vs,t,e2,Heap.get?_push_of_some _ hoc,hd,hv⟩
end
section
variable {M:Model} {A:Around} {E:Value→Shared→Prop} {s:Shared}
theorem qo {scope:Scope}{x y:Str}{c globals:Addr}{v:Value}{qual:Str}{func:Option Addr}{code:Value}{builtins:Addr}{Q:Env→Shared→Prop}(hk:scope.kind= .function)(hn:scope.names=[(x,.cell),(y,.free)])
  (hQ:∀h':Heap,h'.Ns s.heap.objs.size (fun _=>none)→h'.IsCell (s.heap.objs.size+1) (some v)→(∀b o,s.heap.get? b=some o→h'.get? b=some o)→Q (newEnv scope s.heap.objs.size globals [(x,s.heap.objs.size+1),(y,c)] qual func code none builtins) {s with heap:=h'}):
  wpAny M A (newFunctionEnv scope globals [(y,c)] [(x,v)] qual func code none builtins) Q E s:=by
 simp only[newFunctionEnv,Option.isSome_none,Bool.false_eq_true,if_false]
 refine wpAny_bind (wpAny_alloc ?_)
 refine wpAny_bind (wpAny_layCells _ (fun name kind cells=>by cases hkc:kind==NameKind.cell<;>simp [hkc]) _ _ _ _ ?_)
 have sz:(s.heap.push {cls:= .type "frame",data:= .dict #[]}).objs.size=s.heap.objs.size+1:=Heap.size_push ..
 have ec:cellsFrom (s.heap.objs.size+1) scope.names [(y,c)]=[(x,s.heap.objs.size+1),(y,c)]:=by rw[hn];rfl
 have ep:pushCells (s.heap.push {cls:= .type "frame",data:= .dict #[]}) scope.names=(s.heap.push {cls:= .type "frame",data:= .dict #[]}).push {cls:= .type "cell",data:= .cell none}:=by rw[hn];rfl
 rw[show({s with heap:=s.heap.push {cls:= .type "frame",data:= .dict #[]}}:Shared).heap.objs.size=s.heap.objs.size+1 from sz,ec]
 show wpAny M A _ Q E {s with heap:=pushCells (s.heap.push {cls:= .type "frame",data:= .dict #[]}) scope.names}
 rw[ep]
 have kx:(newEnv scope s.heap.objs.size globals [(x,s.heap.objs.size+1),(y,c)] qual func code none builtins).kindOf x=some .cell:=by
  show scope.names.lookup x=_
  rw[hn];simp [List.lookup_cons]
 have cx:(newEnv scope s.heap.objs.size globals [(x,s.heap.objs.size+1),(y,c)] qual func code none builtins).cells.lookup x=some (s.heap.objs.size+1):=by
  show List.lookup x [(x,s.heap.objs.size+1),(y,c)]=_
  simp [List.lookup_cons]
 rw[List.forIn_cons]
 have ic:((s.heap.push {cls:= .type "frame",data:= .dict #[]}).push {cls:= .type "cell",data:= .cell none}).IsCell (s.heap.objs.size+1) none:=⟨_,by rw[←sz];exact Heap.get?_push_size _ rfl,rfl⟩
 refine wpAny_bind (wpAny_bind (wpAny_bind (wpAny_storeName_cell (s:={s with heap:=(s.heap.push {cls:= .type "frame",data:= .dict #[]}).push {cls:= .type "cell",data:= .cell none}}) hk kx cx ic fun h' hc hs=>wpAny_pure ?_)))
 dsimp only
 rw[List.forIn_nil]
 refine wpAny_pure (wpAny_pure ?_)
 have lt:s.heap.objs.size≠s.heap.objs.size+1:=by omega
 refine hQ h' (((Heap.Ns.new s.heap (.type "frame")).push _).sameBut hs lt) hc fun b o e=>?_
 exact hs.extBut b o (Nat.ne_of_lt (Nat.lt_succ_of_lt (Heap.lt_size e))) (Heap.get?_push_of_some _ (Heap.get?_push_of_some _ e))
end
def qz (qual:Str)(scope:Scope)(L f:Addr)(cd:Value)(x y:Str)(c:Addr):Env:=newEnv scope L mainGlobals [(x,L+1),(y,c)] (qual++".<locals>.") (some f) cd none builtinsNs
def pZ (P:Program)(w:World)(K:PySem.W.Frag)(mg:Str→Option Value)(base:Heap)(qual:Str)(scope:Scope)(f:Addr)(cd:Value)(A:Around)(outer:List Env)(s:Shared)(H:Hp)(x y:Str)(c:Addr):Cx where
 prog:=P
 w:=w
 K:=K
 mg:=mg
 base:=base
 A:=A.deeper (qz qual scope s.heap.objs.size f cd x y c)
 N:=[x,y]
 s₀:=s
 H₀:=H
 env:=qz qual scope s.heap.objs.size f cd x y c
 outer:=outer
 stack:=qz qual scope s.heap.objs.size f cd x y c::outer
 ex:=[]
 calm:=true
 fn:=fun z=>z==x
 pn:=[]
 xe:=fun _ _=>False
section
variable {P:Program} {w:World} {K:PySem.W.Frag} {mg:Str→Option Value} {base:Heap} {qual:Str} {scope:Scope} {f c:Addr} {cd:Value} {A:Around} {outer:List Env} {s:Shared} {H:Hp} {x y:Str}
theorem qi {h':Heap}{vx vy:V}{u v:Value}(hk:scope.kind= .function)(hn:scope.names=[(x,.cell),(y,.free)])(hxy:x≠y)(hd:A.handled=none)(e0:Env0 P w K mg base A outer s H)(hc:s.heap.IsCell c (some u))(hcn:H c=none)
  (ry:RelV vy u) (rx:RelV vx v) (n1:h'.Ns s.heap.objs.size (fun _=>none)) (n2:h'.IsCell (s.heap.objs.size+1) (some v)) (kp:∀b o,s.heap.get? b=some o→h'.get? b=some o):
  Inv (pZ P w K mg base qual scope f cd A outer s H x y c) [] [some vx,some vy] H {s with heap:=h'}:=by
 have noA:∀b:Addr,b∉(pZ P w K mg base qual scope f cd A outer s H x y c).ex:=fun b z=>absurd (show b∈([]:List Addr) from z) (by simp)
 have yx:(y==x)=false:=by simpa using Ne.symm hxy
 have lk:∀{z:Str} {a:Addr},(pZ P w K mg base qual scope f cd A outer s H x y c).env.cells.lookup z=some a→(z=x∧a=s.heap.objs.size+1)∨(z=y∧a=c):=fun{z a} e=>by
  have e':List.lookup z [(x,s.heap.objs.size+1),(y,c)]=some a:=e
  rw[List.lookup_cons] at e'
  cases q:z==x with
  |true=>rw[q] at e';cases e';exact .inl ⟨by simpa using q,rfl⟩
  |false=>
   rw[q] at e'
   rw[List.lookup_cons] at e'
   cases q2:z==y with
   |true=>rw[q2] at e';cases e';exact .inr ⟨by simpa using q2,rfl⟩
   |false=>rw[q2] at e';cases e'
 have lx:(pZ P w K mg base qual scope f cd A outer s H x y c).env.cells.lookup x=some (s.heap.objs.size+1):=by
  show List.lookup x [(x,s.heap.objs.size+1),(y,c)]=_
  simp [List.lookup_cons]
 have ly:(pZ P w K mg base qual scope f cd A outer s H x y c).env.cells.lookup y=some c:=by
  show List.lookup y [(x,s.heap.objs.size+1),(y,c)]=_
  simp [List.lookup_cons,yx]
 have cl:c<s.heap.objs.size:=hc.lt
 have kx:(pZ P w K mg base qual scope f cd A outer s H x y c).env.kindOf x=some .cell:=by
  show scope.names.lookup x=_
  rw[hn];simp [List.lookup_cons]
 have ky:(pZ P w K mg base qual scope f cd A outer s H x y c).env.kindOf y=some .free:=by
  show scope.names.lookup y=_
  rw[hn];simp [List.lookup_cons,yx]
 have kz:∀{z:Str} {k:NameKind},(pZ P w K mg base qual scope f cd A outer s H x y c).env.kindOf z=some k→z=x∨z=y:=fun{z k} e=>by
  have e':scope.names.lookup z=some k:=e
  rw[hn,List.lookup_cons] at e'
  cases q:z==x with
  |true=>exact .inl (by simpa using q)
  |false=>
   rw[q,List.lookup_cons] at e'
   cases q2:z==y with
   |true=>exact .inr (by simpa using q2)
   |false=>rw[q2] at e';cases e'
 refine⟨⟨e0.mod,hk,rfl,rfl,Nat.le_refl _,fun a b d h1 h2=>?_,fun z hz=>?_,fun z d h1 h2=>?_,fun _=>hd,Around.frames_deeper e0.frames,.inr ⟨rfl,rfl⟩,fun b z=>absurd z (noA b),e0.bs,e0.bsz,fun b _ _=>noA b,fun b z=>absurd z (noA b),e0.funs,e0.frf⟩,
  rfl,e0.bare,Un.kept kp,⟨_,n1,fun i z v' h1 h2 h3=>?_⟩,fun z d h=>?_,e0.hok.fresh (Nat.le_refl _),fun z d h=>?_,fun p hp=>absurd (show p∈([]:List (Addr×Obj)) from hp) (by simp),e0.hok.kept kp,rfl⟩
 ·rcases lk h1 with⟨rfl,e1⟩|⟨rfl,e1⟩<;>rcases lk h2 with⟨rfl,e2⟩|⟨rfl,e2⟩
  ·rfl
  ·exact absurd (e1.symm.trans e2) (Nat.ne_of_gt (Nat.lt_succ_of_lt cl))
  ·exact absurd (e2.symm.trans e1) (Nat.ne_of_gt (Nat.lt_succ_of_lt cl))
  ·rfl
 ·have:z=x∨z=y:=hz.elim kz kz
  rcases this with rfl|rfl
  ·exact⟨_,lx⟩
  ·exact⟨_,ly⟩
 ·have h1':z=x:=by simpa using(show(z==x)=true from h1)
  subst h1'
  rw[lx] at h2
  cases h2
  exact Nat.le_succ _
 ·match i,h1,h2 with
  |0,h1,h2=>
   cases h1;cases h2
   exact⟨v,rx,.inr ⟨.inl kx,_,lx,n2⟩⟩
  |1,h1,h2=>
   cases h1;cases h2
   obtain⟨oc,hoc,hd'⟩:=hc
   exact⟨u,ry,.inr ⟨.inr ky,_,ly,oc,kp _ _ hoc,hd'⟩⟩
  |n+2,h1,h2=>cases h1
 ·rcases lk h with⟨rfl,rfl⟩|⟨rfl,rfl⟩
  ·exact⟨_,n2⟩
  ·obtain⟨oc,hoc,hd'⟩:=hc
   exact⟨_,oc,kp _ _ hoc,hd'⟩
 ·rcases lk h with⟨rfl,rfl⟩|⟨rfl,rfl⟩
  ·exact e0.hok.fresh (Nat.le_succ _)
  ·exact hcn
theorem rq {pm ctv:Value}{c':Addr}{params:Arguments}{body:Expr}{t:TE}{vx vy:V}{u v:Value}{Q:VK}{k:Nat}(hr:Room (k+1) A)(e0:Env0 P w K mg base A outer s H)
  (ho:s.heap.get? f=some (PySem.W.kla_obj "<lambda>" qual params body scope [(y,c)] pm c' ctv)) (hcd:s.heap.CodeRec (.ref c') qual)
  (hk:scope.kind= .function) (hn:scope.names=[(x,.cell),(y,.free)]) (hxy:x≠y) (hco:scope.isCoroutine=false) (hg:scope.isGenerator=false)
  (hb:bindArgs (PySem.W.kla_fn "<lambda>" qual params body scope [(y,c)] pm (.ref c') ctv) ⟨[v],[]⟩=pure [(x,v)])
  (hc:s.heap.IsCell c (some u)) (hcn:H c=none) (ry:RelV vy u) (rx:RelV vx v)
  (ht:QE (pZ P w K mg base qual scope f (.ref c') A outer s H x y c) body t) (q:t [some vx,some vy] H Q):
  codeAny (model P w) A (.call (.ref f) ⟨[v],[]⟩) (CR C7 outer P w H s Q E0) s:=by
 refine PySem.W.kla_callFunE hr.depth ho rfl hco hg rfl hcd ?_
 rw[hb]
 refine wpAny_pure (qo hk hn fun h' n1 n2 kp=>⟨?_,?_⟩)
 ·exact(e0.mod.nolimit.keeps fun b o e=>(e0.bs b o e).1).keeps kp
 ·refine PySem.W.kla_codeExpr (wpAny_mono (ht.r [] _ _ _ _ (qi hk hn hxy hr.hd e0 hc hcn ry rx n1 n2 kp) q) (fun a s' hp=>?_) fun _ _ z=>z.elim)
  obtain⟨va,H',J,rv,z⟩:=hp
  exact⟨va,H',J.os,J.bare,J.base,J.hok,rv,z⟩
end
end L2
set_option Elab.async false
set_option linter.all false
set_option maxRecDepth 100000
set_option maxHeartbeats 4000000
namespace L2
open PySem PySem.Spec PyProof.Rows
def iV (H H':Hp):Prop:=∀b o,H b=some o→(∀ps,o≠ .tbl ps)→H' b=some o
theorem Inv.adopt {X:Cx}{pins:List (Addr×Obj)}{σ:St}{H:Hp}{s:Shared}{h':Heap}{a k:Addr}{xs:List V}{its:Array Value}{e:Nat}(I:Inv X pins σ H s)(ha:L3 X pins H a)(hk:L3 X pins H k)(kp:∀b o,b≠k→b≠a→s.heap.get? b=some o→h'.get? b=some o)
  (hl:h'.get? a=some (seqObj "list" its e)) (hko:∃o,h'.get? k=some o) (rv:Vals xs its.toList) (hz:xs.length≤sizeLine):Inv X pins σ (i6 H a (.lst xs)) {s with heap:=h'}:=by
 have nt:∀b u,H b=some u→b≠a∧b≠k:=fun b u q=>⟨b9 q ha.1,b9 q hk.1⟩
 refine I.step (t':=s.toks) (g':=s.gens) (d':=s.drawn) (ch:=[a,k]) (fun b hb=>?_) (fun b o _ _ hc q _=>kp b o (fun z=>hc (by simp [z])) (fun z=>hc (by simp [z])) q) (fun b o _ _ hc q _=>⟨o.slots,kp b o (fun z=>hc (by simp [z])) (fun z=>hc (by simp [z])) q⟩)
  (fun b o hc _ n=>by rw[b0 (fun z=>hc (by simp [z]))];exact n) (fun b o hc q=>⟨o,kp b o (fun z=>hc (by simp [z])) (fun z=>hc (by simp [z])) q⟩) (fun b xs q=>by rw[b0 (nt b _ q).1];exact q) (fun b o u q=>by rw[b0 (nt b _ q).1];exact q)
  (fun b ps q=>⟨#[],by rw[b0 (nt b _ q).1,q];simp⟩) (fun m hm=>?_) (fun b u q=>?_) I.bare
 ·have hb':b=a∨b=k:=by simpa using hb
  rcases hb' with rfl|rfl
  ·exact⟨ha.2.2.2.1,ha.2.1,ha.2.2.2.2.1,ha.2.2.2.2.2⟩
  ·exact⟨hk.2.2.2.1,hk.2.1,hk.2.2.2.2.1,hk.2.2.2.2.2⟩
 ·obtain⟨o,es,ep,ho,r⟩:=hm
  exact⟨o,es,ep,kp _ o (Ne.symm hk.2.1) (Ne.symm ha.2.1) ho,r⟩
 ·by_cases hb:b=a
  ·subst hb
   rw[c8] at q
   cases q
   exact⟨hz,its.toList,e,rv,by rw[Array.toArray_toList];exact hl⟩
  ·rw[b0 hb] at q
   refine(I.hok b u q).stay (fun c v hc r=>?_) (fun c r=>by rw[b0 (nt c _ r).1];exact r) fun c xs r=>by rw[b0 (nt c _ r).1];exact r
   rcases hc with rfl|hc
   ·exact kp c v (nt c _ q).2 (nt c _ q).1 r
   ·exact kp c v (nt c _ hc).2 (nt c _ hc).1 r
def ba (h:Heap):Value→iD
 | .ref a=>match h.get? a with
  |some o=>match o.data with
   | .seq xs _=>xs.toList.map fun v=>match v with
    | .str x _=>x.cps.toList
    |_=>[]
   |_=>[]
  |none=>[]
 |_=>[]
theorem de:∀{ss:List Str} {us:List Value},Vals (ss.map V.str) us→us.map (fun v=>match v with| .str x _=>x.cps.toList|_=>[])=A7 ss
 |[],_,h=>by cases h;rfl
 |x::ss,_,h=>by
  cases h with
  |cons r t=>
   obtain⟨tk,rfl⟩:=(show ∃tk,_=Value.str x tk from r)
   show x.cps.toList::_=x.cps.toList::_
   rw[de t];rfl
theorem LTx.key {h:Heap}{v:Value}{ss:List Str}(l:LTx h v ss):ba h v=A7 ss:=by
 obtain⟨a,us,rfl,⟨o,e,hc,n,d⟩,rv⟩:=l
 simp only[ba,e,d]
 exact de rv
def uf (SKey:Hp→Addr→Addr×List Str→Prop)(Pl:Addr)(yv:Option V):List V→Hp→VK→Prop:=fun xs H Q=>∃(l ord:Addr) (ds:List (Addr×List Str)),xs=[.ref l]∧yv=some (.ref ord)∧H l=some (.lst (ds.map fun d=>V.ref d.1))∧H Pl=some (.tbl #[])∧(∀d∈ds,SKey H ord d)∧
 ∀ds':List (Addr×List Str),ds'.Perm ds→ds'.Pairwise (fun a b=>¬A7 b.2<A7 a.2)→∀p H',H p=none→iV H H'→H' p=some (.lst (ds'.map fun d=>V.ref d.1))→Q (.ref p) H'
def tSortK (SKey:Hp→Addr→Addr×List Str→Prop)(Pl:Addr)(j:Nat)(t:TA):TE:=fun σ H Q=>t σ H fun vs H1=>uf SKey Pl ((σ[j]?).join) vs H1 Q
section
variable {X:Cx} {p pos kp lp:Pos} {e body:Expr} {params:Arguments} {scope:Scope} {tA:TA} {t:TE} {x y:Str} {j k:Nat} {c Pl:Addr}
theorem pS {SKey:Hp→Addr→Addr×List Str→Prop}(hmono:∀H H' ord d,iV H H'→SKey H ord d→SKey H' ord d)(hr:Room (k+4) X.A)(hg:Gl X (Str.ofString "sorted"))(hm:X.mg (Str.ofString "sorted")=none)(hcode:X.env.code= .ref c)(C:PySem.W.CodeHd X.base c Pl)(B:Q0 X.mg X.base)
  (hN:X.N[j]?=some y) (hy:X.env.kindOf y=some .cell) (hfy:X.fn y=true) (ha:QA X [e] tA) (hk:scope.kind= .function) (hn:scope.names=[(x,.cell),(y,.free)]) (hxy:x≠y) (hco:scope.isCoroutine=false) (hge:scope.isGenerator=false)
  (hdef:defaultsOf params X.env=([],[])) (hb:∀(qual:Str) (cl:List (Str×Addr)) (pm cv ctv v:Value),bindArgs (PySem.W.kla_fn "<lambda>" qual params body scope cl pm cv ctv) ⟨[v],[]⟩=pure [(x,v)])
  (ht:∀(qual:Str) (f c' cy:Addr) (A:Around) (outer:List Env) (s:Shared) (H:Hp),Room (k+1) (A.deeper (qz qual scope s.heap.objs.size f (.ref c') x y cy))→QE (pZ X.prog X.w X.K X.mg X.base qual scope f (.ref c') A outer s H x y cy) body t)
  (hread:∀(H:Hp) (ord:Addr) (d:Addr×List Str) (Q:VK),SKey H ord d→(∀l H',H l=none→(∀b o,H b=some o→H' b=some o)→H' l=some (.lst (d.2.map V.str))→Q (.ref l) H')→t [some (.ref d.1),some (.ref ord)] H Q)
  (he:backTo pos (starEach [e] X.env)=(false,eval e X.env)::backTo pos (starEach [] X.env):=by rfl) (hpl:(backTo pos (starEach [e] X.env)).any (·.1)=false:=by rfl):
  QE X (.Call (.Name (Str.ofString "sorted") p) [e] [⟨some (Str.ofString "key"),.Lambda params body scope lp,kp⟩] pos) (tSortK SKey Pl j tA):=by
 refine⟨fun pins s σ H Q I h=>?_⟩
 refine wpAny_Call_Name_kw (P1 I hg hm (show bootBuiltins (Str.ofString "sorted")=some (.builtin "sorted") by rfl) ?_ (by decide) (by decide))
 refine callWith_kw ?_ he hpl
 refine A2 (ha.r pos pins s σ H _ I h) fun us s1 hp=>?_
 obtain⟨vs,H1,I1,r1,l,ord,ds,rfl,hσ,hl,hT,hds,fin⟩:=hp
 obtain⟨ul,rfl,rl⟩:=D7 r1
 cases rl
 obtain⟨cy,hcy⟩:=I1.ok.has y (.inl hy)
 have hcl:closureFor scope X.env=pure [(y,cy)]:=by
  rw[U3 (fun z hz e=>by
   rw[hn] at hz
   rcases List.mem_cons.mp hz with rfl|hz
   ·cases e
   ·rw[List.mem_singleton.mp hz];exact⟨cy,hcy⟩)]
  unfold X8
  rw[hn]
  show pure [(y,(X.env.cells.lookup y).getD 0)]=_
  rw[hcy];rfl
 refine kws_cons (oB I1 hcode C hT trivial rfl B hcl hdef fun f c' ctv pm h2 tk I2 of hrec sf sc old=>kws_nil ?_)
 obtain⟨H2,eH2⟩:∃H2,H2=i6 H1 Pl (.tbl (#[]++ #[rawInt lp.line,rawInt lp.col,.ref c'])):=⟨_,rfl⟩
 rw[←eH2] at I2
 obtain⟨s2,es2⟩:∃s2:Shared,s2={s1 with heap:=h2,toks:=tk}:=⟨_,rfl⟩
 rw[←es2] at I2⊢
 have eh:s2.heap=h2:=by rw[es2]
 rw[←eh] at of hrec old
 have sz12:s1.heap.objs.size≤s2.heap.objs.size:=Nat.le_trans sf (Nat.le_of_lt (Heap.lt_size of))
 have s12:iV H1 H2:=fun b o q n=>by
  rw[eH2,b0 (fun z=>by rw[z,hT] at q;exact n _ (Option.some.inj q).symm)];exact q
 have hl2:H2 l=some (.lst (ds.map fun d=>V.ref d.1)):=s12 _ _ hl fun _ z=>nomatch z
 have hds2:∀d∈ds,SKey H2 ord d:=fun d hd=>hmono _ _ _ _ s12 (hds d hd)
 obtain⟨hz,its,n0,rv0,hle,hlo⟩:ds.length≤sizeLine∧∃(its:List Value) (n:Nat),Vals (ds.map fun d=>V.ref d.1) its∧ds.length=its.length∧s2.heap.get? l=some {cls:= .type "list",data:= .seq its.toArray n}:=by
  obtain⟨z,its,n,a,b,d⟩:=I2.lstM hl2
  rw[List.length_map] at z b
  exact⟨z,its,n,a,b,d⟩
 have ei:=ik (fun d:Addr×List Str=>d.1) rv0
 subst ei
 obtain⟨uy,ry,hcell⟩:∃uy,RelV (.ref ord) uy∧s2.heap.IsCell cy (some uy):=by
  obtain⟨m,_,hloc⟩:=I2.loc
  have hσ2:σ[j]?=some (some (.ref ord)):=by
   cases q:σ[j]? with
   |none=>rw[q] at hσ;cases hσ
   |some z=>rw[q] at hσ;exact congrArg some hσ
  obtain⟨u,r,lk⟩:=hloc j y _ hN hσ2 (.inr (.inl hy))
  rcases lk with⟨z,_⟩|⟨_,c1,hc1,hz1⟩
  ·rw[hy] at z;cases z
  ·rw[hcy] at hc1;cases hc1
   exact⟨u,r,hz1⟩
 have hcn2:H2 cy=none:=I2.freeC y cy hcy
 have fA:∀{H':Hp},H' (s2.heap.objs.size+1)=none→L3 X pins H' (s2.heap.objs.size+1):=fun z=>I2.fpOk (Nat.le_succ _) z
 have fK:∀{H':Hp},H' (s2.heap.objs.size+3)=none→L3 X pins H' (s2.heap.objs.size+3):=fun z=>I2.fpOk (Nat.le_add_right _ 3) z
 have hfn:H2 f=none:=by
  rw[eH2,b0 (fun z=>by rw[z] at sf;exact absurd (Nat.lt_of_lt_of_le (I1.hok.lt hT) sf) (Nat.lt_irrefl _))]
  exact I1.hok.fresh sf
 have hcn':H2 c'=none:=by
  rw[eH2,b0 (fun z=>by rw[z] at sc;exact absurd (Nat.lt_of_lt_of_le (I1.hok.lt hT) sc) (Nat.lt_irrefl _))]
  exact I1.hok.fresh sc
 let J:List Value→Shared→Prop:=fun ks s'=>∃(H':Hp) (as:List Addr),Inv X pins σ H' s'∧ks=as.map Value.ref∧(∀b o,H2 b=some o→H' b=some o)∧H' (s2.heap.objs.size+1)=none∧H' (s2.heap.objs.size+3)=none∧H' f=none∧H' c'=none∧
  (∃e,s'.heap.get? (s2.heap.objs.size+3)=some (seqObj "list" ks.toArray e))∧(∃o,s'.heap.get? (s2.heap.objs.size+1)=some o)∧s'.heap.get? f=some (PySem.W.kla_obj "<lambda>" (X.env.qual++"<lambda>") params body scope [(y,cy)] pm c' ctv)∧s'.heap.CodeRec (.ref c') (X.env.qual++"<lambda>")∧s'.heap.IsCell cy (some uy)∧
  ∀(i:Nat) (b:Addr),as[i]?=some b→∃d:Addr×List Str,ds[i]?=some d∧H' b=some (.lst (d.2.map V.str))
 have lsat:∀{H':Hp} {s':Shared} {b:Addr} {ss:List Str},Inv X pins σ H' s'→H' b=some (.lst (ss.map V.str))→LTx s'.heap (.ref b) ss:=fun{H' s' b ss} I' q=>by
  obtain⟨z,its,n,a,_,d⟩:=I'.lstM q
  exact⟨b,its,rfl,⟨_,d,rfl,_,rfl⟩,a⟩
 refine iH (s:=s2) (kd:=oneType') (rk:=fun s' v=>qa (ds.map fun d:Addr×List Str=>A7 d.2) (ba s'.heap v)) J ⟨_,hlo,rfl,_,rfl⟩ (by rw[List.length_map];exact hz) (fun h6 keep sz6 hk6 ha6=>?_) (fun ks s' hJ=>?_) (fun ks v s' hv hJ=>?_) (fun ks s' hJ hlen h2l=>?_) fun ks s' out h' e3 hJ hlen ko kp3 hl3 hk3 sz3=>?_
 ·obtain⟨e1,ha6⟩:=ha6
  refine⟨H2,[],I2.kept (t':=s2.toks) keep,rfl,fun _ _ q=>q,I2.hok.fresh (Nat.le_succ _),I2.hok.fresh (Nat.le_add_right _ 3),hfn,hcn',⟨0,hk6⟩,⟨_,ha6⟩,keep _ _ of,?_,?_,fun i b q=>?_⟩
  ·obtain⟨c₂,oc,vs,t2,e2,hoc,hd,hv⟩:=hrec
   exact⟨c₂,oc,vs,t2,e2,keep _ _ hoc,hd,hv⟩
  ·obtain⟨oc,hoc,hd⟩:=hcell
   exact⟨oc,keep _ _ hoc,hd⟩
  ·simp at q
 ·obtain⟨H',as,I',rfl,s',n1,n3,nf,ncd,hkS,_⟩:=hJ
  exact hkS
 ·obtain⟨H',as,I',rfl,sm,n1,n3,nf,ncd,⟨e,hkS⟩,⟨oa,hoa⟩,of',hrec',hcell',has⟩:=hJ
  rw[List.length_map] at hv
  obtain⟨d,hd,rfl⟩:∃d,ds[as.length]?=some d∧v= .ref d.1:=by
   rw[List.getElem?_map] at hv
   obtain⟨d,h1,h2⟩:=Option.map_eq_some_iff.mp hv
   exact⟨d,h1,h2.symm⟩
  have hsk:SKey H' ord d:=hmono _ _ _ _ (fun b o q _=>sm b o q) (hds2 d (List.mem_of_getElem? hd))
  have cyn:H' cy=none:=I'.freeC y cy hcy
  have r2:Room (k+1+1) X.A.in1.in1:=(hr.in1.in1:Room (k+2) X.A.in1.in1)
  have run:=rq (qual:=X.env.qual++"<lambda>") (vx:= .ref d.1) (vy:= .ref ord) (v:= .ref d.1) (Q:=fun v H''=>∃l,v= .ref l∧H' l=none∧(∀b o,H' b=some o→H'' b=some o)∧H'' l=some (.lst (d.2.map V.str))) r2 I'.env0.in1.in1 of' hrec' hk hn hxy hco hge (hb _ _ _ _ _ _) hcell' cyn ry rfl (ht _ _ _ _ _ _ _ _ (r2.deeper _)) (hread H' ord d _ hsk fun l H'' a1 a2 a3=>⟨l,rfl,a1,a2,a3⟩)
  refine wpAny_call (codeAny_mono run fun r s'' hcr=>?_)
  cases r with
  |error e=>exact hcr.elim
  |ok fl=>
   cases fl with
   |next=>exact False.elim hcr
   |brk=>exact False.elim hcr
   |cont=>exact False.elim hcr
   |ret u=>
    obtain⟨v2,H3,os3,bare3,un3,hok3,rv3,lb,rfl,b1,b2,b3⟩:=hcr
    cases rv3
    have I3:Inv X pins σ H3 s'':=I'.call' os3 un3 hok3 bare3 fun b z=>nomatch z
    have nfr:∀b,L3 X pins H' b→b∉fm X.stack:=fun b fp z=>by
     rcases List.mem_cons.mp (I'.stkSub b z) with q|q
     ·exact fp.2.1 q
     ·exact fp.2.2.1 q
    have kS3:=un3.keep _ _ hkS n3 (nfr _ (fK n3)) (by simp)
    have a3:=un3.keep _ _ hoa n1 (nfr _ (fA n1)) (by simp)
    have m3:=un3.free _ _ hkS n3 (by simp)
    have m1:=un3.free _ _ hoa n1 (by simp)
    have mf:=un3.free _ _ of' nf (by simp)
    obtain⟨c₂,oc,vs2,t2,e2,hoc,hdc,hvc⟩:=hrec'
    cases e2
    have mc:=un3.free _ _ hoc ncd (by simp)
    have of3:=un3.keep _ _ of' nf (nfr _ (I1.fpOk sf nf)) (by simp)
    have oc3:=un3.keep _ _ hoc ncd (nfr _ (I1.fpOk sc ncd)) (by simp)
    obtain⟨ocl,hocl,hdl⟩:=hcell'
    have ocl3:=un3.keep _ _ hocl cyn (fun z=>by
     rcases List.mem_cons.mp (I'.stkSub _ z) with q|q
     ·exact I'.cne y cy hcy q
     ·obtain⟨_,ob,hob,_⟩:=I'.ok.funs.mem q
      exact absurd (Nat.lt_of_lt_of_le (Heap.lt_size hob) (I'.ok.cab y cy hfy hcy)) (Nat.lt_irrefl _)) (by simp)
    have upn:∀b o,b≠s2.heap.objs.size+3→s''.heap.get? b=some o→(s''.heap.update (s2.heap.objs.size+3) (Obj.mapSeq (·.push (.ref lb)))).get? b=some o:=fun b o z q=>by rw[Heap.get?_update_ne _ _ _ _ z];exact q
    have fk:=fK m3
    have nk:∀{b:Addr} {o:Obj},s''.heap.get? b=some o→(∀xs n,o.data≠ .seq xs n)→b≠s2.heap.objs.size+3:=fun{b o} q nd z=>by
     rw[z,kS3] at q;cases q;exact nd _ _ rfl
    refine⟨by rw[a3,hoa],⟨e,kS3⟩,H3,as++[lb],I3.turned (t':=s''.toks) upn fk.1 fk.2.1 fk.2.2.2.1 fk.2.2.2.2.1 fk.2.2.2.2.2,by simp,fun b o q=>b2 _ _ (sm _ _ q),m1,m3,mf,mc,?_,⟨oa,upn _ _ (by omega) a3⟩,upn _ _ (nk of3 fun _ _ z=>nomatch z) of3,?_,?_,fun i b q=>?_⟩
    ·have g:=get?_update_seq kS3 fun z=>z.push (.ref lb)
     rw[show((as.map Value.ref).toArray.push (Value.ref lb))=(as.map Value.ref++[Value.ref lb]).toArray by simp] at g
     exact⟨_,g⟩
    ·exact⟨c',oc,vs2,t2,rfl,upn _ _ (nk oc3 fun _ _ z=>by rw[hdc] at z;cases z) oc3,hdc,hvc⟩
    ·exact⟨ocl,upn _ _ (nk ocl3 fun _ _ z=>by rw[hdl] at z;cases z) ocl3,hdl⟩
    ·rcases Nat.lt_or_ge i as.length with z|z
     ·rw[List.getElem?_append_left z] at q
      obtain⟨d',h1,h2⟩:=has i b q
      exact⟨d',h1,b2 _ _ h2⟩
     ·rw[List.getElem?_append_right z] at q
      have zi:i -as.length=0:=by
       rcases Nat.eq_zero_or_pos (i -as.length) with y|y
       ·exact y
       ·rw[List.getElem?_eq_none (show [lb].length≤_ from y)] at q;cases q
      rw[zi] at q
      cases q
      rw[show i=as.length by omega]
      exact⟨d,hd,b3⟩
 ·obtain⟨H',as,I',rfl,sm,n1,n3,nf,ncd,hkS,hoa,of',hrec',hcell',has⟩:=hJ
  have el:as.length=ds.length:=by rw[List.length_map,List.length_map] at hlen;exact hlen
  have each:∀v∈as.map Value.ref,∃d∈ds,LTx s'.heap v d.2:=fun v hv=>by
   obtain⟨b,hb',rfl⟩:=List.mem_map.mp hv
   obtain⟨i,hi,e⟩:=List.getElem_of_mem hb'
   obtain⟨d,h1,h2⟩:=has i b (by rw[←e];exact List.getElem?_eq_getElem hi)
   exact⟨d,List.mem_of_getElem? h1,lsat I' h2⟩
  have ne:as.map Value.ref≠[]:=fun z=>by
   have:=congrArg List.length z
   rw[List.length_map,el] at this
   rw[List.length_map] at h2l
   simp at this
   rw[this] at h2l
   exact absurd h2l (by simp)
  refine⟨fun E' Q' q'=>nW ne (fun v hv=>?_) q',?_⟩
  ·obtain⟨d,_,a,us,e,hl',_⟩:=each v hv
   exact⟨a,us.toArray,e,hl'⟩
  ·intro x1 y1 E' Q' hx hy1 q'
   have mem:∀z,(∃p∈((as.map Value.ref).toArray.zip (ds.map fun d=>Value.ref d.1).toArray).toList,p.1=z)→z∈as.map Value.ref:=fun z hz=>by
    obtain⟨⟨p1,p2⟩,hp,rfl⟩:=hz
    rw[show((as.map Value.ref).toArray.zip (ds.map fun d=>Value.ref d.1).toArray).toList=(as.map Value.ref).zip (ds.map fun d=>Value.ref d.1) by simp] at hp
    exact(List.of_mem_zip hp).1
   obtain⟨d1,m1,l1⟩:=each x1 (mem x1 hx)
   obtain⟨d2,m2,l2⟩:=each y1 (mem y1 hy1)
   replace q':Q' (decide (qa (ds.map fun d:Addr×List Str=>A7 d.2) (ba s'.heap x1)<qa (ds.map fun d:Addr×List Str=>A7 d.2) (ba s'.heap y1))) s':=q'
   rw[l1.key,l2.key,sI (List.mem_map.mpr ⟨d1,m1,rfl⟩)] at q'
   exact LTx.lt l1 l2 (by have:=hr.un;show X.A.units+1+1+8<cLine;lia) q'
 ·obtain⟨H',as,I',rfl,sm,n1,n3,nf,ncd,⟨ek,hkS⟩,⟨oa,hoa⟩,of',hrec',hcell',has⟩:=hJ
  have el:as.length=ds.length:=by rw[List.length_map,List.length_map] at hlen;exact hlen
  obtain⟨ps,pm,eo,pw⟩:=ko
  have ez:(as.map Value.ref).zip (ds.map fun d=>Value.ref d.1)=(as.zip ds).map fun z=>(Value.ref z.1,Value.ref z.2.1):=by rw[List.zip_map];rfl
  rw[ez] at pm
  obtain⟨zs,rfl,pz⟩:=fW (fun z:Addr×(Addr×List Str)=>(Value.ref z.1,Value.ref z.2.1)) pm _ rfl
  have eo2:out.toList=(zs.map (·.2)).map fun d=>Value.ref d.1:=by rw[eo,List.map_map,List.map_map];rfl
  have pd:(zs.map (·.2)).Perm ds:=by
   refine(pz.map (·.2)).trans (List.Perm.of_eq ?_)
   exact List.map_snd_zip (by rw[el];exact Nat.le_refl _)
  have hl':=pd.length_eq
  have each:∀z∈zs,LTx s'.heap (.ref z.1) z.2.2∧z.2∈ds:=fun z hz'=>by
   have hm:=pz.mem_iff.mp hz'
   obtain⟨i,hi,e⟩:=List.getElem_of_mem hm
   have hi1:i<as.length:=by have:=hi;rw[List.length_zip] at this;omega
   have hi2:i<ds.length:=by have:=hi;rw[List.length_zip] at this;omega
   rw[List.getElem_zip] at e
   obtain⟨d,h1,h2⟩:=has i as[i] (List.getElem?_eq_getElem hi1)
   rw[List.getElem?_eq_getElem hi2] at h1
   cases h1
   rw[←e]
   exact⟨lsat I' h2,List.getElem_mem hi2⟩
  refine⟨.ref (s2.heap.objs.size+1),i6 H' (s2.heap.objs.size+1) (.lst ((zs.map (·.2)).map fun d=>V.ref d.1)),I'.adopt (fA n1) (fK n3) kp3 hl3 hk3 (by rw[eo2];exact aW (fun d:Addr×List Str=>d.1) _) (by rw[List.length_map,hl'];exact hz),rfl,?_⟩
  refine fin (zs.map (·.2)) pd ?_ _ _ (I1.hok.fresh (Nat.le_trans sz12 (Nat.le_succ _))) (fun b o q nt=>?_) c8
  ·rw[List.pairwise_map] at pw⊢
   refine pw.imp_of_mem fun{a b} ma mb z=>?_
   have z2:qa (ds.map fun d=>A7 d.2) (ba s'.heap (.ref a.1))≤qa (ds.map fun d=>A7 d.2) (ba s'.heap (.ref b.1)):=z
   rw[(each a ma).1.key,(each b mb).1.key] at z2
   exact wu (List.mem_map.mpr ⟨_,(each b mb).2,rfl⟩) z2
  ·have q2:=sm _ _ (s12 _ _ q nt)
   rw[b0 (fun z=>by rw[z,n1] at q2;cases q2)]
   exact q2
end
end L2
set_option Elab.async false
set_option linter.all false
set_option maxRecDepth 100000
set_option maxHeartbeats 4000000
namespace L2
open PySem PySem.Spec PyProof.Rows
theorem kg {P:Program}{w:World}{K:PySem.W.Frag}{mg mb:Str→Option Value}{CX:fQ}{k:Nat}{fa a c Pl:Addr}{fd:FuncData}{x:Str}{sp:Sp}{s₁:Shared}{vs:List Value}{ns:List Int}
  (KX:K.In s₁.heap) (hKP:K.lookup Pl=none) (hTb:s₁.heap.TableAt c Pl #[]) (hns:s₁.heap.Ns mainGlobals mg) (hb:s₁.heap.Ns builtinsNs mb) (hbb:∀x:Str,x≠"__name__"→mb x=bootBuiltins x) (hlim:s₁.heap.NoLimit) (B:Q0 mg s₁.heap) (hg:s₁.gens= #[])
  (ha:s₁.heap.get? a=some {cls:= .type "list",data:= .seq vs.toArray}) (hi:IntsAre vs ns) (hl:ns.length≤sizeLine) (hr:Room k callerA)
  (F:∀base:Heap,K.In base→base.Ns mainGlobals mg→Q0 mg base→A0 P w K mg base CX k fa fd [x] sp) (hbind:∀(s:Shared) (u:Value),BindsTo s fd ⟨[u],[]⟩ [(x,u)])
  (hsp:∀H:Hp,H Pl=some (.tbl #[])→SqL K H a (ns.map V.int)→sp [.ref a] H (fun v _=>v= .bl true) fun _ _ _=>False)
  (hCX:∀H e s',CX [] H s₁ (fun _ _ _=>False) e s'→False):
  codeAny (model P w) callerA (.call (.ref fa) ⟨[.ref a],[]⟩) (fun r s'=>r= .ok (.ret (.bool true))∧OldK s₁.heap s'.heap∧s'.os=s₁.os∧AllBare s'.gens) s₁:=by
 have rv:=cW hi
 have lenV:=hi.length
 have hPo:=hTb.2
 have aP:a≠Pl:=fun z=>by rw[z,hPo] at ha;cases ha
 have core:∀H:Hp,H Pl=some (.tbl #[])→(∀b,b≠Pl→H b=none∨∃o xs,H b=some (.frz o (.lst xs)))→SqL K H a (ns.map V.int)→HOk P w H s₁.heap→(∀b,H b≠none→b=a∨b=Pl)→(H a≠none→K.lookup a=none)→
   codeAny (model P w) callerA (.call (.ref fa) ⟨[.ref a],[]⟩) (fun r s'=>r= .ok (.ret (.bool true))∧OldK s₁.heap s'.heap∧s'.os=s₁.os∧AllBare s'.gens) s₁:=by
  intro H hHP hO hS hok hA hK
  have base_of:∀{b:Addr} {o:Obj},s₁.heap.get? b=some o→H b=none→(cb s₁.heap H).get? b=some o:=fun e n=>mT e n
  have noA:∀{b:Addr} {o:Obj},s₁.heap.get? b=some o→((∃es ep,o.data= .dict es ep)∨o.data= .plain)→H b=none:=fun{b o} e d=>by
   cases q:H b with
   |none=>rfl
   |some u=>
    rcases hA b (by rw[q];simp) with e'|e'
    ·subst e'
     rw[ha] at e;cases e
     rcases d with⟨_,_,d⟩|d<;>cases d
    ·subst e'
     rw[hPo] at e;cases e
     rcases d with⟨_,_,d⟩|d<;>cases d
  have nsK:∀{b:Addr} {m:Str→Option Value},s₁.heap.Ns b m→(cb s₁.heap H).Ns b m:=fun{b m} ⟨o,es,ep,e,d,r⟩=>⟨o,es,ep,base_of e (noA e (.inl ⟨es,ep,d⟩)),d,r⟩
  have hKb:K.In (cb s₁.heap H):=fun b o e=>base_of (KX b o e) (by
   cases q:H b with
   |none=>rfl
   |some u=>
    rcases hA b (by rw[q];simp) with e'|e'
    ·subst e'
     rw[hK (by rw[q];simp)] at e;cases e
    ·subst e'
     rw[hKP] at e;cases e)
  have hM:Mod K mg (cb s₁.heap H):=⟨hKb,nsK hns,⟨mb,nsK hb,hbb⟩,let ⟨mc,h1,h2⟩:=hlim;⟨mc,nsK h1,h2⟩⟩
  have hB:Q0 mg (cb s₁.heap H):=by
   obtain⟨bm,ob,b1,b2,b3,b4,b5,b6⟩:=B
   exact⟨bm,ob,b1,b2,base_of b3 (noA b3 (.inr b6)),b4,b5,b6⟩
  have e0:Env0 P w K mg (cb s₁.heap H) callerA [] s₁ H:=⟨rfl,hM,fun b o e=>rj e,Nat.le_of_eq (kM _ _),trivial,fun b hb=>absurd (show b∈([]:List Addr) from hb) (by simp),hok,.of_eq hg⟩
  refine codeAny_mono ((F _ hKb (nsK hns) hB).run callerA [] s₁ H ⟨[.ref a],[]⟩ [.ref a] [.ref a] _ _ hr e0 (hbind s₁ (.ref a)) (.cons rfl .nil) (hsp H hHP hS)) fun r s' h=>?_
  cases r with
  |error e=>exact(hCX H e s' h).elim
  |ok fl=>
   cases fl with
   |next=>exact False.elim h
   |brk=>exact False.elim h
   |cont=>exact False.elim h
   |ret u=>
    obtain⟨v,H',os,bare,un,hok',r',q⟩:=h
    have q':v= .bl true:=q
    subst q'
    obtain rfl:u=Value.bool true:=r'
    have keep:∀b o,b≠Pl→s₁.heap.get? b=some o→s'.heap.get? b=some o:=fun b o nb e=>by
     cases q:H b with
     |none=>exact un.keep b o e q (by intro z;exact absurd (show b∈([]:List Addr) from z) (by simp)) (by simp)
     |some u=>
      rcases hO b nb with z|⟨ob,xs,z⟩
      ·rw[q] at z;cases z
      ·have z2:=un.frzs b ob _ z
       obtain⟨e1,_⟩:=hok b _ z
       obtain⟨e2,_⟩:=hok' b _ z2
       rw[e] at e1;cases e1
       exact e2
    obtain⟨more,hm⟩:=un.tbls Pl #[] hHP
    have hP':s'.heap.get? Pl=some {cls:= .none,data:= .fields (#[]++more)}:=hok' Pl _ hm
    refine⟨rfl,⟨fun b o e=>?_,fun b o e=>?_⟩,os,bare⟩
    ·by_cases z:b=Pl
     ·subst z
      rw[hPo] at e;cases e
      exact .inr (.inl ⟨hTb.isCodeTable,rfl, #[],more,rfl,hP'⟩)
     ·exact .inl (keep b o z e)
    ·by_cases z:b=Pl
     ·exact⟨_,z▸hP'⟩
     ·exact⟨o,keep b o z e⟩
 cases hk:K.lookup a with
 |some o=>
  have e:=KX a o hk
  rw[ha] at e
  cases e
  refine core (fun b=>if b=Pl then some (.tbl #[]) else none) (if_pos rfl) (fun b n=> .inl (if_neg n)) (.inr ⟨_,vs.toArray,_,hk,rfl,rfl,rfl,by rw[List.size_toArray,lenV];exact hl,by simpa using rv⟩) (fun b u z=>?_) (fun b z=>?_) fun z=>absurd (if_neg aP) z
  ·by_cases hb:b=Pl
   ·have z':=(if_pos hb).symm.trans z
    cases z'
    subst hb
    exact hPo
   ·have z':=(if_neg hb).symm.trans z
    cases z'
  ·by_cases hb:b=Pl
   ·exact .inr hb
   ·exact absurd (if_neg hb) z
 |none=>
  refine core (fun b=>if b=Pl then some (.tbl #[]) else if b=a then some (.frz {cls:= .type "list",data:= .seq vs.toArray} (.lst (ns.map V.int))) else none) (if_pos rfl) (fun b n=>?_) (.inl (.inr ⟨{cls:= .type "list",data:= .seq vs.toArray},?_⟩)) (fun b u z=>?_) (fun b z=>?_) fun _=>hk
  ·try dsimp only
   rw[if_neg n]
   by_cases hb:b=a
   ·exact .inr ⟨_,_,if_pos hb⟩
   ·exact .inl (if_neg hb)
  ·try dsimp only
   rw[if_neg aP,if_pos rfl]
  ·try dsimp only at z
   by_cases hP:b=Pl
   ·rw[if_pos hP] at z
    cases z
    subst hP
    exact hPo
   ·rw[if_neg hP] at z
    by_cases hb:b=a
    ·rw[if_pos hb] at z
     cases z
     subst hb
     exact⟨ha,by rw[List.length_map];exact hl,vs,_,rv,ha⟩
    ·rw[if_neg hb] at z
     cases z
  ·try dsimp only at z
   by_cases hP:b=Pl
   ·exact .inr hP
   ·rw[if_neg hP] at z
    by_cases hb:b=a
    ·exact .inl hb
    ·exact absurd (if_neg hb) z
theorem walk_ofT {l:PySem.W.OpenLaw}{n k:Nat}{q:Program}{loose:List Str}{XP:(Str→Option Value)→Heap→Prop}{YP:World→Heap→Prop}{d:DefRec}{K:Params→PySem.W.Frag}{CX:fQ}{sp:PySem.W.Frag→Addr→Sp}{x:Str}{ts:List Addr}
  (hn:l.most=some n) (hn2:n≤sizeLine) (hdf:d.params.defaults=[]) (hr:Room k callerA)
  (hY:∀(w:World) (h:Heap),YP w h→(K w.params).In h) (hY2:∀(w:World) (h:Heap),YP w h→∀P∈ts,h.get? P=some (PySem.W.tabObj #[]))
  (F:∀(w:World) (mg:Str→Option Value) (fa:Addr) (h:Heap),(K w.params).In h→h.Ns mainGlobals mg→mg d.name=some (.ref fa)→
   ∃(c Pl:Addr) (fd:FuncData),PySem.W.codeHdIn (K w.params) c Pl=true∧(K w.params).lookup Pl=none∧Pl∈ts∧(∀(s:Shared) (u:Value),BindsTo s fd ⟨[u],[]⟩ [(x,u)])∧
    ∀base:Heap,(K w.params).In base→base.Ns mainGlobals mg→Q0 mg base→A0 l.prog w (K w.params) mg base CX k fa fd [x] (sp (K w.params) Pl))
  (hsp:∀(K:PySem.W.Frag) (Pl:Addr) (H:Hp) (a:Addr) (ns:List Int),ns.length≤n→H Pl=some (.tbl #[])→SqL K H a (ns.map V.int)→sp K Pl [.ref a] H (fun v _=>v= .bl true) fun _ _ _=>False)
  (hCX:∀(H:Hp) (s:Shared) (e:Value) (s':Shared),CX [] H s (fun _ _ _=>False) e s'→False):
  PySem.W.WalkO q loose XP YP l.row.toRowW d [] (fun f vs=>PySem.call f vs):=by
 refine Att.attach_call hn hdf fun w s₀ s₁ mg mb fa o pm cd doc a vs ns G Y ho hd hcd hmg hobj hints hlen hg=>?_
 have KX:=hY w _ Y
 obtain⟨c,Pl,fd,h1,h2,h3,hb,hF⟩:=F w mg fa _ KX G.T.g hmg
 exact kg KX h2 ((PySem.W.codeHd_of_K KX h1).tab (hY2 w _ Y Pl h3)) G.T.g G.T.b G.T.builtins G.T.nolimit G.T.bmain hg hobj hints (Nat.le_trans hlen hn2) hr hF hb (fun H hO hS=>hsp _ Pl H a ns hlen hO hS) fun H e s'=>hCX H s₁ e s'
section
variable {P:Program} {w:World} {K:PySem.W.Frag} {mg:Str→Option Value} {base:Heap}
theorem Fun.okT {x qual:Str}{st:Stmt}{f c:Addr}{fd:FuncData}{N ps:List Str}{k:Nat}{sp:Sp}(F:Fun K x qual st f fd)(hc:fd.code= .ref c)(S:i7 N ps (d8 st))(len:∀vs H Q E,sp vs H Q E→vs.length=ps.length)
  (hbody:∀(A:Around) (outer:List Env) (s:Shared) (H:Hp) (vs:List V) (Q:VK) (E:XK),Room k (A.deeper (envOfC qual (d8 st) s.heap.objs.size f (.ref c)))→sp vs H Q E→
   ∃t,PSs (fi C7 P w K mg base N qual (d8 st) f (.ref c) A outer s H E).nox (t5 st) t∧t {nx:=fun _ H'=>Q .non H',rt:=Q} (S0 N vs) H):A0 P w K mg base C7 (k+1) f fd ps sp:=by
 obtain⟨oc,od,kV,doc,pm,an,cdv,ct,osl,rfl,lk,hcd⟩:=F.ex
 have e:cdv= .ref c:=hc
 subst e
 refine oJ lk hcd S len fun A outer s H vs Q E hr hsp=>?_
 obtain⟨t,h,q⟩:=hbody A outer s H vs Q E hr hsp
 exact⟨t,h.nox,q⟩
end
end L2
set_option Elab.async false
set_option linter.all false
set_option maxRecDepth 100000
set_option maxHeartbeats 4000000
namespace L2
open PySem PySem.Spec PyProof.Rows
theorem rm {K:PySem.W.Frag}{f:Addr}{oc:Value}{od:Option Addr}{fd:FuncData}{sl:Array (Option Value)}(l:K.lookup f=some ⟨oc,od,.func fd,sl⟩):PySem.W.keepIn K (.ref f)=true:=by
 unfold PySem.W.keepIn
 dsimp only
 rw[l]
theorem qO {Pl:Addr}{ts:List Addr}{P:Program}{w:World}{K:PySem.W.Frag}{mg:Str→Option Value}{h:Heap}{CX:fQ}{k:Nat}{st:Stmt}{p:Str}{sp:PySem.W.Frag→Addr→Sp}{f fa c:Addr}{oc:Value}{od an:Option Addr}{osl:Array (Option Value)}{kV doc pm ct:Value}(hL:PySem.W.codeHdIn K c Pl=true)(hP:K.lookup Pl=none)(hM:Pl∈ts)(X:K.In h)(G:h.Ns mainGlobals mg)(hfa:mg "law"=some (.ref fa))
  (a:PySem.W.nsIn K mainGlobals "law"=some (some (.ref f))) (l:K.lookup f=some ⟨oc,od,.func (PySem.W.fnOf "law" "law" (A3 st) (t5 st) (d8 st) .none kV doc pm an (.ref c) ct),osl⟩) (cd:PySem.W.codeIn K (.ref c) "law"=true)
  (ok:∀{base f fd},K.In base→Q0 mg base→fd.code= .ref c→Fun K "law" "law" st f fd→A0 P w K mg base CX k f fd [p] (sp K Pl))
  (b:∀(kV doc pm:Value) (an:Option Addr) (cdv ct:Value) (s:Shared) (v:Value),BindsTo s (PySem.W.fnOf "law" "law" (A3 st) (t5 st) (d8 st) .none kV doc pm an cdv ct) ⟨[v],[]⟩ [(p,v)]):
  ∃(c Pl:Addr) (fd:FuncData),PySem.W.codeHdIn K c Pl=true∧K.lookup Pl=none∧Pl∈ts∧(∀(s:Shared) (v:Value),BindsTo s fd ⟨[v],[]⟩ [(p,v)])∧∀base:Heap,K.In base→base.Ns mainGlobals mg→Q0 mg base→A0 P w K mg base CX k fa fd [p] (sp K Pl):=by
 have e:=hfa.symm.trans (PySem.W.mg_of X G a)
 cases e
 exact⟨c,Pl,_,hL,hP,hM,fun s v=>b _ _ _ _ _ _ s v,fun base kb _ B=>ok kb B rfl (pW l cd (rm l))⟩
end L2
set_option Elab.async false
set_option linter.all false
set_option maxRecDepth 100000
set_option maxHeartbeats 1000000
namespace K14
open PySem PySem.Spec PyProof.Rows L2
def bX (i:Nat):Stmt:=PySem.Challenge.pw_gluework_k14_matches_renamed.main.body.getD i (.Pass ⟨0,0,0,0⟩)
abbrev aY:Stmt:=bX 1
theorem sc_things:i7 ["web"] ["web"] (d8 aY):=⟨rfl,rfl,rfl,by decide+kernel,rfl,by decide+kernel,by decide+kernel⟩
abbrev G9:Stmt:=bX 2
theorem sc_tie_renamed:i7 ["tie","names"] ["tie","names"] (d8 G9):=⟨rfl,rfl,rfl,by decide+kernel,rfl,by decide+kernel,by decide+kernel⟩
abbrev E9:Stmt:=bX 4
theorem sc_matches:i7 ["piece","web","fixed"] ["piece","web","fixed"] (d8 E9):=⟨rfl,rfl,rfl,by decide+kernel,rfl,by decide+kernel,by decide+kernel⟩
abbrev dY:Stmt:=bX 5
theorem sc_found:i7 ["piece","web","piece_looks","web_looks","fixed","most","told","choices","places","names"] ["piece","web","piece_looks","web_looks","fixed","most"] (d8 dY):=⟨rfl,rfl,rfl,by decide+kernel,rfl,by decide+kernel,by decide+kernel⟩
abbrev bj:Stmt:=bX 6
theorem sc_may_be:i7 ["name","image","fixed"] ["name","image","fixed"] (d8 bj):=⟨rfl,rfl,rfl,by decide+kernel,rfl,by decide+kernel,by decide+kernel⟩
abbrev E3:Stmt:=bX 7
theorem sc_point_choices:i7 ["piece_looks","web_looks","fixed","choices","name","look","alike"] ["piece_looks","web_looks","fixed"] (d8 E3):=⟨rfl,rfl,rfl,by decide+kernel,rfl,by decide+kernel,by decide+kernel⟩
abbrev M9:Stmt:=bX 8
theorem sc_tie_places:i7 ["piece","web","fixed","places","name","tie","there","image","other"] ["piece","web","fixed"] (d8 M9):=⟨rfl,rfl,rfl,by decide+kernel,rfl,by decide+kernel,by decide+kernel⟩
abbrev bB:Stmt:=bX 9
theorem sc_enough:i7 ["lists"] ["lists"] (d8 bB):=⟨rfl,rfl,rfl,by decide+kernel,rfl,by decide+kernel,by decide+kernel⟩
abbrev dZ:Stmt:=bX 10
theorem sc_lines:i7 ["piece","choices","places","most","names","told","waiting","begun","image"] ["piece","choices","places","most"] (d8 dZ):=⟨rfl,rfl,rfl,by decide+kernel,rfl,by decide+kernel,by decide+kernel⟩
abbrev bO:Stmt:=bX 11
theorem sc_images:i7 ["piece","choices","places","begun","names","name","put","unlike"] ["piece","choices","places","begun"] (d8 bO):=⟨rfl,rfl,rfl,by decide+kernel,rfl,by decide+kernel,by decide+kernel⟩
abbrev I0:Stmt:=bX 12
theorem sc_tie_choices:i7 ["piece","places","put","name","ends"] ["piece","places","put","name"] (d8 I0):=⟨rfl,rfl,rfl,by decide+kernel,rfl,by decide+kernel,by decide+kernel⟩
abbrev S9:Stmt:=bX 13
theorem sc_has_room:i7 ["piece","places","put","name","image","longer","due"] ["piece","places","put","name","image"] (d8 S9):=⟨rfl,rfl,rfl,by decide+kernel,rfl,by decide+kernel,by decide+kernel⟩
abbrev L1:Stmt:=bX 15
theorem sc__law_cells:i7 ["_law_script","_law_start","_law_many"] ["_law_script","_law_start","_law_many"] (d8 L1):=⟨rfl,rfl,rfl,by decide+kernel,rfl,by decide+kernel,by decide+kernel⟩
abbrev F0:Stmt:=bX 16
theorem sc__law_cell_at:i7 ["_law_script","_law_k"] ["_law_script","_law_k"] (d8 F0):=⟨rfl,rfl,rfl,by decide+kernel,rfl,by decide+kernel,by decide+kernel⟩
abbrev L6:Stmt:=bX 17
theorem sc__law_names:i7 ["_law_cell","_law_many","_law_letters","_law_size","_law_at","_law_signs","_law_names_here","_law_k","_law_name","_law_j"] ["_law_cell","_law_many"] (d8 L6):=⟨rfl,rfl,rfl,by decide+kernel,rfl,by decide+kernel,by decide+kernel⟩
abbrev M8:Stmt:=bX 18
theorem sc__law_kinds:i7 ["_law_cell","_law_letters","_law_size","_law_at","_law_kinds_here","_law_k","_law_kind","_law_j"] ["_law_cell"] (d8 M8):=⟨rfl,rfl,rfl,by decide+kernel,rfl,by decide+kernel,by decide+kernel⟩
abbrev U4:Stmt:=bX 19
theorem sc__law_web:i7 ["_law_cells_here","_law_names_here","_law_kinds_here","_law_most","_law_points","_law_ties","_law_k","_law_cell","_law_ends","_law_start"] ["_law_cells_here","_law_names_here","_law_kinds_here","_law_most"] (d8 U4):=⟨rfl,rfl,rfl,by decide+kernel,rfl,by decide+kernel,by decide+kernel⟩
abbrev L5:Stmt:=bX 20
theorem sc__law_piece:i7 ["_law_web_here","_law_cell","_law_names_here","_law_most","_law_match","_law_under","_law_points","_law_ties","_law_name","_law_new","_law_tie"] ["_law_web_here","_law_cell","_law_names_here","_law_most"] (d8 L5):=⟨rfl,rfl,rfl,by decide+kernel,rfl,by decide+kernel,by decide+kernel⟩
abbrev F9:Stmt:=bX 21
theorem sc__law_renamed:i7 ["_law_web_here","_law_names_here","_law_points","_law_name","_law_ties","_law_tie"] ["_law_web_here","_law_names_here"] (d8 F9):=⟨rfl,rfl,rfl,by decide+kernel,rfl,by decide+kernel,by decide+kernel⟩
abbrev I9:Stmt:=bX 22
theorem sc__law_naming:i7 ["_law_web_here","_law_names_here","_law_naming_here","_law_name","_law_new"] ["_law_web_here","_law_names_here"] (d8 I9):=⟨rfl,rfl,rfl,by decide+kernel,rfl,by decide+kernel,by decide+kernel⟩
abbrev gG:Stmt:=bX 23
theorem sc_law:i7 ["_law_script","_law_cells_here","_law_web_here","_law_piece_here","_law_match","_law_naming_here","_law_calling","_law_other_web","_law_other_piece","_law_due","_law_one","_law_other","_law_name","_law_order"] ["_law_script"] (d8 gG):=⟨rfl,rfl,rfl,by decide+kernel,rfl,by decide+kernel,by decide+kernel⟩
structure Txt (K:PySem.W.Frag) (mg:Str→Option Value):Prop where
 b_all:mg "all"=none
 b_dict:mg "dict"=none
 b_int:mg "int"=none
 b_len:mg "len"=none
 b_list:mg "list"=none
 b_max:mg "max"=none
 b_range:mg "range"=none
 b_reversed:mg "reversed"=none
 b_sorted:mg "sorted"=none
 b_zip:mg "zip"=none
def vP (H:Hp)(Q:VK)(P:List Str→Prop):Prop:=∀(p:Addr) (H':Hp) (ss:List Str),H p=none→Same H H'→H' p=some (.lst (ss.map V.str))→P ss→Q (.ref p) H'
def d9 (W:y4):List Str:=W.pts.map (·.1)++W.ts.map (·.1)
structure WebIs (n:Nat) (K:PySem.W.Frag) (H:Hp) (a p q:Addr) (kvs:List (g4×V)) (W:y4):Prop where
 at_:WebAt K H a p q kvs W
 hp:H p=some (.dK (d0 W.pts))
 hq:H q=some (.dK kvs)
 ne:p≠q
 nd:(d9 W).Nodup
 len:(d9 W).length≤n
 ends:∀x∈W.ts,x.2.2.1∈W.pts.map (·.1)∧x.2.2.2∈W.pts.map (·.1)
 nl:∀x∈d9 W,x.length≤100
theorem WebIs.same {n:Nat}{K:PySem.W.Frag}{H H':Hp}{a p q:Addr}{kvs:List (g4×V)}{W:y4}(h:WebIs n K H a p q kvs W)(s:Same H H'):WebIs n K H' a p q kvs W:=⟨h.at_.mono s.le,s _ _ h.hp,s _ _ h.hq,h.ne,h.nd,h.len,h.ends,h.nl⟩
def yD (n:Nat)(K:PySem.W.Frag)(H:Hp)(Q:VK):Prop:=∀(a p q:Addr) (kvs:List (g4×V)) (W:y4) (H':Hp),Same H H'→WebIs n K H' a p q kvs W→Q (.ref a) H'
def S6 (K:PySem.W.Frag):Sp:=fun vs H Q _=>∃(a:Addr) (ns:List Int),vs=[.ref a,.int 4,.int 9]∧SqL K H a (ns.map V.int)∧ns.length≤63∧∀(p:Addr) (H':Hp) (cs:List Int),H p=none→Same H H'→H' p=some (.lst (cs.map V.int))→cs.length≤9→(∀c∈cs,0≤c)→Q (.ref p) H'
def N8 (K:PySem.W.Frag):Sp:=fun vs H Q _=>∃(a:Addr) (ns:List Int) (k:Int),vs=[.ref a,.int k]∧SqL K H a (ns.map V.int)∧ns.length≤63∧0≤k∧∀m:Int,0≤m→Q (.int m) H
def S7 (K:PySem.W.Frag):Sp:=fun vs H Q _=>∃c n:Int,vs=[.int c,.int n]∧0≤c∧0≤n∧n≤26∧vP H Q fun ss=>ss.length=n.toNat∧ss.Nodup∧∀s∈ss,s.length≤100
def S2 (K:PySem.W.Frag):Sp:=fun vs H Q _=>∃c:Int,vs=[.int c]∧0≤c∧vP H Q fun ss=>ss.length=2
def Z9 (K:PySem.W.Frag):Sp:=fun vs H Q _=>∃(a b c:Addr) (cs:List Int) (ss ks:List Str),vs=[.ref a,.ref b,.ref c,.int 5]∧SqL K H a (cs.map V.int)∧SqL K H b (ss.map V.str)∧SqL K H c (ks.map V.str)∧cs.length≤9∧ss.length=9∧ks.length=2∧ss.Nodup∧(∀s∈ss,s.length≤100)∧yD 9 K H Q
local macro_rules| `(tactic|walk_at "b")=> `(tactic|(intro _ _ _ _ _ _ us hl;first|exact bn0 hl rfl|exact Ay hl fun _=>rfl|exact Ae hl fun _ _=>rfl|exact Aj hl fun _ _ _=>rfl|exact Ab hl fun _ _ _ _=>rfl|exact Au hl fun _ _ _ _ _=>rfl|exact Al hl fun _ _ _ _ _ _=>rfl))
local macro_rules| `(tactic|walk_at "E")=> `(tactic|first
 |(with_reducible (first|refine r_par ?_|refine r_raise ?_|refine r_fs ?_|refine r_callE ?_|refine wK ?_|refine uD ?_|refine zY ?_|refine zg ?_|refine wd ?_|refine xS ?_|refine uM ?_|refine vF ?_|refine wD ?_|refine uq ?_|refine yK ?_|refine se ?_|refine r_valuesI ?_|refine xH ?_|refine yN ?_|refine tM ?_|refine xR ?_|refine wX ?_|refine tT ?_|refine yQ ?_|refine wO ?_|refine xx ?_|refine xX ?_|refine zk ?_|refine uQ ?_|refine r_orV ?_|refine r_notV ?_|refine zp ?_|refine xA ?_|refine uw ?_|refine ue ?_|refine zd ?_|refine yL ?_|refine ng ?_|refine vk ?_|refine wN ?_|refine r_chain ?_|refine ki ?_|refine zm ?_|refine ox ?_|refine r_lt_str ?_|refine fq ?_|refine r_eq_bl ?_|refine gr ?_|refine r_in_sgn ?_|refine r_notIn_sgn ?_|refine r_is ?_|refine oO ?_|refine w_eq_bl ?_|refine pN ?_|refine r_ne_int ?_|refine w_ne_int ?_|refine w_ne_bl ?_|refine w_ne_str ?_|refine n_ne_int ?_|refine n_ne_bl ?_|refine n_ne_str ?_|refine r_get ?_|refine r_enum2 ?_|refine uj ?_|refine r_enum ?_|refine xD ?_|refine qm ?_|refine tV ?_|refine yF ?_|refine wx ?_|refine r_un ?_|refine r_neg ?_|refine xn ?_|refine r_it_str ?_|refine xI ?_|refine xa ?_|refine zB ?_|refine yY ?_|refine xQ ?_|refine yi ?_))
 |((with_reducible refine' yk ?h ?_);(case h=>rfl))
 |with_reducible refine tf _ ?_
 |((with_reducible refine' kD ?c ?_);(case c=>(unfold CMul;omega)))
 |((with_reducible refine' Am ?c ?_);(case c=>(first|omega|(dsimp only<;>omega)|(unfold CMul;omega)|(unfold wY;omega)|(unfold wZ;decide)|exact Int.pow_pos (by decide)))))
local macro_rules| `(tactic|walk_at "R")=> `(tactic|first|with_reducible refine B6 ?_|with_reducible refine r_try ?_|walk_at "E")
local macro_rules| `(tactic|walk_at "r")=> `(tactic|repeat walk_at "R")
local macro_rules| `(tactic|walk_at "e")=> `(tactic|repeat walk_at "E")
local macro_rules| `(tactic|walk_at "l")=> `(tactic|first|exact Or.inl rfl|exact Or.inr rfl)
section
variable {P:Program} {w:World} {K:PySem.W.Frag} {mg:Str→Option Value} {base:Heap}
def kj (i:Int):Nat:=("abcdefghijklmnopqrstuvwxyz":Str).cps.toList.getD i.toNat 0
theorem nN (i:Int)(h0:0≤i)(h1:i<26):jL ("abcdefghijklmnopqrstuvwxyz":Str).cps.toList i=some (kj i):=by
 have hl:("abcdefghijklmnopqrstuvwxyz":Str).cps.toList.length=26:=by decide+kernel
 obtain⟨v,hv,hv2⟩:=dD (xs:=("abcdefghijklmnopqrstuvwxyz":Str).cps.toList) h0 (by rw[hl];exact h1)
 rw[hv]
 unfold kj
 rw[List.getD_eq_getElem?_getD,hv2];rfl
theorem gk {f:Nat→Str}:∀{n:Nat},(∀i j,i<n→j<n→f i=f j→i=j)→((List.range n).map f).Nodup
 |0,_=>List.nodup_nil
 |n+1,h=>by
  rw[List.range_succ,List.map_append]
  refine Q9 (gk fun i j hi hj=>h i j (by omega) (by omega)) fun m=>?_
  obtain⟨i,hi,e⟩:=List.mem_map.mp m
  have hi':=List.mem_range.mp hi
  have z:=h i n (by omega) (by omega) e
  omega
theorem dj:("abcdefghijklmnopqrstuvwxyz":Str).length≤sizeLine:=by decide+kernel
abbrev kSL:Str:="abcdefghijklmnopqrstuvwxyz"
theorem br (ss:List Str):(ss.map V.str).all x6=true:=by
 rw[List.all_map,List.all_eq_true];intro _ _;rfl
theorem E8 {K:PySem.W.Frag}{H:Hp}{d:Addr}{k1 k2 kv:_}{x:Str×C8}(h:H d=some (.dK k1))(t:TieAt K H kv x):TieAt K (i6 H d (.dK k2)) kv x:=by
 obtain⟨e,a,ea,s⟩:=t
 refine⟨e,a,ea,?_⟩
 rcases s with s|s
 ·refine .inl ?_
  by_cases z:a=d
  ·subst z
   rcases s with s|⟨_,s⟩<;>(rw[h] at s;cases s)
  ·unfold Rd
   rw[b0 z];exact s
 ·exact .inr s
theorem x8 {H H1:Hp}{d:Addr}{o:HO}(s:Same H H1)(h:H d=none):Same H (i6 H1 d o):=fun b u e=>by
 rw[b0 (b9 e h)];exact s _ _ e
theorem D5 {ss:List Str}{i:Int}(h0:0≤i)(h1:i<ss.length):∃x,jL (ss.map V.str) i=some (.str x)∧x∈ss:=by
 obtain⟨v,hv,hv2⟩:=dD (xs:=ss.map V.str) h0 (by rw[List.length_map];exact h1)
 rw[List.getElem?_map] at hv2
 obtain⟨x,hx,e⟩:=Option.map_eq_some_iff.mp hv2
 exact⟨x,by rw[hv,e],List.mem_of_getElem? hx⟩
theorem k9 {α:Type}(l:List (Str×α)):(l.map (·.1)).map (Sum.inr:Str→g4)=l.map fun x=>Sum.inr x.1:=by rw[List.map_map];rfl
theorem D0 {l:List Str}{n:Str}(h:(Sum.inr n:g4)∈l.map (Sum.inr:Str→g4)):n∈l:=by
 obtain⟨x,hx,e⟩:=List.mem_map.mp h
 rw[←Sum.inr.inj e];exact hx
theorem t4 {kvs:List (g4×V)}{k:g4}(h:k∉kvs.map (·.1)):i5 kvs k=none:=by
 cases e:i5 kvs k with
 |none=>rfl
 |some v=>exact absurd (jk e) h
theorem pO {a:List (Str×Str)}{b:List (Str×C8)}{n:Str}{t:C8}(h:(a.map (·.1)++b.map (·.1)).Nodup)(f:n∉a.map (·.1)++b.map (·.1)):(a.map (·.1)++(b++[(n,t)]).map (·.1)).Nodup:=by
 rw[List.map_append,←List.append_assoc];exact Q9 h f
theorem pC {a:List (Str×Str)}{b:List (Str×C8)}{n s:Str}(h:(a.map (·.1)++b.map (·.1)).Nodup)(f:n∉a.map (·.1)++b.map (·.1)):((a++[(n,s)]).map (·.1)++b.map (·.1)).Nodup:=by
 have z:=Q9 h f
 refine(List.Perm.nodup_iff ?_).mpr z
 rw[List.map_append,List.append_assoc,List.append_assoc]
 exact List.Perm.append_left _ List.perm_append_comm
theorem jc {a:List (Str×Str)}{b:List (Str×C8)}{n:Str}{t:C8}{l:List Str}(h:∀x∈a.map (·.1)++b.map (·.1),x∈l)(f:n∈l):∀x∈a.map (·.1)++(b++[(n,t)]).map (·.1),x∈l:=by
 intro x hx
 rw[List.map_append,←List.append_assoc] at hx
 rcases List.mem_append.mp hx with h'|h'
 ·exact h x h'
 ·have:x=n:=by simpa using h'
  rw[this];exact f
theorem jA {a:List (Str×Str)}{b:List (Str×C8)}{n s:Str}{l:List Str}(h:∀x∈a.map (·.1)++b.map (·.1),x∈l)(f:n∈l):∀x∈(a++[(n,s)]).map (·.1)++b.map (·.1),x∈l:=by
 intro x hx
 rw[List.map_append,List.append_assoc] at hx
 rcases List.mem_append.mp hx with h'|h'
 ·exact h x (List.mem_append_left _ h')
 ·rcases List.mem_append.mp h' with h2|h2
  ·have:x=n:=by simpa using h2
   rw[this];exact f
  ·exact h x (List.mem_append_right _ h2)
theorem j5 {α β:Type}{F:α→β→Prop}:∀{l:List α} {m:List β} {a:α} {b:β},Paired F l m→F a b→Paired F (l++[a]) (m++[b])
 |_,_,_,_,.nil,h=> .cons h .nil
 |_,_,_,_,.cons r t,h=> .cons r (j5 t h)
theorem jI:∀{kvs:List (g4×V)} {kv:g4×V},(kvs.map (·.1)).Nodup→kv∈kvs→i5 kvs kv.1=some kv.2
 |p::r,kv,nd,h=>by
  have nd':=List.nodup_cons.mp (show(p.1::r.map (·.1)).Nodup from nd)
  rcases List.mem_cons.mp h with z|z
  ·rw[z];exact p7 rfl
  ·rw[q8 fun e=>nd'.1 (by rw[e];exact List.mem_map.mpr ⟨kv,z,rfl⟩)]
   exact jI nd'.2 z
theorem fN:∀{r a:List (g4×V)},((a++r).map (·.1)).Nodup→r.foldl (fun a x=>x9 a x.1 x.2) a=a++r
 |[],a,_=>by simp
 |p::r,a,nd=>by
  rw[List.foldl_cons]
  have nd':((a++[p]++r).map (·.1)).Nodup:=by rw[List.append_assoc];exact nd
  have hf:p.1∉a.map (·.1):=fun m=>by
   rw[List.map_append] at nd
   exact(List.nodup_append.mp nd).2.2 p.1 m p.1 (by simp) rfl
  rw[A9 p.2 (t4 hf),fN (r:=r) (a:=a++[(p.1,p.2)]) nd',List.append_assoc];rfl
theorem mY {kvs:List (g4×V)}(nd:(kvs.map (·.1)).Nodup):S5 kvs=kvs:=by
 unfold S5
 rw[fN (by simpa using nd)];rfl
theorem j8 (pts:List (Str×Str)):(d0 pts).length=pts.length:=by unfold d0;rw[List.length_map]
theorem je {pts:List (Str×Str)}{i:Nat}{kv:g4×V}(h:(d0 pts)[i]?=some kv):∃x,pts[i]?=some x∧kv=(Sum.inr x.1,.str x.2):=by
 unfold d0 at h
 rw[List.getElem?_map] at h
 obtain⟨x,hx,e⟩:=Option.map_eq_some_iff.mp h
 exact⟨x,hx,e.symm⟩
theorem oq {D d:Addr}{kvs:List (g4×V)}{o:Obj}{u:HO}{H H1:Hp}(h:H d=some (.dK kvs))(s:Same (A8 d o kvs H) H1)(hD:H1 D=none):Same H (thaw d (i6 H1 D u)):=
 Same.thaw h fun b v z=>by rw[b0 (b9 (s _ _ z) hD)];exact s _ _ z
theorem vz {D d:Addr}{kvs:List (g4×V)}{o:Obj}{u:HO}{H H1:Hp}(s:Same (A8 d o kvs H) H1)(hD:H1 D=none):(thaw d (i6 H1 D u)) D=some u:=by
 have hDq:D≠d:=fun z=>by rw[z,s _ _ c8] at hD;cases hD
 rw[G5 hDq,c8]
theorem rK {pts:List (Str×Str)}(h:(pts.map (·.1)).Nodup):((d0 pts).map (·.1)).Nodup:=by
 rw[B0,←k9]
 refine List.Pairwise.map _ ?_ h
 exact fun a b h z=>h (Sum.inr.inj z)
theorem ah {α:Type}:∀{l:List (Str×α)} {n:Str} {x y:α},(l.map (·.1)).Nodup→(n,x)∈l→(n,y)∈l→x=y
 |p::r,n,x,y,nd,hx,hy=>by
  have nd':=List.nodup_cons.mp (show(p.1::r.map (·.1)).Nodup from nd)
  rcases List.mem_cons.mp hx with zx|zx
  ·rcases List.mem_cons.mp hy with zy|zy
   ·have:=zx.trans zy.symm
    exact(Prod.mk.inj this).2
   ·exact absurd (List.mem_map.mpr ⟨(n,y),zy,by rw[←zx]⟩) nd'.1
  ·rcases List.mem_cons.mp hy with zy|zy
   ·exact absurd (List.mem_map.mpr ⟨(n,x),zx,by rw[←zy]⟩) nd'.1
   ·exact ah nd'.2 zx zy
theorem ef {K:PySem.W.Frag}{H:Hp}{kvs:List (g4×V)}{ts:List (Str×C8)}{n:Str}{t:C8}(w:TiesIs K H kvs ts)(nd:(ts.map (·.1)).Nodup)(h:(n,t)∈ts):∃a,i5 kvs (Sum.inr n:g4)=some (.ref a)∧SqT K H a (er t):=by
 obtain⟨a,x,h1,h2,h3⟩:=TiesIs.val (ts:=ts) w (List.mem_map.mpr ⟨(n,t),h,rfl⟩)
 rw[ah nd h h2];exact⟨a,h1,h3⟩
theorem J2 {pts:List (Str×Str)}{n k:Str}(nd:(pts.map (·.1)).Nodup)(h:(n,k)∈pts):i5 (d0 pts) (Sum.inr n:g4)=some (.str k):=
 jI (kv:=(Sum.inr n,.str k)) (rK nd) (List.mem_map.mpr ⟨(n,k),h,rfl⟩)
theorem fh {n:Str}:∀{gs:List Str},yn (.str n) (gs.map V.str)=decide (n∈gs)
 |[]=>rfl
 |g::r=>by
  show(U1 (.str g) (.str n)||yn (.str n) (r.map V.str))=_
  rw[fh (gs:=r),show U1 (.str g) (.str n)=decide (g=n) by unfold U1;rw[Bool.eq_iff_iff];simp]
  rw[Bool.eq_iff_iff]
  simp
  constructor
  ·rintro(h|h)
   ·exact .inl h.symm
   ·exact .inr h
  ·rintro(h|h)
   ·exact .inl h.symm
   ·exact .inr h
theorem U2 {K:PySem.W.Frag}{H:Hp}{Q:VK}{l:Addr}{gs:List Str}{n:Str}(h:SqL K H l (gs.map V.str))(q:Q (.bl (!decide (n∈gs))) H):dS K (.str n) (.ref l) H Q:=
 .inr (.inl ⟨l,_,rfl,.inl h,rfl,br _,by rw[if_pos rfl,fh];exact q⟩)
theorem K7 {K:PySem.W.Frag}{H:Hp}{d:Addr}{k1 k2:List (g4×V)}{kvs:List (g4×V)}{ts:List (Str×C8)}(h:H d=some (.dK k1))(w:TiesIs K H kvs ts):TiesIs K (i6 H d (.dK k2)) kvs ts:=Paired.imp' (fun _ _ z=>E8 h z) w
theorem z8 {pts:List (Str×Str)}{n:Str}:(i5 (d0 pts) (Sum.inr n:g4)).isSome=decide (n∈pts.map (·.1)):=by
 rw[←F8,Bool.eq_iff_iff,List.any_eq_true,decide_eq_true_eq]
 constructor
 ·rintro⟨kv,hkv,e⟩
  obtain⟨x,hx,rfl⟩:=List.mem_map.mp hkv
  exact List.mem_map.mpr ⟨x,hx,Sum.inr.inj (of_decide_eq_true e)⟩
 ·intro m
  obtain⟨x,hx,rfl⟩:=List.mem_map.mp m
  exact⟨_,List.mem_map.mpr ⟨x,hx,rfl⟩,decide_eq_true rfl⟩
theorem cG {K:PySem.W.Frag}{H:Hp}{kvs:List (g4×V)}{ts:List (Str×C8)}{n:Str}(w:TiesIs K H kvs ts):(i5 kvs (Sum.inr n:g4)).isSome=decide (n∈ts.map (·.1)):=by
 by_cases hn:n∈ts.map (·.1)
 ·obtain⟨a,x,h1,_⟩:=TiesIs.val (ts:=ts) w hn
  rw[h1,decide_eq_true hn];rfl
 ·cases e:i5 kvs (Sum.inr n:g4) with
  |none=>simp [hn]
  |some v=>
   have z:=jk e
   rw[w.keys,←k9] at z
   exact absurd (D0 z) hn
theorem ff {pts:List (Str×Str)}:(d0 pts).map (fun kv=>kV kv.1)=(pts.map (·.1)).map V.str:=by unfold d0;rw[List.map_map,List.map_map];rfl
theorem oj {K:PySem.W.Frag}{H:Hp}{kb:List (g4×V)}:∀{ka:List (g4×V)},(∀kv∈ka,∃y,i5 kb kv.1=some y∧Eq1 K H kv.2 y true)→EqH K H kb ka true
 |[],_=> .nil
 |kv::r,h=>by
  obtain⟨y,h1,h2⟩:=h kv List.mem_cons_self
  exact EqH.hit (e:=true) (b:=true) h1 h2 (oj fun x hx=>h x (List.mem_cons_of_mem _ hx))
theorem rH {K:PySem.W.Frag}{H:Hp}(s:Str):Eq1 K H (.str s) (.str s) true:=by
 have z:=Eq1.flat (K:=K) (H:=H) (x:= .str s) (y:= .str s) rfl rfl
 rw[fT rfl] at z;exact z
theorem qJ {K:PySem.W.Frag}{H:Hp}{p p':Addr}{pts pts':List (Str×Str)}(hne:p≠p')(h1:Rd H p (.dK (d0 pts)))(h2:Rd H p' (.dK (d0 pts')))(pm:pts.Perm pts')(nd:(pts'.map (·.1)).Nodup):EqD K H p p' true:=
 .inr ⟨hne,_,_,true,h1,h2,oj fun kv hkv=>by
  obtain⟨x,hx,rfl⟩:=List.mem_map.mp hkv
  exact⟨_,J2 nd (pm.mem_iff.mp hx),rH _⟩,by rw[j8,j8,pm.length_eq];simp⟩
theorem tD (ns:List Int):∃cs:List Int,Z4 (ns.map V.int) (some 4) (some 13)=cs.map V.int∧cs.length≤9:=by
 unfold Z4
 have e1:HT.sIx (ns.map V.int).length 0 (some ((4:Nat):Int))=min 4 (ns.map V.int).length:=HT.sIx_nat _ _ _
 have e2:HT.sIx (ns.map V.int).length (ns.map V.int).length (some ((13:Nat):Int))=min 13 (ns.map V.int).length:=HT.sIx_nat _ _ _
 rw[show(some (4:Int))=some ((4:Nat):Int) from rfl,show(some (13:Int))=some ((13:Nat):Int) from rfl,e1,e2,←List.map_drop,←List.map_take]
 exact⟨_,rfl,by rw[List.length_take,List.length_drop];omega⟩
abbrev W0 (P:Program)(w:World)(K:PySem.W.Frag)(mg:Str→Option Value)(base:Heap):Prop:=Z6 P w K mg base C7 1 "_law_cells" ["_law_script","_law_start","_law_many"] [] (S6 K)
theorem bY {f:Addr}{fd:FuncData}(T:Txt K mg)(F:Fun K "_law_cells" "_law_cells" L1 f fd):A0 P w K mg base C7 1 f fd ["_law_script","_law_start","_law_many"] (S6 K):=by
 refine F.ok sc__law_cells (fun vs H Q E h=>?_) (fun cdv A outer s H vs Q E hr h=>?_)
 ·obtain⟨a,ns,rfl,_⟩:=h
  rfl
 ·obtain⟨a,ns,rfl,hA,hl,k⟩:=h
  have hN:=sc__law_cells.nd
  have hu:=A5 hr
  refine⟨_,QSs.r (D9 (E5 (af (own:=["_law_cell"]) (js:=[]) (by kernel_rfl) rfl (R1 K (yy (ym K) (qV 0) (wb (qV 1)) (wb (C4 (O4 K) (qV 1) (qV 2))))) (fun _ _ _ _=>(R5 (i:=0) (show List.Nodup (["_law_cell"]:List Str) by decide+kernel) rfl (by walk_at "l"))) (fun _ _ _ _=>lZ) (fun _ _ _ _=>(C4 A6 (qV 0) (C4 pV h7 h7)))))),?_⟩
  walk_at "r"
  refine mR hA (fun p1 n1=>?_)
  obtain⟨H1,e1,f1,m1,_⟩:=c9 (o:= .lst _) n1
  rw[e1]
  obtain⟨cs,hcs,hcl⟩:=tD ns
  rw[show(4:Int)+9=13 from rfl,hcs] at f1
  refine q9 (SqL.of f1) ?_
  refine B1 (n:=cs.length) (fun i out H'=>Same H1 H'∧out=(cs.take i).map fun x=>V.int (x % 10 ^ 60)) ⟨Same.refl _,rfl⟩ (fun i out H' hi hp=>⟨_,.int (cs[i]),SqL.of (hp.1 _ _ f1),by rw[List.getElem?_map,List.getElem?_eq_getElem hi];rfl⟩) ?_ ?_
  ·rintro N i v out H2 H3 hi ⟨s1,rfl⟩ y hN'
   obtain⟨rfl,hx⟩:=Itl.get y (SqL.of (s1 _ _ f1))
   rw[List.getElem?_map,List.getElem?_eq_getElem hi] at hx
   cases hx
   walk_at "r"
   refine⟨rfl,?_⟩
   walk_at "r"
   refine⟨g7 (by rw[List.length_map,List.length_take];omega),hN' _ _ ⟨s1,?_⟩⟩
   exact R7 (fun x:Int=>V.int (x % 10 ^ 60)) (List.getElem?_eq_getElem hi)
  ·rintro out H2 ⟨s1,rfl⟩
   refine⟨⟨_,SqL.of (s1 _ _ f1),by rw[List.length_map];exact Nat.le_refl _⟩,fun D hD=>⟨g7 (by rw[List.length_map,List.length_take];omega),?_⟩⟩
   rw[List.take_of_length_le (Nat.le_refl _)]
   obtain⟨H3,e3,f3,m3,_⟩:=c9 (o:= .lst (cs.map fun x=>V.int (x % 10 ^ 60))) hD
   refine k D _ (cs.map fun x=>x % 10 ^ 60) ((m1.trans s1).free hD) ?_ ?_ (by rw[List.length_map];exact hcl) (fun c hc=>?_)
   ·show Same _ (i6 _ D _)
    rw[e3];exact m1.trans (s1.trans m3)
   ·show i6 _ D _ D=_
    rw[c8,List.map_map];rfl
   ·obtain⟨x,_,rfl⟩:=List.mem_map.mp hc
    exact Int.emod_nonneg _ (by decide)
abbrev P0 (P:Program)(w:World)(K:PySem.W.Frag)(mg:Str→Option Value)(base:Heap):Prop:=Z6 P w K mg base C7 1 "_law_cell_at" ["_law_script","_law_k"] [] (N8 K)
theorem av {f:Addr}{fd:FuncData}(T:Txt K mg)(F:Fun K "_law_cell_at" "_law_cell_at" F0 f fd):A0 P w K mg base C7 1 f fd ["_law_script","_law_k"] (N8 K):=by
 refine F.ok sc__law_cell_at (fun vs H Q E h=>?_) (fun cdv A outer s H vs Q E hr h=>?_)
 ·obtain⟨a,ns,k',rfl,_⟩:=h
  rfl
 ·obtain⟨a,ns,k',rfl,hA,hl,h0,k⟩:=h
  have hN:=sc__law_cell_at.nd
  have hu:=A5 hr
  refine⟨_,QSs.r (u6 (mn (y8 T6 (qV 1) (qB (E6 K P w) T.b_len Boot.«len» (i0 (qV 0) k4)) (r6 _)) (D9 (E5 (C4 A6 (u7 (u9 K hu) (qV 0) (qV 1) (fun _ _=>rfl)) (C4 pV h7 h7)))) rV)
   (D9 (E5 h7))),?_⟩
  walk_at "r"
  refine C5 (k5 hA ?_)
  rw[List.length_map]
  walk_at "r"
  refine B5 (fun h1=>?_) (fun h1=>?_)
  ·walk_at "r"
   obtain⟨v,hv,hv2⟩:=dD (xs:=ns.map V.int) h0 (by rw[List.length_map];exact h1)
   rw[List.getElem?_map] at hv2
   obtain⟨x,hx,rfl⟩:=Option.map_eq_some_iff.mp hv2
   refine i4 hA hv ?_
   walk_at "r"
   exact k _ (Int.emod_nonneg _ (by decide))
  ·walk_at "r"
   exact k 0 (by omega)
def eF (l:List Nat):Str:=⟨l.toArray⟩
theorem cX (l:List Nat)(c:Nat):eF l++(⟨#[c]⟩:Str)=eF (l++[c]):=by
 unfold eF
 show(⟨l.toArray++ #[c]⟩:Str)=_
 congr 1
 simp
theorem oG {l m:List Nat}(h:eF l=eF m):l=m:=by
 have:=congrArg (fun s:Str=>s.cps.toList) h
 simpa [eF] using this
theorem gz (l:List Nat):(eF l).length=l.length:=by
 show l.toArray.size=_
 simp
def Z7 (s:Str)(i:Int):Nat:=s.cps.toList.getD i.toNat 0
theorem vn (s:Str)(i:Int)(h0:0≤i)(h1:i<s.cps.toList.length):jL s.cps.toList i=some (Z7 s i):=by
 obtain⟨v,hv,hv2⟩:=dD (xs:=s.cps.toList) h0 h1
 rw[hv]
 unfold Z7
 rw[List.getD_eq_getElem?_getD,hv2];rfl
abbrev kSM:Str:=kSL++("0123456789.":Str)
theorem lF:∀i j:Nat,i<26→j<26→Z7 kSL i=Z7 kSL j→i=j:=by
 have h:∀i,i<26→∀j,j<26→Z7 kSL (i:Nat)=Z7 kSL (j:Nat)→i=j:=by decide+kernel
 exact fun i j hi hj=>h i hi j hj
theorem kC:∀i j:Nat,i<37→j<37→Z7 kSM i=Z7 kSM j→i=j:=by
 have h:∀i,i<37→∀j,j<37→Z7 kSM (i:Nat)=Z7 kSM (j:Nat)→i=j:=by decide+kernel
 exact fun i j hi hj=>h i hi j hj
def V4 (S:Str)(c at_:Int)(k i:Nat):List Nat:=(List.range i).map fun j:Nat=>if(j:Int)=at_ then Z7 S ((c/400+5*(k:Int)) % (S.length:Int)) else kj ((c/400+3*(j:Int)) % 26)
theorem aU (S:Str)(c at_:Int)(k i:Nat):V4 S c at_ k (i+1)=V4 S c at_ k i++[if((i:Int))=at_ then Z7 S ((c/400+5*(k:Int)) % (S.length:Int)) else kj ((c/400+3*(i:Int)) % 26)]:=by
 unfold V4
 rw[List.range_succ,List.map_append];rfl
theorem dh (S:Str)(c at_:Int)(k i:Nat):(V4 S c at_ k i).length=i:=by
 unfold V4;rw[List.length_map,List.length_range]
def nS (S:Str)(c at_:Int)(n k:Nat):Str:=eF (V4 S c at_ k n)
theorem qF {S:Str}{c at_:Int}{n m:Nat}(hS:S=kSL∨S=kSM)(h0:0≤at_)(h1:at_<n)(hm:m≤26):((List.range m).map (nS S c at_ n)).Nodup:=gk fun i j hi hj e=>by
 have z:=oG e
 have z2:=congrArg (fun l=>l[at_.toNat]?) z
 unfold V4 at z2
 simp only[List.getElem?_map,List.getElem?_range (show at_.toNat<n by omega),Option.map_some,Option.some.injEq] at z2
 rw[if_pos (by omega),if_pos (by omega)] at z2
 rcases hS with rfl|rfl
 ·have hl:(kSL.length:Int)=26:=by decide+kernel
  rw[hl] at z2
  have e1:(c/400+5*(i:Int)) % 26=(((c/400+5*(i:Int)) % 26).toNat:Int):=by omega
  have e2:(c/400+5*(j:Int)) % 26=(((c/400+5*(j:Int)) % 26).toNat:Int):=by omega
  rw[e1,e2] at z2
  have z3:=lF _ _ (by omega) (by omega) z2
  omega
 ·have hl:(kSM.length:Int)=37:=by decide+kernel
  rw[hl] at z2
  have e1:(c/400+5*(i:Int)) % 37=(((c/400+5*(i:Int)) % 37).toNat:Int):=by omega
  have e2:(c/400+5*(j:Int)) % 37=(((c/400+5*(j:Int)) % 37).toNat:Int):=by omega
  rw[e1,e2] at z2
  have z3:=kC _ _ (by omega) (by omega) z2
  omega
abbrev U7 (P:Program)(w:World)(K:PySem.W.Frag)(mg:Str→Option Value)(base:Heap):Prop:=Z6 P w K mg base C7 1 "_law_names" ["_law_cell","_law_many"] [] (S7 K)
theorem bZ {f:Addr}{fd:FuncData}(T:Txt K mg)(F:Fun K "_law_names" "_law_names" L6 f fd):A0 P w K mg base C7 1 f fd ["_law_cell","_law_many"] (S7 K):=by
 refine F.ok sc__law_names (fun vs H Q E h=>?_) (fun cdv A outer s H vs Q E hr h=>?_)
 ·obtain⟨c,n,rfl,_⟩:=h
  rfl
 ·obtain⟨c,n,rfl,h0,h1,h2,k⟩:=h
  have hN:=sc__law_names.nd
  have hu:=A5 hr
  refine⟨_,QSs.r (u6 (j7 (i:=2) hN rfl (by walk_at "l") mP)
   (u6 (j7 (i:=3) hN rfl (by walk_at "l") (C4 (O4 K) h7 (C4 A6 (qV 0) h7)))
   (u6 (j7 (i:=4) hN rfl (by walk_at "l") (C4 A6 (C4 t7 (qV 0) h7) (qV 3)))
   (u6 (j7 (i:=5) hN rfl (by walk_at "l") (qV 2))
   (u6 (mn (y8 sk (qV 4) h7 (r6 _)) (D9 (j7 (i:=5) hN rfl (by walk_at "l") (C4 (O4 K) (qV 2) mP))) rV)
   (u6 (j7 (i:=6) hN rfl (by walk_at "l") (cq k4))
   (u6 (U0 PassesOwn.never rfl (lN T.b_range (i0 (qV 1) k4)) (R5 (i:=7) hN rfl (by walk_at "l"))
    (u6 (j7 (i:=8) hN rfl (by walk_at "l") mP)
   (u6 (U0 PassesOwn.never rfl (lN T.b_range (i0 (qV 3) k4)) (R5 (i:=9) hN rfl (by walk_at "l"))
    (D9 (mn (y8 (V6 K hr) (qV 9) (qV 4) (r6 _)) (D9 (j7 (i:=8) hN rfl (by walk_at "l") (C4 (O4 K) (qV 8) (u7 (u9 K hu) (qV 5) (C4 A6 (C4 (O4 K) (C4 t7 (qV 0) h7) (C4 aE h7 (qV 7))) (qB (E6 K P w) T.b_len Boot.«len» (i0 (qV 5) k4))) (fun _ _=>rfl))))) (D9 (j7 (i:=8) hN rfl (by walk_at "l") (C4 (O4 K) (qV 8) (u7 (u9 K hu) (qV 2) (C4 A6 (C4 (O4 K) (C4 t7 (qV 0) h7) (C4 aE h7 (qV 9))) h7) (fun _ _=>rfl))))))))
   (D9 (vV (qM PySem.F.plainAttrs_list PySem.F.slot_list_append PySem.F.type_list_append r9 K (qV 6) (i0 (qV 8) k4)))))))
   (D9 (E5 (qV 6)))))))))),?_⟩
  refine B6 ?_
  walk_at "e"
  refine B6 ?_
  walk_at "e"
  refine B6 ?_
  walk_at "e"
  refine B6 ?_
  walk_at "e"
  have hat0:0≤c/20 % (1+c % 20):=Int.emod_nonneg _ (by omega)
  have hat1:c/20 % (1+c % 20)<1+c % 20:=Int.emod_lt_of_pos _ (by omega)
  generalize hat:c/20 % (1+c % 20)=at_ at hat0 hat1⊢
  refine jz (fun σ H'=>H'=H∧∃S,(S=kSL∨S=kSM)∧σ=[some (.int c),some (.int n),some (.str kSL),some (.int (1+c % 20)),some (.int at_),some (.str S),none,none,none,none]) ?_ ?_
  ·rintro σ H0 ⟨rfl,S,hS,rfl⟩
   have hSl:S.cps.toList.length=S.length:=by show _=S.cps.size;simp
   have hSz:0<S.length∧S.length≤37:=by rcases hS with rfl|rfl<;>decide+kernel
   refine B6 ?_
   walk_at "e"
   refine⟨g7 (by simp),fun lo no=>?_⟩
   obtain⟨H1,e1,f1,m1,_⟩:=c9 (o:= .lst _) no
   rw[e1]
   walk_at "e"
   refine B6 ?_
   walk_at "e"
   refine Q7 (by omega) (by omega) ?_
   refine T8 (n:=n.toNat) (fun i σ H'=>(∃v1 v2 v3,σ=[some (.int c),some (.int n),some (.str kSL),some (.int (1+c % 20)),some (.int at_),some (.str S),some (.ref lo),v1,v2,v3])∧Same H0 H'∧H' lo=some (.lst (((List.range i).map (nS S c at_ (1+c % 20).toNat)).map V.str)))
    ⟨⟨_,_,_,rfl⟩,m1,f1⟩ (fun i σ H' hi _=>by exact hi) ?_ ?_
   ·rintro i v σ H2' H2 hi ⟨⟨v1,v2,v3,rfl⟩,s2,g2⟩ ⟨rfl,rfl⟩
    refine B6 ?_
    walk_at "e"
    refine B6 ?_
    walk_at "e"
    refine Q7 (by omega) (by omega) ?_
    refine T8 (n:=(1+c % 20).toNat) (fun j σ H'=>(∃v3,σ=[some (.int c),some (.int n),some (.str kSL),some (.int (1+c % 20)),some (.int at_),some (.str S),some (.ref lo),some (.int (0+(i:Int))),some (.str (eF (V4 S c at_ i j))),v3])∧H'=H2)
     ⟨⟨_,rfl⟩,rfl⟩ (fun i σ H' hi _=>by exact hi) ?_ ?_
    ·rintro j v σ H3 H4 hj ⟨⟨v3,rfl⟩,rfl⟩ ⟨rfl,rfl⟩
     have hnl:=gz (V4 S c at_ i j)
     rw[dh] at hnl
     walk_at "e"
     refine B5 (fun hb=>?_) (fun hb=>?_)
     ·walk_at "e"
      refine C5 (ku (g7 (by omega)) ?_)
      walk_at "e"
      have q0:0≤(c/400+5*(0+(i:Int))) % (S.length:Int):=Int.emod_nonneg _ (by omega)
      have q1:(c/400+5*(0+(i:Int))) % (S.length:Int)<(S.length:Int):=Int.emod_lt_of_pos _ (by omega)
      refine bF (g7 (by omega)) (vn S _ q0 (by rw[hSl];exact q1)) ?_
      refine Q6 (j:=⟨#[Z7 S ((c/400+5*(0+(i:Int))) % (S.length:Int))]⟩) (g7 (by rw[aG];omega)) ?_
      walk_at "e"
      refine⟨⟨some (.int (0+(j:Int))),?_⟩,rfl⟩
      rw[aU,if_pos (by omega),←cX,Int.zero_add];rfl
     ·walk_at "e"
      refine bF dj (nN ((c/400+3*(0+(j:Int))) % 26) (by omega) (by omega)) ?_
      refine Q6 (j:=⟨#[kj ((c/400+3*(0+(j:Int))) % 26)]⟩) (g7 (by rw[aG];omega)) ?_
      walk_at "e"
      refine⟨⟨some (.int (0+(j:Int))),?_⟩,rfl⟩
      rw[aU,if_neg (by omega),←cX,Int.zero_add (j:Int)];rfl
    ·rintro σ H3 ⟨⟨v3,rfl⟩,rfl⟩
     refine⟨Nat.le_refl _,?_⟩
     walk_at "e"
     refine⟨.inl ⟨rfl,_,SqL.of g2⟩,?_⟩
     walk_at "e"
     refine⟨lo,_,_,rfl,rfl,g2,cV (by rw[List.length_map,List.length_map,List.length_range];omega),?_⟩
     refine⟨⟨_,_,_,rfl⟩,x8 s2 no,?_⟩
     rw[c8,List.range_succ,List.map_append,List.map_append];rfl
   ·rintro σ H2 ⟨⟨v1,v2,v3,rfl⟩,s2,g2⟩
    refine⟨Nat.le_refl _,?_⟩
    walk_at "e"
    refine k lo H2 _ no s2 g2 ⟨by rw[List.length_map,List.length_range],qF hS hat0 (by omega) (by omega),fun s hs=>?_⟩
    obtain⟨i,_,rfl⟩:=List.mem_map.mp hs
    unfold nS
    rw[gz,dh];omega
  ·intro nx hn
   walk_at "e"
   refine B5 (fun h=>?_) (fun h=>?_)
   ·walk_at "e"
    refine Q6 (by decide+kernel) ?_
    walk_at "e"
    exact hn _ _ ⟨rfl,kSM,.inr rfl,rfl⟩
   ·walk_at "e"
    exact hn _ _ ⟨rfl,kSL,.inl rfl,rfl⟩
abbrev X1 (P:Program)(w:World)(K:PySem.W.Frag)(mg:Str→Option Value)(base:Heap):Prop:=Z6 P w K mg base C7 1 "_law_kinds" ["_law_cell"] [] (S2 K)
theorem cz {f:Addr}{fd:FuncData}(T:Txt K mg)(F:Fun K "_law_kinds" "_law_kinds" M8 f fd):A0 P w K mg base C7 1 f fd ["_law_cell"] (S2 K):=by
 refine F.ok sc__law_kinds (fun vs H Q E h=>?_) (fun cdv A outer s H vs Q E hr h=>?_)
 ·obtain⟨c,rfl,_⟩:=h
  rfl
 ·obtain⟨c,rfl,h0,k⟩:=h
  have hN:=sc__law_kinds.nd
  have hu:=A5 hr
  refine⟨_,QSs.r (u6 (j7 (i:=1) hN rfl (by walk_at "l") mP)
   (u6 (j7 (i:=2) hN rfl (by walk_at "l") (C4 (O4 K) h7 (C4 A6 (qV 0) h7)))
   (u6 (j7 (i:=3) hN rfl (by walk_at "l") (C4 A6 (C4 t7 (qV 0) h7) (qV 2)))
   (u6 (j7 (i:=4) hN rfl (by walk_at "l") (cq k4))
   (u6 (U0 PassesOwn.never rfl (lN T.b_range (i0 h7 k4)) (R5 (i:=5) hN rfl (by walk_at "l"))
    (u6 (j7 (i:=6) hN rfl (by walk_at "l") mP)
   (u6 (U0 PassesOwn.never rfl (lN T.b_range (i0 (qV 2) k4)) (R5 (i:=7) hN rfl (by walk_at "l"))
    (D9 (j7 (i:=6) hN rfl (by walk_at "l") (C4 (O4 K) (qV 6) (u7 (u9 K hu) (qV 1) (C4 A6 (C4 (O4 K) (C4 (O4 K) (C4 t7 (qV 0) h7) (qV 7)) (C4 aE (C4 aE h7 (qV 5)) (sh lJ T.b_int Boot.«int» (i0 (iW (V6 K hr) (qV 7) (qV 3) (r6 _)) k4)))) h7) (fun _ _=>rfl))))))
   (D9 (vV (qM PySem.F.plainAttrs_list PySem.F.slot_list_append PySem.F.type_list_append r9 K (qV 4) (i0 (qV 6) k4)))))))
   (D9 (E5 (qV 4)))))))),?_⟩
  walk_at "r"
  have hat0:0≤c/8 % (1+c % 8):=Int.emod_nonneg _ (by omega)
  have hat1:c/8 % (1+c % 8)<1+c % 8:=Int.emod_lt_of_pos _ (by omega)
  generalize hat:c/8 % (1+c % 8)=at_ at hat0 hat1⊢
  refine⟨g7 (by simp),fun lo no=>?_⟩
  obtain⟨H1,e1,f1,m1,_⟩:=c9 (o:= .lst _) no
  rw[e1]
  walk_at "r"
  refine Q7 (by omega) (by omega) ?_
  refine T8 (n:=2) (fun i σ H'=>(∃v1 v2 v3,σ=[some (.int c),some (.str kSL),some (.int (1+c % 8)),some (.int at_),some (.ref lo),v1,v2,v3])∧Same H H'∧∃ss:List Str,H' lo=some (.lst (ss.map V.str))∧ss.length=i)
   ⟨⟨_,_,_,rfl⟩,m1,[],f1,rfl⟩ (fun i σ H' hi _=>by exact hi) ?_ ?_
  ·rintro i v σ H2' H2 hi ⟨⟨v1,v2,v3,rfl⟩,s2,ss,g2,hl⟩ ⟨rfl,rfl⟩
   walk_at "r"
   refine Q7 (by omega) (by omega) ?_
   refine T8 (n:=(1+c % 8).toNat) (fun j σ H'=>(∃(b:Str) (v3:Option V),σ=[some (.int c),some (.str kSL),some (.int (1+c % 8)),some (.int at_),some (.ref lo),some (.int (0+(i:Int))),some (.str b),v3]∧b.length=j)∧H'=H2)
    ⟨⟨_,_,rfl,rfl⟩,rfl⟩ (fun i σ H' hi _=>by exact hi) ?_ ?_
   ·rintro j v σ H3 H4 hj ⟨⟨b,v3,rfl,hb⟩,rfl⟩ ⟨rfl,rfl⟩
    walk_at "r"
    refine .inr ⟨_,rfl,?_⟩
    generalize hm:(if decide (0+(j:Int)=at_)=true then(1:Int) else 0)=m
    have hm0:0≤m∧m≤1:=by subst hm;split<;>omega
    walk_at "r"
    refine bF dj (nN ((c/64+(0+(j:Int))+9*(0+(i:Int))*m) % 26) (by omega) (by omega)) ?_
    refine Q6 (j:=⟨#[kj ((c/64+(0+(j:Int))+9*(0+(i:Int))*m) % 26)]⟩) (g7 (by rw[aG];omega)) ?_
    walk_at "r"
    exact⟨⟨_,_,rfl,by rw[qS,aG];omega⟩,rfl⟩
   ·rintro σ H3 ⟨⟨b,v3,rfl,hb⟩,rfl⟩
    refine⟨Nat.le_refl _,?_⟩
    walk_at "r"
    refine⟨.inl ⟨rfl,_,SqL.of g2⟩,?_⟩
    walk_at "r"
    refine⟨lo,_,_,rfl,rfl,g2,cV (by rw[List.length_map];omega),?_⟩
    refine⟨⟨_,_,_,rfl⟩,x8 s2 no,ss++[b],?_,by rw[List.length_append,hl];rfl⟩
    rw[c8,List.map_append];rfl
  ·rintro σ H2 ⟨⟨v1,v2,v3,rfl⟩,s2,ss,g2,hl⟩
   refine⟨Nat.le_refl _,?_⟩
   walk_at "r"
   exact k lo H2 ss no s2 g2 hl
abbrev bE (P:Program)(w:World)(K:PySem.W.Frag)(mg:Str→Option Value)(base:Heap):Prop:=Z6 P w K mg base C7 1 "_law_web" ["_law_cells_here","_law_names_here","_law_kinds_here","_law_most"] [] (Z9 K)
theorem gy {f:Addr}{fd:FuncData}(T:Txt K mg)(F:Fun K "_law_web" "_law_web" U4 f fd):A0 P w K mg base C7 1 f fd ["_law_cells_here","_law_names_here","_law_kinds_here","_law_most"] (Z9 K):=by
 refine F.ok sc__law_web (fun vs H Q E h=>?_) (fun cdv A outer s H vs Q E hr h=>?_)
 ·obtain⟨a,b,c,cs,ss,ks,rfl,_⟩:=h
  rfl
 ·obtain⟨a,b,c,cs,ss,ks,rfl,hA,hB,hC,hn,hl,hk,hkl,hsl,k⟩:=h
  have hN:=sc__law_web.nd
  have hu:=A5 hr
  refine⟨_,QSs.r (u6 (j7 (i:=4) hN rfl (by walk_at "l") mh)
   (u6 (j7 (i:=5) hN rfl (by walk_at "l") mh)
   (u6 (U0 PassesOwn.never rfl (lN T.b_range (i0 (qB (E6 K P w) T.b_len Boot.«len» (i0 (qV 0) k4)) k4)) (R5 (i:=6) hN rfl (by walk_at "l"))
    (u6 (j7 (i:=7) hN rfl (by walk_at "l") (u7 (u9 K hu) (qV 0) (qV 6) (fun _ _=>rfl)))
   (u6 (j7 (i:=8) hN rfl (by walk_at "l") (qB (C9 K rfl) T.b_sorted Boot.«sorted» (i0 (qV 4) k4)))
   (D9 (mn (tN (zC (y8 (V6 K hr) (qB (E6 K P w) T.b_len Boot.«len» (i0 (qV 8) k4)) h7 (r6 _)) (wq (tN (aj (y8 T6 (C4 A6 (qV 7) h7) h7 (r6 _)) (Y0 (y8 T6 (qB (E6 K P w) T.b_len Boot.«len» (i0 (qV 8) k4)) (qV 3) (r6 _)))))))) (D9 (T3 (u7 (u9 K hu) (qV 2) (C4 t7 (C4 A6 (C4 t7 (qV 7) h7) h7) h7) (fun _ _=>rfl)) (iZ (qV 4) (u7 (u9 K hu) (qV 1) (qV 6) (fun _ _=>rfl)) (k6 P w hu)))) (u6 (j7 (i:=9) hN rfl (by walk_at "l") (u7 (u9 K hu) (qV 8) (C4 A6 (C4 t7 (qV 7) h7) (qB (E6 K P w) T.b_len Boot.«len» (i0 (qV 8) k4))) (fun _ _=>rfl)))
   (D9 (T3 (gH (i0 (u7 (u9 K hu) (qV 2) (C4 t7 (C4 A6 (C4 t7 (qV 7) h7) h7) h7) (fun _ _=>rfl)) (i0 (qV 9) (i0 (u7 (u9 K hu) (qV 8) (C4 A6 (C4 t7 (qV 7) h7) (qB (E6 K P w) T.b_len Boot.«len» (i0 (qV 8) k4))) (fun _ _=>rfl)) k4)))) (iZ (qV 5) (u7 (u9 K hu) (qV 1) (qV 6) (fun _ _=>rfl)) (k6 P w hu))))))))))
   (D9 (E5 (gH (i0 (qV 4) (i0 (qV 5) k4)))))))),?_⟩
  walk_at "r"
  intro p np
  obtain⟨H1,e1,f1,m1,o1⟩:=c9 (o:= .dK []) np
  rw[e1]
  walk_at "r"
  intro q nq
  obtain⟨H2,e2,f2,m2,o2⟩:=c9 (o:= .dK []) nq
  rw[e2]
  have hpq:p≠q:=fun z=>by rw[←z,f1] at nq;cases nq
  have nq0:H q=none:=m1.free nq
  walk_at "r"
  refine C5 (k5 ((m1.trans m2).seq hA) ?_)
  rw[List.length_map]
  refine Q7 (by omega) (by omega) ?_
  refine T8 (n:=cs.length) (fun i σ H'=>∃(pts:List (Str×Str)) (kvs:List (g4×V)) (ts:List (Str×C8)) (v1 v2 v3 v4:Option V),σ=[some (.ref a),some (.ref b),some (.ref c),some (.int 5),some (.ref p),some (.ref q),v1,v2,v3,v4]∧Same H H'∧H' p=some (.dK (d0 pts))∧H' q=some (.dK kvs)∧TiesIs K H' kvs ts∧(pts.map (·.1)++ts.map (·.1)).Nodup∧(∀x∈pts.map (·.1)++ts.map (·.1),x∈ss.take i)∧pts.length+ts.length=i∧∀x∈ts,x.2.2.1∈pts.map (·.1)∧x.2.2.2∈pts.map (·.1))
   ⟨[],[],[],_,_,_,_,rfl,m1.trans m2,m2 _ _ f1,f2,.nil,List.nodup_nil,(fun _ h=>nomatch h),rfl,fun _ h=>nomatch h⟩ (fun i σ H' hi _=>by show i<_;omega) ?_ ?_
  ·rintro i v σ H3' H3 hi ⟨pts,kvs,ts,v1,v2,v3,v4,rfl,s3,g3,t3,w3,d1,d2,l1,l2⟩ ⟨rfl,rfl⟩
   obtain⟨nm,hnm,hnm'⟩:∃nm,(ss.map V.str)[i]?=some (.str nm)∧ss[i]?=some nm:=⟨ss[i],by rw[List.getElem?_map,List.getElem?_eq_getElem (by omega)];rfl,List.getElem?_eq_getElem (by omega)⟩
   have hci:(cs.map V.int)[i]?=some (.int cs[i]):=by rw[List.getElem?_map,List.getElem?_eq_getElem hi];rfl
   have e7:ss.take (i+1)=ss.take i++[nm]:=by rw[List.take_succ,hnm'];rfl
   have nin:nm∉ss.take i:=fun m=>by
    have z:(ss.take (i+1)).Nodup:=hkl.sublist (List.take_sublist _ _)
    rw[e7] at z
    exact(List.nodup_append.mp z).2.2 nm m nm (by simp) rfl
   have fresh:nm∉pts.map (·.1)++ts.map (·.1):=fun m=>nin (d2 nm m)
   have sub1:∀x∈pts.map (·.1)++ts.map (·.1),x∈ss.take (i+1):=fun x hx=>by rw[e7];exact List.mem_append_left _ (d2 x hx)
   walk_at "r"
   refine i4 (xs:=cs.map V.int) (s3.seq hA) (i:=0+(i:Int)) (by rw[Int.zero_add];exact d7 (j:=i) hci) ?_
   walk_at "r"
   refine l7 (ss:=pts.map (·.1)) (.inl g3) (by rw[B0,k9]) (by rw[List.length_map];omega) (fun s1 a1 a2 l1' n1=>?_)
   obtain⟨H6,e6,f6,m6,_⟩:=c9 (o:= .lst _) n1
   rw[e6]
   have s6:=s3.trans m6
   have g6:=m6 _ _ g3
   have t6:=m6 _ _ t3
   have w6:=w3.mono m6.le
   have ha1l:=a1.length_eq
   rw[List.length_map] at ha1l
   walk_at "r"
   refine C5 (k5 (SqL.of f6) ?_)
   rw[List.length_map,ha1l]
   walk_at "r"
   refine B5 (fun hz=>?_) (fun hz=>?_)
   ·walk_at "r"
    obtain⟨kd,hkd,_⟩:=D5 (ss:=ks) (i:=cs[i]/5 % 3/2) (by omega) (by omega)
    refine i4 (s6.seq hC) hkd ?_
    walk_at "r"
    refine i4 (xs:=ss.map V.str) (s6.seq hB) (i:=0+(i:Int)) (by rw[Int.zero_add];exact d7 (j:=i) hnm) ?_
    refine E7 (j4 (k:=Sum.inr nm) g6 (g7 (by unfold d0;rw[List.length_map];omega)) ?_)
    have ep:x9 (d0 pts) (Sum.inr nm:g4) (.str kd)=d0 (pts++[(nm,kd)]):=by
     rw[A9 _ (t4 (by rw[B0,←k9];exact fun m=>fresh (List.mem_append_left _ (D0 m))))]
     unfold d0;rw[List.map_append];rfl
    refine⟨pts++[(nm,kd)],kvs,ts,_,_,_,_,rfl,x8 s6 np,by rw[c8,ep],by rw[b0 (Ne.symm hpq)];exact t6,Paired.imp' (fun _ _ z=>E8 g6 z) w6,?_,?_,?_,?_⟩
    ·exact pC d1 fresh
    ·exact jA sub1 (by rw[e7];simp)
    ·rw[List.length_append,List.length_singleton];omega
    ·intro x hx
     rw[List.map_append]
     exact⟨List.mem_append_left _ (l2 x hx).1,List.mem_append_left _ (l2 x hx).2⟩
   ·walk_at "r"
    refine B5 (fun h3=>?_) (fun h3=>?_)
    ·walk_at "r"
     refine C5 (k5 (SqL.of f6) ?_)
     rw[List.length_map,ha1l]
     walk_at "r"
     refine B5 (fun h4=>?_) (fun h4=>?_)
     ·walk_at "r"
      obtain⟨kd,hkd,_⟩:=D5 (ss:=ks) (i:=cs[i]/5 % 3/2) (by omega) (by omega)
      refine i4 (s6.seq hC) hkd ?_
      walk_at "r"
      refine i4 (xs:=ss.map V.str) (s6.seq hB) (i:=0+(i:Int)) (by rw[Int.zero_add];exact d7 (j:=i) hnm) ?_
      refine E7 (j4 (k:=Sum.inr nm) g6 (g7 (by unfold d0;rw[List.length_map];omega)) ?_)
      have ep:x9 (d0 pts) (Sum.inr nm:g4) (.str kd)=d0 (pts++[(nm,kd)]):=by
       rw[A9 _ (t4 (by rw[B0,←k9];exact fun m=>fresh (List.mem_append_left _ (D0 m))))]
       unfold d0;rw[List.map_append];rfl
      refine⟨pts++[(nm,kd)],kvs,ts,_,_,_,_,rfl,x8 s6 np,by rw[c8,ep],by rw[b0 (Ne.symm hpq)];exact t6,Paired.imp' (fun _ _ z=>E8 g6 z) w6,?_,?_,?_,?_⟩
      ·exact pC d1 fresh
      ·exact jA sub1 (by rw[e7];simp)
      ·rw[List.length_append,List.length_singleton];omega
      ·intro x hx
       rw[List.map_append]
       exact⟨List.mem_append_left _ (l2 x hx).1,List.mem_append_left _ (l2 x hx).2⟩
     ·have hpos:0<pts.length:=by omega
      walk_at "r"
      refine C5 (k5 (SqL.of f6) ?_)
      rw[List.length_map,ha1l]
      walk_at "r"
      obtain⟨o1,ho1,hm1⟩:=D5 (ss:=s1) (i:=cs[i]/15 % (pts.length:Int)) (Int.emod_nonneg _ (by omega)) (by rw[ha1l];exact Int.emod_lt_of_pos _ (by omega))
      refine i4 (SqL.of f6) ho1 ?_
      walk_at "r"
      obtain⟨kd,hkd,_⟩:=D5 (ss:=ks) (i:=cs[i]/5 % 3/2) (by omega) (by omega)
      refine i4 (s6.seq hC) hkd ?_
      walk_at "r"
      refine C5 (k5 (SqL.of f6) ?_)
      rw[List.length_map,ha1l]
      walk_at "r"
      obtain⟨o2,ho2,hm2⟩:=D5 (ss:=s1) (i:=cs[i]/150 % (pts.length:Int)) (Int.emod_nonneg _ (by omega)) (by rw[ha1l];exact Int.emod_lt_of_pos _ (by omega))
      refine i4 (SqL.of f6) ho2 ?_
      walk_at "r"
      refine⟨g7 (by simp),fun l9 n9=>?_⟩
      obtain⟨H9,e9,f9,m9,_⟩:=c9 (o:= .tup _) n9
      rw[e9]
      have s9:=s6.trans m9
      have g9:=m9 _ _ g6
      have t9:=m9 _ _ t6
      have w9:=w6.mono m9.le
      walk_at "r"
      refine i4 (xs:=ss.map V.str) (s9.seq hB) (i:=0+(i:Int)) (by rw[Int.zero_add];exact d7 (j:=i) hnm) ?_
      refine E7 (j4 (k:=Sum.inr nm) t9 (g7 (by have z:=w9.length;omega)) ?_)
      have ek:x9 kvs (Sum.inr nm:g4) (.ref l9)=kvs++[(Sum.inr nm,.ref l9)]:=A9 _ (t4 (by rw[w9.keys,←k9];exact fun m=>fresh (List.mem_append_right _ (D0 m))))
      refine⟨pts,_,ts++[(nm,(kd,o1,o2))],_,_,_,_,rfl,x8 s9 nq0,by rw[b0 hpq];exact g9,c8,?_,?_,?_,?_,?_⟩
      ·rw[ek]
       exact j5 (Paired.imp' (fun _ _ z=>E8 t9 z) w9) (E8 t9 ⟨rfl,l9,rfl,SqT.of f9⟩)
      ·exact pO d1 fresh
      ·exact jc sub1 (by rw[e7];simp)
      ·rw[List.length_append,List.length_singleton];omega
      ·intro x hx
       rcases List.mem_append.mp hx with h'|h'
       ·exact l2 x h'
       ·rw[List.mem_singleton.mp h'];exact⟨a1.mem_iff.mp hm1,a1.mem_iff.mp hm2⟩
    ·have hpos:0<pts.length:=by omega
     walk_at "r"
     refine C5 (k5 (SqL.of f6) ?_)
     rw[List.length_map,ha1l]
     walk_at "r"
     obtain⟨o1,ho1,hm1⟩:=D5 (ss:=s1) (i:=cs[i]/15 % (pts.length:Int)) (Int.emod_nonneg _ (by omega)) (by rw[ha1l];exact Int.emod_lt_of_pos _ (by omega))
     refine i4 (SqL.of f6) ho1 ?_
     walk_at "r"
     obtain⟨kd,hkd,_⟩:=D5 (ss:=ks) (i:=cs[i]/5 % 3/2) (by omega) (by omega)
     refine i4 (s6.seq hC) hkd ?_
     walk_at "r"
     refine C5 (k5 (SqL.of f6) ?_)
     rw[List.length_map,ha1l]
     walk_at "r"
     obtain⟨o2,ho2,hm2⟩:=D5 (ss:=s1) (i:=cs[i]/150 % (pts.length:Int)) (Int.emod_nonneg _ (by omega)) (by rw[ha1l];exact Int.emod_lt_of_pos _ (by omega))
     refine i4 (SqL.of f6) ho2 ?_
     walk_at "r"
     refine⟨g7 (by simp),fun l9 n9=>?_⟩
     obtain⟨H9,e9,f9,m9,_⟩:=c9 (o:= .tup _) n9
     rw[e9]
     have s9:=s6.trans m9
     have g9:=m9 _ _ g6
     have t9:=m9 _ _ t6
     have w9:=w6.mono m9.le
     walk_at "r"
     refine i4 (xs:=ss.map V.str) (s9.seq hB) (i:=0+(i:Int)) (by rw[Int.zero_add];exact d7 (j:=i) hnm) ?_
     refine E7 (j4 (k:=Sum.inr nm) t9 (g7 (by have z:=w9.length;omega)) ?_)
     have ek:x9 kvs (Sum.inr nm:g4) (.ref l9)=kvs++[(Sum.inr nm,.ref l9)]:=A9 _ (t4 (by rw[w9.keys,←k9];exact fun m=>fresh (List.mem_append_right _ (D0 m))))
     refine⟨pts,_,ts++[(nm,(kd,o1,o2))],_,_,_,_,rfl,x8 s9 nq0,by rw[b0 hpq];exact g9,c8,?_,?_,?_,?_,?_⟩
     ·rw[ek]
      exact j5 (Paired.imp' (fun _ _ z=>E8 t9 z) w9) (E8 t9 ⟨rfl,l9,rfl,SqT.of f9⟩)
     ·exact pO d1 fresh
     ·exact jc sub1 (by rw[e7];simp)
     ·rw[List.length_append,List.length_singleton];omega
     ·intro x hx
      rcases List.mem_append.mp hx with h'|h'
      ·exact l2 x h'
      ·rw[List.mem_singleton.mp h'];exact⟨a1.mem_iff.mp hm1,a1.mem_iff.mp hm2⟩
  ·rintro σ H3 ⟨pts,kvs,ts,v1,v2,v3,v4,rfl,s3,g3,t3,w3,d1,d2,l1,l2⟩
   refine⟨by show cs.length≤_;omega,?_⟩
   walk_at "r"
   refine⟨g7 (by simp),fun l9 n9=>?_⟩
   obtain⟨H9,e9,f9,m9,_⟩:=c9 (o:= .tup _) n9
   rw[e9]
   have hlen:=w3.length
   exact k l9 p q kvs ⟨pts,ts⟩ H9 (s3.trans m9) ⟨⟨SqT.of f9,.inl (m9 _ _ g3),.inl (m9 _ _ t3),w3.mono m9.le⟩,m9 _ _ g3,m9 _ _ t3,hpq,d1,by show(pts.map (·.1)++ts.map (·.1)).length≤9;rw[List.length_append,List.length_map,List.length_map];omega,l2,fun x hx=>hsl x (List.mem_of_mem_take (d2 x hx))⟩
def vS (a b:Str):Prop:=a.cps.toList<b.cps.toList
theorem K9:∀{ss:List Str},mQ ss=true→ss.Pairwise vS
 |[],_=> .nil
 |[_],_=>List.pairwise_singleton _ _
 |x::y::r,h=>by
  rw[dg,Bool.and_eq_true] at h
  have ih:=K9 h.2
  have hxy:x.cps.toList<y.cps.toList:=of_decide_eq_true h.1
  refine List.pairwise_cons.mpr ⟨fun z hz=>?_,ih⟩
  rcases List.mem_cons.mp hz with e|e
  ·rw[e];exact hxy
  ·exact List.lt_trans hxy ((List.pairwise_cons.mp ih).1 z e)
theorem gj:∀{a b:List Str},a.Pairwise vS→b.Pairwise vS→a.Perm b→a=b
 |[],b,_,_,p=>(List.Perm.nil_eq p)
 |x::r,[],_,_,p=>(List.Perm.eq_nil p)
 |x::r,y::t,h1,h2,p=>by
  have h1':=List.pairwise_cons.mp h1
  have h2':=List.pairwise_cons.mp h2
  have e:x=y:=Classical.byContradiction fun ne=>by
   have m1:x∈y::t:=p.mem_iff.mp List.mem_cons_self
   have m2:y∈x::r:=p.mem_iff.mpr List.mem_cons_self
   rcases List.mem_cons.mp m1 with z|z
   ·exact ne z
   ·rcases List.mem_cons.mp m2 with z'|z'
    ·exact ne z'.symm
    ·have q1:y.cps.toList<x.cps.toList:=h2'.1 x z
     have q2:x.cps.toList<y.cps.toList:=h1'.1 y z'
     exact List.lt_asymm q1 q2
  subst e
  rw[gj h1'.2 h2'.2 (List.Perm.cons_inv p)]
theorem p6 {a b:List Str}(h1:sortedS a=true)(h2:sortedS b=true)(nd:a.Nodup)(p:a.Perm b):a=b:=
 gj (K9 (Q8 h1 nd)) (K9 (Q8 h2 (p.nodup_iff.mp nd))) p
structure Ordr (W:y4) (s1 s2:List Str):Prop where
 p1:s1.Perm (W.pts.map (·.1))
 p2:s2.Perm (W.ts.map (·.1))
 o1:sortedS s1=true
 o2:sortedS s2=true
theorem Ordr.mem {W:y4}{s1 s2:List Str}(h:Ordr W s1 s2){n:Str}:n∈s1++s2↔n∈d9 W:=by
 unfold d9
 rw[List.mem_append,List.mem_append,h.p1.mem_iff,h.p2.mem_iff]
theorem Ordr.perm {W:y4}{s1 s2:List Str}(h:Ordr W s1 s2):(s1++s2).Perm (d9 W):=h.p1.append h.p2
theorem Ordr.len {W:y4}{s1 s2:List Str}(h:Ordr W s1 s2):(s1++s2).length=(d9 W).length:=h.perm.length_eq
def d6 (kvm:List (g4×V))(n:Str):Str:=match i5 kvm (Sum.inr n:g4) with
 |some (.str s)=>s
 |_=>""
theorem dR {kvm:List (g4×V)}{n s:Str}(h:i5 kvm (Sum.inr n:g4)=some (.str s)):d6 kvm n=s:=by unfold d6;rw[h]
def TxtAt (kvm:List (g4×V))(n:Str):Prop:=∃s,i5 kvm (Sum.inr n:g4)=some (.str s)
theorem TxtAt.at_ {kvm:List (g4×V)}{n:Str}(h:TxtAt kvm n):i5 kvm (Sum.inr n:g4)=some (.str (d6 kvm n)):=by
 obtain⟨s,hs⟩:=h
 rw[dR hs];exact hs
theorem qd {H:Hp}{Q:VK}{d:Addr}{kvm:List (g4×V)}{n:Str}(hD:Rd H d (.dK kvm))(h:TxtAt kvm n)(q:Q (.str (d6 kvm n)) H):hU K (.ref d) (.str n) H Q:=
 u5 (by have z:=L7 (k:=Sum.inr n) hD;rw[h.at_] at z;exact z) q
def cJ (K:PySem.W.Frag):Sp:=fun vs H Q _=>∃(a p q:Addr) (kvs:List (g4×V)) (W:y4),vs=[.ref a]∧WebAt K H a p q kvs W∧(d9 W).length≤60∧∀(l:Addr) (H':Hp) (s1 s2:List Str),H l=none→Same H H'→H' l=some (.lst ((s1++s2).map V.str))→Ordr W s1 s2→Q (.ref l) H'
def Q4 (K:PySem.W.Frag):Sp:=fun vs H Q _=>∃(t d:Addr) (x:C8) (kvm:List (g4×V)),vs=[.ref t,.ref d]∧SqT K H t (er x)∧Rd H d (.dK kvm)∧TxtAt kvm x.2.1∧TxtAt kvm x.2.2∧∀(l:Addr) (H':Hp),H l=none→Same H H'→H' l=some (.tup (er (x.1,d6 kvm x.2.1,d6 kvm x.2.2)))→Q (.ref l) H'
theorem C1 (W:y4):(d9 W).length=W.pts.length+W.ts.length:=by unfold d9;rw[List.length_append,List.length_map,List.length_map]
abbrev V3 (P:Program)(w:World)(K:PySem.W.Frag)(mg:Str→Option Value)(base:Heap):Prop:=Z6 P w K mg base C7 1 "things" ["web"] [] (cJ K)
theorem kU {f:Addr}{fd:FuncData}(T:Txt K mg)(F:Fun K "things" "things" aY f fd):A0 P w K mg base C7 1 f fd ["web"] (cJ K):=by
 refine F.ok sc_things (fun vs H Q E h=>?_) (fun cdv A outer s H vs Q E hr h=>?_)
 ·obtain⟨a,p,q,kvs,W,rfl,_⟩:=h
  rfl
 ·obtain⟨a,p,q,kvs,W,rfl,hW,h1,k⟩:=h
  rw[C1] at h1
  have hN:=sc_things.nd
  have hu:=A5 hr
  refine⟨_,QSs.r (D9 (E5 (C4 (O4 K) (qB (C9 K rfl) T.b_sorted Boot.«sorted» (i0 (u7 (u9 K hu) (qV 0) h7 (fun _ _=>rfl)) k4)) (qB (C9 K rfl) T.b_sorted Boot.«sorted» (i0 (u7 (u9 K hu) (qV 0) h7 (fun _ _=>rfl)) k4))))),?_⟩
  walk_at "r"
  refine g5 hW.tup (d7 (j:=0) rfl) ?_
  walk_at "r"
  refine l7 (ss:=W.pts.map (·.1)) hW.pts (by rw[B0,k9]) (by rw[List.length_map];omega) (fun s1 a1 a2 l1 n1=>?_)
  obtain⟨H1,e1,f1,m1,_⟩:=c9 (o:= .lst _) n1
  rw[e1]
  have W1:=hW.mono m1.le
  walk_at "r"
  refine g5 W1.tup (d7 (j:=1) rfl) ?_
  walk_at "r"
  refine l7 (ss:=W.ts.map (·.1)) W1.ties (by rw[W1.ts.keys,k9]) (by rw[List.length_map];omega) (fun s2 b1 b2 l2 n2=>?_)
  obtain⟨H2,e2,f2,m2,_⟩:=c9 (o:= .lst _) n2
  rw[e2]
  have g1:=a1.length_eq
  have g2:=b1.length_eq
  rw[List.length_map] at g1 g2
  refine gn (m2 _ _ f1) f2 (g7 (by rw[List.length_map,List.length_map];omega)) (fun l3 n3=>?_)
  obtain⟨H3,e3,f3,m3,_⟩:=c9 (o:= .lst _) n3
  rw[e3]
  refine k l3 H3 s1 s2 (m1.free (m2.free n3)) (m1.trans (m2.trans m3)) ?_ ⟨a1,b1,a2,b2⟩
  rw[f3,List.map_append]
abbrev S1 (P:Program)(w:World)(K:PySem.W.Frag)(mg:Str→Option Value)(base:Heap):Prop:=Z6 P w K mg base C7 1 "tie_renamed" ["tie","names"] [] (Q4 K)
theorem bh {f:Addr}{fd:FuncData}(T:Txt K mg)(F:Fun K "tie_renamed" "tie_renamed" G9 f fd):A0 P w K mg base C7 1 f fd ["tie","names"] (Q4 K):=by
 refine F.ok sc_tie_renamed (fun vs H Q E h=>?_) (fun cdv A outer s H vs Q E hr h=>?_)
 ·obtain⟨t,d,x,kvm,rfl,_⟩:=h
  rfl
 ·obtain⟨t,d,⟨x1,x2,x3⟩,kvm,rfl,hT,hD,k1,k2,k⟩:=h
  have hN:=sc_tie_renamed.nd
  have hu:=A5 hr
  refine⟨_,QSs.r (D9 (E5 (gH (i0 (u7 (u9 K hu) (qV 0) h7 (fun _ _=>rfl)) (i0 (u7 (u9 K hu) (qV 1) (u7 (u9 K hu) (qV 0) h7 (fun _ _=>rfl)) (fun _ _=>rfl)) (i0 (u7 (u9 K hu) (qV 1) (u7 (u9 K hu) (qV 0) h7 (fun _ _=>rfl)) (fun _ _=>rfl)) k4)))))),?_⟩
  walk_at "r"
  refine g5 hT (d7 (j:=0) rfl) ?_
  walk_at "r"
  refine g5 hT (d7 (j:=1) rfl) ?_
  refine qd hD k1 ?_
  walk_at "r"
  refine g5 hT (d7 (j:=2) rfl) ?_
  refine qd hD k2 ?_
  walk_at "r"
  refine⟨g7 (by simp),fun l9 n9=>?_⟩
  obtain⟨H9,e9,f9,m9,_⟩:=c9 (o:= .tup _) n9
  rw[e9]
  exact k l9 H9 n9 m9 f9
structure FitP (P W:y4) (kvm:List (g4×V)):Prop where
 len:kvm.length=(d9 P).length
 txt:∀n∈d9 P,TxtAt kvm n
 nd:((d9 P).map (d6 kvm)).Nodup
 pts:∀x∈P.pts,(d6 kvm x.1,x.2)∈W.pts
 ts:∀x∈P.ts,(d6 kvm x.1,(x.2.1,d6 kvm x.2.2.1,d6 kvm x.2.2.2))∈W.ts
theorem jt:∀{kvs:List (g4×V)} {k:g4} {v:V},i5 kvs k=some v→(k,v)∈kvs
 |p::r,k,v,h=>by
  by_cases e:p.1=k
  ·rw[p7 e] at h
   rw[←e,←Option.some.inj h];exact List.mem_cons_self
  ·rw[q8 e] at h
   exact List.mem_cons_of_mem _ (jt h)
theorem U8 {pts:List (Str×Str)}{n:Str}{v:V}(h:i5 (d0 pts) (Sum.inr n:g4)=some v):∃k,v= .str k∧(n,k)∈pts:=by
 obtain⟨x,hx,e⟩:=List.mem_map.mp (jt h)
 obtain⟨x1,x2⟩:=x
 have e1:=(Prod.mk.inj e).1
 have e2:=(Prod.mk.inj e).2
 exact⟨x2,e2.symm,by rw[←Sum.inr.inj e1];exact hx⟩
theorem B4 {W:y4}(h:(d9 W).Nodup):(W.pts.map (·.1)).Nodup:=(List.nodup_append.mp h).1
theorem J5 {W:y4}(h:(d9 W).Nodup):(W.ts.map (·.1)).Nodup:=(List.nodup_append.mp h).2.1
structure zF (m0 u0 p0 t0 l0:Addr):Prop where
 mu:m0≠u0
 mp:m0≠p0
 mt:m0≠t0
 up:u0≠p0
 ut:u0≠t0
 pt:p0≠t0
 lm:l0≠m0
 lu:l0≠u0
 lp:l0≠p0
 lt:l0≠t0
structure PI (K:PySem.W.Frag) (W:y4) (ns nm:List Str) (H H':Hp) (m0 u0 p0 t0 l0:Addr) (i:Nat) (ms us pp:List (Str×Str)) (kvt:List (g4×V)) (tt:List (Str×C8)):Prop where
 s:Same H H'
 hl:H' l0=some (.lst (nm.map V.str))
 hm:H' m0=some (.dK (d0 ms))
 hu:H' u0=some (.dK (d0 us))
 hp:H' p0=some (.dK (d0 pp))
 ht:H' t0=some (.dK kvt)
 ts:TiesIs K H' kvt tt
 perm:(pp.map (·.1)++tt.map (·.1)).Perm (ms.map (·.1))
 pre:ms.map (·.1)=ns.take ms.length
 vnd:(ms.map (·.2)).Nodup
 vin:∀x∈ms,x.2∈nm.take i
 und:∀x∈us,(x.2,x.1)∈ms∧x.2∈pp.map (·.1)
 unl:us.length≤ms.length
 pts:∀x∈pp,∃m,(x.1,m)∈ms∧(m,x.2)∈W.pts
 tis:∀x∈tt,∃m ma mb,(x.1,m)∈ms∧(x.2.2.1,ma)∈ms∧(x.2.2.2,mb)∈ms∧(m,(x.2.1,ma,mb))∈W.ts
 ends:∀x∈tt,x.2.2.1∈pp.map (·.1)∧x.2.2.2∈pp.map (·.1)
 len:ms.length≤i
 pl:pp.length≤3
 tl:tt.length≤2
section
variable {W:y4} {ns nm:List Str} {H H':Hp} {m0 u0 p0 t0 l0:Addr} {i:Nat} {ms us pp:List (Str×Str)} {kvt:List (g4×V)} {tt:List (Str×C8)}
theorem PI.next (h:PI K W ns nm H H' m0 u0 p0 t0 l0 i ms us pp kvt tt):PI K W ns nm H H' m0 u0 p0 t0 l0 (i+1) ms us pp kvt tt:=
 {h with vin:=fun x hx=>by rw[List.take_succ];exact List.mem_append_left _ (h.vin x hx),len:=Nat.le_succ_of_le h.len}
theorem PI.same {H2:Hp}(h:PI K W ns nm H H' m0 u0 p0 t0 l0 i ms us pp kvt tt)(s:Same H' H2):PI K W ns nm H H2 m0 u0 p0 t0 l0 i ms us pp kvt tt:=
 {h with s:=h.s.trans s,hl:=s _ _ h.hl,hm:=s _ _ h.hm,hu:=s _ _ h.hu,hp:=s _ _ h.hp,ht:=s _ _ h.ht,ts:=h.ts.mono s.le}
theorem PI.new (h:PI K W ns nm H H' m0 u0 p0 t0 l0 i ms us pp kvt tt){new:Str}(hn:ns[ms.length]?=some new)(nd:ns.Nodup):new∉ms.map (·.1):=fun z=>by
 rw[h.pre] at z
 have e7:ns.take (ms.length+1)=ns.take ms.length++[new]:=by rw[List.take_succ,hn];rfl
 have w:(ns.take (ms.length+1)).Nodup:=nd.sublist (List.take_sublist _ _)
 rw[e7] at w
 exact(List.nodup_append.mp w).2.2 new z new (by simp) rfl
theorem PI.old (h:PI K W ns nm H H' m0 u0 p0 t0 l0 i ms us pp kvt tt){n:Str}(hn:nm[i]?=some n)(nd:nm.Nodup):n∉ms.map (·.2):=fun z=>by
 obtain⟨x,hx,e⟩:=List.mem_map.mp z
 have z':=h.vin x hx
 have e7:nm.take (i+1)=nm.take i++[n]:=by rw[List.take_succ,hn];rfl
 have w:(nm.take (i+1)).Nodup:=nd.sublist (List.take_sublist _ _)
 rw[e7] at w
 exact(List.nodup_append.mp w).2.2 n (e▸z') n (by simp) rfl
theorem G8 {pts:List (Str×Str)}{n s:Str}(h:n∉pts.map (·.1)):x9 (d0 pts) (Sum.inr n:g4) (.str s)=d0 (pts++[(n,s)]):=by
 rw[A9 _ (t4 (by rw[B0,←k9];exact fun m=>h (D0 m)))]
 unfold d0;rw[List.map_append];rfl
theorem PI.newP (h:PI K W ns nm H H' m0 u0 p0 t0 l0 i ms us pp kvt tt){new:Str}(hn:ns[ms.length]?=some new)(nd:ns.Nodup):new∉pp.map (·.1):=fun z=>h.new hn nd (h.perm.mem_iff.mp (List.mem_append_left _ z))
theorem PI.newT (h:PI K W ns nm H H' m0 u0 p0 t0 l0 i ms us pp kvt tt){new:Str}(hn:ns[ms.length]?=some new)(nd:ns.Nodup):new∉tt.map (·.1):=fun z=>h.new hn nd (h.perm.mem_iff.mp (List.mem_append_right _ z))
theorem PI.newU (h:PI K W ns nm H H' m0 u0 p0 t0 l0 i ms us pp kvt tt){n:Str}(hn:nm[i]?=some n)(nd:nm.Nodup):n∉us.map (·.1):=fun z=>by
 obtain⟨x,hx,e⟩:=List.mem_map.mp z
 exact h.old hn nd (List.mem_map.mpr ⟨_,(h.und x hx).1,e⟩)
theorem gx {ms:List (Str×Str)}{new n:Str}(h:ms.map (·.1)=ns.take ms.length)(hn:ns[ms.length]?=some new):(ms++[(new,n)]).map (·.1)=ns.take (ms++[(new,n)]).length:=by
 rw[List.map_append,h,List.length_append,List.length_singleton,List.take_succ,hn];rfl
theorem PI.point (h:PI K W ns nm H H' m0 u0 p0 t0 l0 i ms us pp kvt tt)(hne:zF m0 u0 p0 t0 l0)(nm0:H m0=none)(nu0:H u0=none)(np0:H p0=none){new n kd:Str}(hn:ns[ms.length]?=some new)(nd:ns.Nodup)(hi:nm[i]?=some n)(ndm:nm.Nodup)(hk:(n,kd)∈W.pts)(hpl:pp.length<3):
  PI K W ns nm H (i6 (i6 (i6 H' p0 (.dK (x9 (d0 pp) (Sum.inr new) (.str kd)))) u0 (.dK (x9 (d0 us) (Sum.inr n) (.str new)))) m0 (.dK (x9 (d0 ms) (Sum.inr new) (.str n)))) m0 u0 p0 t0 l0 (i+1) (ms++[(new,n)]) (us++[(n,new)]) (pp++[(new,kd)]) kvt tt where
 s:=x8 (x8 (x8 h.s np0) nu0) nm0
 hl:=by rw[b0 hne.lm,b0 hne.lu,b0 hne.lp];exact h.hl
 hm:=by rw[c8,G8 (h.new hn nd)]
 hu:=by rw[b0 hne.mu.symm,c8,G8 (h.newU hi ndm)]
 hp:=by rw[b0 hne.mp.symm,b0 hne.up.symm,c8,G8 (h.newP hn nd)]
 ht:=by rw[b0 hne.mt.symm,b0 hne.ut.symm,b0 hne.pt.symm];exact h.ht
 ts:=K7 (k1:=d0 ms) (by rw[b0 hne.mu,b0 hne.mp];exact h.hm) (K7 (k1:=d0 us) (by rw[b0 hne.up];exact h.hu) (K7 h.hp h.ts))
 perm:=by
  rw[List.map_append,List.map_append,List.append_assoc]
  refine List.Perm.trans ?_ (h.perm.append_right _)
  rw[List.append_assoc]
  exact List.Perm.append_left _ List.perm_append_comm
 pre:=gx h.pre hn
 vnd:=by rw[List.map_append];exact Q9 h.vnd (h.old hi ndm)
 vin:=fun x hx=>by
  rw[List.take_succ,hi]
  rcases List.mem_append.mp hx with z|z
  ·exact List.mem_append_left _ (h.vin x z)
  ·rw[List.mem_singleton.mp z];simp
 und:=fun x hx=>by
  rcases List.mem_append.mp hx with z|z
  ·exact⟨List.mem_append_left _ (h.und x z).1,by rw[List.map_append];exact List.mem_append_left _ (h.und x z).2⟩
  ·rw[List.mem_singleton.mp z];simp
 unl:=by rw[List.length_append,List.length_append];have:=h.unl;simp;exact this
 pts:=fun x hx=>by
  rcases List.mem_append.mp hx with z|z
  ·obtain⟨m,h1,h2⟩:=h.pts x z
   exact⟨m,List.mem_append_left _ h1,h2⟩
  ·rw[List.mem_singleton.mp z];exact⟨n,by simp,hk⟩
 tis:=fun x hx=>by
  obtain⟨m,ma,mb,h1,h2,h3,h4⟩:=h.tis x hx
  exact⟨m,ma,mb,List.mem_append_left _ h1,List.mem_append_left _ h2,List.mem_append_left _ h3,h4⟩
 ends:=fun x hx=>by rw[List.map_append];exact⟨List.mem_append_left _ (h.ends x hx).1,List.mem_append_left _ (h.ends x hx).2⟩
 len:=by rw[List.length_append];have:=h.len;simp;exact this
 pl:=by rw[List.length_append,List.length_singleton];omega
 tl:=h.tl
theorem PI.tie (h:PI K W ns nm H H' m0 u0 p0 t0 l0 i ms us pp kvt tt)(hne:zF m0 u0 p0 t0 l0)(nm0:H m0=none)(nt0:H t0=none){new n kd a b a' b':Str}{l9:Addr}(hn:ns[ms.length]?=some new)(nd:ns.Nodup)(hi:nm[i]?=some n)(ndm:nm.Nodup)(hk:(n,(kd,a',b'))∈W.ts)(ha:(a',a)∈us)(hb:(b',b)∈us)(h9:SqT K H' l9 (er (kd,a,b)))(htl:tt.length<2):
  PI K W ns nm H (i6 (i6 H' t0 (.dK (x9 kvt (Sum.inr new) (.ref l9)))) m0 (.dK (x9 (d0 ms) (Sum.inr new) (.str n)))) m0 u0 p0 t0 l0 (i+1) (ms++[(new,n)]) us pp (kvt++[(Sum.inr new,.ref l9)]) (tt++[(new,(kd,a,b))]) where
 s:=x8 (x8 h.s nt0) nm0
 hl:=by rw[b0 hne.lm,b0 hne.lt];exact h.hl
 hm:=by rw[c8,G8 (h.new hn nd)]
 hu:=by rw[b0 hne.mu.symm,b0 hne.ut];exact h.hu
 hp:=by rw[b0 hne.mp.symm,b0 hne.pt];exact h.hp
 ht:=by
  rw[b0 hne.mt.symm,c8]
  rw[A9 _ (t4 (by rw[h.ts.keys,←k9];exact fun m=>h.newT hn nd (D0 m)))]
 ts:=K7 (k1:=d0 ms) (by rw[b0 hne.mt];exact h.hm) (j5 (K7 h.ht h.ts) (E8 h.ht ⟨rfl,l9,rfl,h9⟩))
 perm:=by
  rw[List.map_append,List.map_append,←List.append_assoc]
  exact h.perm.append_right _
 pre:=gx h.pre hn
 vnd:=by rw[List.map_append];exact Q9 h.vnd (h.old hi ndm)
 vin:=fun x hx=>by
  rw[List.take_succ,hi]
  rcases List.mem_append.mp hx with z|z
  ·exact List.mem_append_left _ (h.vin x z)
  ·rw[List.mem_singleton.mp z];simp
 und:=fun x hx=>⟨List.mem_append_left _ (h.und x hx).1,(h.und x hx).2⟩
 unl:=by rw[List.length_append];have:=h.unl;omega
 pts:=fun x hx=>by
  obtain⟨m,h1,h2⟩:=h.pts x hx
  exact⟨m,List.mem_append_left _ h1,h2⟩
 tis:=fun x hx=>by
  rcases List.mem_append.mp hx with z|z
  ·obtain⟨m,ma,mb,h1,h2,h3,h4⟩:=h.tis x z
   exact⟨m,ma,mb,List.mem_append_left _ h1,List.mem_append_left _ h2,List.mem_append_left _ h3,h4⟩
  ·rw[List.mem_singleton.mp z]
   exact⟨n,a',b',by simp,List.mem_append_left _ (h.und _ ha).1,List.mem_append_left _ (h.und _ hb).1,hk⟩
 ends:=fun x hx=>by
  rcases List.mem_append.mp hx with z|z
  ·exact h.ends x z
  ·rw[List.mem_singleton.mp z];exact⟨(h.und _ ha).2,(h.und _ hb).2⟩
 len:=by rw[List.length_append];have:=h.len;simp;exact this
 pl:=h.pl
 tl:=by rw[List.length_append,List.length_singleton];omega
theorem i3 {n m:Str}(nd:(ms.map (·.1)).Nodup)(h:(n,m)∈ms):d6 (d0 ms) n=m:=dR (J2 nd h)
theorem PI.fit (h:PI K W ns nm H H' m0 u0 p0 t0 l0 i ms us pp kvt tt)(nd:ns.Nodup):FitP ⟨pp,tt⟩ W (d0 ms):=by
 have ndk:(ms.map (·.1)).Nodup:=by rw[h.pre];exact nd.sublist (List.take_sublist _ _)
 refine⟨?_,fun n hn=>?_,?_,fun x hx=>?_,fun x hx=>?_⟩
 ·rw[j8]
  have z:=h.perm.length_eq
  rw[List.length_map] at z
  exact z.symm
 ·have z:=h.perm.mem_iff.mp hn
  obtain⟨x,hx,rfl⟩:=List.mem_map.mp z
  exact⟨x.2,J2 ndk hx⟩
 ·have e:(ms.map (·.1)).map (d6 (d0 ms))=ms.map (·.2):=by
   rw[List.map_map]
   exact List.map_congr_left fun x hx=>i3 ndk hx
  have z:=(h.perm.map (d6 (d0 ms))).nodup_iff
  rw[e] at z
  exact z.mpr h.vnd
 ·obtain⟨m,h1,h2⟩:=h.pts x hx
  rw[i3 ndk h1];exact h2
 ·obtain⟨m,ma,mb,h1,h2,h3,h4⟩:=h.tis x hx
  rw[i3 ndk h1,i3 ndk h2,i3 ndk h3];exact h4
end
def R9 (K:PySem.W.Frag):Sp:=fun vs H Q _=>∃(a p q c:Addr) (kvs:List (g4×V)) (W:y4) (ns:List Str) (z:Int),vs=[.ref a,.int z,.ref c,.int 3]∧WebIs 9 K H a p q kvs W∧SqL K H c (ns.map V.str)∧ns.length=16∧ns.Nodup∧(∀s∈ns,s.length≤100)∧
 ∀(t b p' q' d:Addr) (kvs':List (g4×V)) (Pc:y4) (ms:List (Str×Str)) (H':Hp),Same H H'→H' t=some (.tup [.ref b,.ref d])→WebIs 5 K H' b p' q' kvs' Pc→H' d=some (.dK (d0 ms))→FitP Pc W (d0 ms)→H d=none→d≠p'→d≠q'→(ms.map (·.1)).Nodup→ms.length≤5→(∀x∈ms,x.1.length≤100∧x.2.length≤100∧x.2∈d9 W∧x.1∈d9 Pc)→Q (.ref t) H'
abbrev V7 (P:Program)(w:World)(K:PySem.W.Frag)(mg:Str→Option Value)(base:Heap):Prop:=Z6 P w K mg base C7 1 "_law_piece" ["_law_web_here","_law_cell","_law_names_here","_law_most"] [] (R9 K)
theorem cg {f:Addr}{fd:FuncData}(T:Txt K mg)(F:Fun K "_law_piece" "_law_piece" L5 f fd):A0 P w K mg base C7 1 f fd ["_law_web_here","_law_cell","_law_names_here","_law_most"] (R9 K):=by
 refine F.ok sc__law_piece (fun vs H Q E h=>?_) (fun cdv A outer s H vs Q E hr h=>?_)
 ·obtain⟨a,p,q,c,kvs,W,ns,z,rfl,_⟩:=h
  rfl
 ·obtain⟨a,p,q,c,kvs,W,ns,z,rfl,hW,hN',hnl,hnd,hns,k⟩:=h
  have hWl:=hW.len
  have hWl2:=hWl
  rw[C1] at hWl2
  have hN:=sc__law_piece.nd
  have hu:=A5 hr
  refine⟨_,QSs.r (u6 (j7 (i:=4) hN rfl (by walk_at "l") mh)
   (u6 (j7 (i:=5) hN rfl (by walk_at "l") mh)
   (u6 (j7 (i:=6) hN rfl (by walk_at "l") mh)
   (u6 (j7 (i:=7) hN rfl (by walk_at "l") mh)
   (u6 (U0 PassesOwn.never rfl (R1 K (C4 (O4 K) (qB (C9 K rfl) T.b_sorted Boot.«sorted» (i0 (u7 (u9 K hu) (qV 0) h7 (fun _ _=>rfl)) k4)) (qB (C9 K rfl) T.b_sorted Boot.«sorted» (i0 (u7 (u9 K hu) (qV 0) h7 (fun _ _=>rfl)) k4)))) (R5 (i:=8) hN rfl (by walk_at "l"))
    (u6 (j7 (i:=9) hN rfl (by walk_at "l") (u7 (u9 K hu) (qV 2) (qB (E6 K P w) T.b_len Boot.«len» (i0 (qV 4) k4)) (fun _ _=>rfl)))
   (u6 (mn (tN (aj (y8 T6 (C4 A6 (qV 1) h7) h7 (r6 _)) (aj (y8 (kIn K hu) (qV 8) (u7 (u9 K hu) (qV 0) h7 (fun _ _=>rfl)) (by rfl)) (Y0 (y8 T6 (qB (E6 K P w) T.b_len Boot.«len» (i0 (qV 6) k4)) (qV 3) (r6 _)))))) (u6 (T3 (u7 (u9 K hu) (u7 (u9 K hu) (qV 0) h7 (fun _ _=>rfl)) (qV 8) (fun _ _=>rfl)) (iZ (qV 6) (qV 9) (k6 P w hu)))
   (u6 (T3 (qV 9) (iZ (qV 5) (qV 8) (k6 P w hu)))
   (D9 (T3 (qV 8) (iZ (qV 4) (qV 9) (k6 P w hu)))))) rV)
   (u6 (mn (tN (aj (y8 T6 (C4 A6 (qV 1) h7) h7 (r6 _)) (aj (y8 (kIn K hu) (qV 8) (u7 (u9 K hu) (qV 0) h7 (fun _ _=>rfl)) (by rfl)) (Y0 (y8 T6 (qB (E6 K P w) T.b_len Boot.«len» (i0 (qV 7) k4)) (C4 tG (qV 3) h7) (r6 _)))))) (u6 (j7 (i:=10) hN rfl (by walk_at "l") (u7 (u9 K hu) (u7 (u9 K hu) (qV 0) h7 (fun _ _=>rfl)) (qV 8) (fun _ _=>rfl)))
   (D9 (mn (tN (aj (y8 (kIn K hu) (u7 (u9 K hu) (qV 10) h7 (fun _ _=>rfl)) (qV 5) (by rfl)) (Y0 (y8 (kIn K hu) (u7 (u9 K hu) (qV 10) h7 (fun _ _=>rfl)) (qV 5) (by rfl))))) (u6 (T3 (gH (i0 (u7 (u9 K hu) (qV 10) h7 (fun _ _=>rfl)) (i0 (u7 (u9 K hu) (qV 5) (u7 (u9 K hu) (qV 10) h7 (fun _ _=>rfl)) (fun _ _=>rfl)) (i0 (u7 (u9 K hu) (qV 5) (u7 (u9 K hu) (qV 10) h7 (fun _ _=>rfl)) (fun _ _=>rfl)) k4)))) (iZ (qV 7) (qV 9) (k6 P w hu)))
   (D9 (T3 (qV 8) (iZ (qV 4) (qV 9) (k6 P w hu))))) rV))) rV)
   (D9 (j7 (i:=1) hN rfl (by walk_at "l") (C4 t7 (qV 1) h7)))))))
   (D9 (E5 (gH (i0 (gH (i0 (qV 6) (i0 (qV 7) k4))) (i0 (qV 4) k4)))))))))),?_⟩
  refine B6 ?_
  walk_at "e"
  intro m0 nm0
  obtain⟨H1,e1,f1,m1,_⟩:=c9 (o:= .dK []) nm0
  rw[e1]
  walk_at "e"
  refine B6 ?_
  walk_at "e"
  intro u0 nu0
  obtain⟨H2,e2,f2,m2,_⟩:=c9 (o:= .dK []) nu0
  rw[e2]
  walk_at "e"
  refine B6 ?_
  walk_at "e"
  intro p0 np0
  obtain⟨H3,e3,f3,m3,_⟩:=c9 (o:= .dK []) np0
  rw[e3]
  walk_at "e"
  refine B6 ?_
  walk_at "e"
  intro t0 nt0
  obtain⟨H4,e4,f4,m4,_⟩:=c9 (o:= .dK []) nt0
  rw[e4]
  walk_at "e"
  refine B6 ?_
  walk_at "e"
  have m14:=m1.trans (m2.trans (m3.trans m4))
  have hW4:=hW.at_.mono m14.le
  refine g5 hW4.tup (d7 (j:=0) rfl) ?_
  walk_at "e"
  refine l7 (ss:=W.pts.map (·.1)) hW4.pts (by rw[B0,k9]) (by rw[List.length_map];omega) (fun s1 a1 a2 l5 n5=>?_)
  obtain⟨H5,e5,f5,m5,_⟩:=c9 (o:= .lst _) n5
  rw[e5]
  have hW5:=hW4.mono m5.le
  walk_at "e"
  refine g5 hW5.tup (d7 (j:=1) rfl) ?_
  walk_at "e"
  refine l7 (ss:=W.ts.map (·.1)) hW5.ties (by rw[hW5.ts.keys,k9]) (by rw[List.length_map];omega) (fun s2 b1 b2 l6 n6=>?_)
  obtain⟨H6,e6,f6,m6,_⟩:=c9 (o:= .lst _) n6
  rw[e6]
  have g1:=a1.length_eq
  have g2:=b1.length_eq
  rw[List.length_map] at g1 g2
  refine gn (m6 _ _ f5) f6 (g7 (by rw[List.length_map,List.length_map];omega)) (fun l0 nl0=>?_)
  obtain⟨H7,e7,f7,m7,_⟩:=c9 (o:= .lst _) nl0
  rw[e7]
  have m57:=m5.trans (m6.trans m7)
  have f7':H7 l0=some (.lst ((s1++s2).map V.str)):=by rw[f7,List.map_append]
  have pnm:(s1++s2).Perm (d9 W):=a1.append b1
  have ndn:(s1++s2).Nodup:=pnm.nodup_iff.mpr hW.nd
  have hnl2:=pnm.length_eq
  have F1:=m57 _ _ (m4 _ _ (m3 _ _ (m2 _ _ f1)))
  have F2:=m57 _ _ (m4 _ _ (m3 _ _ f2))
  have F3:=m57 _ _ (m4 _ _ f3)
  have F4:=m57 _ _ f4
  have N2:H u0=none:=m1.free nu0
  have N3:H p0=none:=m1.free (m2.free np0)
  have N4:H t0=none:=m1.free (m2.free (m3.free nt0))
  have M6:=m5.trans m6
  have hne:zF m0 u0 p0 t0 l0:=by
   refine⟨b9 f1 nu0,b9 (m2 _ _ f1) np0,b9 (m3 _ _ (m2 _ _ f1)) nt0,b9 f2 np0,b9 (m3 _ _ f2) nt0,b9 f3 nt0,?_,?_,?_,?_⟩
   ·exact(b9 (M6 _ _ (m4 _ _ (m3 _ _ (m2 _ _ f1)))) nl0).symm
   ·exact(b9 (M6 _ _ (m4 _ _ (m3 _ _ f2))) nl0).symm
   ·exact(b9 (M6 _ _ (m4 _ _ f3)) nl0).symm
   ·exact(b9 (M6 _ _ f4) nl0).symm
  generalize hnm:s1++s2=nm at*
  refine q9 (SqL.of f7') ?_
  refine T8 (n:=nm.length) (fun i σ H'=>∃(ms us pp:List (Str×Str)) (kvt:List (g4×V)) (tt:List (Str×C8)) (z':Int) (v8 v9 v10:Option V),σ=[some (.ref a),some (.int z'),some (.ref c),some (.int 3),some (.ref m0),some (.ref u0),some (.ref p0),some (.ref t0),v8,v9,v10]∧PI K W ns nm H H' m0 u0 p0 t0 l0 i ms us pp kvt tt)
   ⟨[],[],[],[],[],z,_,_,_,rfl,⟨m14.trans m57,f7',F1,F2,F3,F4,.nil,.nil,rfl,List.nodup_nil,(fun _ h=>nomatch h),(fun _ h=>nomatch h),Nat.le_refl _,(fun _ h=>nomatch h),(fun _ h=>nomatch h),(fun _ h=>nomatch h),Nat.le_refl _,Nat.zero_le _,Nat.zero_le _⟩⟩ ?_ ?_ ?_
  ·rintro i σ H' hi ⟨ms,us,pp,kvt,tt,z',v8,v9,v10,_,h⟩
   exact⟨_,.str (nm[i]),SqL.of h.hl,by rw[List.getElem?_map,List.getElem?_eq_getElem hi];rfl⟩
  ·rintro i v σ H8' H8 hi ⟨ms,us,pp,kvt,tt,z',v8,v9,v10,rfl,h⟩ y
   obtain⟨rfl,hx⟩:=Itl.get y (SqL.of h.hl)
   rw[List.getElem?_map] at hx
   obtain⟨n,hn,rfl⟩:=Option.map_eq_some_iff.mp hx
   have hlm:=h.len
   have hul:=h.unl
   have hpl:pp.length+tt.length=ms.length:=by
    have:=h.perm.length_eq
    rw[List.length_append,List.length_map,List.length_map,List.length_map] at this;exact this
   have W8:=(hW.same h.s).at_
   obtain⟨new,hnew⟩:∃new,ns[ms.length]?=some new:=⟨ns[ms.length]'(by omega),List.getElem?_eq_getElem (by omega)⟩
   refine B6 ?_
   walk_at "e"
   refine C5 (Y4 (.inl h.hm) ?_)
   rw[j8]
   refine i4 (xs:=ns.map V.str) (h.s.seq hN') (i:=(ms.length:Int)) (v:= .str new) (d7 (j:=ms.length) (by rw[List.getElem?_map,hnew];rfl)) ?_
   walk_at "e"
   refine jz (fun σ H'=>∃(ms' us pp:List (Str×Str)) (kvt:List (g4×V)) (tt:List (Str×C8)) (v10:Option V),σ=[some (.ref a),some (.int z'),some (.ref c),some (.int 3),some (.ref m0),some (.ref u0),some (.ref p0),some (.ref t0),some (.str n),some (.str new),v10]∧((PI K W ns nm H H' m0 u0 p0 t0 l0 i ms' us pp kvt tt∧ms'=ms)∨(PI K W ns nm H H' m0 u0 p0 t0 l0 (i+1) ms' us pp kvt tt∧n∉W.ts.map (·.1)))) ?_ ?_
   ·rintro σ H9 ⟨ms',us',pp',kvt',tt',v10',rfl,h9⟩
    have s9:Same H H9:=h9.elim (fun x=>x.1.s) (fun x=>x.1.s)
    have W9:=(hW.same s9).at_
    have stay:PI K W ns nm H H9 m0 u0 p0 t0 l0 (i+1) ms' us' pp' kvt' tt':=h9.elim (fun x=>x.1.next) (fun x=>x.1)
    refine jz (fun σ H'=>∃(ms us pp:List (Str×Str)) (kvt:List (g4×V)) (tt:List (Str×C8)) (v10:Option V),σ=[some (.ref a),some (.int z'),some (.ref c),some (.int 3),some (.ref m0),some (.ref u0),some (.ref p0),some (.ref t0),some (.str n),some (.str new),v10]∧PI K W ns nm H H' m0 u0 p0 t0 l0 (i+1) ms us pp kvt tt) ?_ ?_
    ·rintro σ H10 ⟨ms2,us2,pp2,kvt2,tt2,v10,rfl,h10⟩
     walk_at "e"
     exact⟨_,_,_,_,_,_,_,_,_,rfl,h10⟩
    ·intro nx hnx
     have hstay:nx [some (.ref a),some (.int z'),some (.ref c),some (.int 3),some (.ref m0),some (.ref u0),some (.ref p0),some (.ref t0),some (.str n),some (.str new),v10'] H9:=hnx _ _ ⟨_,_,_,_,_,_,rfl,stay⟩
     walk_at "e"
     refine B5 (fun b3=>?_) (fun b3=>?_)
     ·walk_at "e"
      refine g5 W9.tup (d7 (j:=1) rfl) ?_
      refine K1 (L7 (k:=Sum.inr n) W9.ties) ?_
      rw[cG W9.ts]
      walk_at "e"
      refine B5 (fun b4=>?_) (fun b4=>?_)
      ·replace h9:=h9.resolve_right (fun x=>x.2 b4)
       obtain⟨h9,hms⟩:=h9
       rw[←hms] at hnew hlm
       walk_at "e"
       refine C5 (Y4 (.inl h9.ht) ?_)
       walk_at "e"
       refine B5 (fun b5=>?_) (fun b5=>?_)
       ·refine B6 ?_
        walk_at "e"
        refine g5 W9.tup (d7 (j:=1) rfl) ?_
        obtain⟨aa,⟨y1,y2,y3⟩,h1,h2,h3⟩:=TiesIs.val (ts:=W.ts) W9.ts b4
        walk_at "e"
        refine u5 (v:= .ref aa) (by have z:=L7 (k:=Sum.inr n) W9.ties;rw[h1] at z;exact z) ?_
        walk_at "e"
        refine g5 h3 (d7 (j:=1) rfl) ?_
        walk_at "e"
        refine K1 (L7 (k:=Sum.inr y2) (.inl h9.hu)) ?_
        rw[z8]
        walk_at "e"
        have stay2:∀v,nx [some (.ref a),some (.int z'),some (.ref c),some (.int 3),some (.ref m0),some (.ref u0),some (.ref p0),some (.ref t0),some (.str n),some (.str new),v] H9:=fun v=>hnx _ _ ⟨_,_,_,_,_,_,rfl,stay⟩
        refine B5 (fun b6=>?_) (fun b6=>?_)
        ·walk_at "e"
         refine g5 h3 (d7 (j:=2) rfl) ?_
         walk_at "e"
         refine K1 (L7 (k:=Sum.inr y3) (.inl h9.hu)) ?_
         rw[z8]
         walk_at "e"
         refine B5 (fun b7=>?_) (fun b7=>?_)
         ·have u1:∃a1',i5 (d0 us') (Sum.inr y2:g4)=some (.str a1')∧(y2,a1')∈us':=by
           cases e:i5 (d0 us') (Sum.inr y2:g4) with
           |none=>have z:=z8 (pts:=us') (n:=y2);rw[e,decide_eq_true b6] at z;cases z
           |some v=>obtain⟨k',rfl,hk'⟩:=U8 e;exact⟨k',rfl,hk'⟩
          have u2:∃a1',i5 (d0 us') (Sum.inr y3:g4)=some (.str a1')∧(y3,a1')∈us':=by
           cases e:i5 (d0 us') (Sum.inr y3:g4) with
           |none=>have z:=z8 (pts:=us') (n:=y3);rw[e,decide_eq_true b7] at z;cases z
           |some v=>obtain⟨k',rfl,hk'⟩:=U8 e;exact⟨k',rfl,hk'⟩
          obtain⟨c1,hc1,hd1⟩:=u1
          obtain⟨c2,hc2,hd2⟩:=u2
          refine B6 ?_
          walk_at "e"
          refine g5 h3 (d7 (j:=0) rfl) ?_
          walk_at "e"
          refine g5 h3 (d7 (j:=1) rfl) ?_
          refine u5 (v:= .str c1) (by have z:=L7 (k:=Sum.inr y2) (.inl h9.hu);rw[hc1] at z;exact z) ?_
          walk_at "e"
          refine g5 h3 (d7 (j:=2) rfl) ?_
          refine u5 (v:= .str c2) (by have z:=L7 (k:=Sum.inr y3) (.inl h9.hu);rw[hc2] at z;exact z) ?_
          walk_at "e"
          refine⟨g7 (by simp),fun l9 n9=>?_⟩
          obtain⟨H10,e10,f10,m10,_⟩:=c9 (o:= .tup _) n9
          rw[e10]
          have h10:=h9.same m10
          have hkt:=h10.ts.length
          walk_at "e"
          refine E7 (j4 (k:=Sum.inr new) h10.ht (g7 (by omega)) ?_)
          walk_at "e"
          refine E7 (j4 (k:=Sum.inr new) (kvs:=d0 ms') (by rw[b0 hne.mt];exact h10.hm) (g7 (by rw[j8];omega)) ?_)
          refine hnx _ _ ⟨_,_,_,_,_,_,rfl,h10.tie hne nm0 N4 hnew hnd hn ndn h2 hd1 hd2 (SqT.of f10) (by have:=h9.ts.length;omega)⟩
         ·walk_at "e"
          exact stay2 _
        ·walk_at "e"
         exact stay2 _
       ·walk_at "e"
        exact hstay
      ·walk_at "e"
       exact hstay
     ·walk_at "e"
      exact hstay
   ·intro nx hnx
    have hstay:nx [some (.ref a),some (.int z'),some (.ref c),some (.int 3),some (.ref m0),some (.ref u0),some (.ref p0),some (.ref t0),some (.str n),some (.str new),v10] H8:=hnx _ _ ⟨_,_,_,_,_,_,rfl,.inl ⟨h,rfl⟩⟩
    walk_at "e"
    refine B5 (fun b3=>?_) (fun b3=>?_)
    ·walk_at "e"
     refine g5 W8.tup (d7 (j:=0) rfl) ?_
     refine K1 (L7 (k:=Sum.inr n) W8.pts) ?_
     rw[z8]
     walk_at "e"
     refine B5 (fun b4=>?_) (fun b4=>?_)
     ·walk_at "e"
      refine C5 (Y4 (.inl h.hp) ?_)
      walk_at "e"
      refine B5 (fun b5=>?_) (fun b5=>?_)
      ·obtain⟨kd,hkd,hke⟩:∃kd,i5 (d0 W.pts) (Sum.inr n:g4)=some (.str kd)∧(n,kd)∈W.pts:=by
        cases e:i5 (d0 W.pts) (Sum.inr n:g4) with
        |none=>have z:=z8 (pts:=W.pts) (n:=n);rw[e,decide_eq_true b4] at z;cases z
        |some v=>obtain⟨k',rfl,hk'⟩:=U8 e;exact⟨k',rfl,hk'⟩
       refine B6 ?_
       walk_at "e"
       refine g5 W8.tup (d7 (j:=0) rfl) ?_
       walk_at "e"
       refine u5 (v:= .str kd) (by have z:=L7 (k:=Sum.inr n) W8.pts;rw[hkd] at z;exact z) ?_
       walk_at "e"
       refine E7 (j4 (k:=Sum.inr new) h.hp (g7 (by rw[j8];omega)) ?_)
       refine B6 ?_
       walk_at "e"
       refine E7 (j4 (k:=Sum.inr n) (kvs:=d0 us) (by rw[b0 hne.up];exact h.hu) (g7 (by rw[j8];omega)) ?_)
       walk_at "e"
       refine E7 (j4 (k:=Sum.inr new) (kvs:=d0 ms) (by rw[b0 hne.mu,b0 hne.mp];exact h.hm) (g7 (by rw[j8];omega)) ?_)
       have hnt:n∉W.ts.map (·.1):=fun z=>(List.nodup_append.mp hW.nd).2.2 n b4 n z rfl
       exact hnx _ _ ⟨_,_,_,_,_,_,rfl,.inr ⟨h.point hne nm0 N2 N3 hnew hnd hn ndn hke (by rw[j8] at b5;omega),hnt⟩⟩
      ·walk_at "e"
       exact hstay
     ·walk_at "e"
      exact hstay
    ·walk_at "e"
     exact hstay
  ·rintro σ H8 ⟨ms,us,pp,kvt,tt,z',v8,v9,v10,rfl,h⟩
   refine⟨⟨_,SqL.of h.hl,by rw[List.length_map];exact Nat.le_refl _⟩,?_⟩
   have hpl:pp.length+tt.length=ms.length:=by
    have:=h.perm.length_eq
    rw[List.length_append,List.length_map,List.length_map,List.length_map] at this;exact this
   have hlm:=h.len
   walk_at "e"
   refine⟨g7 (by simp),fun l9 n9=>?_⟩
   obtain⟨H9,e9,f9,m9,_⟩:=c9 (H:=H8) (o:= .tup [.ref p0,.ref t0]) n9
   change fR _ _ _ (i6 H8 l9 _) _
   rw[e9]
   walk_at "e"
   refine⟨g7 (by simp),fun l10 n10=>?_⟩
   obtain⟨H10,e10,f10,m10,_⟩:=c9 (o:= .tup _) n10
   rw[e10]
   have h10:=h.same (m9.trans m10)
   have ndk:(ms.map (·.1)).Nodup:=by rw[h.pre];exact hnd.sublist (List.take_sublist _ _)
   have hin:∀x∈ms,x.1∈ns:=fun x hx=>by
    have z:x.1∈ms.map (·.1):=List.mem_map.mpr ⟨x,hx,rfl⟩
    rw[h.pre] at z
    exact List.mem_of_mem_take z
   have hinv:∀x∈ms,x.2∈d9 W:=fun x hx=>pnm.mem_iff.mp (List.mem_of_mem_take (h.vin x hx))
   refine k l10 l9 p0 t0 m0 kvt ⟨pp,tt⟩ ms H10 h10.s f10 ⟨⟨SqT.of (m10 _ _ f9),.inl h10.hp,.inl h10.ht,h10.ts⟩,h10.hp,h10.ht,hne.pt,h.perm.nodup_iff.mpr ndk,?_,h.ends,fun x hx=>?_⟩ h10.hm (h.fit hnd) nm0 hne.mp hne.mt ndk (by have:=h.pl;have:=h.tl;omega) (fun x hx=>⟨hns _ (hin x hx),hW.nl _ (hinv x hx),hinv x hx,h.perm.mem_iff.mpr (List.mem_map.mpr ⟨x,hx,rfl⟩)⟩)
   ·rw[C1];show pp.length+tt.length≤5;have:=h.pl;have:=h.tl;omega
   ·obtain⟨y,hy,rfl⟩:=List.mem_map.mp (h.perm.mem_iff.mp hx)
    exact hns _ (hin y hy)
def cj (x:Str):List Str→List Str
 |[]=>[x]
 |y::r=>if ltCps y.cps.toList x.cps.toList=true then y::cj x r else x::y::r
def iM:List Str→List Str
 |[]=>[]
 |x::r=>cj x (iM r)
theorem di (x:Str):∀l,(cj x l).Perm (x::l)
 |[]=> .refl _
 |y::r=>by
  unfold cj
  split
  ·exact((di x r).cons y).trans (.swap _ _ _)
  ·exact .refl _
theorem J3:∀l,(iM l).Perm l
 |[]=> .refl _
 |x::r=>(di x _).trans ((J3 r).cons x)
theorem fE {a b:Str}(h:ltCps a.cps.toList b.cps.toList=true):ltCps b.cps.toList a.cps.toList=false:=by
 rw[ltCps_eq] at h⊢
 exact decide_eq_false (List.lt_asymm (of_decide_eq_true h))
theorem gq {x:Str}:∀{l:List Str} {p:Str},risingS p l=true→ltCps x.cps.toList p.cps.toList=false→risingS p (cj x l)=true
 |[],p,_,h=>by unfold cj;unfold risingS;rw[h];rfl
 |y::r,p,h1,h=>by
  have h1':(!ltCps y.cps.toList p.cps.toList&&risingS y r)=true:=h1
  rw[Bool.and_eq_true] at h1'
  unfold cj
  split
  ·next e=>
   show(!ltCps y.cps.toList p.cps.toList&&risingS y (cj x r))=true
   rw[h1'.1,gq h1'.2 (fE e)];rfl
  ·next e=>
   show(!ltCps x.cps.toList p.cps.toList&&(!ltCps y.cps.toList x.cps.toList&&risingS y r))=true
   rw[h,h1'.2];simpa using e
theorem U6:∀l,sortedS (iM l)=true
 |[]=>rfl
 |x::r=>by
  have ih:=U6 r
  show sortedS (cj x (iM r))=true
  cases e:iM r with
  |nil=>rfl
  |cons y t=>
   rw[e] at ih
   unfold cj
   split
   ·next z=>exact gq ih (fE z)
   ·next z=>
    show(!ltCps y.cps.toList x.cps.toList&&risingS y t)=true
    rw[show risingS y t=true from ih];simpa using z
def u4 (ts:List (Str×C8))(n:Str):C8:=match ts.find? (fun x=>decide (x.1=n)) with
 |some x=>x.2
 |none=>("","","")
theorem Y8:∀{ts:List (Str×C8)} {n:Str} {t:C8},(ts.map (·.1)).Nodup→(n,t)∈ts→u4 ts n=t
 |[],_,_,_,h=>nomatch h
 |x::r,n,t,nd,h=>by
  unfold u4
  have nd':=List.nodup_cons.mp (show(x.1::r.map (·.1)).Nodup from nd)
  by_cases e:x.1=n
  ·rw[List.find?_cons_of_pos (by simpa using e)]
   rcases List.mem_cons.mp h with z|z
   ·rw[←z]
   ·exact absurd (List.mem_map.mpr ⟨_,z,rfl⟩) (e▸nd'.1)
  ·rw[List.find?_cons_of_neg (by simpa using e)]
   rcases List.mem_cons.mp h with z|z
   ·exact absurd (by rw[←z]) e
   ·exact Y8 nd'.2 z
theorem P9 {ts:List (Str×C8)}{n:Str}(h:n∈ts.map (·.1)):(n,u4 ts n)∈ts:=by
 unfold u4
 cases e:ts.find? (fun x=>decide (x.1=n)) with
 |none=>
  obtain⟨x,hx,z⟩:=List.mem_map.mp h
  exact absurd (List.find?_eq_none.mp e x hx) (by simpa using z)
 |some x=>
  have z:x.1=n:=by simpa using List.find?_some e
  rw[←z];exact List.mem_of_find?_eq_some e
def D8 (fx:List (Str×Str))(n im:Str):Bool:=if n∈fx.map (·.1) then decide (im=d6 (d0 fx) n) else !decide (im∈fx.map (·.2))
def gR (W:y4)(gp:List Str)(fx:List (Str×Str))(n kd:Str):List Str:=(gp.filter fun im=>decide (d6 (d0 W.pts) im=kd)).filter (D8 fx n)
def jF (W:y4)(gt:List Str)(fx:List (Str×Str))(n:Str)(t:C8):List Str:=gt.filter fun im=>decide (u4 W.ts im=t)&&D8 fx n im
def gv (nm b:List Str)(x:Str):Str:=d6 (d0 (nm.zip b)) x
def kI (W:y4)(gt:List Str)(fx:List (Str×Str))(nm b:List Str)(x:Str×C8):List Str:=jF W gt fx x.1 (x.2.1,gv nm b x.2.2.1,gv nm b x.2.2.2)
def qr (a b:Str):Str:=if a.cps.toList<b.cps.toList then b else a
def P6 (ts:List (Str×C8))(n:Str):List (Str×C8):=ts.filter fun x=>decide (qr x.2.2.1 x.2.2.2=n)
def nR (ls:List (List Str)):Bool:=ls.all fun d=>decide (ls.count d≤d.length)
def T4 (Pc W:y4)(gp gt:List Str)(fx:List (Str×Str))(nm b:List Str):List Str:=match nm[b.length]? with
 |none=>[]
 |some n=>if n∈Pc.ts.map (·.1) then(kI W gt fx nm b (n,u4 Pc.ts n)).filter (fun x=>!decide (x∈b))
  else((gR W gp fx n (d6 (d0 Pc.pts) n)).filter (fun x=>!decide (x∈b))).filter fun im=>nR ((P6 Pc.ts n).map (kI W gt fx nm (b++[im])))
def bV (img:List Str→List Str):Nat→List Str→List (List Str)
 |0,b=>[b]
 |k+1,b=>(img b).flatMap fun x=>bV img k (b++[x])
def J6:List (List Str)→List Str→List (List Str)
 |[],b=>[b]
 |c::r,b=>c.flatMap fun x=>J6 r (b++[x])
def yB (img:List Str→List Str)(j:Nat)(row:List Str):Prop:=∀(i:Nat) (x:Str),j≤i→row[i]?=some x→x∈img (row.take i)
theorem K6:∀{bs:List (List Str)} {b row:List Str},row∈J6 bs b→∃t,row=b++t∧t.length=bs.length∧∀(i:Nat) (x:Str) (c:List Str),t[i]?=some x→bs[i]?=some c→x∈c
 |[],b,row,h=>by
  rw[List.mem_singleton.mp h]
  exact⟨[],by simp,rfl,fun i x c hx _=>by simp at hx⟩
 |c::r,b,row,h=>by
  obtain⟨x,hx,h'⟩:=List.mem_flatMap.mp h
  obtain⟨t,e,hl,hm⟩:=K6 h'
  refine⟨x::t,by rw[e];simp,by simp [hl],fun i y d hy hd=>?_⟩
  cases i with
  |zero=>cases hy;cases hd;exact hx
  |succ i=>exact hm i y d hy hd
theorem jC:∀{bs:List (List Str)} {b t:List Str},t.length=bs.length→(∀(i:Nat) (x:Str) (c:List Str),t[i]?=some x→bs[i]?=some c→x∈c)→b++t∈J6 bs b
 |[],b,[],_,_=>by simp [J6]
 |c::r,b,x::t,hl,hm=>by
  refine List.mem_flatMap.mpr ⟨x,hm 0 x c rfl rfl,?_⟩
  have z:=jC (bs:=r) (b:=b++[x]) (t:=t) (by simpa using hl) fun i y d hy hd=>hm (i+1) y d hy hd
  simpa using z
theorem O9 {α β:Type}(p:α→Bool)(F:α→List β):∀l:List α,(l.filter p).flatMap F=l.flatMap fun x=>if p x=true then F x else []
 |[]=>rfl
 |a::l=>by
  cases e:p a with
  |true=>rw[List.filter_cons_of_pos e,List.flatMap_cons,List.flatMap_cons,if_pos e,O9 p F l]
  |false=>rw[List.filter_cons_of_neg (by rw[e];decide),List.flatMap_cons,if_neg (by rw[e];decide),O9 p F l];rfl
theorem T1 {α β:Type}{F G:α→List β}:∀{l:List α},(∀x∈l,F x=G x)→l.flatMap F=l.flatMap G
 |[],_=>rfl
 |a::l,h=>by rw[List.flatMap_cons,List.flatMap_cons,h a List.mem_cons_self,T1 fun x hx=>h x (List.mem_cons_of_mem _ hx)]
theorem D3 {α:Type}{p q:α→Bool}:∀{l:List α},(∀x∈l,p x=q x)→l.filter p=l.filter q
 |[],_=>rfl
 |a::l,h=>by
  have z:=D3 (l:=l) fun x hx=>h x (List.mem_cons_of_mem _ hx)
  rw[List.filter_cons,List.filter_cons,h a List.mem_cons_self,z]
open Classical in
theorem mz {img:List Str→List Str}:∀{bs:List (List Str)} {b:List Str},(∀(j:Nat) (c:List Str),bs[j]?=some c→∀b':List Str,b'.length=b.length+j→img b'=c.filter fun x=>decide (x∈img b'))→
  bV img bs.length b=(J6 bs b).filter fun row=>decide (yB img b.length row)
 |[],b,_=>by
  show [b]=[b].filter _
  rw[List.filter_cons_of_pos (by
   refine decide_eq_true fun i x hi hx=>?_
   rw[List.getElem?_eq_none hi] at hx;cases hx)];rfl
 |c::r,b,h=>by
  show(img b).flatMap (fun x=>bV img r.length (b++[x]))=(c.flatMap fun x=>J6 r (b++[x])).filter _
  have h0:=h 0 c rfl b (by omega)
  have hF:∀x,bV img r.length (b++[x])=(J6 r (b++[x])).filter fun row=>decide (yB img (b++[x]).length row):=fun x=>
   mz fun j d hd b' hb=>h (j+1) d hd b' (by rw[hb,List.length_append,List.length_singleton];omega)
  rw[List.filter_flatMap,h0,O9]
  refine T1 fun x hx=>?_
  rw[hF x]
  by_cases hin:x∈img b
  ·rw[if_pos (decide_eq_true hin)]
   refine D3 fun row hrow=>?_
   obtain⟨t,e,_⟩:=K6 hrow
   rw[Bool.eq_iff_iff,decide_eq_true_eq,decide_eq_true_eq]
   constructor
   ·intro ok i y hi hy
    by_cases z:i=b.length
    ·have e1:row[i]?=some x:=by rw[e,z];simp
     rw[e1] at hy;cases hy
     have e2:row.take i=b:=by rw[e,z];simp
     rw[e2];exact hin
    ·exact ok i y (by rw[List.length_append,List.length_singleton];omega) hy
   ·intro ok i y hi hy
    exact ok i y (by rw[List.length_append,List.length_singleton] at hi;omega) hy
  ·rw[if_neg (by rw[decide_eq_false hin];decide)]
   refine(List.filter_eq_nil_iff.mpr fun row hrow=>?_).symm
   obtain⟨t,e,_⟩:=K6 hrow
   intro ok
   have z:=of_decide_eq_true ok b.length x (Nat.le_refl _) (by rw[e];simp)
   rw[show row.take b.length=b by rw[e];simp] at z
   exact hin z
theorem gh {c:List Str}{p:Str→Bool}:c.filter p=c.filter fun x=>decide (x∈c.filter p):=D3 fun x hx=>by
 rw[Bool.eq_iff_iff,decide_eq_true_eq,List.mem_filter]
 exact⟨fun h=>⟨hx,h⟩,fun h=>h.2⟩
theorem jd:∀(nm b:List Str),((nm.zip b).map (·.1)).Sublist nm
 |[],_=> .slnil
 |_::_,[]=>List.nil_sublist _
 |n::nm,x::b=>(jd nm b).cons_cons n
theorem Y6 {nm:List Str}(b:List Str)(nd:nm.Nodup):((nm.zip b).map (·.1)).Nodup:=nd.sublist (jd nm b)
theorem V2 {nm b:List Str}{i:Nat}{n x:Str}(h1:nm[i]?=some n)(h2:b[i]?=some x):(n,x)∈nm.zip b:=by
 have z:(nm.zip b)[i]?=some (n,x):=by rw[List.getElem?_zip_eq_some];exact⟨h1,h2⟩
 exact List.mem_of_getElem? z
theorem du {nm b:List Str}{i:Nat}{n x:Str}(nd:nm.Nodup)(h1:nm[i]?=some n)(h2:b[i]?=some x):gv nm b n=x:=i3 (Y6 b nd) (V2 h1 h2)
theorem iK {nm row:List Str}(nd:nm.Nodup)(hl:row.length=nm.length):nm.map (gv nm row)=row:=by
 refine List.ext_getElem? fun i=>?_
 rw[List.getElem?_map]
 by_cases hi:i<nm.length
 ·rw[List.getElem?_eq_getElem hi,List.getElem?_eq_getElem (show i<row.length by omega)]
  exact congrArg some (du nd (List.getElem?_eq_getElem hi) (List.getElem?_eq_getElem (by omega)))
 ·rw[List.getElem?_eq_none (by omega),List.getElem?_eq_none (by omega)];rfl
theorem cS:∀{l m:List Str},l.Nodup→(∀x∈l,x∈m)→l.length≤m.length
 |[],m,_,_=>Nat.zero_le _
 |x::r,m,nd,h=>by
  have nd':=List.nodup_cons.mp nd
  have hx:=h x List.mem_cons_self
  have z:=cS (l:=r) (m:=m.erase x) nd'.2 fun y hy=>(List.mem_erase_of_ne (fun e:y=x=>nd'.1 (by rw[←e];exact hy))).mpr (h y (List.mem_cons_of_mem _ hy))
  rw[List.length_erase_of_mem hx] at z
  have:0<m.length:=List.length_pos_of_mem hx
  rw[List.length_cons];omega
theorem cR {α:Type}(f:α→List Str)(d:List Str):∀ts:List α,(ts.map f).count d=(ts.filter fun t=>decide (f t=d)).length
 |[]=>rfl
 |t::r=>by
  rw[List.map_cons,List.count_cons,cR f d r,List.filter_cons]
  by_cases e:f t=d
  ·rw[if_pos (by simpa using e),if_pos (by simpa using e)];rfl
  ·rw[if_neg (by simpa using e),if_neg (by simpa using e)];rfl
theorem sU {α:Type}{ts:List α}{f:α→List Str}{r:α→Str}(hm:∀t∈ts,r t∈f t)(nd:(ts.map r).Nodup):nR (ts.map f)=true:=by
 unfold nR
 rw[List.all_eq_true]
 intro d hd
 rw[decide_eq_true_eq,cR]
 have z:((ts.filter fun t=>decide (f t=d)).map r).length≤d.length:=by
  refine cS (nd.sublist (List.filter_sublist.map r)) fun x hx=>?_
  obtain⟨t,ht,rfl⟩:=List.mem_map.mp hx
  rw[List.mem_filter] at ht
  rw[←of_decide_eq_true ht.2];exact hm t ht.1
 rw[List.length_map] at z;exact z
def dQ (fx:List (Str×Str))(nm row:List Str):Prop:=∀x∈fx,gv nm row x.1=x.2
structure SrchP (Pc W:y4) (s1 s2 gp gt:List Str) (fx:List (Str×Str)):Prop where
 o:Ordr Pc s1 s2
 o':Ordr W gp gt
 nd:(d9 Pc).Nodup
 nd':(d9 W).Nodup
 ends:∀x∈Pc.ts,x.2.2.1∈Pc.pts.map (·.1)∧x.2.2.2∈Pc.pts.map (·.1)
 fnd:(fx.map (·.1)).Nodup
 fin:∀x∈fx,x.1∈d9 Pc
section
variable {Pc W:y4} {s1 s2 gp gt:List Str} {fx:List (Str×Str)}
def Z2 (s1 s2 gp gt:List Str):List (List Str):=List.replicate s1.length gp++List.replicate s2.length gt
theorem aS:(Z2 s1 s2 gp gt).length=(s1++s2).length:=by unfold Z2;simp
theorem SrchP.nn (S:SrchP Pc W s1 s2 gp gt fx):(s1++s2).Nodup:=S.o.perm.nodup_iff.mpr S.nd
theorem SrchP.is1 (S:SrchP Pc W s1 s2 gp gt fx){i:Nat}{n:Str}(h:(s1++s2)[i]?=some n):(n∉Pc.ts.map (·.1)∧i<s1.length)∨(n∈Pc.ts.map (·.1)∧s1.length≤i):=by
 by_cases hi:i<s1.length
 ·refine .inl ⟨fun z=>?_,hi⟩
  rw[List.getElem?_append_left hi] at h
  have m1:n∈s1:=List.mem_of_getElem? h
  exact(List.nodup_append.mp S.nn).2.2 n m1 n (S.o.p2.mem_iff.mpr z) rfl
 ·rw[List.getElem?_append_right (by omega)] at h
  exact .inr ⟨S.o.p2.mem_iff.mp (List.mem_of_getElem? h),by omega⟩
theorem sg {L c:List Str}{p:Str→Bool}(e:L=c.filter p):L=c.filter fun x=>decide (x∈L):=by subst e;exact gh
theorem oN (S:SrchP Pc W s1 s2 gp gt fx){j:Nat}{c b:List Str}(h:(Z2 s1 s2 gp gt)[j]?=some c)(hb:b.length=j):T4 Pc W gp gt fx (s1++s2) b=c.filter fun x=>decide (x∈T4 Pc W gp gt fx (s1++s2) b):=by
 have hj:j<(s1++s2).length:=by
  rw[←aS (gp:=gp) (gt:=gt)]
  rcases Nat.lt_or_ge j (Z2 s1 s2 gp gt).length with z|z
  ·exact z
  ·rw[List.getElem?_eq_none z] at h;cases h
 have hn:(s1++s2)[b.length]?=some ((s1++s2)[j]):=by rw[hb];exact List.getElem?_eq_getElem hj
 have hc:c=if j<s1.length then gp else gt:=by
  unfold Z2 at h
  by_cases z:j<s1.length
  ·rw[List.getElem?_append_left (by simpa using z),List.getElem?_replicate,if_pos z] at h
   rw[if_pos z];exact(Option.some.inj h).symm
  ·rw[List.getElem?_append_right (by simpa using z),List.length_replicate,List.getElem?_replicate,if_pos (by rw[List.length_append] at hj;omega)] at h
   rw[if_neg z];exact(Option.some.inj h).symm
 obtain⟨p,e⟩:∃p,T4 Pc W gp gt fx (s1++s2) b=c.filter p:=by
  unfold T4
  rw[hn]
  dsimp only
  rcases S.is1 (i:=j) (List.getElem?_eq_getElem hj) with⟨h1,h2⟩|⟨h1,h2⟩
  ·rw[if_neg h1,hc,if_pos h2]
   unfold gR
   rw[List.filter_filter,List.filter_filter,List.filter_filter]
   exact⟨_,rfl⟩
  ·rw[if_pos h1,hc,if_neg (by omega)]
   unfold kI jF
   rw[List.filter_filter]
   exact⟨_,rfl⟩
 exact sg e
theorem O8 {n:Str}{l:List Str}(h:n∈l):∃i:Nat,l[i]?=some n:=List.getElem?_of_mem h
theorem SrchP.pt_idx (S:SrchP Pc W s1 s2 gp gt fx){n:Str}(h:n∈Pc.pts.map (·.1)):∃i:Nat,i<s1.length∧(s1++s2)[i]?=some n:=by
 obtain⟨i,hi⟩:=O8 (S.o.p1.mem_iff.mpr h)
 have hl:i<s1.length:=by
  rcases Nat.lt_or_ge i s1.length with z|z
  ·exact z
  ·rw[List.getElem?_eq_none z] at hi;cases hi
 exact⟨i,hl,by rw[List.getElem?_append_left hl];exact hi⟩
theorem aI {nm row:List Str}{i j:Nat}{n:Str}(nd:nm.Nodup)(hl:row.length=nm.length)(h:nm[i]?=some n)(hij:i<j):gv nm (row.take j) n=gv nm row n:=by
 have hi:i<nm.length:=by
  rcases Nat.lt_or_ge i nm.length with z|z
  ·exact z
  ·rw[List.getElem?_eq_none z] at h;cases h
 have h2:row[i]?=some row[i]:=List.getElem?_eq_getElem (by omega)
 rw[du nd h h2,du nd h (b:=row.take j) (x:=row[i]) (by rw[List.getElem?_take,if_pos hij];exact h2)]
theorem tW {n x:Str}{nm row:List Str}(fnd:(fx.map (·.1)).Nodup)(d:dQ fx nm row)(inj:∀y∈fx,gv nm row y.1=gv nm row n→y.1=n)(e:gv nm row n=x):D8 fx n x=true:=by
 unfold D8
 split
 ·next h=>
  obtain⟨y,hy,rfl⟩:=List.mem_map.mp h
  rw[i3 fnd (show(y.1,y.2)∈fx from hy),←e]
  exact decide_eq_true (d y hy)
 ·next h=>
  have z:x∉fx.map (·.2):=fun z=>by
   obtain⟨y,hy,ey⟩:=List.mem_map.mp z
   have z1:=d y hy
   rw[ey,←e] at z1
   exact h (by rw[←inj y hy z1];exact List.mem_map.mpr ⟨y,hy,rfl⟩)
  simpa using z
theorem wM {pts:List (Str×Str)}{g:List Str}{x kd:Str}(nd:(pts.map (·.1)).Nodup)(p:g.Perm (pts.map (·.1)))(h:x∈g)(hk:d6 (d0 pts) x=kd):(x,kd)∈pts:=by
 obtain⟨y,hy,rfl⟩:=List.mem_map.mp (p.mem_iff.mp h)
 rw[i3 nd (show(y.1,y.2)∈pts from hy)] at hk
 rw[←hk];exact hy
theorem sE {Q:y4}{kvm:List (g4×V)}{x y:Str}(nd:((d9 Q).map (d6 kvm)).Nodup)(hx:x∈d9 Q)(hy:y∈d9 Q)(e:d6 kvm x=d6 kvm y):x=y:=by
 obtain⟨i,hi⟩:=O8 hx
 obtain⟨j,hj⟩:=O8 hy
 have e1:((d9 Q).map (d6 kvm))[i]?=some (d6 kvm x):=by rw[List.getElem?_map,hi];rfl
 have e2:((d9 Q).map (d6 kvm))[j]?=some (d6 kvm x):=by rw[List.getElem?_map,hj,e];rfl
 have li:i<((d9 Q).map (d6 kvm)).length:=by
  rcases Nat.lt_or_ge i ((d9 Q).map (d6 kvm)).length with z|z
  ·exact z
  ·rw[List.getElem?_eq_none z] at e1;cases e1
 have z:=(List.getElem?_inj li nd).mp (e1.trans e2.symm)
 rw[z,hj] at hi
 exact(Option.some.inj hi).symm
theorem aH (S:SrchP Pc W s1 s2 gp gt fx){i:Nat}{e:Str}(hi:i<s1.length)(he:e∈Pc.pts.map (·.1))(hle:¬(s1[i].cps.toList<e.cps.toList)):∃j:Nat,j≤i∧(s1++s2)[j]?=some e:=by
 obtain⟨j,hj,hjn⟩:=S.pt_idx he
 refine⟨j,?_,hjn⟩
 rcases Nat.lt_or_ge i j with z|z
 ·exfalso
  have nd1:s1.Nodup:=(List.nodup_append.mp S.nn).1
  have pw:=K9 (Q8 S.o.o1 nd1)
  have w:=List.pairwise_iff_getElem.mp pw i j hi hj z
  rw[List.getElem?_append_left hj,List.getElem?_eq_getElem hj] at hjn
  rw[Option.some.inj hjn] at w
  exact hle w
 ·exact z
end
section
variable {Pc W:y4} {s1 s2 gp gt:List Str} {fx:List (Str×Str)}
theorem tP {j:Nat}{c:List Str}(h:(Z2 s1 s2 gp gt)[j]?=some c):(j<s1.length∧c=gp)∨(s1.length≤j∧c=gt):=by
 unfold Z2 at h
 by_cases z:j<s1.length
 ·rw[List.getElem?_append_left (by simpa using z),List.getElem?_replicate,if_pos z] at h
  exact .inl ⟨z,(Option.some.inj h).symm⟩
 ·rw[List.getElem?_append_right (by simpa using z),List.length_replicate,List.getElem?_replicate] at h
  split at h
  ·exact .inr ⟨by omega,(Option.some.inj h).symm⟩
  ·cases h
theorem K8 {α:Type}{l:List α}{i:Nat}{x:α}(h:l[i]?=some x):i<l.length:=by
 rcases Nat.lt_or_ge i l.length with z|z
 ·exact z
 ·rw[List.getElem?_eq_none z] at h;cases h
theorem mem_ch {n kd x:Str}:x∈gR W gp fx n kd↔x∈gp∧d6 (d0 W.pts) x=kd∧D8 fx n x=true:=by
 unfold gR
 rw[List.mem_filter,List.mem_filter,decide_eq_true_eq,and_assoc]
theorem mem_pl {n x:Str}{t:C8}:x∈jF W gt fx n t↔x∈gt∧u4 W.ts x=t∧D8 fx n x=true:=by
 unfold jF
 rw[List.mem_filter,Bool.and_eq_true,decide_eq_true_eq]
theorem tU (S:SrchP Pc W s1 s2 gp gt fx){row:List Str}(hl:row.length=(s1++s2).length)(ok:yB (T4 Pc W gp gt fx (s1++s2)) 0 row):FitP Pc W (d0 ((s1++s2).zip row))∧dQ fx (s1++s2) row:=by
 have nn:=S.nn
 have key:∀(i:Nat) (n x:Str),(s1++s2)[i]?=some n→row[i]?=some x→x∉row.take i∧D8 fx n x=true∧(n∉Pc.ts.map (·.1)→(x,d6 (d0 Pc.pts) n)∈W.pts)∧(n∈Pc.ts.map (·.1)→(x,((u4 Pc.ts n).1,gv (s1++s2) row (u4 Pc.ts n).2.1,gv (s1++s2) row (u4 Pc.ts n).2.2))∈W.ts):=by
  intro i n x hn hx
  have hil:=K8 hn
  have h0:=ok i x (Nat.zero_le _) hx
  have hlt:(row.take i).length=i:=by rw[List.length_take];omega
  unfold T4 at h0
  rw[hlt,hn] at h0
  dsimp only at h0
  rcases S.is1 hn with⟨h1,h2⟩|⟨h1,h2⟩
  ·rw[if_neg h1,List.mem_filter,List.mem_filter,mem_ch] at h0
   refine⟨by simpa using h0.1.2,h0.1.1.2.2,fun _=>wM (B4 S.nd') S.o'.p1 h0.1.1.1 h0.1.1.2.1,fun z=>absurd z h1⟩
  ·rw[if_pos h1,List.mem_filter] at h0
   have hm:=mem_pl.mp (show x∈jF W gt fx n _ from h0.1)
   refine⟨by simpa using h0.2,hm.2.2,fun z=>absurd h1 z,fun _=>?_⟩
   have hin:=P9 h1
   have he:=S.ends _ hin
   obtain⟨j1,hj1,hk1⟩:=S.pt_idx he.1
   obtain⟨j2,hj2,hk2⟩:=S.pt_idx he.2
   have e1:=aI (j:=i) nn hl hk1 (by omega)
   have e2:=aI (j:=i) nn hl hk2 (by omega)
   have z:=P9 (S.o'.p2.mem_iff.mp hm.1)
   rw[hm.2.1] at z
   dsimp only at z e1 e2
   rw[e1,e2] at z
   exact z
 have rnd:row.Nodup:=by
  refine List.pairwise_iff_getElem.mpr fun i j hi hj hij e=>?_
  have z:=(key j ((s1++s2)[j]'(by omega)) row[j] (List.getElem?_eq_getElem (by omega)) (List.getElem?_eq_getElem hj)).1
  refine z (List.mem_of_getElem? (i:=i) ?_)
  rw[List.getElem?_take,if_pos hij,List.getElem?_eq_getElem hi,e]
 have gvk:∀n∈s1++s2,∃(i:Nat) (x:Str),(s1++s2)[i]?=some n∧row[i]?=some x∧gv (s1++s2) row n=x:=fun n hn=>by
  obtain⟨i,hi⟩:=O8 hn
  have hil:=K8 hi
  exact⟨i,row[i],hi,List.getElem?_eq_getElem (by omega),du nn hi (List.getElem?_eq_getElem (by omega))⟩
 refine⟨⟨?_,fun n hn=>?_,?_,fun x hx=>?_,fun x hx=>?_⟩,fun x hx=>?_⟩
 ·rw[j8,List.length_zip,←S.o.len];omega
 ·obtain⟨i,x,h1,h2,_⟩:=gvk n (S.o.mem.mpr hn)
  exact⟨x,J2 (Y6 row nn) (V2 h1 h2)⟩
 ·have e:=iK nn hl
  exact((S.o.perm.map (gv (s1++s2) row)).nodup_iff).mp (by rw[e];exact rnd)
 ·have hm:x.1∈d9 Pc:=List.mem_append_left _ (List.mem_map.mpr ⟨x,hx,rfl⟩)
  obtain⟨i,y,h1,h2,h3⟩:=gvk x.1 (S.o.mem.mpr hm)
  have hno:x.1∉Pc.ts.map (·.1):=fun z=>(List.nodup_append.mp S.nd).2.2 x.1 (List.mem_map.mpr ⟨x,hx,rfl⟩) x.1 z rfl
  have z:=(key i x.1 y h1 h2).2.2.1 hno
  rw[i3 (B4 S.nd) (show(x.1,x.2)∈Pc.pts from hx)] at z
  rw[show d6 (d0 ((s1++s2).zip row)) x.1=y from h3];exact z
 ·have hm:x.1∈Pc.ts.map (·.1):=List.mem_map.mpr ⟨x,hx,rfl⟩
  obtain⟨i,y,h1,h2,h3⟩:=gvk x.1 (S.o.mem.mpr (List.mem_append_right _ hm))
  have z:=(key i x.1 y h1 h2).2.2.2 hm
  rw[Y8 (J5 S.nd) (show(x.1,x.2)∈Pc.ts from hx)] at z
  rw[show d6 (d0 ((s1++s2).zip row)) x.1=y from h3];exact z
 ·obtain⟨i,y,h1,h2,h3⟩:=gvk x.1 (S.o.mem.mpr (S.fin x hx))
  have z:=(key i x.1 y h1 h2).2.1
  unfold D8 at z
  rw[if_pos (List.mem_map.mpr ⟨x,hx,rfl⟩),i3 S.fnd (show(x.1,x.2)∈fx from hx)] at z
  rw[h3];exact of_decide_eq_true z
theorem jJ (S:SrchP Pc W s1 s2 gp gt fx){row:List Str}(f:FitP Pc W (d0 ((s1++s2).zip row)))(d:dQ fx (s1++s2) row){n:Str}(hn:n∈d9 Pc):D8 fx n (gv (s1++s2) row n)=true:=
 tW S.fnd d (fun y hy e=>sE f.nd (S.fin y hy) hn e) rfl
theorem pA (S:SrchP Pc W s1 s2 gp gt fx){row:List Str}(f:FitP Pc W (d0 ((s1++s2).zip row)))(d:dQ fx (s1++s2) row){x:Str×Str}(hx:x∈Pc.pts):gv (s1++s2) row x.1∈gR W gp fx x.1 x.2:=by
 have z:=f.pts x hx
 exact mem_ch.mpr ⟨S.o'.p1.mem_iff.mpr (List.mem_map.mpr ⟨_,z,rfl⟩),i3 (B4 S.nd') z,jJ S f d (List.mem_append_left _ (List.mem_map.mpr ⟨x,hx,rfl⟩))⟩
theorem om (S:SrchP Pc W s1 s2 gp gt fx){row:List Str}(f:FitP Pc W (d0 ((s1++s2).zip row)))(d:dQ fx (s1++s2) row){x:Str×C8}(hx:x∈Pc.ts):gv (s1++s2) row x.1∈kI W gt fx (s1++s2) row x:=by
 have z:=f.ts x hx
 exact mem_pl.mpr ⟨S.o'.p2.mem_iff.mpr (List.mem_map.mpr ⟨_,z,rfl⟩),Y8 (J5 S.nd') z,jJ S f d (List.mem_append_right _ (List.mem_map.mpr ⟨x,hx,rfl⟩))⟩
theorem uW (S:SrchP Pc W s1 s2 gp gt fx){row:List Str}(f:FitP Pc W (d0 ((s1++s2).zip row)))(d:dQ fx (s1++s2) row):nR (Pc.pts.map fun x=>gR W gp fx x.1 x.2)=true:=by
 refine sU (r:=fun x=>gv (s1++s2) row x.1) (fun x hx=>pA S f d hx) ?_
 have z:=f.nd
 unfold d9 at z
 rw[List.map_append,List.map_map] at z
 exact(List.nodup_append.mp z).1
theorem jl (S:SrchP Pc W s1 s2 gp gt fx){row:List Str}(hl:row.length=(s1++s2).length){i:Nat}{x:Str×C8}(h1:∃j:Nat,j<i∧(s1++s2)[j]?=some x.2.2.1)(h2:∃j:Nat,j<i∧(s1++s2)[j]?=some x.2.2.2):kI W gt fx (s1++s2) (row.take i) x=kI W gt fx (s1++s2) row x:=by
 obtain⟨j1,a1,b1⟩:=h1
 obtain⟨j2,a2,b2⟩:=h2
 unfold kI
 rw[aI S.nn hl b1 a1,aI S.nn hl b2 a2]
theorem ve (S:SrchP Pc W s1 s2 gp gt fx){row:List Str}(hl:row.length=(s1++s2).length)(f:FitP Pc W (d0 ((s1++s2).zip row)))(d:dQ fx (s1++s2) row):yB (T4 Pc W gp gt fx (s1++s2)) 0 row:=by
 have nn:=S.nn
 have e:=iK nn hl
 have rnd:row.Nodup:=by
  rw[←e]
  exact((S.o.perm.map (gv (s1++s2) row)).nodup_iff).mpr f.nd
 intro i x _ hx
 have hil:=K8 hx
 have hn:(s1++s2)[i]?=some ((s1++s2)[i]'(by omega)):=List.getElem?_eq_getElem (by omega)
 generalize (s1++s2)[i]'(by omega)=n at hn
 have hg:gv (s1++s2) row n=x:=du nn hn hx
 have hlt:(row.take i).length=i:=by rw[List.length_take];omega
 have hni:x∉row.take i:=fun z=>by
  obtain⟨j,hj⟩:=O8 z
  rw[List.getElem?_take] at hj
  split at hj
  ·next hji=>
   have z2:=(List.getElem?_inj (K8 hj) rnd).mp (hj.trans hx.symm)
   omega
  ·cases hj
 unfold T4
 rw[hlt,hn]
 dsimp only
 rcases S.is1 hn with⟨h1,h2⟩|⟨h1,h2⟩
 ·rw[if_neg h1]
  have hm:n∈Pc.pts.map (·.1):=by
   rcases List.mem_append.mp (S.o.mem.mp (List.mem_of_getElem? hn)) with z|z
   ·exact z
   ·exact absurd z h1
  obtain⟨y,hy,ey⟩:=List.mem_map.mp hm
  have hc:=pA S f d hy
  rw[ey,hg] at hc
  have ek:d6 (d0 Pc.pts) n=y.2:=by rw[←ey];exact i3 (B4 S.nd) (show(y.1,y.2)∈Pc.pts from hy)
  refine List.mem_filter.mpr ⟨List.mem_filter.mpr ⟨by rw[ek];exact hc,by simpa using hni⟩,?_⟩
  have et:row.take i++[x]=row.take (i+1):=by rw[List.take_succ,hx];rfl
  rw[et]
  have hs1:s1[i]=n:=by
   rw[List.getElem?_append_left h2,List.getElem?_eq_getElem h2] at hn
   exact Option.some.inj hn
  refine sU (r:=fun t=>gv (s1++s2) row t.1) (fun t ht=>?_) ?_
  ·unfold P6 at ht
   rw[List.mem_filter,decide_eq_true_eq] at ht
   have he:=S.ends t ht.1
   have m1:¬(s1[i].cps.toList<t.2.2.1.cps.toList):=by
    rw[hs1,←ht.2]
    unfold qr
    split
    ·next z=>exact List.lt_asymm z
    ·exact List.lt_irrefl _
   have m2:¬(s1[i].cps.toList<t.2.2.2.cps.toList):=by
    rw[hs1,←ht.2]
    unfold qr
    split
    ·exact List.lt_irrefl _
    ·next z=>exact z
   obtain⟨j1,a1,b1⟩:=aH S h2 he.1 m1
   obtain⟨j2,a2,b2⟩:=aH S h2 he.2 m2
   rw[jl S hl ⟨j1,by omega,b1⟩ ⟨j2,by omega,b2⟩]
   exact om S f d ht.1
  ·have z:=f.nd
   unfold d9 at z
   rw[List.map_append,List.map_map,List.map_map] at z
   exact((List.nodup_append.mp z).2.1).sublist (List.filter_sublist.map _)
 ·rw[if_pos h1]
  have hin:=P9 h1
  have he:=S.ends _ hin
  obtain⟨j1,hj1,hk1⟩:=S.pt_idx he.1
  obtain⟨j2,hj2,hk2⟩:=S.pt_idx he.2
  have hp:=om S f d hin
  rw[←jl S hl (i:=i) ⟨j1,by omega,hk1⟩ ⟨j2,by omega,hk2⟩] at hp
  refine List.mem_filter.mpr ⟨?_,by simpa using hni⟩
  have hg':gv (s1++s2) row (n,u4 Pc.ts n).1=x:=hg
  rw[hg'] at hp;exact hp
open Classical in
noncomputable def X6 (Pc W:y4)(s1 s2 gp gt:List Str)(fx:List (Str×Str)):List (List Str):=(J6 (Z2 s1 s2 gp gt) []).filter fun row=>decide (FitP Pc W (d0 ((s1++s2).zip row))∧dQ fx (s1++s2) row)
theorem fe {row:List Str}(h:row∈J6 (Z2 s1 s2 gp gt) []):row.length=(s1++s2).length:=by
 obtain⟨t,e,hl,_⟩:=K6 h
 rw[e,List.nil_append,hl,aS]
open Classical in
theorem pk (S:SrchP Pc W s1 s2 gp gt fx):bV (T4 Pc W gp gt fx (s1++s2)) (s1++s2).length []=X6 Pc W s1 s2 gp gt fx:=by
 rw[←aS (gp:=gp) (gt:=gt),mz fun j c hc b' hb=>oN S hc (by rw[hb];simp)]
 unfold X6
 refine D3 fun row hrow=>?_
 have hl:=fe hrow
 rw[Bool.eq_iff_iff,decide_eq_true_eq,decide_eq_true_eq]
 exact⟨fun ok=>tU S hl ok,fun h=>ve S hl h.1 h.2⟩
open Classical in
theorem lg (S:SrchP Pc W s1 s2 gp gt fx)(h:nR (Pc.pts.map fun x=>gR W gp fx x.1 x.2)=false):X6 Pc W s1 s2 gp gt fx=[]:=by
 unfold X6
 refine List.filter_eq_nil_iff.mpr fun row _ z=>?_
 have z:=of_decide_eq_true z
 rw[uW S z.1 z.2] at h;cases h
end
def cM (K:PySem.W.Frag):Sp:=fun vs H Q _=>∃(d:Addr) (n im:Str) (fx:List (Str×Str)),vs=[.str n,.str im,.ref d]∧H d=some (.dK (d0 fx))∧∀H',Same H H'→Q (.bl (D8 fx n im)) H'
theorem bI {pts:List (Str×Str)}{n:Str}(h:n∈pts.map (·.1)):i5 (d0 pts) (Sum.inr n:g4)=some (.str (d6 (d0 pts) n)):=by
 cases e:i5 (d0 pts) (Sum.inr n:g4) with
 |none=>have z:=z8 (pts:=pts) (n:=n);rw[e,decide_eq_true h] at z;cases z
 |some v=>
  obtain⟨k',rfl,_⟩:=U8 e
  rw[dR e]
theorem pH {pts:List (Str×Str)}:(d0 pts).map (·.2)=(pts.map (·.2)).map V.str:=by unfold d0;rw[List.map_map,List.map_map];rfl
abbrev bS (P:Program)(w:World)(K:PySem.W.Frag)(mg:Str→Option Value)(base:Heap):Prop:=Z6 P w K mg base C7 1 "may_be" ["name","image","fixed"] [] (cM K)
theorem kX {f:Addr}{fd:FuncData}(T:Txt K mg)(F:Fun K "may_be" "may_be" bj f fd):A0 P w K mg base C7 1 f fd ["name","image","fixed"] (cM K):=by
 refine F.ok sc_may_be (fun vs H Q E h=>?_) (fun cdv A outer s H vs Q E hr h=>?_)
 ·obtain⟨d,n,im,fx,rfl,_⟩:=h
  rfl
 ·obtain⟨d,n,im,fx,rfl,hd,k⟩:=h
  have hN:=sc_may_be.nd
  have hu:=A5 hr
  refine⟨_,QSs.r (u6 (mn (y8 (kIn K hu) (qV 0) (qV 2) (by rfl)) (D9 (E5 (iW (V6 K hr) (qV 1) (u7 (u9 K hu) (qV 2) (qV 0) (fun _ _=>rfl)) (r6 _)))) rV)
   (D9 (E5 (iW (iT K hu) (qV 1) (sh (Z5 K rfl) T.b_list Boot.«list» (i0 (zt PySem.F.plainAttrs_dict PySem.F.slot_dict_values PySem.F.type_dict_values O0 K (qV 2)) k4)) (by rfl))))),?_⟩
  walk_at "r"
  refine K1 (L7 (k:=Sum.inr n) (.inl hd)) ?_
  rw[z8]
  walk_at "r"
  refine B5 (fun h1=>?_) (fun h1=>?_)
  ·walk_at "r"
   refine u5 (v:= .str (d6 (d0 fx) n)) (by have z:=L7 (k:=Sum.inr n) (.inl hd);rw[bI h1] at z;exact z) ?_
   walk_at "r"
   have e:D8 fx n im=decide (im=d6 (d0 fx) n):=by unfold D8;rw[if_pos h1]
   rw[←e];exact k H (Same.refl H)
  ·walk_at "r"
   refine⟨.inr (.inr (.inl ⟨rfl,.inl ⟨_,hd⟩⟩)),?_⟩
   walk_at "r"
   refine⟨d,_,rfl,rfl,.inl hd,fun v1 n1=>?_⟩
   obtain⟨H1,e1,f1,m1,_⟩:=c9 (o:= .ext (fu v1 d)) n1
   rw[e1]
   walk_at "r"
   refine ae f1 (.inl (m1 _ _ hd)) (fun l2 n2=>?_)
   obtain⟨H2,e2,f2,m2,_⟩:=c9 (o:= .lst _) n2
   rw[e2]
   refine U2 (gs:=fx.map (·.2)) (SqL.of (by rw[f2,pH])) ?_
   have e:D8 fx n im=!decide (im∈fx.map (·.2)):=by unfold D8;rw[if_neg h1]
   rw[←e];exact k H2 (m1.trans m2)
def LstAt (H:Hp)(v:V)(l:List Str):Prop:=∃a,v= .ref a∧H a=some (.lst (l.map V.str))
theorem LstAt.same {H H':Hp}{v:V}{l:List Str}(h:LstAt H v l)(s:Same H H'):LstAt H' v l:=let ⟨a,e,z⟩:=h;⟨a,e,s _ _ z⟩
def ChAt (H:Hp)(F:Str×Str→List Str)(kvs:List (g4×V))(pts:List (Str×Str)):Prop:=Paired (fun kv x=>kv.1=Sum.inr x.1∧LstAt H kv.2 (F x)) kvs pts
theorem ChAt.same {H H':Hp}{F:Str×Str→List Str}{kvs:List (g4×V)}{pts:List (Str×Str)}(h:ChAt H F kvs pts)(s:Same H H'):ChAt H' F kvs pts:=Paired.imp' (fun _ _ z=>⟨z.1,z.2.same s⟩) h
theorem ChAt.keys {H:Hp}{F:Str×Str→List Str}:∀{kvs:List (g4×V)} {pts:List (Str×Str)},ChAt H F kvs pts→kvs.map (·.1)=(pts.map (·.1)).map Sum.inr
 |_,_,.nil=>rfl
 |_,_,.cons a t=>by rw[List.map_cons,a.1,ChAt.keys t];rfl
theorem kZ {p:Str→Bool}{s:List Str}{i:Nat}{x:Str}(h:s[i]?=some x)(hp:p x=true):(s.take (i+1)).filter p=(s.take i).filter p++[x]:=by
 rw[List.take_succ,h,List.filter_append]
 show _++List.filter p [x]=_
 rw[List.filter_cons_of_pos hp];rfl
theorem iS {p:Str→Bool}{s:List Str}{i:Nat}{x:Str}(h:s[i]?=some x)(hp:p x=false):(s.take (i+1)).filter p=(s.take i).filter p:=by
 rw[List.take_succ,h,List.filter_append]
 show _++List.filter p [x]=_
 rw[List.filter_cons_of_neg (by rw[hp];decide)];simp
theorem Y1 {p:Str→Bool}{s:List Str}{i:Nat}:((s.take i).filter p).length≤s.length:=Nat.le_trans (List.length_filter_le _ _) (by rw[List.length_take];omega)
theorem F7 {p b:Addr}{o:Obj}{kvs:List (g4×V)}{H:Hp}(h:b≠p):A8 p o kvs H b=H b:=b0 h
theorem uN {p:Addr}{o:Obj}{kvs:List (g4×V)}{H:Hp}:A8 p o kvs H p=some (.frz o (.dK kvs)):=c8
theorem bP {p:Addr}{o:Obj}{kvs:List (g4×V)}{H H1:Hp}(s:Same H H1):Same (A8 p o kvs H) (A8 p o kvs H1):=fun b u hb=>by
 by_cases z:b=p
 ·rw[z,uN] at hb⊢;exact hb
 ·rw[F7 z] at hb⊢;exact s _ _ hb
def K5 (K:PySem.W.Frag):Sp:=fun vs H Q _=>∃(p g d:Addr) (pp fx:List (Str×Str)) (W:y4) (gp:List Str),vs=[.ref p,.ref g,.ref d]∧H p=some (.dK (d0 pp))∧(pp.map (·.1)).Nodup∧pp.length≤30∧Rd H g (.dK (d0 W.pts))∧(W.pts.map (·.1)).Nodup∧W.pts.length≤30∧gp.Perm (W.pts.map (·.1))∧sortedS gp=true∧H d=some (.dK (d0 fx))∧d≠p∧
 ∀(c:Addr) (H':Hp) (kvs:List (g4×V)),H c=none→Same H H'→H' c=some (.dK kvs)→ChAt H' (fun x=>gR W gp fx x.1 x.2) kvs pp→Q (.ref c) H'
abbrev N9 (P:Program)(w:World)(K:PySem.W.Frag)(mg:Str→Option Value)(base:Heap):Prop:=Z6 P w K mg base C7 2 "point_choices" ["piece_looks","web_looks","fixed"] [] (K5 K)
theorem Z3 {f:Addr}{fd:FuncData}(T:Txt K mg)(K2:bS P w K mg base)(F:Fun K "point_choices" "point_choices" E3 f fd):A0 P w K mg base C7 2 f fd ["piece_looks","web_looks","fixed"] (K5 K):=by
 refine F.ok sc_point_choices (fun vs H Q E h=>?_) (fun cdv A outer s H vs Q E hr h=>?_)
 ·obtain⟨p,g,d,pp,fx,W,gp,rfl,_⟩:=h
  rfl
 ·obtain⟨p,g,d,pp,fx,W,gp,rfl,hp,npp,lpp,hg,ngg,lgg,pgp,ogp,hd,hdp,k⟩:=h
  have ngp:gp.Nodup:=pgp.nodup_iff.mpr ngg
  have lgp:gp.length≤30:=by rw[pgp.length_eq,List.length_map];exact lgg
  have hN:=sc_point_choices.nd
  have hu:=A5 hr
  refine⟨_,QSs.r (u6 (j7 (i:=3) hN rfl (by walk_at "l") mh)
   (u6 (U0 PassesOwn.never rfl (eY (qV 0)) (xy K rfl (qb (R5 (i:=4) hN rfl (by walk_at "l")) (qb (R5 (i:=5) hN rfl (by walk_at "l")) vX)))
    (u6 (V5 (i:=6) hN rfl (by walk_at "l") (own:=["image"]) (js:=[5,1]) (by kernel_rfl) rfl (R1 K (qB (C9 K rfl) T.b_sorted Boot.«sorted» (i0 (qV 1) k4))) (fun _ _ _ _=>(R5 (i:=0) (show List.Nodup (["image","look","web_looks"]:List Str) by decide+kernel) rfl (by walk_at "l"))) (fun _ _ _ _=>(mi (y8 (V6 K hr) (u7 (u9 K hu) (qV 2) (qV 0) (fun _ _=>rfl)) (qV 1) (r6 _)))) (fun _ _ _ _=>(qV 0)))
   (D9 (T3 (af (own:=["image"]) (js:=[4,2]) (by kernel_rfl) rfl (R1 K (qV 6)) (fun _ _ _ _=>(R5 (i:=0) (show List.Nodup (["image","name","fixed"]:List Str) by decide+kernel) rfl (by walk_at "l"))) (fun _ _ _ _=>(mi (fw K (qC K2 (hr.mono (by decide)) p8 (i0 (qV 1) (i0 (qV 0) (i0 (qV 2) k4))))))) (fun _ _ _ _=>(qV 0))) (iZ (qV 3) (qV 4) (k6 P w hu))))))
   (D9 (E5 (qV 3))))),?_⟩
  walk_at "r"
  intro c nc
  obtain⟨H1,e1,f1,m1,_⟩:=c9 (o:= .dK []) nc
  rw[e1]
  walk_at "r"
  have hp1:=m1 _ _ hp
  have hcp:c≠p:=(b9 hp nc).symm
  refine Q2 hp1 (fun ndp o1=>?_)
  refine M4 (n:=(d0 pp).length) (fun i σ H'=>∃(kvs:List (g4×V)) (v1 v2 v3:Option V),σ=[some (.ref p),some (.ref g),some (.ref d),some (.ref c),v1,v2,v3]∧Same (A8 p o1 (d0 pp) H) H'∧H' c=some (.dK kvs)∧ChAt H' (fun x=>gR W gp fx x.1 x.2) kvs (pp.take i)) ⟨[],none,none,none,rfl,?_,?_,.nil⟩ (fun i σ H' hi hp=>?_) ?_ ?_
  ·exact bP m1
  ·rw[F7 hcp];exact f1
  ·obtain⟨_,_,_,_,_,s,_⟩:=hp
   exact⟨s _ _ c8,hi⟩
  ·rintro bk i v σ H2' H2 hi ⟨kvs,v1,v2,v3,rfl,s2,hc2,ch2⟩ ⟨t,kv,hkv,nt,rfl,rfl⟩
   obtain⟨x,hx,rfl⟩:=je hkv
   obtain⟨H3,e3,f3,m3,_⟩:=c9 (o:= .tup _) nt
   rw[e3]
   have s3:=s2.trans m3
   have hg3:Rd H3 g (.dK (d0 W.pts)):=((hZ hp).trans s3.le) _ _ rfl hg
   have hd3:H3 d=some (.dK (d0 fx)):=s3 _ _ (by rw[F7 hdp];exact hd)
   refine bL (SqT.of f3) rfl ?_
   walk_at "r"
   refine l7 (ss:=W.pts.map (·.1)) hg3 (by rw[B0,k9]) (by rw[List.length_map];omega) (fun g1 a1 a2 l4 n4=>?_)
   have eg:g1=gp:=p6 a2 ogp (a1.nodup_iff.mpr ngg) (a1.trans pgp.symm)
   subst eg
   obtain⟨H4,e4,f4,m4,_⟩:=c9 (o:= .lst _) n4
   rw[e4]
   refine q9 (SqL.of f4) ?_
   refine B1 (n:=g1.length) (fun i out H'=>H'=H4∧out=((g1.take i).filter fun im=>decide (d6 (d0 W.pts) im=x.2)).map V.str) ⟨rfl,rfl⟩ (fun i out H' hi hp=>⟨g1.map V.str,.str (g1[i]),SqL.of (by rw[hp.1];exact f4),by rw[List.getElem?_map,List.getElem?_eq_getElem hi];rfl⟩) ?_ ?_
   ·rintro N j v out H5 H5' hj ⟨rfl,rfl⟩ y hN'
    obtain⟨rfl,hy⟩:=Itl.get y (SqL.of f4)
    rw[List.getElem?_map] at hy
    obtain⟨im,him,rfl⟩:=Option.map_eq_some_iff.mp hy
    have hin:im∈W.pts.map (·.1):=a1.mem_iff.mp (List.mem_of_getElem? him)
    walk_at "r"
    refine⟨rfl,?_⟩
    walk_at "r"
    refine u5 (v:= .str (d6 (d0 W.pts) im)) (by have z:=L7 (k:=Sum.inr im) (m4.rd hg3);rw[bI hin] at z;exact z) ?_
    walk_at "r"
    refine B5 (fun h1=>?_) (fun h1=>?_)
    ·walk_at "r"
     refine⟨g7 (by rw[List.length_map];have:=Y1 (p:=fun im=>decide (d6 (d0 W.pts) im=x.2)) (s:=g1) (i:=j);omega),hN' _ _ ⟨rfl,?_⟩⟩
     rw[kZ him (decide_eq_true h1),List.map_append];rfl
    ·exact hN' _ _ ⟨rfl,by rw[iS him (decide_eq_false h1)]⟩
   ·rintro out H5 ⟨rfl,rfl⟩
    refine⟨⟨_,SqL.of f4,by rw[List.length_map];exact Nat.le_refl _⟩,fun D hD=>⟨g7 (by rw[List.length_map];have:=Y1 (p:=fun im=>decide (d6 (d0 W.pts) im=x.2)) (s:=g1) (i:=g1.length);omega),?_⟩⟩
    rw[List.take_of_length_le (Nat.le_refl _)]
    obtain⟨H6,e6,f6,m6,_⟩:=c9 (H:=H5) (o:= .lst ((g1.filter fun im=>decide (d6 (d0 W.pts) im=x.2)).map V.str)) hD
    generalize hal:(g1.filter fun im=>decide (d6 (d0 W.pts) im=x.2))=al at e6 f6⊢
    have hall:al.length≤30:=by rw[←hal];exact Nat.le_trans (List.length_filter_le _ _) lgp
    change O1 _ _ _ (i6 H5 D _) _
    rw[e6]
    walk_at "r"
    refine q9 (SqL.of f6) ?_
    refine B1 (n:=al.length) (fun i out H'=>Same H6 H'∧out=((al.take i).filter (D8 fx x.1)).map V.str) ⟨Same.refl _,rfl⟩ (fun i out H' hi hp=>⟨_,.str (al[i]),SqL.of (hp.1 _ _ f6),by rw[List.getElem?_map,List.getElem?_eq_getElem hi];rfl⟩) ?_ ?_
    ·rintro N j v out H7 H7' hj ⟨s7,rfl⟩ y hN'
     obtain⟨rfl,hy⟩:=Itl.get y (SqL.of (s7 _ _ f6))
     rw[List.getElem?_map] at hy
     obtain⟨im,him,rfl⟩:=Option.map_eq_some_iff.mp hy
     walk_at "r"
     refine⟨rfl,?_⟩
     walk_at "r"
     refine⟨d,x.1,im,fx,rfl,s7 _ _ (m6 _ _ (m4 _ _ hd3)),fun H8 m8=>?_⟩
     walk_at "r"
     refine bg (fun h1=>?_) (fun h1=>?_)
     ·walk_at "r"
      refine⟨g7 (by rw[List.length_map];have:=Y1 (p:=D8 fx x.1) (s:=al) (i:=j);omega),hN' _ _ ⟨s7.trans m8,?_⟩⟩
      rw[kZ him h1,List.map_append];rfl
     ·exact hN' _ _ ⟨s7.trans m8,by rw[iS him h1]⟩
    ·rintro out H7 ⟨s7,rfl⟩
     refine⟨⟨_,SqL.of (s7 _ _ f6),by rw[List.length_map];exact Nat.le_refl _⟩,fun D2 hD2=>⟨g7 (by rw[List.length_map];have:=Y1 (p:=D8 fx x.1) (s:=al) (i:=al.length);omega),?_⟩⟩
     rw[List.take_of_length_le (Nat.le_refl _)]
     obtain⟨H8,e8,f8,m8,_⟩:=c9 (H:=H7) (o:= .lst ((al.filter (D8 fx x.1)).map V.str)) hD2
     have s38:=m4.trans (m6.trans (s7.trans m8))
     change qx _ _ (i6 H7 D2 _) _
     rw[e8]
     have hc8:H8 c=some (.dK kvs):=s38 _ _ (m3 _ _ hc2)
     have hlk:=Paired.length ch2
     rw[List.length_take] at hlk
     walk_at "r"
     refine E7 (j4 (k:=Sum.inr x.1) hc8 (g7 (by omega)) ?_)
     have fr:x.1∉(pp.take i).map (·.1):=fun z=>by
      have e7:pp.take (i+1)=pp.take i++[x]:=by rw[List.take_succ,hx];rfl
      have w:((pp.take (i+1)).map (·.1)).Nodup:=npp.sublist ((List.take_sublist _ _).map _)
      rw[e7,List.map_append] at w
      exact(List.nodup_append.mp w).2.2 x.1 z x.1 (by simp) rfl
     have ek:x9 kvs (Sum.inr x.1:g4) (.ref D2)=kvs++[(Sum.inr x.1,.ref D2)]:=A9 _ (t4 (by rw[ch2.keys];exact fun m=>fr (D0 m)))
     have hnc:(A8 p o1 (d0 pp) H) c=none:=by rw[F7 hcp];exact nc
     have cUp:∀{v:V} {l:List Str},LstAt H8 v l→LstAt (i6 H8 c (.dK (kvs++[(Sum.inr x.1,V.ref D2)]))) v l:=fun{v l} ⟨a,ea,z⟩=>⟨a,ea,by rw[b0 (fun q=>by rw[q,hc8] at z;cases z)];exact z⟩
     refine⟨kvs++[(Sum.inr x.1,.ref D2)],_,_,_,rfl,x8 (s3.trans s38) hnc,by rw[c8,ek],?_⟩
     rw[ek,show pp.take (i+1)=pp.take i++[x] by rw[List.take_succ,hx];rfl]
     refine j5 (Paired.imp' (fun _ _ z=>⟨z.1,cUp (z.2.same (m3.trans s38))⟩) ch2) ⟨rfl,cUp ⟨D2,rfl,?_⟩⟩
     rw[f8]
     show _=some (HO.lst ((gR W g1 fx x.1 x.2).map V.str))
     unfold gR
     rw[hal]
  ·rintro σ H2 ⟨kvs,v1,v2,v3,rfl,s2,hc2,ch2⟩
   refine⟨⟨s2 _ _ c8,Nat.le_refl _⟩,?_⟩
   walk_at "r"
   have hcp':thaw p H2 c=some (.dK kvs):=by rw[G5 hcp];exact hc2
   rw[List.take_of_length_le (by rw[j8];exact Nat.le_refl _)] at ch2
   refine k c _ kvs nc (Same.thaw hp s2) hcp' (Paired.imp' (fun kv x z=>⟨z.1,?_⟩) ch2)
   obtain⟨a,ea,za⟩:=z.2
   have hap:a≠p:=fun q=>by rw[q,s2 _ _ c8] at za;cases za
   exact⟨a,ea,by rw[G5 hap];exact za⟩
abbrev k2 (a b:Str):List g4:=[Sum.inr a,Sum.inr b]
structure TH (HB H:Hp) (t:Addr) (kvs:List (List g4×V)) (F:Str→Str→List Str):Prop where
 at_:H t=some (.dT kvs)
 no:∀a b,i5 kvs (k2 a b)=none→F a b=[]
 so:∀a b v,i5 kvs (k2 a b)=some v→∃l,v= .ref l∧H l=some (.lst ((F a b).map V.str))∧HB l=none
 inj:∀a b a' b' v,i5 kvs (k2 a b)=some v→i5 kvs (k2 a' b')=some v→a=a'∧b=b'
theorem TH.same {HB H H2:Hp}{t:Addr}{kvs:List (List g4×V)}{F:Str→Str→List Str}(h:TH HB H t kvs F)(s:Same H H2):TH HB H2 t kvs F:=
 ⟨s _ _ h.at_,h.no,fun a b v e=>let ⟨l,q,z,f⟩:=h.so a b v e;⟨l,q,s _ _ z,f⟩,h.inj⟩
theorem TH.ext {HB H:Hp}{t:Addr}{kvs:List (List g4×V)}{F G:Str→Str→List Str}(h:TH HB H t kvs F)(e:∀a b,G a b=F a b):TH HB H t kvs G:=by
 have:G=F:=funext fun a=>funext fun b=>e a b
 rw[this];exact h
theorem TH.hit {HB H:Hp}{t l:Addr}{kvs:List (List g4×V)}{F G:Str→Str→List Str}{a' b' im:Str}(h:TH HB H t kvs F)(hv:i5 kvs (k2 a' b')=some (.ref l))(h1:G a' b'=F a' b'++[im])(h2:∀a b,¬(a=a'∧b=b')→G a b=F a b):
  TH HB (i6 H l (.lst ((F a' b').map V.str++[.str im]))) t kvs G:=by
 obtain⟨l',e',z',f'⟩:=h.so _ _ _ hv
 cases e'
 have htl:t≠l:=fun q=>by rw[←q,h.at_] at z';cases z'
 refine⟨by rw[b0 htl];exact h.at_,fun a b e=>?_,fun a b v e=>?_,h.inj⟩
 ·by_cases q:a=a'∧b=b'
  ·rw[q.1,q.2,hv] at e;cases e
  ·rw[h2 a b q];exact h.no a b e
 ·by_cases q:a=a'∧b=b'
  ·obtain⟨rfl,rfl⟩:=q
   rw[hv] at e
   cases e
   exact⟨l,rfl,by rw[c8,h1,List.map_append];rfl,f'⟩
  ·obtain⟨l2,e2,z2,f2⟩:=h.so a b v e
   refine⟨l2,e2,?_,f2⟩
   have:l2≠l:=fun w=>q (by
    rw[e2,w] at e
    exact h.inj a b a' b' _ e hv)
   rw[b0 this,h2 a b q];exact z2
theorem TH.miss {HB H:Hp}{t l:Addr}{kvs:List (List g4×V)}{F G:Str→Str→List Str}{a' b' im:Str}(h:TH HB H t kvs F)(hv:i5 kvs (k2 a' b')=none)(hl:HB l=none)(hno:∀a b,i5 kvs (k2 a b)≠some (.ref l))(hlt:l≠t)(h1:G a' b'=F a' b'++[im])(h2:∀a b,¬(a=a'∧b=b')→G a b=F a b):
  TH HB (i6 (i6 H t (.dT (x9 kvs (k2 a' b') (.ref l)))) l (.lst ([]++[.str im]))) t (x9 kvs (k2 a' b') (.ref l)) G:=by
 have hk:∀{a b:Str},¬(a=a'∧b=b')→k2 a b≠k2 a' b':=fun{a b} q w=>by
  have w1:=List.cons.inj w
  have w2:=List.cons.inj w1.2
  exact q ⟨Sum.inr.inj w1.1,Sum.inr.inj w2.1⟩
 refine⟨by rw[b0 hlt.symm,c8],fun a b e=>?_,fun a b v e=>?_,fun a b c d v e e'=>?_⟩
 ·by_cases q:a=a'∧b=b'
  ·rw[z9,if_pos (by rw[q.1,q.2])] at e;cases e
  ·rw[z9,if_neg (hk q)] at e
   rw[h2 a b q];exact h.no a b e
 ·by_cases q:a=a'∧b=b'
  ·obtain⟨rfl,rfl⟩:=q
   rw[z9,if_pos rfl] at e
   cases e
   exact⟨l,rfl,by rw[c8,h1,h.no _ _ hv];rfl,hl⟩
  ·rw[z9,if_neg (hk q)] at e
   obtain⟨l2,e2,z2,f2⟩:=h.so a b v e
   have w1:l2≠l:=fun w=>hno a b (by rw[e,e2,w])
   have w2:l2≠t:=fun w=>by rw[w,h.at_] at z2;cases z2
   exact⟨l2,e2,by rw[b0 w1,b0 w2,h2 a b q];exact z2,f2⟩
 ·by_cases q:a=a'∧b=b'
  ·by_cases q':c=a'∧d=b'
   ·exact⟨q.1.trans q'.1.symm,q.2.trans q'.2.symm⟩
   ·rw[z9,if_pos (by rw[q.1,q.2])] at e
    rw[z9,if_neg (hk q')] at e'
    cases e
    exact absurd e' (hno c d)
  ·by_cases q':c=a'∧d=b'
   ·rw[z9,if_pos (by rw[q'.1,q'.2])] at e'
    rw[z9,if_neg (hk q)] at e
    cases e'
    exact absurd e (hno a b)
   ·rw[z9,if_neg (hk q)] at e
    rw[z9,if_neg (hk q')] at e'
    exact h.inj a b c d v e e'
def PlAt (H:Hp)(v:V)(F:Str→Str→List Str):Prop:=∃(t:Addr) (kvs:List (List g4×V)),v= .ref t∧H t=some (.dT kvs)∧(∀a b,i5 kvs (k2 a b)=none→F a b=[])∧∀a b v,i5 kvs (k2 a b)=some v→LstAt H v (F a b)
theorem PlAt.same {H H':Hp}{v:V}{F:Str→Str→List Str}(h:PlAt H v F)(s:Same H H'):PlAt H' v F:=
 let ⟨t,kvs,e,a,n,z⟩:=h;⟨t,kvs,e,s _ _ a,n,fun x y v q=>(z x y v q).same s⟩
def PlsAt (H:Hp)(F:Str×C8→Str→Str→List Str)(kvs:List (g4×V))(ts:List (Str×C8)):Prop:=Paired (fun kv x=>kv.1=Sum.inr x.1∧PlAt H kv.2 (F x)) kvs ts
theorem PlsAt.keys {H:Hp}{F:Str×C8→Str→Str→List Str}:∀{kvs:List (g4×V)} {ts:List (Str×C8)},PlsAt H F kvs ts→kvs.map (·.1)=(ts.map (·.1)).map Sum.inr
 |_,_,.nil=>rfl
 |_,_,.cons a t=>by rw[List.map_cons,a.1,PlsAt.keys t];rfl
theorem PlsAt.same {H H':Hp}{F:Str×C8→Str→Str→List Str}{kvs:List (g4×V)}{ts:List (Str×C8)}(h:PlsAt H F kvs ts)(s:Same H H'):PlsAt H' F kvs ts:=Paired.imp' (fun _ _ z=>⟨z.1,z.2.same s⟩) h
theorem thaw_at {q a:Addr}{H:Hp}{o:Obj}{w u:HO}(hq:H q=some (.frz o w))(ha:H a=some u)(hu:∀o' w',u≠ .frz o' w'):thaw q H a=some u:=by
 have:a≠q:=fun z=>by rw[z,hq] at ha;cases ha;exact hu _ _ rfl
 rw[G5 this];exact ha
theorem LstAt.thaw {q:Addr}{H:Hp}{o:Obj}{w:HO}{v:V}{l:List Str}(hq:H q=some (.frz o w))(h:LstAt H v l):LstAt (thaw q H) v l:=let ⟨a,e,z⟩:=h;⟨a,e,thaw_at hq z (fun _ _ z=>nomatch z)⟩
theorem PlAt.thaw {q:Addr}{H:Hp}{o:Obj}{w:HO}{v:V}{F:Str→Str→List Str}(hq:H q=some (.frz o w))(h:PlAt H v F):PlAt (thaw q H) v F:=
 let ⟨t,kvs,e,a,n,z⟩:=h;⟨t,kvs,e,thaw_at hq a (fun _ _ z=>nomatch z),n,fun x y v q=>(z x y v q).thaw hq⟩
def S4 (K:PySem.W.Frag):Sp:=fun vs H Q _=>∃(a p q a' p' q' d:Addr) (kvs kvs':List (g4×V)) (Pc W:y4) (fx:List (Str×Str)) (gt:List Str),vs=[.ref a,.ref a',.ref d]∧WebAt K H a p q kvs Pc∧H q=some (.dK kvs)∧(Pc.ts.map (·.1)).Nodup∧Pc.ts.length≤30∧WebAt K H a' p' q' kvs' W∧(W.ts.map (·.1)).Nodup∧W.ts.length≤30∧gt.Perm (W.ts.map (·.1))∧sortedS gt=true∧H d=some (.dK (d0 fx))∧d≠q∧
 ∀(c:Addr) (H':Hp) (kvp:List (g4×V)),H c=none→Same H H'→H' c=some (.dK kvp)→PlsAt H' (fun x a b=>jF W gt fx x.1 (x.2.1,a,b)) kvp Pc.ts→Q (.ref c) H'
abbrev V0 (P:Program)(w:World)(K:PySem.W.Frag)(mg:Str→Option Value)(base:Heap):Prop:=Z6 P w K mg base C7 2 "tie_places" ["piece","web","fixed"] [] (S4 K)
theorem bW {f:Addr}{fd:FuncData}(T:Txt K mg)(K2:bS P w K mg base)(F:Fun K "tie_places" "tie_places" M9 f fd):A0 P w K mg base C7 2 f fd ["piece","web","fixed"] (S4 K):=by
 refine F.ok sc_tie_places (fun vs H Q E h=>?_) (fun cdv A outer s H vs Q E hr h=>?_)
 ·obtain⟨a,p,q,a',p',q',d,kvs,kvs',Pc,W,fx,gt,rfl,_⟩:=h
  rfl
 ·obtain⟨a,p,q,a',p',q',d,kvs,kvs',Pc,W,fx,gt,rfl,hP,hq,ndP,lP,hW,ndW,lW,pgt,ogt,hd,hdq,k⟩:=h
  have lgt:gt.length≤30:=by rw[pgt.length_eq,List.length_map];exact lW
  have hkl:=hP.ts.length
  have hN:=sc_tie_places.nd
  have hu:=A5 hr
  refine⟨_,QSs.r (u6 (j7 (i:=3) hN rfl (by walk_at "l") mh)
   (u6 (U0 PassesOwn.never rfl (eY (u7 (u9 K hu) (qV 0) h7 (fun _ _=>rfl))) (xy K rfl (qb (R5 (i:=4) hN rfl (by walk_at "l")) (qb (R5 (i:=5) hN rfl (by walk_at "l")) vX)))
    (u6 (j7 (i:=6) hN rfl (by walk_at "l") yO)
   (u6 (U0 PassesOwn.never rfl (R1 K (qB (C9 K rfl) T.b_sorted Boot.«sorted» (i0 (u7 (u9 K hu) (qV 1) h7 (fun _ _=>rfl)) k4))) (R5 (i:=7) hN rfl (by walk_at "l"))
    (u6 (j7 (i:=8) hN rfl (by walk_at "l") (u7 (u9 K hu) (u7 (u9 K hu) (qV 1) h7 (fun _ _=>rfl)) (qV 7) (fun _ _=>rfl)))
   (D9 (mn (tN (aj (y8 (V6 K hr) (u7 (u9 K hu) (qV 8) h7 (fun _ _=>rfl)) (u7 (u9 K hu) (qV 5) h7 (fun _ _=>rfl)) (r6 _)) (Y0 (fw K (qC K2 (hr.mono (by decide)) p8 (i0 (qV 4) (i0 (qV 7) (i0 (qV 2) k4)))))))) (D9 (vV (qM PySem.F.plainAttrs_list PySem.F.slot_list_append PySem.F.type_list_append r9 K (qM PySem.F.plainAttrs_dict PySem.F.slot_dict_setdefault PySem.F.type_dict_setdefault (R6 hr) K (qV 6) (i0 (yy (ym K) (qV 8) (wb h7) yH) (i0 (cq k4) k4))) (i0 (qV 7) k4)))) rV))))
   (D9 (T3 (qV 6) (iZ (qV 3) (qV 4) (k6 P w hu)))))))
   (D9 (E5 (qV 3))))),?_⟩
  walk_at "r"
  intro c nc
  obtain⟨H1,e1,f1,m1,_⟩:=c9 (o:= .dK []) nc
  rw[e1]
  have hcq:c≠q:=(b9 hq nc).symm
  walk_at "r"
  refine g5 (m1.tup hP.tup) (d7 (j:=1) rfl) ?_
  refine Q2 (m1 _ _ hq) (fun ndq o1=>?_)
  refine M4 (n:=kvs.length) (fun i σ H'=>∃(kvp:List (g4×V)) (v1 v2 v3 v4 v5:Option V),σ=[some (.ref a),some (.ref a'),some (.ref d),some (.ref c),v1,v2,v3,v4,v5]∧Same (A8 q o1 kvs H) H'∧H' c=some (.dK kvp)∧PlsAt H' (fun x a b=>jF W gt fx x.1 (x.2.1,a,b)) kvp (Pc.ts.take i)) ⟨[],none,none,none,none,none,rfl,bP m1,by rw[F7 hcq];exact f1,.nil⟩ (fun i σ H' hi hp=>?_) ?_ ?_
  ·obtain⟨_,_,_,_,_,_,_,s,_⟩:=hp
   exact⟨s _ _ c8,hi⟩
  ·rintro bk i v σ H2' H2 hi ⟨kvp,v1,v2,v3,v4,v5,rfl,s2,hc2,pl2⟩ ⟨t,kv,hkv,nt,rfl,rfl⟩
   obtain⟨H3,e3,f3,m3,_⟩:=c9 (o:= .tup _) nt
   rw[e3]
   have s3:=s2.trans m3
   have le3:=(hZ (o:=o1) hq).trans s3.le
   have P3:=hP.mono le3
   have W3:=hW.mono le3
   have hd3:H3 d=some (.dK (d0 fx)):=s3 _ _ (by rw[F7 hdq];exact hd)
   obtain⟨x,hx,ex,tb,eb,sb⟩:=P3.ts.get hkv
   obtain⟨kk,kvv⟩:=kv
   have ex':kk=Sum.inr x.1:=ex
   have eb':kvv= .ref tb:=eb
   subst ex' eb'
   refine bL (SqT.of f3) rfl ?_
   walk_at "r"
   intro th nth
   obtain⟨H4,e4,f4,m4,_⟩:=c9 (o:= .dT []) nth
   rw[e4]
   walk_at "r"
   refine g5 (m4.tup W3.tup) (d7 (j:=1) rfl) ?_
   walk_at "r"
   refine l7 (ss:=W.ts.map (·.1)) (m4.rd W3.ties) (by rw[W3.ts.keys,k9]) (by rw[List.length_map];omega) (fun g1 a1 a2 l5 n5=>?_)
   have eg:g1=gt:=p6 a2 ogt (a1.nodup_iff.mpr ndW) (a1.trans pgt.symm)
   subst eg
   obtain⟨H5,e5,f5,m5,_⟩:=c9 (o:= .lst _) n5
   rw[e5]
   refine q9 (SqL.of f5) ?_
   have hl5:H3 l5=none:=m4.free n5
   refine M4 (n:=g1.length) (fun j σ H'=>∃(kt:List (List g4×V)) (w1 w2:Option V),σ=[some (.ref a),some (.ref a'),some (.ref d),some (.ref c),some (.str x.1),some (.ref tb),some (.ref th),w1,w2]∧Same H3 H'∧H' l5=some (.lst (g1.map V.str))∧kt.length≤j∧(∀A B,i5 kt (k2 A B)≠some (.ref l5))∧TH H3 H' th kt fun A B=>(g1.take j).filter fun im=>decide (u4 W.ts im=(x.2.1,A,B))&&D8 fx x.1 im) ⟨[],v4,v5,rfl,m4.trans m5,f5,Nat.le_refl _,(fun _ _ z=>nomatch z),⟨m5 _ _ f4,(fun _ _ _=>rfl),(fun _ _ _ z=>nomatch z),fun _ _ _ _ _ z _=>nomatch z⟩⟩ (fun j σ H' hj hp=>?_) ?_ ?_
   ·obtain⟨_,_,_,_,_,z,_⟩:=hp
    exact⟨g1.map V.str,.str (g1[j]),SqL.of z,by rw[List.getElem?_map,List.getElem?_eq_getElem hj];rfl⟩
   ·rintro bk2 j v σ H6' H6 hj ⟨kt,w1,w2,rfl,s6,hl6,lk6,nl6,th6⟩ y
    obtain⟨rfl,hy⟩:=Itl.get y (SqL.of hl6)
    rw[List.getElem?_map] at hy
    obtain⟨im,him,rfl⟩:=Option.map_eq_some_iff.mp hy
    have hin:im∈W.ts.map (·.1):=a1.mem_iff.mp (List.mem_of_getElem? him)
    have W6:=W3.mono s6.le
    obtain⟨aa,hv,hT⟩:=ef W6.ts ndW (P9 hin)
    generalize hto:u4 W.ts im=to at hT
    obtain⟨t1,t2,t3⟩:=to
    walk_at "r"
    refine g5 W6.tup (d7 (j:=1) rfl) ?_
    walk_at "r"
    refine u5 (v:= .ref aa) (by have z:=L7 (k:=Sum.inr im) W6.ties;rw[hv] at z;exact z) ?_
    walk_at "r"
    refine g5 hT (d7 (j:=0) rfl) ?_
    walk_at "r"
    refine g5 (s6.tup sb) (d7 (j:=0) rfl) ?_
    walk_at "r"
    have stay:(∀A B,(decide (u4 W.ts im=(x.2.1,A,B))&&D8 fx x.1 im)=false)→∀H7,Same H6 H7→∃(kt:List (List g4×V)) (w1 w2:Option V),[some (.ref a),some (.ref a'),some (.ref d),some (.ref c),some (.str x.1),some (.ref tb),some (.ref th),some (.str im),some (.ref aa)]=[some (.ref a),some (.ref a'),some (.ref d),some (.ref c),some (.str x.1),some (.ref tb),some (.ref th),w1,w2]∧Same H3 H7∧H7 l5=some (.lst (g1.map V.str))∧kt.length≤j+1∧(∀A B,i5 kt (k2 A B)≠some (.ref l5))∧TH H3 H7 th kt fun A B=>(g1.take (j+1)).filter fun im=>decide (u4 W.ts im=(x.2.1,A,B))&&D8 fx x.1 im:=fun hf H7 m7=>
     ⟨kt,_,_,rfl,s6.trans m7,m7 _ _ hl6,by omega,nl6,(th6.same m7).ext fun A B=>iS him (hf A B)⟩
    refine B5 (fun h1=>?_) (fun h1=>?_)
    ·walk_at "r"
     refine⟨d,x.1,im,fx,rfl,s6 _ _ hd3,fun H7 m7=>?_⟩
     walk_at "r"
     refine bg (fun h2=>?_) (fun h2=>?_)
     ·walk_at "r"
      have th7:=th6.same m7
      refine⟨.inr (.inr (.inl ⟨rfl,.inr ⟨_,th7.at_⟩⟩)),?_⟩
      walk_at "r"
      refine bM (m7.tup hT) (by rintro⟨z,_⟩;exact absurd (show(1:Nat)=0 from z) (by decide)) (fun l8 n8=>?_)
      obtain⟨H8,e8,f8,m8,_⟩:=c9 (o:= .tup [.str t2,.str t3]) n8
      rw[show Z4 (er (t1,t2,t3)) (some 1) none=[V.str t2,.str t3] from rfl,e8]
      walk_at "r"
      refine⟨g7 (by simp),fun l9 n9=>?_⟩
      obtain⟨H9,e9,f9,m9,o9⟩:=c9 (o:= .lst []) n9
      rw[e9]
      have th9:=th7.same (m8.trans m9)
      have s39:=s6.trans (m7.trans (m8.trans m9))
      have hl9:H3 l9=none:=(s6.trans (m7.trans m8)).free n9
      have hl5':=(m7.trans (m8.trans m9)) _ _ hl6
      have g1':((g1.take (j+1)).filter fun im=>decide (u4 W.ts im=(x.2.1,t2,t3))&&D8 fx x.1 im)=((g1.take j).filter fun im=>decide (u4 W.ts im=(x.2.1,t2,t3))&&D8 fx x.1 im)++[im]:=kZ him (by rw[hto,h2,decide_eq_true (by rw[show t1=x.2.1 from h1])];rfl)
      have g2':∀A B,¬(A=t2∧B=t3)→((g1.take (j+1)).filter fun im=>decide (u4 W.ts im=(x.2.1,A,B))&&D8 fx x.1 im)=((g1.take j).filter fun im=>decide (u4 W.ts im=(x.2.1,A,B))&&D8 fx x.1 im):=fun A B hno=>iS him (by
       rw[hto,decide_eq_false (fun z=>hno ?_)];rfl
       have z2:=(Prod.mk.inj z).2
       exact⟨(Prod.mk.inj z2).1.symm,(Prod.mk.inj z2).2.symm⟩)
      refine⟨th,l8,kt,k2 t2 t3,.ref l9,rfl,rfl,th9.at_,m9 _ _ f8,g7 (by omega),?_⟩
      cases hvk:i5 kt (k2 t2 t3) with
      |some v=>
       obtain⟨l,rfl,hl,hlb⟩:=th9.so _ _ _ hvk
       refine⟨.inl ⟨rfl,_,SqL.of hl⟩,?_⟩
       walk_at "r"
       refine⟨l,_,.str im,rfl,rfl,hl,g7 (by rw[List.length_map];have:=Y1 (p:=fun im=>decide (u4 W.ts im=(x.2.1,t2,t3))&&D8 fx x.1 im) (s:=g1) (i:=j);omega),?_⟩
       have hll:l5≠l:=fun z=>nl6 t2 t3 (by rw[hvk,z])
       exact⟨kt,_,_,rfl,x8 s39 hlb,by rw[b0 hll];exact hl5',by omega,nl6,th9.hit hvk g1' g2'⟩
      |none=>
       have hlt:l9≠th:=fun z=>by rw[z,th9.at_] at f9;cases f9
       have hno:∀A B,i5 kt (k2 A B)≠some (.ref l9):=fun A B z=>by
        obtain⟨l,e,hl,_⟩:=(th7.same m8).so _ _ _ z
        cases e
        rw[n9] at hl;cases hl
       have h59:l5≠l9:=fun z=>by
        have:=(m7.trans m8) _ _ hl6
        rw[z,n9] at this;cases this
       have h5t:l5≠th:=fun z=>by rw[z,th9.at_] at hl5';cases hl5'
       refine⟨.inl ⟨rfl,[],SqL.of (by rw[b0 hlt];exact f9)⟩,?_⟩
       walk_at "r"
       refine⟨l9,[],.str im,rfl,rfl,by rw[b0 hlt];exact f9,g7 (by simp),?_⟩
       have hnth:H3 th=none:=nth
       refine⟨x9 kt (k2 t2 t3) (.ref l9),_,_,rfl,x8 (x8 s39 hnth) hl9,by rw[b0 h59,b0 h5t];exact hl5',?_,fun A B z=>?_,th9.miss hvk hl9 hno hlt g1' g2'⟩
       ·have:=D4 kt (k2 t2 t3) (.ref l9);omega
       ·rw[z9] at z
        split at z
        ·cases z;exact h59 rfl
        ·exact nl6 A B z
     ·exact stay (fun A B=>by rw[h2,Bool.and_false]) H7 m7
    ·walk_at "r"
     exact stay (fun A B=>by rw[hto,decide_eq_false (fun z=>h1 (Prod.mk.inj z).1)];rfl) H6 (Same.refl _)
   ·rintro σ H6 ⟨kt,w1,w2,rfl,s6,hl6,lk6,nl6,th6⟩
    refine⟨⟨_,SqL.of hl6,by rw[List.length_map];exact Nat.le_refl _⟩,?_⟩
    rw[List.take_of_length_le (Nat.le_refl _)] at th6
    have hc6:H6 c=some (.dK kvp):=s6 _ _ (m3 _ _ hc2)
    have hlk:=Paired.length pl2
    rw[List.length_take] at hlk
    walk_at "r"
    refine E7 (j4 (k:=Sum.inr x.1) hc6 (g7 (by omega)) ?_)
    have e7:Pc.ts.take (i+1)=Pc.ts.take i++[x]:=by rw[List.take_succ,hx];rfl
    have fr:x.1∉(Pc.ts.take i).map (·.1):=fun z=>by
     have w:((Pc.ts.take (i+1)).map (·.1)).Nodup:=ndP.sublist ((List.take_sublist _ _).map _)
     rw[e7,List.map_append] at w
     exact(List.nodup_append.mp w).2.2 x.1 z x.1 (by simp) rfl
    have ek:x9 kvp (Sum.inr x.1:g4) (.ref th)=kvp++[(Sum.inr x.1,.ref th)]:=A9 _ (t4 (by rw[pl2.keys];exact fun m=>fr (D0 m)))
    have hnc:(A8 q o1 kvs H) c=none:=by rw[F7 hcq];exact nc
    have cL:∀{v:V} {l:List Str},LstAt H6 v l→LstAt (i6 H6 c (.dK (kvp++[(Sum.inr x.1,V.ref th)]))) v l:=fun{v l} ⟨a,ea,z⟩=>⟨a,ea,by rw[b0 (fun q=>by rw[q,hc6] at z;cases z)];exact z⟩
    have cP:∀{v:V} {F:Str→Str→List Str},PlAt H6 v F→PlAt (i6 H6 c (.dK (kvp++[(Sum.inr x.1,V.ref th)]))) v F:=fun{v F} ⟨t,kk,e,z,n,so⟩=>⟨t,kk,e,by rw[b0 (fun q=>by rw[q,hc6] at z;cases z)];exact z,n,fun A B v e=>cL (so A B v e)⟩
    refine⟨kvp++[(Sum.inr x.1,.ref th)],_,_,_,_,_,rfl,x8 (s3.trans s6) hnc,by rw[c8,ek],?_⟩
    rw[ek,e7]
    refine j5 (Paired.imp' (fun _ _ z=>⟨z.1,cP (z.2.same (m3.trans s6))⟩) pl2) ⟨rfl,cP ⟨th,kt,rfl,th6.at_,th6.no,fun A B v e=>?_⟩⟩
    obtain⟨l,e1,e2,_⟩:=th6.so A B v e
    exact⟨l,e1,e2⟩
  ·rintro σ H2 ⟨kvp,v1,v2,v3,v4,v5,rfl,s2,hc2,pl2⟩
   refine⟨⟨s2 _ _ c8,Nat.le_refl _⟩,?_⟩
   walk_at "r"
   have hfq:H2 q=some (.frz o1 (.dK kvs)):=s2 _ _ c8
   rw[List.take_of_length_le (by omega)] at pl2
   exact k c _ kvp nc (Same.thaw hq s2) (thaw_at hfq hc2 (fun _ _ z=>nomatch z)) (Paired.imp' (fun kv x z=>⟨z.1,z.2.thaw hfq⟩) pl2)
theorem vI {td ty tx:TE}{σ:L2.St}{H:Hp}{Q:VK}(q:td σ H fun x H1=>∃a,x= .ref a∧zc H1 a∧ty σ H1 fun y H2=>tx σ H2 fun z H3=>∃o,DGet H3 a y o∧Q (o.getD z) H3):gY td ty tx σ H Q:=q
abbrev LsAt (H:Hp)(xs:List V)(ls:List (List Str)):Prop:=Paired (LstAt H) xs ls
theorem LsAt.same {H H':Hp}{xs:List V}{ls:List (List Str)}(h:LsAt H xs ls)(s:Same H H'):LsAt H' xs ls:=Paired.imp' (fun _ _ z=>z.same s) h
theorem cY:∀l d:List Str,G4 (l.map V.str) (d.map V.str)=decide (l=d)
 |[],[]=>rfl
 |[],_::_=>by simp [G4]
 |_::_,[]=>by simp [G4]
 |x::l,y::d=>by
  show(U1 (.str x) (.str y)&&G4 (l.map V.str) (d.map V.str))=_
  rw[cY l d,Bool.eq_iff_iff]
  simp [U1]
def jm (H:Hp):V→List V
 | .ref a=>match H a with
  |some (.lst xs)=>xs
  |_=>[]
 |_=>[]
theorem fU {H:Hp}{v:V}{l:List Str}(h:LstAt H v l):jm H v=l.map V.str:=by
 obtain⟨a,rfl,z⟩:=h
 show(match H a with|some (.lst xs)=>xs|_=>[])=_
 rw[z]
theorem gi {H:Hp}{d:List Str}:∀{xs:List V} {ls:List (List Str)},LsAt H xs ls→xs.countP (fun z=>G4 (jm H z) (d.map V.str))=ls.count d
 |_,_,.nil=>rfl
 |_,l::_,.cons a t=>by
  rw[List.countP_cons,List.count_cons,gi t,fU a,cY]
  by_cases e:l=d
  ·rw[if_pos (decide_eq_true e),if_pos (by simpa using e)]
  ·rw[if_neg (by rw[decide_eq_false e];decide),if_neg (by simpa using e)]
def cT (K:PySem.W.Frag):Sp:=fun vs H Q _=>∃(l:Addr) (xs:List V) (ls:List (List Str)),vs=[.ref l]∧H l=some (.lst xs)∧LsAt H xs ls∧ls.length≤60∧∀H',Same H H'→Q (.bl (nR ls)) H'
abbrev aT (P:Program)(w:World)(K:PySem.W.Frag)(mg:Str→Option Value)(base:Heap):Prop:=Z6 P w K mg base C7 1 "enough" ["lists"] [] (cT K)
theorem lH {f:Addr}{fd:FuncData}(T:Txt K mg)(F:Fun K "enough" "enough" bB f fd):A0 P w K mg base C7 1 f fd ["lists"] (cT K):=by
 refine F.ok sc_enough (fun vs H Q E h=>?_) (fun cdv A outer s H vs Q E hr h=>?_)
 ·obtain⟨l,xs,ls,rfl,_⟩:=h
  rfl
 ·obtain⟨l,xs,ls,rfl,hl,hx,hn,k⟩:=h
  have hxl:=Paired.length hx
  have hN:=sc_enough.nd
  have hu:=A5 hr
  refine⟨_,QSs.r (D9 (E5 (qB (ze K rfl) T.b_all Boot.«all» (i0 (af (own:=["drawn"]) (js:=[0]) (by kernel_rfl) rfl (R1 K (qV 0)) (fun _ _ _ _=>(R5 (i:=0) (show List.Nodup (["drawn","lists"]:List Str) by decide+kernel) rfl (by walk_at "l"))) (fun _ _ _ _=>lZ) (fun _ _ _ _=>(iW xK (qM PySem.F.plainAttrs_list PySem.F.slot_list_count PySem.F.type_list_count (au K hr) K (qV 1) (i0 (qV 0) k4)) (qB (E6 K P w) T.b_len Boot.«len» (i0 (qV 0) k4)) (r6 _)))) k4)))),?_⟩
  walk_at "r"
  refine q9 (SqL.of hl) ?_
  refine B1 (n:=xs.length) (fun i out H'=>H'=H∧out=(ls.take i).map fun d=>V.bl (decide (ls.count d≤d.length))) ⟨rfl,rfl⟩ (fun i out H' hi hp=>⟨xs,xs[i],SqL.of (by rw[hp.1];exact hl),List.getElem?_eq_getElem hi⟩) ?_ ?_
  ·rintro N i v out H1' H1 hi ⟨rfl,rfl⟩ y hN'
   obtain⟨rfl,hy⟩:=Itl.get y (SqL.of hl)
   obtain⟨d,hd,a,rfl,hda⟩:=A1 hx hy
   walk_at "r"
   refine⟨rfl,?_⟩
   walk_at "r"
   refine⟨.inl ⟨rfl,_,SqL.of hl⟩,?_⟩
   walk_at "r"
   refine⟨l,xs,.ref a,fun z=>G4 (jm H1 z) (d.map V.str),rfl,rfl,hl,fun z hz=>?_,?_⟩
   ·obtain⟨j,hj⟩:=List.getElem?_of_mem hz
    obtain⟨e,he,b,rfl,hb⟩:=A1 hx hj
    exact⟨b,a,_,_,rfl,rfl,SqL.of hb,SqL.of hda,br _,br _,by show G4 (jm H1 (V.ref b)) _=_;rw[fU ⟨b,rfl,hb⟩]⟩
   ·rw[gi hx]
    walk_at "r"
    refine C5 (k5 (SqL.of hda) ?_)
    rw[List.length_map]
    walk_at "r"
    refine⟨g7 (by rw[List.length_map,List.length_take];omega),hN' _ _ ⟨rfl,?_⟩⟩
    have e:decide ((ls.count d:Int)≤(d.length:Int))=decide (ls.count d≤d.length):=by rw[Bool.eq_iff_iff];simp
    rw[e];exact R7 (fun d=>V.bl (decide (ls.count d≤d.length))) hd
  ·rintro out H1 ⟨rfl,rfl⟩
   refine⟨⟨_,SqL.of hl,Nat.le_refl _⟩,fun D hD=>⟨g7 (by rw[List.length_map,List.length_take];omega),?_⟩⟩
   rw[List.take_of_length_le (by omega)]
   obtain⟨H2,e2,f2,m2,_⟩:=c9 (H:=H1) (o:= .lst (ls.map fun d=>V.bl (decide (ls.count d≤d.length)))) hD
   walk_at "r"
   change qW K _ (i6 H1 D _) _
   rw[e2]
   refine wG (bs:=ls.map fun d=>decide (ls.count d≤d.length)) (SqL.of (by rw[f2,List.map_map];rfl)) ?_
   have e:(ls.map fun d=>decide (ls.count d≤d.length)).all id=nR ls:=by unfold nR;rw[List.all_map];rfl
   rw[e];exact k H2 m2
structure Sx (K:PySem.W.Frag) (H:Hp) (a p q c pl:Addr) (kvs kvc kvp:List (g4×V)) (Pc W:y4) (s1 s2 gp gt:List Str) (fx:List (Str×Str)):Prop where
 S:SrchP Pc W s1 s2 gp gt fx
 at_:WebAt K H a p q kvs Pc
 hq:H q=some (.dK kvs)
 l1:(d9 Pc).length≤30
 l2:(d9 W).length≤30
 big:((d9 W).length+1) ^ (d9 Pc).length≤1000000
 hc:H c=some (.dK kvc)
 ch:ChAt H (fun x=>gR W gp fx x.1 x.2) kvc Pc.pts
 hl:H pl=some (.dK kvp)
 pls:PlsAt H (fun x a b=>jF W gt fx x.1 (x.2.1,a,b)) kvp Pc.ts
theorem Sx.same {H H':Hp}{a p q c pl:Addr}{kvs kvc kvp:List (g4×V)}{Pc W:y4}{s1 s2 gp gt:List Str}{fx:List (Str×Str)}(h:Sx K H a p q c pl kvs kvc kvp Pc W s1 s2 gp gt fx)(s:Same H H'):Sx K H' a p q c pl kvs kvc kvp Pc W s1 s2 gp gt fx:=
 ⟨h.S,h.at_.mono s.le,s _ _ h.hq,h.l1,h.l2,h.big,s _ _ h.hc,h.ch.same s,s _ _ h.hl,h.pls.same s⟩
theorem bG {α:Type}{R:V→Str×α→Prop}:∀{kvs:List (g4×V)} {ts:List (Str×α)} {x:Str×α},Paired (fun kv x=>kv.1=Sum.inr x.1∧R kv.2 x) kvs ts→(ts.map (·.1)).Nodup→x∈ts→∃v,i5 kvs (Sum.inr x.1:g4)=some v∧R v x
 |_,[],_,_,_,hx=>nomatch hx
 |kv::r,y::ts,x,.cons a t,nd,hx=>by
  have nd':=List.nodup_cons.mp (show(y.1::ts.map (·.1)).Nodup from nd)
  rcases List.mem_cons.mp hx with z|z
  ·subst z
   exact⟨kv.2,p7 a.1,a.2⟩
  ·obtain⟨v,h1,h2⟩:=bG t nd'.2 z
   refine⟨v,?_,h2⟩
   rw[q8 (by rw[a.1];exact fun e=>nd'.1 (List.mem_map.mpr ⟨x,z,(Sum.inr.inj e).symm⟩))];exact h1
def Q5 (K:PySem.W.Frag):Sp:=fun vs H Q _=>∃(a p q c pl d:Addr) (kvs kvc kvp kvm:List (g4×V)) (Pc W:y4) (s1 s2 gp gt:List Str) (fx:List (Str×Str)) (x:Str×C8),vs=[.ref a,.ref pl,.ref d,.str x.1]∧Sx K H a p q c pl kvs kvc kvp Pc W s1 s2 gp gt fx∧x∈Pc.ts∧Rd H d (.dK kvm)∧TxtAt kvm x.2.2.1∧TxtAt kvm x.2.2.2∧
 ∀(v:V) (H':Hp),Same H H'→LstAt H' v (jF W gt fx x.1 (x.2.1,d6 kvm x.2.2.1,d6 kvm x.2.2.2))→Q v H'
abbrev J1 (P:Program)(w:World)(K:PySem.W.Frag)(mg:Str→Option Value)(base:Heap):Prop:=Z6 P w K mg base C7 2 "tie_choices" ["piece","places","put","name"] [] (Q5 K)
theorem bw {f:Addr}{fd:FuncData}(T:Txt K mg)(J0:S1 P w K mg base)(F:Fun K "tie_choices" "tie_choices" I0 f fd):A0 P w K mg base C7 2 f fd ["piece","places","put","name"] (Q5 K):=by
 refine F.ok sc_tie_choices (fun vs H Q E h=>?_) (fun cdv A outer s H vs Q E hr h=>?_)
 ·obtain⟨a,p,q,c,pl,d,kvs,kvc,kvp,kvm,Pc,W,s1,s2,gp,gt,fx,x,rfl,_⟩:=h
  rfl
 ·obtain⟨a,p,q,c,pl,d,kvs,kvc,kvp,kvm,Pc,W,s1,s2,gp,gt,fx,x,rfl,X0,hx,hd,t1,t2,k⟩:=h
  obtain⟨aa,hv,hT⟩:=ef X0.at_.ts (J5 X0.S.nd) (show(x.1,x.2)∈Pc.ts from hx)
  have hN:=sc_tie_choices.nd
  have hu:=A5 hr
  refine⟨_,QSs.r (u6 (j7 (i:=4) hN rfl (by walk_at "l") (yy (ym K) (qC J0 (hr.mono (by decide)) p8 (i0 (u7 (u9 K hu) (u7 (u9 K hu) (qV 0) h7 (fun _ _=>rfl)) (qV 3) (fun _ _=>rfl)) (i0 (qV 2) k4))) (wb h7) yH))
   (D9 (E5 (wF hu (u7 (u9 K hu) (qV 1) (qV 3) (fun _ _=>rfl)) (qV 4) (cq k4))))),?_⟩
  walk_at "r"
  refine g5 X0.at_.tup (d7 (j:=1) rfl) ?_
  walk_at "r"
  refine u5 (v:= .ref aa) (by have z:=L7 (k:=Sum.inr x.1) X0.at_.ties;rw[hv] at z;exact z) ?_
  walk_at "r"
  refine⟨aa,d,x.2,kvm,rfl,hT,hd,t1,t2,fun l1 H1 n1 m1 f1=>?_⟩
  walk_at "r"
  refine bM (SqT.of f1) (by rintro⟨z,_⟩;exact absurd (show(1:Nat)=0 from z) (by decide)) (fun l2 n2=>?_)
  obtain⟨H2,e2,f2,m2,_⟩:=c9 (o:= .tup [.str (d6 kvm x.2.2.1),.str (d6 kvm x.2.2.2)]) n2
  rw[show Z4 (er (x.2.1,d6 kvm x.2.2.1,d6 kvm x.2.2.2)) (some 1) none=[V.str (d6 kvm x.2.2.1),.str (d6 kvm x.2.2.2)] from rfl,e2]
  have X2:=X0.same (m1.trans m2)
  obtain⟨v,hv2,t,kt,rfl,ht,hno,hso⟩:=bG (R:=fun v (x:Str×C8)=>PlAt H2 v fun a b=>jF W gt fx x.1 (x.2.1,a,b)) (show Paired _ _ _ from X2.pls) (J5 X0.S.nd) hx
  walk_at "r"
  refine vI ?_
  walk_at "r"
  refine u5 (v:= .ref t) (by have z:=L7 (k:=Sum.inr x.1) (.inl X2.hl);rw[hv2] at z;exact z) ?_
  refine⟨t,rfl,.inr ⟨_,.inl ht⟩,?_⟩
  walk_at "r"
  refine⟨g7 (by simp),fun l3 n3=>?_⟩
  obtain⟨H3,e3,f3,m3,_⟩:=c9 (o:= .lst []) n3
  rw[e3]
  refine⟨_,DGet.t (k:=k2 (d6 kvm x.2.2.1) (d6 kvm x.2.2.2)) (m3 _ _ ht) (m3 _ _ f2),?_⟩
  have m13:=m1.trans (m2.trans m3)
  cases hvk:i5 kt (k2 (d6 kvm x.2.2.1) (d6 kvm x.2.2.2)) with
  |none=>exact k _ H3 m13 ⟨l3,rfl,by rw[f3];have z:=hno _ _ hvk;dsimp only at z;rw[z];rfl⟩
  |some v=>exact k _ H3 m13 ((hso _ _ _ hvk).same m3)
theorem W4:∀{nm b:List Str} {n x:Str},nm[b.length]?=some n→nm.zip (b++[x])=nm.zip b++[(n,x)]
 |[],b,n,x,h=>by simp at h
 |m::nm,[],n,x,h=>by
  have e:m=n:=by simpa using h
  subst e;simp
 |m::nm,y::b,n,x,h=>by
  have z:=W4 (nm:=nm) (b:=b) (n:=n) (x:=x) (by simpa using h)
  show(m,y)::nm.zip (b++[x])=(m,y)::nm.zip b++[(n,x)]
  rw[z];rfl
theorem ja (nm:List Str):nm.map V.str=(nm.map (Sum.inr:Str→g4)).map kV:=by rw[List.map_map];rfl
theorem gc {nm b:List Str}(nd:nm.Nodup):S5 ((nm.map (Sum.inr:Str→g4)).zip (b.map V.str))=d0 (nm.zip b):=by
 have e:(nm.map (Sum.inr:Str→g4)).zip (b.map V.str)=d0 (nm.zip b):=by rw[List.zip_map];rfl
 rw[e,mY]
 rw[B0,←k9]
 exact List.Pairwise.map _ (fun a b h z=>h (Sum.inr.inj z)) (Y6 b nd)
theorem dN {mm:List (Str×Str)}{n:Str}(h:n∈mm.map (·.1)):TxtAt (d0 mm) n:=⟨_,bI h⟩
theorem eB {nm b:List Str}{i:Nat}{n:Str}(h:nm[i]?=some n)(hi:i<b.length):n∈(nm.zip b).map (·.1):=List.mem_map.mpr ⟨(n,b[i]),V2 h (List.getElem?_eq_getElem hi),rfl⟩
theorem kJ {nm b:List Str}{n:Str}(nd:nm.Nodup)(h:nm[b.length]?=some n):n∉(nm.zip b).map (·.1):=fun z=>by
 have w:=Y6 (b++[n]) nd
 rw[W4 h,List.map_append] at w
 exact(List.nodup_append.mp w).2.2 n z n (by simp) rfl
def ao (K:PySem.W.Frag):Sp:=fun vs H Q _=>∃(a p q c pl d:Addr) (kvs kvc kvp:List (g4×V)) (Pc W:y4) (s1 s2 gp gt:List Str) (fx mm:List (Str×Str)) (n im:Str),vs=[.ref a,.ref pl,.ref d,.str n,.str im]∧Sx K H a p q c pl kvs kvc kvp Pc W s1 s2 gp gt fx∧H d=some (.dK (d0 mm))∧mm.length≤60∧n∉mm.map (·.1)∧
 (∀x∈P6 Pc.ts n,x.2.2.1∈(mm++[(n,im)]).map (·.1)∧x.2.2.2∈(mm++[(n,im)]).map (·.1))∧
 ∀H',Same H H'→Q (.bl (nR ((P6 Pc.ts n).map fun x=>jF W gt fx x.1 (x.2.1,d6 (d0 (mm++[(n,im)])) x.2.2.1,d6 (d0 (mm++[(n,im)])) x.2.2.2)))) H'
theorem yc {α:Type}{p:α→Bool}{s:List α}{i:Nat}{x:α}(h:s[i]?=some x)(hp:p x=true):(s.take (i+1)).filter p=(s.take i).filter p++[x]:=by
 rw[List.take_succ,h,List.filter_append]
 show _++List.filter p [x]=_
 rw[List.filter_cons_of_pos hp];rfl
theorem yj {α:Type}{p:α→Bool}{s:List α}{i:Nat}{x:α}(h:s[i]?=some x)(hp:p x=false):(s.take (i+1)).filter p=(s.take i).filter p:=by
 rw[List.take_succ,h,List.filter_append]
 show _++List.filter p [x]=_
 rw[List.filter_cons_of_neg (by rw[hp];decide)];simp
theorem sX {α:Type}{p:α→Bool}{s:List α}{i:Nat}:((s.take i).filter p).length≤s.length:=Nat.le_trans (List.length_filter_le _ _) (by rw[List.length_take];omega)
abbrev aZ (P:Program)(w:World)(K:PySem.W.Frag)(mg:Str→Option Value)(base:Heap):Prop:=Z6 P w K mg base C7 3 "has_room" ["piece","places","put","name","image"] [] (ao K)
theorem gI {f:Addr}{fd:FuncData}(T:Txt K mg)(K3:aT P w K mg base)(y6:J1 P w K mg base)(F:Fun K "has_room" "has_room" S9 f fd):A0 P w K mg base C7 3 f fd ["piece","places","put","name","image"] (ao K):=by
 refine F.ok sc_has_room (fun vs H Q E h=>?_) (fun cdv A outer s H vs Q E hr h=>?_)
 ·obtain⟨a,p,q,c,pl,d,kvs,kvc,kvp,Pc,W,s1,s2,gp,gt,fx,mm,n,im,rfl,_⟩:=h
  rfl
 ·obtain⟨a,p,q,c,pl,d,kvs,kvc,kvp,Pc,W,s1,s2,gp,gt,fx,mm,n,im,rfl,X0,hd,lm,nn,he,k⟩:=h
  have hkl:=X0.at_.ts.length
  have l1:=X0.l1
  rw[C1] at l1
  have hN:=sc_has_room.nd
  have hu:=A5 hr
  refine⟨_,QSs.r (u6 (j7 (i:=5) hN rfl (by walk_at "l") (sh (wo K rfl) T.b_dict Boot.«dict» (i0 (qV 2) k4)))
   (u6 (T3 (qV 4) (iZ (qV 5) (qV 3) (k6 P w hu)))
   (u6 (V5 (i:=6) hN rfl (by walk_at "l") (own:=["tie","told"]) (js:=[3]) (by kernel_rfl) rfl (eY (u7 (u9 K hu) (qV 0) h7 (fun _ _=>rfl))) (fun _ _ _ _=>(xy K rfl (qb (R5 (i:=0) (show List.Nodup (["tie","told","name"]:List Str) by decide+kernel) rfl (by walk_at "l")) (qb (R5 (i:=1) (show List.Nodup (["tie","told","name"]:List Str) by decide+kernel) rfl (by walk_at "l")) vX)))) (fun _ _ _ _=>(mi (y8 (V6 K hr) (qB (wQ K rfl) T.b_max Boot.«max» (i0 (yy (ym K) (qV 1) (wb h7) yH) k4)) (qV 2) (r6 _)))) (fun _ _ _ _=>(qV 0)))
   (D9 (E5 (qC K3 (hr.mono (by decide)) p8 (i0 (af (own:=["tie"]) (js:=[0,1,5]) (by kernel_rfl) rfl (R1 K (qV 6)) (fun _ _ _ _=>(R5 (i:=0) (show List.Nodup (["tie","piece","places","longer"]:List Str) by decide+kernel) rfl (by walk_at "l"))) (fun _ _ _ _=>lZ) (fun _ _ _ _=>(qC y6 (hr.mono (by decide)) p8 (i0 (qV 1) (i0 (qV 2) (i0 (qV 3) (i0 (qV 0) k4))))))) k4))))))),?_⟩
  walk_at "r"
  refine gZ (.inl hd) (fun l1 n1=>?_)
  obtain⟨H1,e1,f1,m1,_⟩:=c9 (o:= .dK (d0 mm)) n1
  rw[e1]
  walk_at "r"
  refine E7 (j4 (k:=Sum.inr n) f1 (g7 (by rw[j8];omega)) ?_)
  rw[G8 nn]
  have f2:(i6 H1 l1 (.dK (d0 (mm++[(n,im)])))) l1=some (.dK (d0 (mm++[(n,im)]))):=c8
  have m2:Same H (i6 H1 l1 (.dK (d0 (mm++[(n,im)])))):=x8 m1 n1
  generalize i6 H1 l1 (.dK (d0 (mm++[(n,im)])))=H2 at f2 m2⊢
  have X2:=X0.same m2
  walk_at "r"
  refine g5 X2.at_.tup (d7 (j:=1) rfl) ?_
  refine Q2 X2.hq (fun ndq o3=>?_)
  refine B1 (n:=kvs.length) (fun i out H'=>Same (A8 q o3 kvs H2) H'∧out=((Pc.ts.take i).filter fun x=>decide (qr x.2.2.1 x.2.2.2=n)).map fun x=>V.str x.1) ⟨Same.refl _,rfl⟩ (fun i out H' hi hp=>⟨hp.1 _ _ c8,hi⟩) ?_ ?_
  ·rintro N i v out H3' H3 hi ⟨s3,rfl⟩ ⟨t,kv,hkv,nt,rfl,rfl⟩ hN'
   obtain⟨H4,e4,f4,m4,_⟩:=c9 (o:= .tup _) nt
   rw[e4]
   have le4:=(hZ (o:=o3) X2.hq).trans (s3.trans m4).le
   have P4:=X2.at_.mono le4
   obtain⟨x,hx,ex,tb,eb,sb⟩:=P4.ts.get hkv
   obtain⟨kk,kvv⟩:=kv
   have ex':kk=Sum.inr x.1:=ex
   have eb':kvv= .ref tb:=eb
   subst ex' eb'
   refine bL (SqT.of f4) rfl ?_
   walk_at "r"
   refine⟨rfl,?_⟩
   walk_at "r"
   refine bM sb (by rintro⟨z,_⟩;exact absurd (show(1:Nat)=0 from z) (by decide)) (fun l5 n5=>?_)
   obtain⟨H5,e5,f5,m5,_⟩:=c9 (o:= .tup [.str x.2.2.1,.str x.2.2.2]) n5
   rw[show Z4 (er x.2) (some 1) none=[V.str x.2.2.1,.str x.2.2.2] from rfl,e5]
   walk_at "r"
   refine uR (SqT.of f5) ?_
   walk_at "r"
   rw[show(if x.2.2.1.cps.toList<x.2.2.2.cps.toList then x.2.2.2 else x.2.2.1)=qr x.2.2.1 x.2.2.2 from rfl]
   refine B5 (fun h1=>?_) (fun h1=>?_)
   ·walk_at "r"
    refine⟨g7 (by rw[List.length_map];have:=sX (p:=fun x:Str×C8=>decide (qr x.2.2.1 x.2.2.2=n)) (s:=Pc.ts) (i:=i);omega),hN' _ _ ⟨s3.trans (m4.trans m5),?_⟩⟩
    rw[yc hx (decide_eq_true h1),List.map_append];rfl
   ·exact hN' _ _ ⟨s3.trans (m4.trans m5),by rw[yj hx (decide_eq_false h1)]⟩
  ·rintro out H3 ⟨s3,rfl⟩
   refine⟨⟨s3 _ _ c8,Nat.le_refl _⟩,fun D hD=>⟨g7 (by rw[List.length_map];have:=sX (p:=fun x:Str×C8=>decide (qr x.2.2.1 x.2.2.2=n)) (s:=Pc.ts) (i:=kvs.length);omega),?_⟩⟩
   rw[List.take_of_length_le (by omega)]
   change O1 _ _ _ (thaw q (i6 H3 D (.lst ((P6 Pc.ts n).map fun x=>V.str x.1)))) _
   have sM:=oq X2.hq s3 hD (u:= .lst ((P6 Pc.ts n).map fun x=>V.str x.1))
   have fM:=vz s3 hD (u:= .lst ((P6 Pc.ts n).map fun x=>V.str x.1))
   generalize thaw q (i6 H3 D (.lst ((P6 Pc.ts n).map fun x=>V.str x.1)))=HM at sM fM⊢
   have XM:=X2.same sM
   have hdue:∀x∈P6 Pc.ts n,x∈Pc.ts:=fun x hx=>(List.mem_filter.mp hx).1
   have hdl:(P6 Pc.ts n).length≤30:=Nat.le_trans (List.length_filter_le _ _) (by omega)
   generalize P6 Pc.ts n=due at fM hdue hdl he k
   walk_at "r"
   refine q9 (SqL.of fM) ?_
   refine B1 (n:=due.length) (fun i out H'=>Same HM H'∧LsAt H' out ((due.take i).map fun x=>jF W gt fx x.1 (x.2.1,d6 (d0 (mm++[(n,im)])) x.2.2.1,d6 (d0 (mm++[(n,im)])) x.2.2.2))) ⟨Same.refl _,.nil⟩ (fun i out H' hi hp=>⟨_,.str (due[i]).1,SqL.of (hp.1 _ _ fM),by rw[List.getElem?_map,List.getElem?_eq_getElem hi];rfl⟩) ?_ ?_
   ·rintro N i v out H4' H4 hi ⟨s4,ls⟩ y hN'
    obtain⟨rfl,hy⟩:=Itl.get y (SqL.of (s4 _ _ fM))
    rw[List.getElem?_map] at hy
    obtain⟨x,hx,rfl⟩:=Option.map_eq_some_iff.mp hy
    have hxm:=List.mem_of_getElem? hx
    walk_at "r"
    refine⟨rfl,?_⟩
    walk_at "r"
    refine⟨a,p,q,c,pl,l1,kvs,kvc,kvp,_,Pc,W,s1,s2,gp,gt,fx,x,rfl,XM.same s4,hdue x hxm,.inl (s4 _ _ (sM _ _ f2)),dN (he x hxm).1,dN (he x hxm).2,fun v H5 m5 hv=>?_⟩
    have hll:=Paired.length ls
    rw[List.length_map,List.length_take] at hll
    refine⟨g7 (by omega),hN' _ _ ⟨s4.trans m5,?_⟩⟩
    rw[show due.take (i+1)=due.take i++[x] by rw[List.take_succ,hx];rfl,List.map_append]
    exact j5 (LsAt.same ls m5) hv
   ·rintro out H4 ⟨s4,ls⟩
    have hll:=Paired.length ls
    rw[List.length_map,List.length_take] at hll
    refine⟨⟨_,SqL.of (s4 _ _ fM),by rw[List.length_map];exact Nat.le_refl _⟩,fun D2 hD2=>⟨g7 (by omega),?_⟩⟩
    rw[List.take_of_length_le (Nat.le_refl _)] at ls
    obtain⟨H5,e5,f5,m5,_⟩:=c9 (H:=H4) (o:= .lst out) hD2
    change rS _ (i6 H4 D2 _) _
    rw[e5]
    walk_at "r"
    exact⟨D2,out,_,rfl,f5,LsAt.same ls m5,by rw[List.length_map];omega,fun H6 m6=>k H6 (m2.trans (sM.trans (s4.trans (m5.trans m6))))⟩
def cO (K:PySem.W.Frag):Sp:=fun vs H Q _=>∃(a p q c pl bl:Addr) (kvs kvc kvp:List (g4×V)) (Pc W:y4) (s1 s2 gp gt:List Str) (fx:List (Str×Str)) (b:List Str),vs=[.ref a,.ref c,.ref pl,.ref bl]∧Sx K H a p q c pl kvs kvc kvp Pc W s1 s2 gp gt fx∧H bl=some (.lst (b.map V.str))∧b.length<(s1++s2).length∧vP H Q fun ss=>ss=T4 Pc W gp gt fx (s1++s2) b
abbrev gJ (P:Program)(w:World)(K:PySem.W.Frag)(mg:Str→Option Value)(base:Heap):Prop:=Z6 P w K mg base C7 4 "images" ["piece","choices","places","begun"] [] (cO K)
theorem kr {f:Addr}{fd:FuncData}(T:Txt K mg)(B9:V3 P w K mg base)(y6:J1 P w K mg base)(T7:aZ P w K mg base)(F:Fun K "images" "images" bO f fd):A0 P w K mg base C7 4 f fd ["piece","choices","places","begun"] (cO K):=by
 refine F.ok sc_images (fun vs H Q E h=>?_) (fun cdv A outer s H vs Q E hr h=>?_)
 ·obtain⟨a,p,q,c,pl,bl,kvs,kvc,kvp,Pc,W,s1,s2,gp,gt,fx,b,rfl,_⟩:=h
  rfl
 ·obtain⟨a,p,q,c,pl,bl,kvs,kvc,kvp,Pc,W,s1,s2,gp,gt,fx,b,rfl,X0,hb,hlb,k⟩:=h
  have S:=X0.S
  have nn:=S.nn
  have hnl:=S.o.len
  have l1:=X0.l1
  have l2:=X0.l2
  have lgt:gt.length≤30:=by rw[S.o'.p2.length_eq,List.length_map];rw[C1] at l2;omega
  have lgp:gp.length≤30:=by rw[S.o'.p1.length_eq,List.length_map];rw[C1] at l2;omega
  obtain⟨n,hn⟩:∃n,(s1++s2)[b.length]?=some n:=⟨_,List.getElem?_eq_getElem hlb⟩
  have hN:=sc_images.nd
  have hu:=A5 hr
  refine⟨_,QSs.r (u6 (j7 (i:=4) hN rfl (by walk_at "l") (qC B9 (hr.mono (by decide)) p8 (i0 (qV 0) k4)))
   (u6 (j7 (i:=5) hN rfl (by walk_at "l") (u7 (u9 K hu) (qV 4) (qB (E6 K P w) T.b_len Boot.«len» (i0 (qV 3) k4)) (fun _ _=>rfl)))
   (u6 (j7 (i:=6) hN rfl (by walk_at "l") (zN K T.b_dict T.b_zip rfl (i0 (qV 4) (i0 (qV 3) k4))))
   (u6 (mn (y8 (kIn K hu) (qV 5) (u7 (u9 K hu) (qV 0) h7 (fun _ _=>rfl)) (by rfl)) (D9 (E5 (af (own:=["image"]) (js:=[3]) (by kernel_rfl) rfl (R1 K (qC y6 (hr.mono (by decide)) p8 (i0 (qV 0) (i0 (qV 2) (i0 (qV 6) (i0 (qV 5) k4)))))) (fun _ _ _ _=>(R5 (i:=0) (show List.Nodup (["image","begun"]:List Str) by decide+kernel) rfl (by walk_at "l"))) (fun _ _ _ _=>(mi (y8 (iT K hu) (qV 0) (qV 1) (by rfl)))) (fun _ _ _ _=>(qV 0))))) rV)
   (u6 (V5 (i:=7) hN rfl (by walk_at "l") (own:=["image"]) (js:=[3]) (by kernel_rfl) rfl (R1 K (u7 (u9 K hu) (qV 1) (qV 5) (fun _ _=>rfl))) (fun _ _ _ _=>(R5 (i:=0) (show List.Nodup (["image","begun"]:List Str) by decide+kernel) rfl (by walk_at "l"))) (fun _ _ _ _=>(mi (y8 (iT K hu) (qV 0) (qV 1) (by rfl)))) (fun _ _ _ _=>(qV 0)))
   (D9 (E5 (af (own:=["image"]) (js:=[0,2,6,5]) (by kernel_rfl) rfl (R1 K (qV 7)) (fun _ _ _ _=>(R5 (i:=0) (show List.Nodup (["image","piece","places","put","name"]:List Str) by decide+kernel) rfl (by walk_at "l"))) (fun _ _ _ _=>(mi (fw K (qC T7 (hr.mono (by decide)) p8 (i0 (qV 1) (i0 (qV 2) (i0 (qV 3) (i0 (qV 4) (i0 (qV 0) k4))))))))) (fun _ _ _ _=>(qV 0)))))))))),?_⟩
  walk_at "r"
  refine⟨a,p,q,kvs,Pc,rfl,X0.at_,by omega,fun ln H1 r1 r2 n1 m1 f1 or=>?_⟩
  have er1:r1=s1:=p6 or.o1 S.o.o1 (or.p1.nodup_iff.mpr (B4 S.nd)) (or.p1.trans S.o.p1.symm)
  have er2:r2=s2:=p6 or.o2 S.o.o2 (or.p2.nodup_iff.mpr (J5 S.nd)) (or.p2.trans S.o.p2.symm)
  subst er1 er2
  walk_at "r"
  refine C5 (k5 (SqL.of (m1 _ _ hb)) ?_)
  rw[List.length_map]
  refine i4 (SqL.of f1) (i:=(b.length:Int)) (v:= .str n) (d7 (j:=b.length) (by rw[List.getElem?_map,hn];rfl)) ?_
  walk_at "r"
  refine⟨ln,bl,(r1++r2).map Sum.inr,b.map V.str,rfl,by rw[←ja];exact SqL.of f1,SqL.of (m1 _ _ hb),fun d nd=>?_⟩
  rw[gc nn]
  obtain⟨H2,e2,f2,m2,_⟩:=c9 (o:= .dK (d0 ((r1++r2).zip b))) nd
  rw[e2]
  have m12:=m1.trans m2
  have X2:=X0.same m12
  have hb2:=m12 _ _ hb
  walk_at "r"
  refine g5 X2.at_.tup (d7 (j:=1) rfl) ?_
  walk_at "r"
  refine K1 (L7 (k:=Sum.inr n) X2.at_.ties) ?_
  rw[cG X2.at_.ts]
  walk_at "r"
  have hfil:∀(p:Str→Bool) (l:List Str),l.length≤30→∀i,((l.take i).filter p).length≤1000:=fun p l hl i=>Nat.le_trans Y1 (by omega)
  refine B5 (fun h1=>?_) (fun h1=>?_)
  ·have hle:r1.length≤b.length:=by
    rcases S.is1 hn with⟨z,_⟩|⟨_,z⟩
    ·exact absurd h1 z
    ·exact z
   have hin:=P9 h1
   have he:=S.ends _ hin
   obtain⟨j1,hj1,hk1⟩:=S.pt_idx he.1
   obtain⟨j2,hj2,hk2⟩:=S.pt_idx he.2
   walk_at "r"
   refine⟨a,p,q,c,pl,d,kvs,kvc,kvp,_,Pc,W,r1,r2,gp,gt,fx,(n,u4 Pc.ts n),rfl,X2,hin,.inl f2,dN (eB hk1 (by omega)),dN (eB hk2 (by omega)),fun v H3 m3 hv=>?_⟩
   obtain⟨lv,rfl,hlv⟩:=hv
   have etc:jF W gt fx n ((u4 Pc.ts n).1,d6 (d0 ((r1++r2).zip b)) (u4 Pc.ts n).2.1,d6 (d0 ((r1++r2).zip b)) (u4 Pc.ts n).2.2)=kI W gt fx (r1++r2) b (n,u4 Pc.ts n):=rfl
   dsimp only at hlv
   rw[etc] at hlv
   have hcl:(kI W gt fx (r1++r2) b (n,u4 Pc.ts n)).length≤30:=Nat.le_trans (List.length_filter_le _ _) lgt
   generalize htc:kI W gt fx (r1++r2) b (n,u4 Pc.ts n)=tc at hlv hcl
   refine q9 (SqL.of hlv) ?_
   refine B1 (n:=tc.length) (fun i out H'=>Same H3 H'∧out=((tc.take i).filter fun x=>!decide (x∈b)).map V.str) ⟨Same.refl _,rfl⟩ (fun i out H' hi hp=>⟨_,.str (tc[i]),SqL.of (hp.1 _ _ hlv),by rw[List.getElem?_map,List.getElem?_eq_getElem hi];rfl⟩) ?_ ?_
   ·rintro N i v out H4' H4 hi ⟨s4,rfl⟩ y hN'
    obtain⟨rfl,hy⟩:=Itl.get y (SqL.of (s4 _ _ hlv))
    rw[List.getElem?_map] at hy
    obtain⟨x,hx,rfl⟩:=Option.map_eq_some_iff.mp hy
    walk_at "r"
    refine⟨rfl,?_⟩
    walk_at "r"
    refine U2 (gs:=b) (SqL.of (s4 _ _ (m3 _ _ hb2))) ?_
    walk_at "r"
    refine bg (fun h2=>?_) (fun h2=>?_)
    ·walk_at "r"
     refine⟨g7 (by rw[List.length_map];exact hfil _ _ hcl _),hN' _ _ ⟨s4,?_⟩⟩
     rw[kZ hx h2,List.map_append];rfl
    ·exact hN' _ _ ⟨s4,by rw[iS hx h2]⟩
   ·rintro out H4 ⟨s4,rfl⟩
    refine⟨⟨_,SqL.of (s4 _ _ hlv),by rw[List.length_map];exact Nat.le_refl _⟩,fun D hD=>⟨g7 (by rw[List.length_map];exact hfil _ _ hcl _),?_⟩⟩
    rw[List.take_of_length_le (Nat.le_refl _)]
    obtain⟨H5,e5,f5,m5,_⟩:=c9 (H:=H4) (o:= .lst ((tc.filter fun x=>!decide (x∈b)).map V.str)) hD
    show Q _ (i6 H4 D _)
    rw[e5]
    refine k D H5 _ (m12.free (m3.free (s4.free hD))) (m12.trans (m3.trans (s4.trans m5))) f5 ?_
    unfold T4
    rw[hn]
    dsimp only
    rw[if_pos h1,htc]
  ·have hlt:b.length<r1.length:=by
    rcases S.is1 hn with⟨_,z⟩|⟨z,_⟩
    ·exact z
    ·exact absurd z h1
   have hm:n∈Pc.pts.map (·.1):=by
    rcases List.mem_append.mp (S.o.mem.mp (List.mem_of_getElem? hn)) with z|z
    ·exact z
    ·exact absurd z h1
   obtain⟨y,hy,ey⟩:=List.mem_map.mp hm
   have ek:d6 (d0 Pc.pts) n=y.2:=by rw[←ey];exact i3 (B4 S.nd) (show(y.1,y.2)∈Pc.pts from hy)
   obtain⟨v,hv,lv,rfl,hlv⟩:=bG (R:=fun v (x:Str×Str)=>LstAt H2 v (gR W gp fx x.1 x.2)) (show Paired _ _ _ from X2.ch) (B4 S.nd) hy
   rw[ey] at hv hlv
   have hcl:(gR W gp fx n y.2).length≤30:=Nat.le_trans (List.length_filter_le _ _) (Nat.le_trans (List.length_filter_le _ _) lgp)
   generalize htc:gR W gp fx n y.2=tc at hlv hcl
   walk_at "r"
   refine u5 (v:= .ref lv) (by have z:=L7 (k:=Sum.inr n) (.inl X2.hc);rw[hv] at z;exact z) ?_
   refine q9 (SqL.of hlv) ?_
   refine B1 (n:=tc.length) (fun i out H'=>Same H2 H'∧out=((tc.take i).filter fun x=>!decide (x∈b)).map V.str) ⟨Same.refl _,rfl⟩ (fun i out H' hi hp=>⟨_,.str (tc[i]),SqL.of (hp.1 _ _ hlv),by rw[List.getElem?_map,List.getElem?_eq_getElem hi];rfl⟩) ?_ ?_
   ·rintro N i v out H4' H4 hi ⟨s4,rfl⟩ y hN'
    obtain⟨rfl,hy⟩:=Itl.get y (SqL.of (s4 _ _ hlv))
    rw[List.getElem?_map] at hy
    obtain⟨x,hx,rfl⟩:=Option.map_eq_some_iff.mp hy
    walk_at "r"
    refine⟨rfl,?_⟩
    walk_at "r"
    refine U2 (gs:=b) (SqL.of (s4 _ _ hb2)) ?_
    walk_at "r"
    refine bg (fun h2=>?_) (fun h2=>?_)
    ·walk_at "r"
     refine⟨g7 (by rw[List.length_map];exact hfil _ _ hcl _),hN' _ _ ⟨s4,?_⟩⟩
     rw[kZ hx h2,List.map_append];rfl
    ·exact hN' _ _ ⟨s4,by rw[iS hx h2]⟩
   ·rintro out H4 ⟨s4,rfl⟩
    refine⟨⟨_,SqL.of (s4 _ _ hlv),by rw[List.length_map];exact Nat.le_refl _⟩,fun D hD=>⟨g7 (by rw[List.length_map];exact hfil _ _ hcl _),?_⟩⟩
    rw[List.take_of_length_le (Nat.le_refl _)]
    obtain⟨H5,e5,f5,m5,_⟩:=c9 (H:=H4) (o:= .lst ((tc.filter fun x=>!decide (x∈b)).map V.str)) hD
    have hul:(tc.filter fun x=>!decide (x∈b)).length≤30:=Nat.le_trans (List.length_filter_le _ _) hcl
    generalize hun:(tc.filter fun x=>!decide (x∈b))=un at e5 f5 hul⊢
    change O1 _ _ _ (i6 H4 D _) _
    rw[e5]
    have m25:=s4.trans m5
    have X5:=X2.same m25
    walk_at "r"
    refine q9 (SqL.of f5) ?_
    refine B1 (n:=un.length) (fun i out H'=>Same H5 H'∧out=((un.take i).filter fun im=>nR ((P6 Pc.ts n).map (kI W gt fx (r1++r2) (b++[im])))).map V.str) ⟨Same.refl _,rfl⟩ (fun i out H' hi hp=>⟨_,.str (un[i]),SqL.of (hp.1 _ _ f5),by rw[List.getElem?_map,List.getElem?_eq_getElem hi];rfl⟩) ?_ ?_
    ·rintro N i v out H6' H6 hi ⟨s6,rfl⟩ y hN'
     obtain⟨rfl,hy⟩:=Itl.get y (SqL.of (s6 _ _ f5))
     rw[List.getElem?_map] at hy
     obtain⟨x,hx,rfl⟩:=Option.map_eq_some_iff.mp hy
     walk_at "r"
     refine⟨rfl,?_⟩
     walk_at "r"
     have hs1:r1[b.length]=n:=by
      rw[List.getElem?_append_left hlt,List.getElem?_eq_getElem hlt] at hn
      exact Option.some.inj hn
     have ends:∀t∈P6 Pc.ts n,t.2.2.1∈((r1++r2).zip b++[(n,x)]).map (·.1)∧t.2.2.2∈((r1++r2).zip b++[(n,x)]).map (·.1):=fun t ht=>by
      unfold P6 at ht
      rw[List.mem_filter,decide_eq_true_eq] at ht
      have he:=S.ends t ht.1
      rw[←W4 hn]
      have q1:¬(r1[b.length].cps.toList<t.2.2.1.cps.toList):=by
       rw[hs1,←ht.2]
       unfold qr
       split
       ·next z=>exact List.lt_asymm z
       ·exact List.lt_irrefl _
      have q2:¬(r1[b.length].cps.toList<t.2.2.2.cps.toList):=by
       rw[hs1,←ht.2]
       unfold qr
       split
       ·exact List.lt_irrefl _
       ·next z=>exact z
      obtain⟨j1,a1,b1⟩:=aH S hlt he.1 q1
      obtain⟨j2,a2,b2⟩:=aH S hlt he.2 q2
      exact⟨eB b1 (by rw[List.length_append,List.length_singleton];omega),eB b2 (by rw[List.length_append,List.length_singleton];omega)⟩
     refine⟨a,p,q,c,pl,d,kvs,kvc,kvp,Pc,W,r1,r2,gp,gt,fx,(r1++r2).zip b,n,x,rfl,X5.same s6,s6 _ _ (m25 _ _ f2),by rw[List.length_zip];omega,kJ nn hn,ends,fun H7 m7=>?_⟩
     have een:((P6 Pc.ts n).map fun t=>jF W gt fx t.1 (t.2.1,d6 (d0 ((r1++r2).zip b++[(n,x)])) t.2.2.1,d6 (d0 ((r1++r2).zip b++[(n,x)])) t.2.2.2))=(P6 Pc.ts n).map (kI W gt fx (r1++r2) (b++[x])):=by
      rw[←W4 hn];rfl
     rw[een]
     walk_at "r"
     refine bg (fun h2=>?_) (fun h2=>?_)
     ·walk_at "r"
      refine⟨g7 (by rw[List.length_map];exact hfil _ _ hul _),hN' _ _ ⟨s6.trans m7,?_⟩⟩
      rw[kZ hx h2,List.map_append];rfl
     ·exact hN' _ _ ⟨s6.trans m7,by rw[iS hx h2]⟩
    ·rintro out H6 ⟨s6,rfl⟩
     refine⟨⟨_,SqL.of (s6 _ _ f5),by rw[List.length_map];exact Nat.le_refl _⟩,fun D2 hD2=>⟨g7 (by rw[List.length_map];exact hfil _ _ hul _),?_⟩⟩
     rw[List.take_of_length_le (Nat.le_refl _)]
     obtain⟨H7,e7,f7,m7,_⟩:=c9 (H:=H6) (o:= .lst ((un.filter fun im=>nR ((P6 Pc.ts n).map (kI W gt fx (r1++r2) (b++[im])))).map V.str)) hD2
     show Q _ (i6 H6 D2 _)
     rw[e7]
     refine k D2 H7 _ (m12.free (m25.free (s6.free hD2))) (m12.trans (m25.trans (s6.trans m7))) f7 ?_
     unfold T4
     rw[hn]
     dsimp only
     rw[if_neg h1,ek,htc,hun]
def jK (img:List Str→List Str):Nat→List Str→Nat
 |0,_=>1
 |k+1,b=>1+((img b).map fun x=>jK img k (b++[x])).sum
theorem oC {α:Type}{f:α→Nat}{B:Nat}:∀{l:List α},(∀x∈l,f x≤B)→(l.map f).sum≤l.length*B
 |[],_=>by simp
 |x::l,h=>by
  have z:=oC (l:=l) fun y hy=>h y (List.mem_cons_of_mem _ hy)
  have z1:=h x List.mem_cons_self
  rw[List.map_cons,List.sum_cons,List.length_cons,Nat.add_mul];omega
theorem sF {img:List Str→List Str}{M:Nat}(hM:∀b,(img b).length≤M):∀(k:Nat) (b:List Str),jK img k b≤(M+1) ^ k
 |0,_=>Nat.le_refl _
 |k+1,b=>by
  have z:=oC (f:=fun x=>jK img k (b++[x])) (B:=(M+1) ^ k) (l:=img b) fun x _=>sF hM k _
  have z1:(img b).length*(M+1) ^ k≤M*(M+1) ^ k:=Nat.mul_le_mul_right _ (hM b)
  have z2:1≤(M+1) ^ k:=Nat.one_le_pow _ _ (by omega)
  show 1+_≤(M+1) ^ (k+1)
  rw[Nat.pow_succ,Nat.mul_add,Nat.mul_one,Nat.mul_comm ((M+1) ^ k) M];omega
theorem ug {img:List Str→List Str}{k:Nat}{b:List Str}:1≤jK img k b:=by
 cases k with
 |zero=>exact Nat.le_refl _
 |succ k=>show 1≤1+_;omega
theorem iX {α:Type}{f:α→Nat}:∀{l:List α},(∀x∈l,1≤f x)→l.length≤(l.map f).sum
 |[],_=>Nat.le_refl _
 |x::l,h=>by
  have z:=iX (l:=l) fun y hy=>h y (List.mem_cons_of_mem _ hy)
  have z1:=h x List.mem_cons_self
  rw[List.map_cons,List.sum_cons,List.length_cons];omega
theorem rh {Pc W:y4}{s1 s2 gp gt:List Str}{fx:List (Str×Str)}(S:SrchP Pc W s1 s2 gp gt fx)(b:List Str):(T4 Pc W gp gt fx (s1++s2) b).length≤(d9 W).length:=by
 have h1:=S.o'.p1.length_eq
 have h2:=S.o'.p2.length_eq
 rw[List.length_map] at h1 h2
 rw[C1]
 unfold T4
 split
 ·simp
 ·split
  ·exact Nat.le_trans (List.length_filter_le _ _) (Nat.le_trans (List.length_filter_le _ _) (by omega))
  ·exact Nat.le_trans (List.length_filter_le _ _) (Nat.le_trans (List.length_filter_le _ _) (Nat.le_trans (List.length_filter_le _ _) (Nat.le_trans (List.length_filter_le _ _) (by omega))))
def LoAt (H:Hp)(t w:Addr)(xs:List V)(ls:List (List Str)):Prop:=Paired (fun v l=>∃a,v=V.ref a∧a≠t∧a≠w∧H a=some (.lst (l.map V.str))) xs ls
theorem LoAt.same {H H':Hp}{t w:Addr}{xs:List V}{ls:List (List Str)}(h:LoAt H t w xs ls)(s:Same H H'):LoAt H' t w xs ls:=Paired.imp' (fun _ _ ⟨a,e,n,m,z⟩=>⟨a,e,n,m,s _ _ z⟩) h
theorem LoAt.upT {H:Hp}{t w:Addr}{xs:List V}{ls:List (List Str)}{u:HO}(h:LoAt H t w xs ls):LoAt (i6 H t u) t w xs ls:=Paired.imp' (fun _ _ ⟨a,e,n,m,z⟩=>⟨a,e,n,m,by rw[b0 n];exact z⟩) h
theorem LoAt.upW {H:Hp}{t w:Addr}{xs:List V}{ls:List (List Str)}{u:HO}(h:LoAt H t w xs ls):LoAt (i6 H w u) t w xs ls:=Paired.imp' (fun _ _ ⟨a,e,n,m,z⟩=>⟨a,e,n,m,by rw[b0 m];exact z⟩) h
theorem X4 {α β:Type}{F:α→β→Prop}:∀{xs:List α} {ls:List β},Paired F xs ls→xs≠[]→∃xs' x ls' l,xs=xs'++[x]∧ls=ls'++[l]∧Paired F xs' ls'∧F x l
 |_,_,.nil,h=>absurd rfl h
 |[x],[l],.cons a .nil,_=>⟨[],x,[],l,rfl,rfl,.nil,a⟩
 |x::y::xs,l::m::ls,.cons a t,_=>by
  obtain⟨xs',x',ls',l',e1,e2,h1,h2⟩:=X4 t (by simp)
  exact⟨x::xs',x',l::ls',l',by rw[e1];rfl,by rw[e2];rfl,.cons a h1,h2⟩
structure LI (K:PySem.W.Frag) (img:List Str→List Str) (n:Nat) (H0 H':Hp) (tl wl:Addr) (xt xw:List V) (rows bs:List (List Str)) (m:Nat):Prop where
 s:Same H0 H'
 ht:H' tl=some (.lst xt)
 hw:H' wl=some (.lst xw)
 lt:LoAt H' tl wl xt rows
 lw:LoAt H' tl wl xw bs
 bl:∀b∈bs,b.length≤n
 sum:m=(bs.map fun b=>jK img (n -b.length) b).sum
 all:rows++bs.reverse.flatMap (fun b=>bV img (n -b.length) b)=bV img n []
 big:rows.length+m≤1000000
def gL (K:PySem.W.Frag):Sp:=fun vs H Q _=>∃(a p q c pl:Addr) (kvs kvc kvp:List (g4×V)) (Pc W:y4) (s1 s2 gp gt:List Str) (fx:List (Str×Str)),vs=[.ref a,.ref c,.ref pl,.non]∧Sx K H a p q c pl kvs kvc kvp Pc W s1 s2 gp gt fx∧
 ∀(l:Addr) (H':Hp) (xs:List V),H l=none→Same H H'→H' l=some (.lst xs)→LsAt H' xs (X6 Pc W s1 s2 gp gt fx)→(X6 Pc W s1 s2 gp gt fx).length≤1000000→Q (.ref l) H'
theorem dC {n:Nat}(h:n≤2000000):n<sizeLine:=Nat.lt_of_le_of_lt h (by decide)
theorem eV {H:Hp}{Q:VK}{i:Int}(q:Q (.bl true) H):sS K (.int i) .non H Q:= .inl (.inl (.inl ⟨rfl,by simpa using q⟩))
abbrev jy (P:Program)(w:World)(K:PySem.W.Frag)(mg:Str→Option Value)(base:Heap):Prop:=Z6 P w K mg base C7 5 "lines" ["piece","choices","places","most"] [] (gL K)
theorem oV {f:Addr}{fd:FuncData}(T:Txt K mg)(B9:V3 P w K mg base)(bo:gJ P w K mg base)(F:Fun K "lines" "lines" dZ f fd):A0 P w K mg base C7 5 f fd ["piece","choices","places","most"] (gL K):=by
 refine F.ok sc_lines (fun vs H Q E h=>?_) (fun cdv A outer s H vs Q E hr h=>?_)
 ·obtain⟨a,p,q,c,pl,kvs,kvc,kvp,Pc,W,s1,s2,gp,gt,fx,rfl,_⟩:=h
  rfl
 ·obtain⟨a,p,q,c,pl,kvs,kvc,kvp,Pc,W,s1,s2,gp,gt,fx,rfl,X0,k⟩:=h
  have S:=X0.S
  have hnl:=S.o.len
  have l1:=X0.l1
  have l2:=X0.l2
  have hext:=pk S
  have hM:=rh S
  have hbig:=X0.big
  rw[←hnl] at hbig
  have hN:=sc_lines.nd
  have hu:=A5 hr
  refine⟨_,QSs.r (u6 (j7 (i:=4) hN rfl (by walk_at "l") (qC B9 (hr.mono (by decide)) p8 (i0 (qV 0) k4)))
   (u6 (j7 (i:=5) hN rfl (by walk_at "l") (cq k4))
   (u6 (j7 (i:=6) hN rfl (by walk_at "l") (cq (i0 (cq k4) k4)))
   (u6 (uJ PassesOwn.never (tN (aj (fw K (qV 6)) (Y0 (y8 (wz K hr) (qB (E6 K P w) T.b_len Boot.«len» (i0 (qV 5) k4)) (qV 3) (r6 _))))) (u6 (j7 (i:=7) hN rfl (by walk_at "l") (zt PySem.F.plainAttrs_list PySem.F.slot_list_pop PySem.F.type_list_pop dB K (qV 6)))
   (D9 (mn (y8 (V6 K hr) (qB (E6 K P w) T.b_len Boot.«len» (i0 (qV 7) k4)) (qB (E6 K P w) T.b_len Boot.«len» (i0 (qV 4) k4)) (r6 _)) (D9 (vV (qM PySem.F.plainAttrs_list PySem.F.slot_list_append PySem.F.type_list_append r9 K (qV 5) (i0 (qV 7) k4)))) (D9 (U0 PassesOwn.never rfl (gB K T.b_reversed (i0 (qC bo (hr.mono (by decide)) p8 (i0 (qV 0) (i0 (qV 1) (i0 (qV 2) (i0 (qV 7) k4))))) k4)) (R5 (i:=8) hN rfl (by walk_at "l"))
    (D9 (vV (qM PySem.F.plainAttrs_list PySem.F.slot_list_append PySem.F.type_list_append r9 K (qV 6) (i0 (C4 (O4 K) (qV 7) (cq (i0 (qV 8) k4))) k4))))))))))
   (D9 (E5 (qV 5))))))),?_⟩
  walk_at "r"
  refine⟨a,p,q,kvs,Pc,rfl,X0.at_,by omega,fun ln H1 r1 r2 n1 m1 f1 or=>?_⟩
  have er1:r1=s1:=p6 or.o1 S.o.o1 (or.p1.nodup_iff.mpr (B4 S.nd)) (or.p1.trans S.o.p1.symm)
  have er2:r2=s2:=p6 or.o2 S.o.o2 (or.p2.nodup_iff.mpr (J5 S.nd)) (or.p2.trans S.o.p2.symm)
  subst er1 er2
  walk_at "r"
  refine⟨g7 (by simp),fun tl ntl=>?_⟩
  obtain⟨H2,e2,f2,m2,_⟩:=c9 (o:= .lst []) ntl
  rw[e2]
  walk_at "r"
  refine⟨g7 (by simp),fun l3 n3=>?_⟩
  obtain⟨H3,e3,f3,m3,_⟩:=c9 (o:= .lst []) n3
  rw[e3]
  walk_at "r"
  refine⟨g7 (by simp),fun wl nwl=>?_⟩
  obtain⟨H4,e4,f4,m4,_⟩:=c9 (o:= .lst [.ref l3]) nwl
  rw[e4]
  walk_at "r"
  have f2':=m4 _ _ (m3 _ _ f2)
  have f3':=m4 _ _ f3
  have h3t:l3≠tl:=(b9 f2 n3).symm
  have h3w:l3≠wl:=b9 f3 nwl
  have htw:tl≠wl:=b9 (m3 _ _ f2) nwl
  have m14:=m2.trans (m3.trans m4)
  have nwl1:H1 wl=none:=m2.free (m3.free nwl)
  generalize hN:(r1++r2).length=n at*
  generalize himg:T4 Pc W gp gt fx (r1++r2)=img at*
  have hnd0:=sF hM n []
  refine⟨fun m σ H'=>∃(xt xw:List V) (rows bs:List (List Str)) (v1 v2:Option V),σ=[some (.ref a),some (.ref c),some (.ref pl),some .non,some (.ref ln),some (.ref tl),some (.ref wl),v1,v2]∧LI K img n H1 H' tl wl xt xw rows bs m,⟨_,[],[.ref l3],[],[[]],none,none,rfl,⟨m14,f2',f4,.nil,.cons ⟨l3,rfl,h3t,h3w,f3'⟩ .nil,(fun b hb=>by rw[List.mem_singleton.mp hb];exact Nat.zero_le _),rfl,by simp,?_⟩⟩,?_⟩
  ·show 0+(jK img n []+0)≤1000000
   omega
  rintro m σ H5 ⟨xt,xw,rows,bs,v1,v2,rfl,L⟩
  have hbl:bs.length≤m:=by rw[L.sum];exact iX fun _ _=>ug
  have hwl:=Paired.length L.lw
  have htl:=Paired.length L.lt
  have hb5:=L.big
  walk_at "r"
  refine⟨!xw.isEmpty,.inl ⟨_,SqL.of L.hw,rfl⟩,?_⟩
  cases hxe:xw.isEmpty with
  |true=>
   walk_at "r"
   have hx0:xw=[]:=by simpa using hxe
   have hb0:bs=[]:=by
    have:bs.length=0:=by rw[←hwl,hx0];rfl
    exact List.eq_nil_of_length_eq_zero this
   have ha:=L.all
   rw[hb0] at ha
   simp only[List.reverse_nil,List.flatMap_nil,List.append_nil] at ha
   rw[hext] at ha
   refine k tl H5 xt (m1.free ntl) (m1.trans L.s) L.ht ?_ ?_
   ·rw[←ha]
    exact Paired.imp' (fun _ _ ⟨a,e,_,_,z⟩=>⟨a,e,z⟩) L.lt
   ·rw[←ha];omega
  |false=>
   have hxne:xw≠[]:=by
    intro z;rw[z] at hxe;cases hxe
   walk_at "r"
   refine C5 (k5 (SqL.of L.ht) ?_)
   walk_at "r"
   refine eV ?_
   walk_at "r"
   refine⟨fun σ' H'=>∃m',m'<m∧∃(xt xw:List V) (rows bs:List (List Str)) (v1 v2:Option V),σ'=[some (.ref a),some (.ref c),some (.ref pl),some .non,some (.ref ln),some (.ref tl),some (.ref wl),v1,v2]∧LI K img n H1 H' tl wl xt xw rows bs m',fun σ' H' z=>z,?_⟩
   obtain⟨xw',xv,bs',b,exw,ebs,lw',a5,rfl,hat,haw,hb⟩:=X4 L.lw hxne
   have hmb:b∈bs:=by rw[ebs];simp
   have hbn:=L.bl b hmb
   have hsum:=L.sum
   rw[ebs,List.map_append,List.sum_append] at hsum
   have hs1:([b].map fun b=>jK img (n -b.length) b).sum=jK img (n -b.length) b:=by simp
   rw[hs1] at hsum
   have hall:=L.all
   rw[ebs,List.reverse_append,List.reverse_singleton,List.singleton_append,List.flatMap_cons] at hall
   have hb'l:bs'.length≤m:=by rw[ebs,List.length_append] at hbl;omega
   have hxw':=Paired.length lw'
   walk_at "r"
   refine⟨.inl ⟨rfl,_,SqL.of L.hw⟩,?_⟩
   walk_at "r"
   refine⟨wl,xw,.ref a5,rfl,rfl,L.hw,by rw[exw];simp,?_⟩
   rw[show xw.dropLast=xw' by rw[exw];simp]
   have s6:Same H1 (i6 H5 wl (.lst xw')):=x8 L.s nwl1
   have f6:(i6 H5 wl (.lst xw')) wl=some (.lst xw'):=c8
   have t6:(i6 H5 wl (.lst xw')) tl=some (.lst xt):=by rw[b0 htw];exact L.ht
   have b6:(i6 H5 wl (.lst xw')) a5=some (.lst (b.map V.str)):=by rw[b0 haw];exact hb
   have lt6:LoAt (i6 H5 wl (.lst xw')) tl wl xt rows:=L.lt.upW
   have lw6:LoAt (i6 H5 wl (.lst xw')) tl wl xw' bs':=LoAt.upW (show LoAt H5 tl wl xw' bs' from lw')
   generalize i6 H5 wl (.lst xw')=H6 at s6 f6 t6 b6 lt6 lw6⊢
   walk_at "r"
   refine C5 (k5 (SqL.of b6) ?_)
   rw[List.length_map]
   walk_at "r"
   refine C5 (k5 (SqL.of (s6 _ _ f1)) ?_)
   rw[List.length_map,hN]
   walk_at "r"
   refine B5 (fun h1=>?_) (fun h1=>?_)
   ·have h1':b.length=n:=by omega
    walk_at "r"
    refine⟨.inl ⟨rfl,_,SqL.of t6⟩,?_⟩
    walk_at "r"
    refine⟨tl,xt,.ref a5,rfl,rfl,t6,dC (by omega),?_⟩
    rw[h1',Nat.sub_self] at hsum hall
    have e1:jK img 0 b=1:=rfl
    have e2:bV img 0 b=[b]:=rfl
    rw[e1] at hsum
    rw[e2] at hall
    have ntl1:H1 tl=none:=ntl
    refine⟨m -1,by omega,xt++[.ref a5],xw',rows++[b],bs',_,_,rfl,⟨x8 s6 ntl1,c8,by rw[b0 htw.symm];exact f6,j5 lt6.upT ⟨a5,rfl,hat,haw,by rw[b0 hat];exact b6⟩,lw6.upT,fun b' hb'=>L.bl b' (by rw[ebs];exact List.mem_append_left _ hb'),by omega,by rw[List.append_assoc];exact hall,by rw[List.length_append,List.length_singleton];omega⟩⟩
   ·have h1':b.length<n:=by omega
    obtain⟨kk,hkk⟩:∃kk,n -b.length=kk+1:=⟨n -b.length -1,by omega⟩
    walk_at "r"
    refine⟨a,p,q,c,pl,a5,kvs,kvc,kvp,Pc,W,r1,r2,gp,gt,fx,b,rfl,X0.same (m1.trans s6),b6,by omega,fun li H7 ss n7 m7 f7 hss=>?_⟩
    rw[himg] at hss
    subst hss
    walk_at "r"
    refine⟨li,_,rfl,SqL.of f7,?_⟩
    have hil:=hM b
    have hlit:li≠tl:=(b9 t6 n7).symm
    have hliw:li≠wl:=(b9 f6 n7).symm
    refine M4 (n:=(img b).length) (fun i σ H'=>∃(xw2:List V) (v2:Option V),σ=[some (.ref a),some (.ref c),some (.ref pl),some .non,some (.ref ln),some (.ref tl),some (.ref wl),some (.ref a5),v2]∧Same H1 H'∧H' li=some (.lst ((img b).map V.str))∧H' tl=some (.lst xt)∧H' wl=some (.lst xw2)∧H' a5=some (.lst (b.map V.str))∧LoAt H' tl wl xt rows∧LoAt H' tl wl xw2 (bs'++((img b).reverse.take i).map fun x=>b++[x])) ⟨xw',v2,rfl,s6.trans m7,f7,m7 _ _ t6,m7 _ _ f6,m7 _ _ b6,lt6.same m7,by simpa using lw6.same m7⟩ (fun i σ H' hi hp=>?_) ?_ ?_
    ·obtain⟨_,_,_,_,z,_⟩:=hp
     exact⟨SqL.of z,by rw[List.length_map];exact hi⟩
    ·rintro bk i v σ H8' H8 hi ⟨xw2,v2',rfl,s8,g8,t8,w8,b8,lt8,lw8⟩ ⟨rfl,hv⟩
     rw[List.length_map] at hv
     have hrev:(img b).reverse[i]?=(img b)[(img b).length -1 -i]?:=List.getElem?_reverse hi
     rw[List.getElem?_map,←hrev] at hv
     obtain⟨x,hx,rfl⟩:=Option.map_eq_some_iff.mp hv
     have hl8:=Paired.length lw8
     rw[List.length_append,List.length_map,List.length_take] at hl8
     walk_at "r"
     refine⟨.inl ⟨rfl,_,SqL.of w8⟩,?_⟩
     walk_at "r"
     refine⟨g7 (by simp),fun l9 n9=>?_⟩
     obtain⟨H9,e9,f9,m9,_⟩:=c9 (o:= .lst [.str x]) n9
     rw[e9]
     refine gn (m9 _ _ b8) f9 (Nat.le_of_lt (g7 (by rw[List.length_map];simp;omega))) (fun l10 n10=>?_)
     obtain⟨H10,e10,f10,m10,_⟩:=c9 (o:= .lst (b.map V.str++[.str x])) n10
     rw[e10]
     have m810:=m9.trans m10
     have ht10:l10≠tl:=(b9 (m9 _ _ t8) n10).symm
     have hw10:l10≠wl:=(b9 (m9 _ _ w8) n10).symm
     walk_at "r"
     refine⟨wl,xw2,.ref l10,rfl,rfl,m810 _ _ w8,dC (by omega),?_⟩
     refine⟨xw2++[.ref l10],_,rfl,x8 (s8.trans m810) nwl1,by rw[b0 hliw];exact m810 _ _ g8,by rw[b0 htw];exact m810 _ _ t8,c8,by rw[b0 haw];exact m810 _ _ b8,(lt8.same m810).upW,?_⟩
     rw[List.take_succ,hx,List.map_append,←List.append_assoc]
     refine j5 (lw8.same m810).upW ⟨l10,rfl,ht10,hw10,?_⟩
     rw[b0 hw10,f10,List.map_append];rfl
    ·rintro σ H8 ⟨xw2,v2',rfl,s8,g8,t8,w8,b8,lt8,lw8⟩
     rw[List.take_of_length_le (by rw[List.length_reverse];exact Nat.le_refl _)] at lw8
     refine⟨by show(img b).length=((img b).map V.str).length;rw[List.length_map],?_⟩
     rw[hkk] at hsum hall
     have e1:jK img (kk+1) b=1+((img b).map fun x=>jK img kk (b++[x])).sum:=rfl
     have e2:bV img (kk+1) b=(img b).flatMap fun x=>bV img kk (b++[x]):=rfl
     rw[e1] at hsum
     rw[e2] at hall
     have ek:∀x:Str,n -(b++[x]).length=kk:=fun x=>by rw[List.length_append,List.length_singleton];omega
     have eS:(((img b).reverse.map fun x=>b++[x]).map fun b=>jK img (n -b.length) b).sum=((img b).map fun x=>jK img kk (b++[x])).sum:=by
      rw[List.map_map,List.map_reverse,List.sum_reverse]
      exact congrArg List.sum (List.map_congr_left fun x _=>by show jK img (n -(b++[x]).length) (b++[x])=_;rw[ek x])
     refine⟨m -1,by omega,xt,xw2,rows,bs'++(img b).reverse.map fun x=>b++[x],_,_,rfl,⟨s8,t8,w8,lt8,lw8,fun b' hb'=>?_,?_,?_,by omega⟩⟩
     ·rcases List.mem_append.mp hb' with z|z
      ·exact L.bl b' (by rw[ebs];exact List.mem_append_left _ z)
      ·obtain⟨x,_,rfl⟩:=List.mem_map.mp z
       rw[List.length_append,List.length_singleton];omega
     ·rw[List.map_append,List.sum_append,eS];omega
     ·rw[List.reverse_append,←List.map_reverse,List.reverse_reverse,List.flatMap_append,List.flatMap_map]
      rw[←hall]
      congr 1
      congr 1
      exact T1 fun x _=>by rw[ek x]
def eI (W:y4):List Str:=iM (W.pts.map (·.1))
def dM (W:y4):List Str:=iM (W.ts.map (·.1))
def K4 (W:y4):List Str:=eI W++dM W
noncomputable def p5 (Pc W:y4)(fx:List (Str×Str)):List (List Str):=X6 Pc W (eI Pc) (dM Pc) (eI W) (dM W) fx
theorem y7 (W:y4):Ordr W (eI W) (dM W):=⟨J3 _,J3 _,U6 _,U6 _⟩
def DcAt (H:Hp)(nm:List Str)(xs:List V)(rows:List (List Str)):Prop:=Paired (fun v row=>∃d,v=V.ref d∧H d=some (.dK (d0 (nm.zip row)))) xs rows
theorem DcAt.same {H H':Hp}{nm:List Str}{xs:List V}{rows:List (List Str)}(h:DcAt H nm xs rows)(s:Same H H'):DcAt H' nm xs rows:=Paired.imp' (fun _ _ ⟨d,e,z⟩=>⟨d,e,s _ _ z⟩) h
def xW (H:Hp)(p q:Addr)(fv:V)(fx:List (Str×Str)):Prop:=(fv= .non∧fx=[])∨∃d,fv= .ref d∧H d=some (.dK (d0 fx))∧d≠p∧d≠q
structure Mx (K:PySem.W.Frag) (H:Hp) (a p q a' p' q':Addr) (kvs kvs':List (g4×V)) (Pc W:y4) (fx:List (Str×Str)):Prop where
 P:WebIs 30 K H a p q kvs Pc
 G:WebIs 30 K H a' p' q' kvs' W
 big:((d9 W).length+1) ^ (d9 Pc).length≤1000000
 fnd:(fx.map (·.1)).Nodup
 fin:∀x∈fx,x.1∈d9 Pc
def xP (H:Hp)(Q:VK)(Pc W:y4)(fx:List (Str×Str)):Prop:=∀(l:Addr) (H':Hp) (xs:List V),H l=none→Same H H'→H' l=some (.lst xs)→DcAt H' (K4 Pc) xs (p5 Pc W fx)→(p5 Pc W fx).length≤1000000→(∀x∈xs,∃d,x=V.ref d∧H d=none)→Q (.ref l) H'
def gu (K:PySem.W.Frag):Sp:=fun vs H Q _=>∃(a p q a' p' q':Addr) (kvs kvs':List (g4×V)) (Pc W:y4) (fx:List (Str×Str)) (fv:V),vs=[.ref a,.ref a',.ref p,.ref p',fv,.non]∧Mx K H a p q a' p' q' kvs kvs' Pc W fx∧xW H p q fv fx∧xP H Q Pc W fx
def G0 (K:PySem.W.Frag):Sp:=fun vs H Q _=>∃(a p q a' p' q':Addr) (kvs kvs':List (g4×V)) (Pc W:y4) (fx:List (Str×Str)) (fv:V),vs=[.ref a,.ref a',fv]∧Mx K H a p q a' p' q' kvs kvs' Pc W fx∧xW H p q fv fx∧xP H Q Pc W fx
theorem Mx.S {H:Hp}{a p q a' p' q':Addr}{kvs kvs':List (g4×V)}{Pc W:y4}{fx:List (Str×Str)}(h:Mx K H a p q a' p' q' kvs kvs' Pc W fx):SrchP Pc W (eI Pc) (dM Pc) (eI W) (dM W) fx:=
 ⟨y7 _,y7 _,h.P.nd,h.G.nd,h.P.ends,h.fnd,h.fin⟩
theorem sL {H:Hp}{F:Str×Str→List Str}:∀{kvs:List (g4×V)} {pts:List (Str×Str)},ChAt H F kvs pts→LsAt H (kvs.map (·.2)) (pts.map F)
 |_,_,.nil=> .nil
 |_,_,.cons a t=> .cons a.2 (sL t)
theorem Mx.same {H0 H1:Hp}{a p q a' p' q':Addr}{kvs kvs':List (g4×V)}{Pc W:y4}{fx:List (Str×Str)}(h:Mx K H0 a p q a' p' q' kvs kvs' Pc W fx)(s:Same H0 H1):Mx K H1 a p q a' p' q' kvs kvs' Pc W fx:=⟨h.P.same s,h.G.same s,h.big,h.fnd,h.fin⟩
abbrev jU (P:Program)(w:World)(K:PySem.W.Frag)(mg:Str→Option Value)(base:Heap):Prop:=Z6 P w K mg base C7 6 "found" ["piece","web","piece_looks","web_looks","fixed","most"] [] (gu K)
theorem nO {f:Addr}{fd:FuncData}(T:Txt K mg)(E2:N9 P w K mg base)(K3:aT P w K mg base)(M3:V0 P w K mg base)(B9:V3 P w K mg base)(dF:jy P w K mg base)(F:Fun K "found" "found" dY f fd):A0 P w K mg base C7 6 f fd ["piece","web","piece_looks","web_looks","fixed","most"] (gu K):=by
 refine F.ok sc_found (fun vs H Q E h=>?_) (fun cdv A outer s H vs Q E hr h=>?_)
 ·obtain⟨a,p,q,a',p',q',kvs,kvs',Pc,W,fx,fv,rfl,_⟩:=h
  rfl
 ·obtain⟨a,p,q,a',p',q',kvs,kvs',Pc,W,fx,fv,rfl,M0,hf,k⟩:=h
  have S:=M0.S
  have lP:=M0.P.len
  have lW:=M0.G.len
  have lP2:=lP
  have lW2:=lW
  rw[C1] at lP2 lW2
  have hN:=sc_found.nd
  have hu:=A5 hr
  refine⟨_,QSs.r (u6 (j7 (i:=6) hN rfl (by walk_at "l") (yS (y8 xj (qV 4) tX (r6 _)) mh (qV 4)))
   (u6 (j7 (i:=7) hN rfl (by walk_at "l") (qC E2 (hr.mono (by decide)) p8 (i0 (qV 2) (i0 (qV 3) (i0 (qV 6) k4)))))
   (u6 (mn (xB (fw K (qC K3 (hr.mono (by decide)) p8 (i0 (sh (Z5 K rfl) T.b_list Boot.«list» (i0 (zt PySem.F.plainAttrs_dict PySem.F.slot_dict_values PySem.F.type_dict_values O0 K (qV 7)) k4)) k4)))) (D9 (E5 (cq k4))) rV)
   (u6 (j7 (i:=8) hN rfl (by walk_at "l") (qC M3 (hr.mono (by decide)) p8 (i0 (qV 0) (i0 (qV 1) (i0 (qV 6) k4)))))
   (u6 (j7 (i:=9) hN rfl (by walk_at "l") (qC B9 (hr.mono (by decide)) p8 (i0 (qV 0) k4)))
   (D9 (E5 (af (own:=["row"]) (js:=[9]) (by kernel_rfl) rfl (R1 K (qC dF (hr.mono (by decide)) p8 (i0 (qV 0) (i0 (qV 7) (i0 (qV 8) (i0 (qV 5) k4)))))) (fun _ _ _ _=>(R5 (i:=0) (show List.Nodup (["row","names"]:List Str) by decide+kernel) rfl (by walk_at "l"))) (fun _ _ _ _=>lZ) (fun _ _ _ _=>(zN K T.b_dict T.b_zip rfl (i0 (qV 1) (i0 (qV 0) k4)))))))))))),?_⟩
  refine jz (fun σ H'=>∃d,σ=[some (.ref a),some (.ref a'),some (.ref p),some (.ref p'),some fv,some .non,some (.ref d),none,none,none]∧Same H H'∧H' d=some (.dK (d0 fx))∧d≠p∧d≠q) ?_ ?_
  ·rintro σ H1 ⟨d,rfl,m1,hd,hdp,hdq⟩
   have M1:=M0.same m1
   walk_at "r"
   refine⟨p,p',d,Pc.pts,fx,W,eI W,rfl,M1.P.hp,B4 M1.P.nd,by omega,M1.G.at_.pts,B4 M1.G.nd,by omega,(y7 W).p1,(y7 W).o1,hd,hdp,fun c H2 kvc nc m2 hc ch=>?_⟩
   have M2:=M1.same m2
   walk_at "r"
   refine⟨.inr (.inr (.inl ⟨rfl,.inl ⟨_,hc⟩⟩)),?_⟩
   walk_at "r"
   refine⟨c,_,rfl,rfl,.inl hc,fun v3 n3=>?_⟩
   obtain⟨H3,e3,f3,m3,_⟩:=c9 (o:= .ext (fu v3 c)) n3
   rw[e3]
   walk_at "r"
   refine ae f3 (.inl (m3 _ _ hc)) (fun l4 n4=>?_)
   obtain⟨H4,e4,f4,m4,_⟩:=c9 (o:= .lst _) n4
   rw[e4]
   walk_at "r"
   have m24:=m3.trans m4
   refine⟨l4,_,_,rfl,f4,LsAt.same (sL ch) m24,by rw[List.length_map];omega,fun H5 m5=>?_⟩
   have m25:=m24.trans m5
   have M5:=M2.same m25
   walk_at "r"
   refine rJ (fun h1=>?_) (fun h1=>?_)
   ·walk_at "r"
    refine⟨g7 (by simp),fun l6 n6=>?_⟩
    obtain⟨H6,e6,f6,m6,_⟩:=c9 (o:= .lst []) n6
    rw[e6]
    have e0:p5 Pc W fx=[]:=lg S h1
    refine k l6 H6 [] (m1.free (m2.free (m25.free n6))) (m1.trans (m2.trans (m25.trans m6))) f6 (by rw[e0];exact .nil) (by rw[e0];exact Nat.zero_le _) (fun _ h=>nomatch h)
   ·walk_at "r"
    refine⟨a,p,q,a',p',q',d,kvs,kvs',Pc,W,fx,dM W,rfl,M5.P.at_,M5.P.hq,J5 M5.P.nd,by omega,M5.G.at_,J5 M5.G.nd,by omega,(y7 W).p2,(y7 W).o2,m25 _ _ (m2 _ _ hd),hdq,fun pl H6 kvp npl m6 hpl pls=>?_⟩
    have M6:=M5.same m6
    have m26:=m25.trans m6
    walk_at "r"
    refine⟨a,p,q,kvs,Pc,rfl,M6.P.at_,by omega,fun ln H7 r1 r2 n7 m7 f7 or=>?_⟩
    have er1:r1=eI Pc:=p6 or.o1 (y7 Pc).o1 (or.p1.nodup_iff.mpr (B4 S.nd)) (or.p1.trans (y7 Pc).p1.symm)
    have er2:r2=dM Pc:=p6 or.o2 (y7 Pc).o2 (or.p2.nodup_iff.mpr (J5 S.nd)) (or.p2.trans (y7 Pc).p2.symm)
    subst er1 er2
    have M7:=M6.same m7
    have m27:=m26.trans m7
    walk_at "r"
    refine⟨a,p,q,c,pl,kvs,kvc,kvp,Pc,W,eI Pc,dM Pc,eI W,dM W,fx,rfl,⟨S,M7.P.at_,M7.P.hq,by omega,by omega,M0.big,m27 _ _ hc,ch.same m27,m7 _ _ hpl,pls.same m7⟩,fun lr H8 xs n8 m8 f8 ls hbig=>?_⟩
    have hrl:=Paired.length ls
    refine q9 (SqL.of f8) ?_
    refine B1 (n:=xs.length) (fun i out H'=>Same H8 H'∧DcAt H' (K4 Pc) out ((p5 Pc W fx).take i)∧∀x∈out,∃d,x=V.ref d∧H d=none) ⟨Same.refl _,.nil,fun _ h=>nomatch h⟩ (fun i out H' hi hp=>⟨xs,xs[i],SqL.of (hp.1 _ _ f8),List.getElem?_eq_getElem hi⟩) ?_ ?_
    ·rintro N i v out H9' H9 hi ⟨s9,dc,hfr⟩ y hN'
     obtain⟨rfl,hy⟩:=Itl.get y (SqL.of (s9 _ _ f8))
     obtain⟨row,hrow,ar,rfl,har⟩:=A1 ls hy
     have hdl:=Paired.length dc
     rw[List.length_take] at hdl
     walk_at "r"
     refine⟨rfl,?_⟩
     walk_at "r"
     refine⟨ln,ar,(K4 Pc).map Sum.inr,row.map V.str,rfl,by rw[←ja];exact SqL.of (s9 _ _ (m8 _ _ f7)),SqL.of (s9 _ _ har),fun d2 nd2=>?_⟩
     rw[gc (nm:=K4 Pc) S.nn]
     obtain⟨H10,e10,f10,m10,_⟩:=c9 (o:= .dK (d0 ((K4 Pc).zip row))) nd2
     change _∧N _ (i6 H9 d2 (.dK (d0 ((K4 Pc).zip row))))
     rw[e10]
     have hbig2:(p5 Pc W fx).length≤1000000:=hbig
     refine⟨Nat.le_of_lt (dC (by omega)),hN' _ _ ⟨s9.trans m10,?_,fun x hx=>?_⟩⟩
     ·rw[show(p5 Pc W fx).take (i+1)=(p5 Pc W fx).take i++[row] by rw[List.take_succ,show(p5 Pc W fx)[i]?=some row from hrow];rfl]
      exact j5 (DcAt.same dc m10) ⟨d2,rfl,f10⟩
     ·rcases List.mem_append.mp hx with z|z
      ·exact hfr x z
      ·exact⟨d2,List.mem_singleton.mp z,m1.free (m2.free (m27.free (m8.free (s9.free nd2))))⟩
    ·rintro out H9 ⟨s9,dc,hfr⟩
     have hdl:=Paired.length dc
     rw[List.length_take] at hdl
     have hbig2:(p5 Pc W fx).length≤1000000:=hbig
     refine⟨⟨_,SqL.of (s9 _ _ f8),Nat.le_refl _⟩,fun D hD=>⟨Nat.le_of_lt (dC (by omega)),?_⟩⟩
     rw[List.take_of_length_le (by rw[hrl];exact Nat.le_refl _)] at dc
     obtain⟨H10,e10,f10,m10,_⟩:=c9 (H:=H9) (o:= .lst out) hD
     show Q _ (i6 H9 D _)
     rw[e10]
     exact k D H10 out (m1.free (m2.free (m27.free (m8.free (s9.free hD))))) (m1.trans (m2.trans (m27.trans (m8.trans (s9.trans m10))))) f10 (dc.same m10) hbig hfr
  ·intro nx hnx
   walk_at "r"
   rcases hf with⟨rfl,rfl⟩|⟨d,rfl,hd,hdp,hdq⟩
   ·rw[if_pos (by simp)]
    walk_at "r"
    intro d nd
    obtain⟨H1,e1,f1,m1,_⟩:=c9 (o:= .dK []) nd
    rw[e1]
    walk_at "r"
    exact hnx _ _ ⟨d,rfl,m1,f1,(b9 M0.P.hp nd).symm,(b9 M0.P.hq nd).symm⟩
   ·rw[if_neg (by simp)]
    walk_at "r"
    exact hnx _ _ ⟨d,rfl,Same.refl _,hd,hdp,hdq⟩
theorem bR {f:Addr}{fd:FuncData}(T:Txt K mg)(aD:jU P w K mg base){T9:Addr}(F:FunD K "matches" "matches" E9 T9 f fd):A0 P w K mg base C7 7 f fd ["piece","web","fixed"] (G0 K):=by
 refine F.ok sc_matches (fun vs H Q E h=>?_) (fun cdv A outer s H vs Q E hr h=>?_)
 ·obtain⟨a,p,q,a',p',q',kvs,kvs',Pc,W,fx,fv,rfl,_⟩:=h
  rfl
 ·obtain⟨a,p,q,a',p',q',kvs,kvs',Pc,W,fx,fv,rfl,M0,hf,k⟩:=h
  have hN:=sc_matches.nd
  have hu:=A5 hr
  refine⟨_,QSs.r (D9 (E5 (qC aD (hr.mono (by decide)) p8 (i0 (qV 0) (i0 (qV 1) (i0 (u7 (u9 K hu) (qV 0) h7 (fun _ _=>rfl)) (i0 (u7 (u9 K hu) (qV 1) h7 (fun _ _=>rfl)) (i0 (qV 2) (i0 tX k4))))))))),?_⟩
  walk_at "r"
  refine g5 M0.P.at_.tup (d7 (j:=0) rfl) ?_
  walk_at "r"
  refine g5 M0.G.at_.tup (d7 (j:=0) rfl) ?_
  walk_at "r"
  exact⟨a,p,q,a',p',q',kvs,kvs',Pc,W,fx,fv,rfl,M0,hf,k⟩
theorem jg {H:Hp}{kvs:List (g4×V)}{ts:List (Str×C8)}(w:TiesIs K H kvs ts):kvs.map (fun kv=>kV kv.1)=(ts.map (·.1)).map V.str:=by
 have h:kvs.map (fun kv=>kV kv.1)=(kvs.map (·.1)).map kV:=by rw[List.map_map];rfl
 rw[h,w.keys,List.map_map,List.map_map];rfl
theorem zw {W:y4}:d9 W=W.pts.map (·.1)++W.ts.map (·.1):=rfl
theorem dq {ms:List (Str×Str)}(nd:(ms.map (·.1)).Nodup):(ms.map (·.1)).map (d6 (d0 ms))=ms.map (·.2):=by
 rw[List.map_map]
 exact List.map_congr_left fun x hx=>i3 nd hx
theorem rR {nm row:List Str}{n:Str}(nd:nm.Nodup)(hl:row.length=nm.length)(h:n∈nm):TxtAt (d0 (nm.zip row)) n:=by
 obtain⟨i,hi⟩:=O8 h
 have hil:=K8 hi
 exact⟨row[i],J2 (Y6 row nd) (V2 hi (List.getElem?_eq_getElem (by omega)))⟩
theorem nmC_mem {W:y4}{n:Str}:n∈K4 W↔n∈d9 W:=(y7 W).mem
theorem bz {W:y4}(h:(d9 W).Nodup):(K4 W).Nodup:=(y7 W).perm.nodup_iff.mpr h
theorem WebIs.up {n m:Nat}{H:Hp}{a p q:Addr}{kvs:List (g4×V)}{W:y4}(h:WebIs n K H a p q kvs W)(hm:n≤m):WebIs m K H a p q kvs W:={h with len:=Nat.le_trans h.len hm}
theorem FitP.congr {Pc W:y4}{km kn:List (g4×V)}(f:FitP Pc W km)(hl:kn.length=(d9 Pc).length)(ht:∀n∈d9 Pc,TxtAt kn n)(he:∀n∈d9 Pc,d6 kn n=d6 km n)(ends:∀x∈Pc.ts,x.2.2.1∈Pc.pts.map (·.1)∧x.2.2.2∈Pc.pts.map (·.1)):FitP Pc W kn:=by
 refine⟨hl,ht,?_,fun x hx=>?_,fun x hx=>?_⟩
 ·rw[List.map_congr_left he];exact f.nd
 ·rw[he _ (List.mem_append_left _ (List.mem_map.mpr ⟨x,hx,rfl⟩))];exact f.pts x hx
 ·rw[he _ (List.mem_append_right _ (List.mem_map.mpr ⟨x,hx,rfl⟩)),he _ (List.mem_append_left _ (ends x hx).1),he _ (List.mem_append_left _ (ends x hx).2)];exact f.ts x hx
def U5 (Pc:y4)(ms:List (Str×Str)):List Str:=(K4 Pc).map (d6 (d0 ms))
section
variable {Pc W:y4} {ms fx:List (Str×Str)}
theorem bK:(U5 Pc ms).length=(K4 Pc).length:=List.length_map _
theorem qT (nd:(d9 Pc).Nodup){n:Str}(h:n∈d9 Pc):gv (K4 Pc) (U5 Pc ms) n=d6 (d0 ms) n:=by
 obtain⟨i,hi⟩:=O8 (nmC_mem.mpr h)
 exact du (bz nd) hi (by unfold U5;rw[List.getElem?_map,hi];rfl)
theorem jf:(K4 Pc).length=(d9 Pc).length:=(y7 Pc).perm.length_eq
theorem nK (nd:(d9 Pc).Nodup)(ends:∀x∈Pc.ts,x.2.2.1∈Pc.pts.map (·.1)∧x.2.2.2∈Pc.pts.map (·.1))(f:FitP Pc W (d0 ms)):FitP Pc W (d0 ((K4 Pc).zip (U5 Pc ms))):=
 f.congr (by rw[j8,List.length_zip,bK,Nat.min_self,jf]) (fun n hn=>rR (bz nd) bK (nmC_mem.mpr hn)) (fun n hn=>qT nd hn) ends
theorem lq (nd:(d9 Pc).Nodup)(f:FitP Pc W (d0 ms)):U5 Pc ms∈J6 (Z2 (eI Pc) (dM Pc) (eI W) (dM W)) []:=by
 have z:=jC (bs:=Z2 (eI Pc) (dM Pc) (eI W) (dM W)) (b:=[]) (t:=U5 Pc ms) (by rw[aS,bK];rfl) fun i x c hx hc=>by
  unfold U5 at hx
  rw[List.getElem?_map] at hx
  cases en:(K4 Pc)[i]? with
  |none=>rw[en] at hx;cases hx
  |some n=>
   rw[en] at hx
   cases hx
   have en':(eI Pc++dM Pc)[i]?=some n:=en
   rcases tP hc with⟨hi,rfl⟩|⟨hi,rfl⟩
   ·rw[List.getElem?_append_left hi] at en'
    obtain⟨y,hy,rfl⟩:=List.mem_map.mp ((y7 Pc).p1.mem_iff.mp (List.mem_of_getElem? en'))
    exact(y7 W).p1.mem_iff.mpr (List.mem_map.mpr ⟨_,f.pts y hy,rfl⟩)
   ·rw[List.getElem?_append_right hi] at en'
    obtain⟨y,hy,rfl⟩:=List.mem_map.mp ((y7 Pc).p2.mem_iff.mp (List.mem_of_getElem? en'))
    exact(y7 W).p2.mem_iff.mpr (List.mem_map.mpr ⟨_,f.ts y hy,rfl⟩)
 simpa using z
open Classical in
theorem mem_rows {row:List Str}:row∈p5 Pc W fx↔row∈J6 (Z2 (eI Pc) (dM Pc) (eI W) (dM W)) []∧FitP Pc W (d0 ((K4 Pc).zip row))∧dQ fx (K4 Pc) row:=by
 unfold p5 X6
 rw[List.mem_filter,decide_eq_true_eq];exact Iff.rfl
theorem X3 {row:List Str}(h:row∈p5 Pc W fx):row.length=(K4 Pc).length:=fe (mem_rows.mp h).1
theorem jN (nd:(d9 Pc).Nodup)(ends:∀x∈Pc.ts,x.2.2.1∈Pc.pts.map (·.1)∧x.2.2.2∈Pc.pts.map (·.1))(f:FitP Pc W (d0 ms)):U5 Pc ms∈p5 Pc W []:=mem_rows.mpr ⟨lq nd f,nK nd ends f,fun _ h=>nomatch h⟩
theorem dv {l:List (Str×Str)}(h:(l.map (·.1)).Nodup):l.Nodup:=List.Pairwise.imp (fun z e=>z (by rw[e])) (List.pairwise_map.mp h)
theorem lX (nd:(d9 Pc).Nodup)(f:FitP Pc W (d0 ms))(ndk:(ms.map (·.1)).Nodup)(hin:∀x∈ms,x.1∈d9 Pc):ms.Perm ((K4 Pc).zip (U5 Pc ms)):=by
 refine(List.perm_ext_iff_of_nodup (dv ndk) (dv (Y6 _ (bz nd)))).mpr fun x=>?_
 constructor
 ·intro hx
  obtain⟨i,hi⟩:=O8 (nmC_mem.mpr (hin x hx))
  exact V2 (x:=x.2) hi (by unfold U5;rw[List.getElem?_map,hi];exact congrArg some (i3 ndk hx))
 ·intro hx
  obtain⟨i,hi⟩:=List.getElem?_of_mem hx
  have z:=List.getElem?_zip_eq_some.mp hi
  have z2:=z.2
  unfold U5 at z2
  rw[List.getElem?_map,z.1] at z2
  have z3:d6 (d0 ms) x.1=x.2:=Option.some.inj z2
  obtain⟨s,hs⟩:=f.txt x.1 (nmC_mem.mp (List.mem_of_getElem? z.1))
  obtain⟨s',e',hs'⟩:=U8 hs
  rw[i3 ndk hs'] at z3
  rw[←show(x.1,s')=x by rw[z3]];exact hs'
end
theorem EqN.of0 {H:Hp}{x y:V}{b:Bool}(h:EqN K H 0 x y b):∀n,EqN K H n x y b
 |0=>h
 |n+1=> .inl (EqN.of0 h n)
theorem oP {H:Hp}{d e:Addr}{a b:List (Str×Str)}(hd:H d=some (.dK (d0 a)))(he:H e=some (.dK (d0 b)))(p:a.Perm b)(nd:(b.map (·.1)).Nodup):EqD K H d e true:=by
 by_cases z:d=e
 ·exact .inl ⟨z,rfl⟩
 ·exact qJ z (.inl hd) (.inl he) p nd
theorem qy (n:Nat):(List.replicate n true).all id=true:=by
 rw[List.all_eq_true]
 intro x hx
 exact(List.mem_replicate.mp hx).2
def nV (r1 r2:List Str):Prop:=∃(j:Nat) (a b:Str),r1[j]?=some a∧r2[j]?=some b∧(∀i,i<j→r1[i]?=r2[i]?)∧a.cps.toList<b.cps.toList
theorem gF:∀{bs:List (List Str)} {b:List Str},(∀c∈bs,c.Pairwise vS)→(J6 bs b).Pairwise nV
 |[],b,_=>by simp [J6]
 |c::r,b,h=>by
  refine List.pairwise_flatMap.mpr ⟨fun x _=>gF fun d hd=>h d (List.mem_cons_of_mem _ hd),?_⟩
  refine List.Pairwise.imp (fun{x y} hxy r1 h1 r2 h2=>?_) (h c List.mem_cons_self)
  obtain⟨t1,e1,_⟩:=K6 h1
  obtain⟨t2,e2,_⟩:=K6 h2
  refine⟨b.length,x,y,by rw[e1];simp,by rw[e2];simp,fun i hi=>?_,hxy⟩
  rw[e1,e2,List.append_assoc,List.append_assoc,List.getElem?_append_left hi,List.getElem?_append_left hi]
theorem jB {W:y4}(nd:(d9 W).Nodup):(eI W).Pairwise vS∧(dM W).Pairwise vS:=
 ⟨K9 (Q8 (y7 W).o1 ((y7 W).p1.nodup_iff.mpr (B4 nd))),K9 (Q8 (y7 W).o2 ((y7 W).p2.nodup_iff.mpr (J5 nd)))⟩
open Classical in
theorem bA {Pc W:y4}{fx:List (Str×Str)}(nd:(d9 W).Nodup):(p5 Pc W fx).Pairwise nV:=by
 unfold p5 X6
 refine List.Pairwise.filter _ (gF fun c hc=>?_)
 unfold Z2 at hc
 rcases List.mem_append.mp hc with z|z
 ·rw[(List.mem_replicate.mp z).2];exact(jB nd).1
 ·rw[(List.mem_replicate.mp z).2];exact(jB nd).2
def xM (kvm:List (g4×V))(x:Str×C8):Str×C8:=(d6 kvm x.1,(x.2.1,d6 kvm x.2.2.1,d6 kvm x.2.2.2))
def j3 (kvm:List (g4×V))(W:y4):y4:=⟨W.pts.map fun x=>(d6 kvm x.1,x.2),W.ts.map (xM kvm)⟩
theorem aK (kvm:List (g4×V))(W:y4):d9 (j3 kvm W)=(d9 W).map (d6 kvm):=by
 unfold d9 j3
 rw[List.map_append,List.map_map,List.map_map,List.map_map,List.map_map];rfl
theorem fV:∀(nm b:List Str),((nm.zip b).map (·.2)).Sublist b
 |[],_=>List.nil_sublist _
 |_::_,[]=> .slnil
 |n::nm,x::b=>(fV nm b).cons_cons x
theorem aR {l:List Str}{x:Str}{i:Nat}(nd:l.Nodup)(h:l[i]?=some x):x∉l.take i:=fun m=>by
 have e7:l.take (i+1)=l.take i++[x]:=by rw[List.take_succ,h];rfl
 have z:(l.take (i+1)).Nodup:=nd.sublist (List.take_sublist _ _)
 rw[e7] at z
 exact(List.nodup_append.mp z).2.2 x m x (by simp) rfl
def k8 (W:y4):y4:=⟨W.pts.reverse,W.ts.reverse⟩
theorem jR (W:y4):(d9 (k8 W)).Perm (d9 W):=by
 unfold d9 k8
 rw[List.map_reverse,List.map_reverse]
 exact(List.reverse_perm _).append (List.reverse_perm _)
structure Nam (W:y4) (nam:List (Str×Str)):Prop where
 ks:(nam.map (·.1)).Perm (d9 W)
 vs:(nam.map (·.2)).Nodup
theorem Nam.ndk {W:y4}{nam:List (Str×Str)}(h:Nam W nam)(nd:(d9 W).Nodup):(nam.map (·.1)).Nodup:=h.ks.nodup_iff.mpr nd
theorem Nam.of {W:y4}{nam:List (Str×Str)}(h:Nam W nam){n:Str}(hn:n∈d9 W):∃y,(n,y)∈nam:=by
 obtain⟨x,hx,rfl⟩:=List.mem_map.mp (h.ks.mem_iff.mpr hn)
 exact⟨x.2,hx⟩
theorem Nam.tx {W:y4}{nam:List (Str×Str)}(h:Nam W nam)(nd:(d9 W).Nodup):∀n∈d9 W,TxtAt (d0 nam) n:=fun n hn=>by
 obtain⟨y,hy⟩:=h.of hn
 exact⟨y,J2 (h.ndk nd) hy⟩
theorem Nam.ndg {W:y4}{nam:List (Str×Str)}(h:Nam W nam)(nd:(d9 W).Nodup):((d9 W).map (d6 (d0 nam))).Nodup:=by
 refine(h.ks.map (d6 (d0 nam))).nodup_iff.mp ?_
 rw[dq (h.ndk nd)];exact h.vs
theorem Nam.gl {W:y4}{nam:List (Str×Str)}(h:Nam W nam)(hs:∀x∈nam,x.2.length≤100)(nd:(d9 W).Nodup):∀n∈d9 W,(d6 (d0 nam) n).length≤100:=fun n hn=>by
 obtain⟨y,hy⟩:=h.of hn
 rw[i3 (h.ndk nd) hy];exact hs _ hy
def O7 (K:PySem.W.Frag):Sp:=fun vs H Q _=>∃(a p q c:Addr) (kvs:List (g4×V)) (W:y4) (ss:List Str),vs=[.ref a,.ref c]∧WebIs 9 K H a p q kvs W∧H c=some (.lst (ss.map V.str))∧9≤ss.length∧ss.Nodup∧(∀s∈ss,s.length≤100)∧
 ∀(d:Addr) (H':Hp) (nam:List (Str×Str)),H d=none→Same H H'→H' d=some (.dK (d0 nam))→Nam W nam→(∀x∈nam,x.2.length≤100)→Q (.ref d) H'
def O2 (K:PySem.W.Frag):Sp:=fun vs H Q _=>∃(a p q d:Addr) (kvs:List (g4×V)) (W:y4) (nam:List (Str×Str)),vs=[.ref a,.ref d]∧WebIs 9 K H a p q kvs W∧H d=some (.dK (d0 nam))∧Nam W nam∧(∀x∈nam,x.2.length≤100)∧
 ∀(a' p' q':Addr) (kvs':List (g4×V)) (H':Hp),Same H H'→WebIs 9 K H' a' p' q' kvs' (k8 (j3 (d0 nam) W))→Q (.ref a') H'
abbrev S3 (P:Program)(w:World)(K:PySem.W.Frag)(mg:Str→Option Value)(base:Heap):Prop:=Z6 P w K mg base C7 1 "_law_naming" ["_law_web_here","_law_names_here"] [] (O7 K)
theorem aX {f:Addr}{fd:FuncData}(T:Txt K mg)(F:Fun K "_law_naming" "_law_naming" I9 f fd):A0 P w K mg base C7 1 f fd ["_law_web_here","_law_names_here"] (O7 K):=by
 refine F.ok sc__law_naming (fun vs H Q E h=>?_) (fun cdv A outer s H vs Q E hr h=>?_)
 ·obtain⟨a,p,q,c,kvs,W,ss,rfl,_⟩:=h
  rfl
 ·obtain⟨a,p,q,c,kvs,W,ss,rfl,hW,hC,hsl,hsn,hs1,k⟩:=h
  have lW:=hW.len
  have lW2:=lW
  rw[C1] at lW2
  have hptl:=j8 W.pts
  have hkl:=hW.at_.ts.length
  have hN:=sc__law_naming.nd
  have hu:=A5 hr
  refine⟨_,QSs.r (u6 (j7 (i:=2) hN rfl (by walk_at "l") mh)
   (u6 (U0 PassesOwn.never rfl (um K T.b_zip (i0 (qB (C9 K rfl) T.b_sorted Boot.«sorted» (i0 (C4 (O4 K) (sh (Z5 K rfl) T.b_list Boot.«list» (i0 (u7 (u9 K hu) (qV 0) h7 (fun _ _=>rfl)) k4)) (sh (Z5 K rfl) T.b_list Boot.«list» (i0 (u7 (u9 K hu) (qV 0) h7 (fun _ _=>rfl)) k4))) k4)) (i0 (qV 1) k4))) (xy K rfl (qb (R5 (i:=3) hN rfl (by walk_at "l")) (qb (R5 (i:=4) hN rfl (by walk_at "l")) vX)))
    (D9 (T3 (qV 4) (iZ (qV 2) (qV 3) (k6 P w hu)))))
   (D9 (E5 (qV 2))))),?_⟩
  walk_at "r"
  intro d nd
  obtain⟨H1,e1,f1,m1,_⟩:=c9 (o:= .dK []) nd
  rw[e1]
  have W1:=hW.same m1
  walk_at "r"
  refine g5 W1.at_.tup (d7 (j:=0) rfl) ?_
  walk_at "r"
  refine eE (L9 (.inl W1.hp) (fun l2 n2=>?_))
  obtain⟨H2,e2,f2,m2,_⟩:=c9 (o:= .lst _) n2
  rw[e2]
  walk_at "r"
  refine g5 (m2.tup W1.at_.tup) (d7 (j:=1) rfl) ?_
  walk_at "r"
  refine eE (L9 (.inl (m2 _ _ W1.hq)) (fun l3 n3=>?_))
  obtain⟨H3,e3,f3,m3,_⟩:=c9 (o:= .lst _) n3
  rw[e3]
  refine gn (m3 _ _ f2) f3 (g7 (by rw[List.length_map,List.length_map];omega)) (fun l4 n4=>?_)
  obtain⟨H4,e4,f4,m4,_⟩:=c9 (o:= .lst _) n4
  rw[e4]
  have f4':H4 l4=some (.lst ((d9 W).map V.str)):=by rw[f4,ff,jg hW.at_.ts,zw,List.map_append]
  walk_at "r"
  refine eU (ss:=d9 W) (SqL.of f4') (by omega) (fun s b1 b2 l5 n5=>?_)
  obtain⟨H5,e5,f5,m5,_⟩:=c9 (o:= .lst _) n5
  rw[e5]
  have m15:=m2.trans (m3.trans (m4.trans m5))
  have m05:=m1.trans m15
  have hsn2:s.Nodup:=b1.nodup_iff.mpr hW.nd
  have hsl2:=b1.length_eq
  have hnk:(s.zip ss).map (·.1)=s:=List.map_fst_zip (by omega)
  obtain⟨nam,hnam⟩:∃nam,nam=s.zip ss:=⟨_,rfl⟩
  have hnaml:nam.length=s.length:=by rw[hnam,List.length_zip];omega
  rw[←hnam] at hnk
  have ndk:(nam.map (·.1)).Nodup:=by rw[hnk];exact hsn2
  have hvs:∀x∈nam,x.2∈ss:=fun x hx=>by
   rw[hnam] at hx
   exact(List.of_mem_zip hx).2
  have ndv:(nam.map (·.2)).Nodup:=by rw[hnam];exact hsn.sublist (fV s ss)
  walk_at "r"
  refine⟨l5,c,_,_,rfl,SqL.of f5,SqL.of (m05 _ _ hC),?_⟩
  refine M4 (n:=s.length) (fun i σ H'=>∃v3 v4:Option V,σ=[some (.ref a),some (.ref c),some (.ref d),v3,v4]∧Same H H'∧H' l5=some (.lst (s.map V.str))∧H' d=some (.dK (d0 (nam.take i)))) ⟨none,none,rfl,m05,f5,m15 _ _ f1⟩ (fun i σ H' hi hp=>?_) ?_ ?_
  ·obtain⟨_,_,_,s6,f6,_⟩:=hp
   exact⟨_,_,.str (s[i]),.str (ss[i]'(by omega)),SqL.of f6,SqL.of (s6 _ _ hC),by rw[List.getElem?_map,List.getElem?_eq_getElem hi];rfl,by rw[List.getElem?_map,List.getElem?_eq_getElem (show i<ss.length by omega)];rfl⟩
  ·rintro bk i v σ H6 H6' hi ⟨v3,v4,rfl,s6,f6,fd6⟩ ⟨t,x,y,hx,hy,nt,rfl,rfl⟩
   have hx':=hx _ (SqL.of f6)
   have hy':=hy _ (SqL.of (s6 _ _ hC))
   rw[List.getElem?_map,List.getElem?_eq_getElem hi] at hx'
   rw[List.getElem?_map,List.getElem?_eq_getElem (show i<ss.length by omega)] at hy'
   cases hx'
   cases hy'
   obtain⟨H7,e7,f7,m7,_⟩:=c9 (o:= .tup _) nt
   rw[e7]
   have hni:nam[i]?=some (s[i],ss[i]'(by omega)):=by
    have z:(s.zip ss)[i]?=some (s[i],ss[i]'(by omega)):=List.getElem?_zip_eq_some.mpr ⟨List.getElem?_eq_getElem hi,List.getElem?_eq_getElem (by omega)⟩
    rw[←hnam] at z
    exact z
   have hnw:s[i]∉(nam.take i).map (·.1):=by
    rw[List.map_take,hnk]
    exact aR hsn2 (List.getElem?_eq_getElem hi)
   refine bL (SqT.of f7) rfl ?_
   walk_at "r"
   refine E7 (j4 (k:=Sum.inr s[i]) (m7 _ _ fd6) (g7 (by rw[j8,List.length_take];omega)) ?_)
   rw[G8 hnw]
   refine⟨_,_,rfl,x8 (s6.trans m7) nd,by rw[b0 (fun e=>by rw[e,fd6] at f6;cases f6)];exact m7 _ _ f6,?_⟩
   rw[c8,List.take_succ,hni];rfl
  rintro σ H6 ⟨v3,v4,rfl,s6,f6,fd6⟩
  refine⟨⟨_,_,SqL.of f6,SqL.of (s6 _ _ hC),.inl (by rw[List.length_map];exact Nat.le_refl _)⟩,?_⟩
  rw[List.take_of_length_le (by omega)] at fd6
  walk_at "r"
  exact k d H6 nam nd s6 fd6 ⟨by rw[hnk];exact b1,ndv⟩ fun x hx=>hs1 _ (hvs x hx)
abbrev Q3 (P:Program)(w:World)(K:PySem.W.Frag)(mg:Str→Option Value)(base:Heap):Prop:=Z6 P w K mg base C7 1 "_law_renamed" ["_law_web_here","_law_names_here"] [] (O2 K)
theorem ax {f:Addr}{fd:FuncData}(T:Txt K mg)(F:Fun K "_law_renamed" "_law_renamed" F9 f fd):A0 P w K mg base C7 1 f fd ["_law_web_here","_law_names_here"] (O2 K):=by
 refine F.ok sc__law_renamed (fun vs H Q E h=>?_) (fun cdv A outer s H vs Q E hr h=>?_)
 ·obtain⟨a,p,q,d,kvs,W,nam,rfl,_⟩:=h
  rfl
 ·obtain⟨a,p,q,d,kvs,W,nam,rfl,hW,fd6,hNm,hsh,k⟩:=h
  have lW:=hW.len
  have lW2:=lW
  rw[C1] at lW2
  have hptl:=j8 W.pts
  have hkl:=hW.at_.ts.length
  have htx:=hNm.tx hW.nd
  have ndg:=hNm.ndg hW.nd
  have hN:=sc__law_renamed.nd
  have hu:=A5 hr
  refine⟨_,QSs.r (u6 (j7 (i:=2) hN rfl (by walk_at "l") mh)
   (u6 (U0 PassesOwn.never rfl (R1 K (sC K (sh (Z5 K rfl) T.b_list Boot.«list» (i0 (u7 (u9 K hu) (qV 0) h7 (fun _ _=>rfl)) k4)))) (R5 (i:=3) hN rfl (by walk_at "l"))
    (D9 (T3 (u7 (u9 K hu) (u7 (u9 K hu) (qV 0) h7 (fun _ _=>rfl)) (qV 3) (fun _ _=>rfl)) (iZ (qV 2) (u7 (u9 K hu) (qV 1) (qV 3) (fun _ _=>rfl)) (k6 P w hu)))))
   (u6 (j7 (i:=4) hN rfl (by walk_at "l") mh)
   (u6 (U0 PassesOwn.never rfl (R1 K (sC K (sh (Z5 K rfl) T.b_list Boot.«list» (i0 (u7 (u9 K hu) (qV 0) h7 (fun _ _=>rfl)) k4)))) (R5 (i:=3) hN rfl (by walk_at "l"))
    (u6 (j7 (i:=5) hN rfl (by walk_at "l") (u7 (u9 K hu) (u7 (u9 K hu) (qV 0) h7 (fun _ _=>rfl)) (qV 3) (fun _ _=>rfl)))
   (D9 (T3 (gH (i0 (u7 (u9 K hu) (qV 5) h7 (fun _ _=>rfl)) (i0 (u7 (u9 K hu) (qV 1) (u7 (u9 K hu) (qV 5) h7 (fun _ _=>rfl)) (fun _ _=>rfl)) (i0 (u7 (u9 K hu) (qV 1) (u7 (u9 K hu) (qV 5) h7 (fun _ _=>rfl)) (fun _ _=>rfl)) k4)))) (iZ (qV 4) (u7 (u9 K hu) (qV 1) (qV 3) (fun _ _=>rfl)) (k6 P w hu))))))
   (D9 (E5 (gH (i0 (qV 2) (i0 (qV 4) k4))))))))),?_⟩
  have W6:=hW
  walk_at "r"
  intro pp npp
  obtain⟨H7,e7,f7,m7,_⟩:=c9 (o:= .dK []) npp
  rw[e7]
  have W7:=W6.same m7
  have fd7:=m7 _ _ fd6
  have npP:pp≠p:=(b9 W6.hp npp).symm
  have npQ:pp≠q:=(b9 W6.hq npp).symm
  have npD:pp≠d:=(b9 fd6 npp).symm
  have nmI:∀x∈W.pts,x.1∈d9 W:=fun x hx=>List.mem_append_left _ (List.mem_map.mpr ⟨x,hx,rfl⟩)
  have nmT:∀x∈W.ts,x.1∈d9 W:=fun x hx=>List.mem_append_right _ (List.mem_map.mpr ⟨x,hx,rfl⟩)
  have ndq:(d9 (j3 (d0 nam) W)).Nodup:=by rw[aK];exact ndg
  have lp1:(j3 (d0 nam) W).pts.length=W.pts.length:=List.length_map _
  have lt1:(j3 (d0 nam) W).ts.length=W.ts.length:=List.length_map _
  have ndv1:(((j3 (d0 nam) W).pts.reverse).map (·.1)).Nodup:=by rw[List.map_reverse];exact(List.reverse_perm _).nodup_iff.mpr (B4 ndq)
  have ndv2:(((j3 (d0 nam) W).ts.reverse).map (·.1)).Nodup:=by rw[List.map_reverse];exact(List.reverse_perm _).nodup_iff.mpr (J5 ndq)
  walk_at "r"
  refine oy ?_
  walk_at "r"
  refine g5 W7.at_.tup (d7 (j:=0) rfl) ?_
  walk_at "r"
  refine eE (L9 (.inl W7.hp) (fun la na=>?_))
  obtain⟨Ha,ea,fa,ma,_⟩:=c9 (H:=H7) (o:= .lst ((d0 W.pts).map fun kv=>kV kv.1)) na
  rw[ea]
  refine⟨la,_,rfl,SqL.of fa,fun lb nb=>?_⟩
  obtain⟨Hb,eb,fb,mb,_⟩:=c9 (o:= .lst ((d0 W.pts).map fun kv=>kV kv.1).reverse) nb
  rw[eb]
  have fb':Hb lb=some (.lst (W.pts.reverse.map fun x=>V.str x.1)):=by rw[fb,ff,List.map_map,←List.map_reverse];rfl
  have mab:=ma.trans mb
  have fpb:=mab _ _ f7
  have neb:lb≠pp:=fun z=>by rw[z,fpb] at fb';cases fb'
  refine q9 (SqL.of fb') ?_
  refine M4 (n:=W.pts.length) (fun i σ H'=>Same H H'∧(∃v3,σ=[some (.ref a),some (.ref d),some (.ref pp),v3,none,none])∧H' lb=some (.lst (W.pts.reverse.map fun x=>V.str x.1))∧H' pp=some (.dK (d0 ((j3 (d0 nam) W).pts.reverse.take i)))) ⟨m7.trans mab,⟨_,rfl⟩,fb',fpb⟩ (fun i σ H' hi hp=>?_) ?_ ?_
  ·have hi':i<W.pts.reverse.length:=by rw[List.length_reverse];exact hi
   exact⟨_,_,SqL.of hp.2.2.1,by rw[List.getElem?_map,List.getElem?_eq_getElem hi'];rfl⟩
  ·rintro bk i v σ H8' H8 hi ⟨s8,⟨v3,rfl⟩,fl8,g8⟩ y
   obtain⟨rfl,hy⟩:=Itl.get y (SqL.of fl8)
   rw[List.getElem?_map] at hy
   obtain⟨x,hx,rfl⟩:=Option.map_eq_some_iff.mp hy
   have hxm:x∈W.pts:=List.mem_reverse.mp (List.mem_of_getElem? hx)
   have W8:=W6.same s8
   have fd8:=s8 _ _ fd6
   walk_at "r"
   refine g5 W8.at_.tup (d7 (j:=0) rfl) ?_
   walk_at "r"
   refine u5 (v:= .str x.2) (by have z:=L7 (k:=Sum.inr x.1) W8.at_.pts;rw[J2 (B4 hW.nd) hxm] at z;exact z) ?_
   walk_at "r"
   refine qd (.inl fd8) (htx _ (nmI x hxm)) ?_
   have hri:(j3 (d0 nam) W).pts.reverse[i]?=some (d6 (d0 nam) x.1,x.2):=by show(W.pts.map _).reverse[i]?=_;rw[←List.map_reverse,List.getElem?_map,hx];rfl
   have hnw:d6 (d0 nam) x.1∉((j3 (d0 nam) W).pts.reverse.take i).map (·.1):=by
    rw[List.map_take]
    exact aR ndv1 (by rw[List.getElem?_map,hri];rfl)
   refine E7 (j4 (k:=Sum.inr (d6 (d0 nam) x.1)) g8 (g7 (by rw[j8,List.length_take];omega)) ?_)
   rw[G8 hnw]
   refine⟨x8 s8 npp,⟨_,rfl⟩,by rw[b0 neb];exact fl8,?_⟩
   rw[c8,List.take_succ,hri];rfl
  rintro σ H8 ⟨s8,⟨v3',rfl⟩,fl8,g8⟩
  refine⟨⟨_,SqL.of fl8,by rw[List.length_map,List.length_reverse];exact Nat.le_refl _⟩,?_⟩
  rw[List.take_of_length_le (by rw[List.length_reverse,lp1];exact Nat.le_refl _)] at g8
  have W9:=W6.same s8
  have fd9:=s8 _ _ fd6
  walk_at "r"
  intro qq nqq
  obtain⟨HA,eA,fA,mA,_⟩:=c9 (o:= .dK []) nqq
  rw[eA]
  have WA:=W9.same mA
  have gA:=mA _ _ g8
  have nqP:qq≠pp:=(b9 g8 nqq).symm
  walk_at "r"
  refine oy ?_
  walk_at "r"
  refine g5 WA.at_.tup (d7 (j:=1) rfl) ?_
  walk_at "r"
  refine eE (L9 (.inl WA.hq) (fun lc nc=>?_))
  obtain⟨Hc,ec,fc,mc,_⟩:=c9 (H:=HA) (o:= .lst (kvs.map fun kv=>kV kv.1)) nc
  rw[ec]
  refine⟨lc,_,rfl,SqL.of fc,fun ld nd'=>?_⟩
  obtain⟨Hd,ed,fd,md,_⟩:=c9 (o:= .lst (kvs.map fun kv=>kV kv.1).reverse) nd'
  rw[ed]
  have fd':Hd ld=some (.lst (W.ts.reverse.map fun x=>V.str x.1)):=by rw[fd,jg hW.at_.ts,List.map_map,←List.map_reverse];rfl
  have mcd:=mc.trans md
  have fqd:=mcd _ _ fA
  have ned:ld≠qq:=fun z=>by rw[z,fqd] at fd';cases fd'
  refine q9 (SqL.of fd') ?_
  refine M4 (n:=W.ts.length) (fun i σ H'=>Same H8 H'∧(∃v3 v7,σ=[some (.ref a),some (.ref d),some (.ref pp),v3,some (.ref qq),v7])∧H' ld=some (.lst (W.ts.reverse.map fun x=>V.str x.1))∧∃kvt,H' qq=some (.dK kvt)∧TiesIs K H' kvt ((j3 (d0 nam) W).ts.reverse.take i)) ⟨mA.trans mcd,⟨_,_,rfl⟩,fd',[],fqd,.nil⟩ (fun i σ H' hi hp=>?_) ?_ ?_
  ·have hi':i<W.ts.reverse.length:=by rw[List.length_reverse];exact hi
   exact⟨_,_,SqL.of hp.2.2.1,by rw[List.getElem?_map,List.getElem?_eq_getElem hi'];rfl⟩
  ·rintro bk i v σ HB' HB hi ⟨sB,⟨v3,v7,rfl⟩,flB,kvt,gB',tB⟩ y
   obtain⟨rfl,hy⟩:=Itl.get y (SqL.of flB)
   rw[List.getElem?_map] at hy
   obtain⟨x,hx,rfl⟩:=Option.map_eq_some_iff.mp hy
   have hxm:x∈W.ts:=List.mem_reverse.mp (List.mem_of_getElem? hx)
   have hxe:=hW.ends x hxm
   have WB:=W9.same sB
   have fdB:=sB _ _ fd9
   obtain⟨bb,hbb,sb⟩:=ef WB.at_.ts (J5 hW.nd) (show(x.1,x.2)∈W.ts from hxm)
   have hri:(j3 (d0 nam) W).ts.reverse[i]?=some (xM (d0 nam) x):=by show(W.ts.map _).reverse[i]?=_;rw[←List.map_reverse,List.getElem?_map,hx];rfl
   have htl:=tB.length
   rw[List.length_take] at htl
   obtain⟨x0,x1,x2,x3⟩:=x
   walk_at "r"
   refine g5 WB.at_.tup (d7 (j:=1) rfl) ?_
   walk_at "r"
   refine u5 (v:= .ref bb) (by have z:=L7 (k:=Sum.inr x0) WB.at_.ties;rw[hbb] at z;exact z) ?_
   walk_at "r"
   refine g5 sb (d7 (j:=0) rfl) ?_
   walk_at "r"
   refine g5 sb (d7 (j:=1) rfl) ?_
   refine qd (.inl fdB) (htx _ (List.mem_append_left _ hxe.1)) ?_
   walk_at "r"
   refine g5 sb (d7 (j:=2) rfl) ?_
   refine qd (.inl fdB) (htx _ (List.mem_append_left _ hxe.2)) ?_
   walk_at "r"
   refine⟨g7 (by simp),fun lC nC=>?_⟩
   obtain⟨HC,eC,fC,mC,_⟩:=c9 (o:= .tup _) nC
   rw[eC]
   walk_at "r"
   refine qd (.inl (mC _ _ fdB)) (htx _ (nmT _ hxm)) ?_
   have hnw:d6 (d0 nam) x0∉((j3 (d0 nam) W).ts.reverse.take i).map (·.1):=by
    rw[List.map_take]
    exact aR ndv2 (by rw[List.getElem?_map,hri];rfl)
   refine E7 (j4 (k:=Sum.inr (d6 (d0 nam) x0)) (mC _ _ gB') (g7 (by omega)) ?_)
   have tC:=tB.mono mC.le
   rw[A9 _ (t4 (by rw[tC.keys,←k9];exact fun m=>hnw (D0 m)))]
   refine⟨x8 (sB.trans mC) nqq,⟨_,_,rfl⟩,by rw[b0 ned];exact mC _ _ flB,_,c8,?_⟩
   rw[List.take_succ,hri]
   exact j5 (K7 (mC _ _ gB') tC) (E8 (mC _ _ gB') ⟨rfl,lC,rfl,SqT.of fC⟩)
  rintro σ HB ⟨sB,⟨v3,v7,rfl⟩,flB,kvt,gB',tB⟩
  refine⟨⟨_,SqL.of flB,by rw[List.length_map,List.length_reverse];exact Nat.le_refl _⟩,?_⟩
  rw[List.take_of_length_le (by rw[List.length_reverse,lt1];exact Nat.le_refl _)] at tB
  walk_at "r"
  refine⟨g7 (by simp),fun lD nD=>?_⟩
  obtain⟨HD,eD,fD,mD,_⟩:=c9 (o:= .tup _) nD
  rw[eD]
  have gD:=(sB.trans mD) _ _ g8
  have gE:=mD _ _ gB'
  have pmr:=jR (j3 (d0 nam) W)
  have hin:∀n∈d9 (k8 (j3 (d0 nam) W)),n.length≤100:=fun n hn=>by
   have z:=pmr.mem_iff.mp hn
   rw[aK] at z
   obtain⟨y,hy,rfl⟩:=List.mem_map.mp z
   exact hNm.gl hsh hW.nd y hy
  refine k lD pp qq kvt HD (s8.trans (sB.trans mD)) ⟨⟨SqT.of fD,.inl gD,.inl gE,tB.mono mD.le⟩,gD,gE,nqP.symm,pmr.nodup_iff.mpr ndq,by rw[pmr.length_eq,aK,List.length_map];exact lW,fun x hx=>?_,hin⟩
  obtain⟨y,hy,rfl⟩:=List.mem_map.mp (List.mem_reverse.mp hx)
  have he:=hW.ends y hy
  have key:∀e:Str,e∈W.pts.map (·.1)→d6 (d0 nam) e∈(k8 (j3 (d0 nam) W)).pts.map (·.1):=fun e h=>by
   obtain⟨z,hz,rfl⟩:=List.mem_map.mp h
   exact List.mem_map.mpr ⟨_,List.mem_reverse.mpr (List.mem_map.mpr ⟨z,hz,rfl⟩),rfl⟩
  exact⟨key _ he.1,key _ he.2⟩
def Q1 (l:List (Str×Str)):List (Str×Str):=l.map fun x=>(x.2,x.1)
theorem jX (l:List (Str×Str)):Q1 (Q1 l)=l:=by
 unfold Q1
 rw[List.map_map]
 exact(List.map_congr_left fun x _=>rfl).trans (List.map_id _)
def G3 (cal nam ms:List (Str×Str)):List (Str×Str):=ms.map fun x=>(d6 (d0 cal) x.1,d6 (d0 nam) x.2)
theorem cQ {α β:Type}{f:α→β}{l:List α}(nd:l.Nodup)(h:∀a∈l,∀b∈l,f a=f b→a=b):(l.map f).Nodup:=List.pairwise_map.mpr (List.Pairwise.imp_of_mem (fun{a b} ha hb ne e=>ne (h a ha b hb e)) nd)
section
variable {Pc W:y4} {cal nam:List (Str×Str)}
theorem Nam.inj (h:Nam W nam)(nd:(d9 W).Nodup){x y:Str}(hx:x∈d9 W)(hy:y∈d9 W)(e:d6 (d0 nam) x=d6 (d0 nam) y):x=y:=sE (Q:=W) (kvm:=d0 nam) (h.ndg nd) hx hy e
theorem Nam.back (h:Nam W nam)(nd:(d9 W).Nodup){x:Str}(hx:x∈d9 W):d6 (d0 (Q1 nam)) (d6 (d0 nam) x)=x:=by
 obtain⟨y,hy⟩:=h.of hx
 rw[i3 (h.ndk nd) hy]
 refine i3 (ms:=Q1 nam) ?_ (List.mem_map.mpr ⟨_,hy,rfl⟩)
 unfold Q1
 rw[List.map_map];exact h.vs
theorem rev_ren_nms:(d9 (k8 (j3 (d0 nam) W))).Perm ((d9 W).map (d6 (d0 nam))):=by
 rw[←aK];exact jR _
theorem Nam.swp (h:Nam W nam)(nd:(d9 W).Nodup):Nam (k8 (j3 (d0 nam) W)) (Q1 nam):=by
 refine⟨?_,?_⟩
 ·unfold Q1
  rw[List.map_map]
  refine List.Perm.trans (List.Perm.of_eq ?_) ((h.ks.map (d6 (d0 nam))).trans rev_ren_nms.symm)
  rw[dq (h.ndk nd)];rfl
 ·unfold Q1
  rw[List.map_map];exact h.ndk nd
theorem Nam.ren_nd (h:Nam W nam)(nd:(d9 W).Nodup):(d9 (k8 (j3 (d0 nam) W))).Nodup:=rev_ren_nms.nodup_iff.mpr (h.ndg nd)
theorem qv {n:Str}(hn:n∈d9 W):d6 (d0 nam) n∈d9 (k8 (j3 (d0 nam) W)):=rev_ren_nms.mem_iff.mpr (List.mem_map.mpr ⟨n,hn,rfl⟩)
theorem bf (ends:∀x∈W.ts,x.2.2.1∈W.pts.map (·.1)∧x.2.2.2∈W.pts.map (·.1)):∀x∈(k8 (j3 (d0 nam) W)).ts,x.2.2.1∈(k8 (j3 (d0 nam) W)).pts.map (·.1)∧x.2.2.2∈(k8 (j3 (d0 nam) W)).pts.map (·.1):=fun x hx=>by
 obtain⟨y,hy,rfl⟩:=List.mem_map.mp (List.mem_reverse.mp hx)
 have he:=ends y hy
 have key:∀e:Str,e∈W.pts.map (·.1)→d6 (d0 nam) e∈(k8 (j3 (d0 nam) W)).pts.map (·.1):=fun e h=>by
  obtain⟨z,hz,rfl⟩:=List.mem_map.mp h
  exact List.mem_map.mpr ⟨_,List.mem_reverse.mpr (List.mem_map.mpr ⟨z,hz,rfl⟩),rfl⟩
 exact⟨key _ he.1,key _ he.2⟩
theorem nE {x:Str×Str}(hx:x∈W.pts):x.1∈d9 W:=List.mem_append_left _ (List.mem_map.mpr ⟨x,hx,rfl⟩)
theorem mO {x:Str×C8}(hx:x∈W.ts):x.1∈d9 W:=List.mem_append_right _ (List.mem_map.mpr ⟨x,hx,rfl⟩)
theorem Nam.inv (h:Nam W nam)(nd:(d9 W).Nodup)(ends:∀x∈W.ts,x.2.2.1∈W.pts.map (·.1)∧x.2.2.2∈W.pts.map (·.1)):k8 (j3 (d0 (Q1 nam)) (k8 (j3 (d0 nam) W)))=W:=by
 obtain⟨pts,ts⟩:=W
 unfold k8 j3
 simp only[←List.map_reverse,List.reverse_reverse,List.map_map]
 congr 1
 ·refine(List.map_congr_left fun x hx=>?_).trans (List.map_id _)
  show(d6 (d0 (Q1 nam)) (d6 (d0 nam) x.1),x.2)=x
  rw[h.back nd (nE hx)]
 ·refine(List.map_congr_left fun x hx=>?_).trans (List.map_id _)
  show(d6 (d0 (Q1 nam)) (d6 (d0 nam) x.1),(x.2.1,d6 (d0 (Q1 nam)) (d6 (d0 nam) x.2.2.1),d6 (d0 (Q1 nam)) (d6 (d0 nam) x.2.2.2)))=x
  have he:=ends x hx
  rw[h.back nd (mO hx),h.back nd (List.mem_append_left _ he.1),h.back nd (List.mem_append_left _ he.2)]
theorem dE {km:List (g4×V)}(f:FitP Pc W km){n:Str}(hn:n∈d9 Pc):d6 km n∈d9 W:=by
 rcases List.mem_append.mp hn with z|z
 ·obtain⟨x,hx,rfl⟩:=List.mem_map.mp z
  exact nE (f.pts x hx)
 ·obtain⟨x,hx,rfl⟩:=List.mem_map.mp z
  exact mO (f.ts x hx)
theorem R0 (hC:Nam Pc cal)(ndP:(d9 Pc).Nodup){ms:List (Str×Str)}(hk:(ms.map (·.1)).Perm (d9 Pc)):((G3 cal nam ms).map (·.1)).Perm (d9 (k8 (j3 (d0 cal) Pc))):=by
 unfold G3
 rw[List.map_map]
 refine List.Perm.trans (List.Perm.of_eq ?_) ((hk.map (d6 (d0 cal))).trans rev_ren_nms.symm)
 rw[List.map_map];rfl
theorem bC (hC:Nam Pc cal)(ndP:(d9 Pc).Nodup){ms:List (Str×Str)}(hk:(ms.map (·.1)).Perm (d9 Pc)){n v:Str}(h:(n,v)∈ms):d6 (d0 (G3 cal nam ms)) (d6 (d0 cal) n)=d6 (d0 nam) v:=
 i3 (ms:=G3 cal nam ms) ((R0 hC ndP hk).nodup_iff.mpr (hC.ren_nd ndP)) (List.mem_map.mpr ⟨_,h,rfl⟩)
theorem key_of {ms:List (Str×Str)}(hk:(ms.map (·.1)).Perm (d9 Pc)){n:Str}(hn:n∈d9 Pc):∃v,(n,v)∈ms:=by
 obtain⟨x,hx,rfl⟩:=List.mem_map.mp (hk.mem_iff.mpr hn)
 exact⟨x.2,hx⟩
theorem jr (hC:Nam Pc cal)(hN:Nam W nam)(ndP:(d9 Pc).Nodup)(ndW:(d9 W).Nodup)(eP:∀x∈Pc.ts,x.2.2.1∈Pc.pts.map (·.1)∧x.2.2.2∈Pc.pts.map (·.1)){ms:List (Str×Str)}(hk:(ms.map (·.1)).Perm (d9 Pc))(f:FitP Pc W (d0 ms)):
  FitP (k8 (j3 (d0 cal) Pc)) (k8 (j3 (d0 nam) W)) (d0 (G3 cal nam ms)):=by
 have ndm:=hk.nodup_iff.mpr ndP
 have get:∀n∈d9 Pc,d6 (d0 (G3 cal nam ms)) (d6 (d0 cal) n)=d6 (d0 nam) (d6 (d0 ms) n):=fun n hn=>by
  obtain⟨v,hv⟩:=key_of hk hn
  rw[bC hC ndP hk hv,i3 ndm hv]
 have nk:=(R0 (nam:=nam) hC ndP hk)
 refine⟨?_,fun n hn=>?_,?_,fun x hx=>?_,fun x hx=>?_⟩
 ·rw[j8,←List.length_map (f:=fun x:Str×Str=>x.1)]
  exact nk.length_eq
 ·obtain⟨y,hy⟩:=key_of nk hn
  exact⟨y,J2 (nk.nodup_iff.mpr (hC.ren_nd ndP)) hy⟩
 ·refine(rev_ren_nms.map _).nodup_iff.mpr ?_
  rw[List.map_map]
  have e:(d9 Pc).map (d6 (d0 (G3 cal nam ms))∘d6 (d0 cal))=((d9 Pc).map (d6 (d0 ms))).map (d6 (d0 nam)):=by
   rw[List.map_map]
   exact List.map_congr_left fun n hn=>get n hn
  rw[e]
  refine cQ f.nd fun x hx y hy exy=>?_
  obtain⟨a,ha,rfl⟩:=List.mem_map.mp hx
  obtain⟨b,hb,rfl⟩:=List.mem_map.mp hy
  exact hN.inj ndW (dE f ha) (dE f hb) exy
 ·obtain⟨y,hy,rfl⟩:=List.mem_map.mp (List.mem_reverse.mp hx)
  show(d6 (d0 (G3 cal nam ms)) (d6 (d0 cal) y.1),y.2)∈_
  rw[get _ (nE hy)]
  exact List.mem_reverse.mpr (List.mem_map.mpr ⟨_,f.pts y hy,rfl⟩)
 ·obtain⟨y,hy,rfl⟩:=List.mem_map.mp (List.mem_reverse.mp hx)
  have he:=eP y hy
  show(d6 (d0 (G3 cal nam ms)) (d6 (d0 cal) y.1),(y.2.1,d6 (d0 (G3 cal nam ms)) (d6 (d0 cal) y.2.2.1),d6 (d0 (G3 cal nam ms)) (d6 (d0 cal) y.2.2.2)))∈_
  rw[get _ (mO hy),get _ (List.mem_append_left _ he.1),get _ (List.mem_append_left _ he.2)]
  exact List.mem_reverse.mpr (List.mem_map.mpr ⟨_,f.ts y hy,rfl⟩)
def iE (Pc S:y4)(cal nam:List (Str×Str))(row:List Str):List Str:=U5 S (G3 cal nam ((K4 Pc).zip row))
theorem P5 {row:List Str}(hl:row.length=(K4 Pc).length):(((K4 Pc).zip row).map (·.1)).Perm (d9 Pc):=by
 rw[List.map_fst_zip (by omega)]
 exact(y7 Pc).perm
theorem jE (hC:Nam Pc cal)(hN:Nam W nam)(ndP:(d9 Pc).Nodup)(ndW:(d9 W).Nodup)(eP:∀x∈Pc.ts,x.2.2.1∈Pc.pts.map (·.1)∧x.2.2.2∈Pc.pts.map (·.1)){row:List Str}(h:row∈p5 Pc W []):
  iE Pc (k8 (j3 (d0 cal) Pc)) cal nam row∈p5 (k8 (j3 (d0 cal) Pc)) (k8 (j3 (d0 nam) W)) []:=
 jN (hC.ren_nd ndP) (bf eP) (jr hC hN ndP ndW eP (P5 (X3 h)) (mem_rows.mp h).2.1)
theorem Z1 (hC:Nam Pc cal)(hN:Nam W nam)(ndP:(d9 Pc).Nodup)(ndW:(d9 W).Nodup)(eP:∀x∈Pc.ts,x.2.2.1∈Pc.pts.map (·.1)∧x.2.2.2∈Pc.pts.map (·.1)){row:List Str}(h:row∈p5 Pc W []):
  iE (k8 (j3 (d0 cal) Pc)) Pc (Q1 cal) (Q1 nam) (iE Pc (k8 (j3 (d0 cal) Pc)) cal nam row)=row:=by
 have hl:=X3 h
 have f:=(mem_rows.mp h).2.1
 have hk:=P5 (Pc:=Pc) hl
 have ndm:=hk.nodup_iff.mpr ndP
 have e:row=(K4 Pc).map (gv (K4 Pc) row):=(iK (bz ndP) hl).symm
 refine Eq.trans ?_ e.symm
 unfold iE U5
 refine List.map_congr_left fun n hn=>?_
 have hn':n∈d9 Pc:=(y7 Pc).perm.mem_iff.mp hn
 obtain⟨v,hv⟩:=key_of hk hn'
 have gvn:gv (K4 Pc) row n=v:=i3 ndm hv
 have vw:v∈d9 W:=by rw[←gvn];exact dE f hn'
 have cn:=qv (nam:=cal) hn'
 have cn':d6 (d0 cal) n∈K4 (k8 (j3 (d0 cal) Pc)):=(y7 _).perm.mem_iff.mpr cn
 have hm:(d6 (d0 cal) n,d6 (d0 nam) v)∈(K4 (k8 (j3 (d0 cal) Pc))).zip ((K4 (k8 (j3 (d0 cal) Pc))).map (d6 (d0 (G3 cal nam ((K4 Pc).zip row))))):=by
  rw[List.zip_map_right,List.mem_map]
  refine⟨(d6 (d0 cal) n,d6 (d0 cal) n),?_,?_⟩
  ·obtain⟨i,hi,e⟩:=List.getElem_of_mem cn'
   exact List.mem_iff_getElem.mpr ⟨i,by rw[List.length_zip];omega,by rw[List.getElem_zip,e]⟩
  ·show(d6 (d0 cal) n,d6 (d0 (G3 cal nam ((K4 Pc).zip row))) (d6 (d0 cal) n))=_
   rw[bC hC ndP hk hv]
 have z:=bC (nam:=Q1 nam) (hC.swp ndP) (hC.ren_nd ndP) (P5 (by rw[List.length_map])) hm
 rw[hC.back ndP hn',hN.back ndW vw] at z
 rw[z,gvn]
theorem lE (hC:Nam Pc cal)(hN:Nam W nam)(ndP:(d9 Pc).Nodup)(ndW:(d9 W).Nodup)(eP:∀x∈Pc.ts,x.2.2.1∈Pc.pts.map (·.1)∧x.2.2.2∈Pc.pts.map (·.1))(eW:∀x∈W.ts,x.2.2.1∈W.pts.map (·.1)∧x.2.2.2∈W.pts.map (·.1)):
  ((p5 Pc W []).map (iE Pc (k8 (j3 (d0 cal) Pc)) cal nam)).Perm (p5 (k8 (j3 (d0 cal) Pc)) (k8 (j3 (d0 nam) W)) []):=by
 have nd1:(p5 Pc W []).Nodup:=(bA ndW).imp fun{a b} ⟨j,x,y,hx,hy,_,hlt⟩ e=>by
  rw[e,hy] at hx
  cases hx
  exact List.lt_irrefl _ hlt
 have nd2:(p5 (k8 (j3 (d0 cal) Pc)) (k8 (j3 (d0 nam) W)) []).Nodup:=(bA (hN.ren_nd ndW)).imp fun{a b} ⟨j,x,y,hx,hy,_,hlt⟩ e=>by
  rw[e,hy] at hx
  cases hx
  exact List.lt_irrefl _ hlt
 refine(List.perm_ext_iff_of_nodup (cQ nd1 fun a ha b hb e=>?_) nd2).mpr fun r=>⟨fun h=>?_,fun h=>?_⟩
 ·rw[←Z1 hC hN ndP ndW eP ha,e,Z1 hC hN ndP ndW eP hb]
 ·obtain⟨row,hr,rfl⟩:=List.mem_map.mp h
  exact jE hC hN ndP ndW eP hr
 ·have b:=Z1 (hC.swp ndP) (hN.swp ndW) (hC.ren_nd ndP) (hN.ren_nd ndW) (bf eP) h
  have i:=jE (hC.swp ndP) (hN.swp ndW) (hC.ren_nd ndP) (hN.ren_nd ndW) (bf eP) h
  rw[hC.inv ndP eP,jX,jX] at b
  rw[hC.inv ndP eP,hN.inv ndW eW] at i
  exact List.mem_map.mpr ⟨_,i,b⟩
end
theorem eZ:∀{a b:List Str},A7 a=A7 b→a=b
 |[],[],_=>rfl
 |[],y::b,h=>by cases h
 |x::a,[],h=>by cases h
 |x::a,y::b,h=>by
  have h':x.cps.toList::A7 a=y.cps.toList::A7 b:=h
  rw[jb (List.cons.inj h').1,eZ (List.cons.inj h').2]
theorem jo:∀{a b:List Str},nV a b→A7 a<A7 b
 |[],b,⟨j,x,y,hx,_⟩=>by cases hx
 |a::as,[],⟨j,x,y,_,hy,_⟩=>by cases hy
 |a::as,b::bs,⟨j,x,y,hx,hy,he,hlt⟩=>by
  show a.cps.toList::A7 as<b.cps.toList::A7 bs
  rw[List.cons_lt_cons_iff]
  cases j with
  |zero=>
   cases hx;cases hy
   exact .inl hlt
  |succ j=>
   have e0:=he 0 (Nat.succ_pos j)
   cases e0
   exact .inr ⟨rfl,jo ⟨j,x,y,by simpa using hx,by simpa using hy,fun i hi=>by simpa using he (i+1) (by omega),hlt⟩⟩
theorem kl {rs:List (List Str)}{Pc W:y4}(nd:(d9 W).Nodup)(hp:rs.Perm (p5 Pc W []))(h:rs.Pairwise fun a b=>¬A7 b<A7 a):rs=p5 Pc W []:=by
 refine hp.eq_of_pairwise (le:=fun a b=>¬A7 b<A7 a) (fun a b _ _ h1 h2=>eZ (qH h2 h1)) h ((bA nd).imp fun{a b} z y=>?_)
 exact List.lt_irrefl _ (List.lt_trans (jo z) y)
def eX (K:PySem.W.Frag)(Pl:Addr):Sp:=fun vs H Q _=>∃(a:Addr) (ns:List Int),vs=[.ref a]∧SqL K H a (ns.map V.int)∧ns.length≤63∧H Pl=some (.tbl #[])∧∀H',Q (.bl true) H'
theorem eu {cs:List Int}{j:Nat}(h:j<cs.length)(hp:∀c∈cs,0≤c):∃c:Int,(cs.map V.int)[j]?=some (.int c)∧0≤c:=⟨cs[j],by rw[List.getElem?_map,List.getElem?_eq_getElem h];rfl,hp _ (List.getElem_mem h)⟩
theorem xh {m n:Nat}(hm:m≤9)(hn:n≤5):(m+1) ^ n≤1000000:=
 Nat.le_trans (Nat.pow_le_pow_left (show m+1≤10 by omega) n) (Nat.le_trans (Nat.pow_le_pow_right (by decide) hn) (by decide))
theorem E1 {t u:TS}{nx:L2.St→Hp→Prop}{rt:V→Hp→Prop}{bk ct:L2.St→Hp→Prop}{σ:L2.St}{H:Hp}(h:∀nx':L2.St→Hp→Prop,(∀σ H,u ⟨nx,rt,bk,ct⟩ σ H→nx' σ H)→t ⟨nx',rt,bk,ct⟩ σ H):mr t u ⟨nx,rt,bk,ct⟩ σ H:=h _ fun _ _ z=>z
def zP (H:Hp)(ord:Addr)(d:Addr×List Str):Prop:=∃(ms:List (Str×Str)) (names:List Str),H ord=some (.lst (names.map V.str))∧H d.1=some (.dK (d0 ms))∧(∀n∈names,TxtAt (d0 ms) n)∧d.2=names.map (d6 (d0 ms))∧names.length≤9
theorem nJ:∀H H' ord d,iV H H'→zP H ord d→zP H' ord d:=fun H H' ord d s ⟨ms,names,h1,h2,h3⟩=>⟨ms,names,s _ _ h1 (fun _ z=>nomatch z),s _ _ h2 (fun _ z=>nomatch z),h3⟩
theorem gW {H H':Hp}(s:iV H H'){a:Addr}{u:HO}(n:∀ps,u≠ .tbl ps)(h:Rd H a u):Rd H' a u:=by
 rcases h with h|⟨o,h⟩
 ·exact .inl (s _ _ h n)
 ·exact .inr ⟨o,s _ _ h (fun _ z=>nomatch z)⟩
theorem jq {H H':Hp}(s:iV H H'){a:Addr}{xs:List V}(h:SqT K H a xs):SqT K H' a xs:=by
 rcases h with h|h
 ·exact .inl (gW s (fun _ z=>nomatch z) h)
 ·exact .inr h
theorem jn {n:Nat}{H H':Hp}{a p q:Addr}{kvs:List (g4×V)}{W:y4}(s:iV H H')(h:WebIs n K H a p q kvs W):WebIs n K H' a p q kvs W:=
 ⟨⟨jq s h.at_.tup,gW s (fun _ z=>nomatch z) h.at_.pts,gW s (fun _ z=>nomatch z) h.at_.ties,Paired.imp' (fun _ _ ⟨e,b,eb,z⟩=>⟨e,b,eb,jq s z⟩) h.at_.ts⟩,s _ _ h.hp (fun _ z=>nomatch z),s _ _ h.hq (fun _ z=>nomatch z),h.ne,h.nd,h.len,h.ends,h.nl⟩
def DuAt (H:Hp)(cal nam:List (Str×Str))(nm:List Str)(xs:List V)(rows:List (List Str)):Prop:=Paired (fun v row=>∃d,v=V.ref d∧H d=some (.dK (d0 (G3 cal nam (nm.zip row))))) xs rows
theorem DuAt.same {H H':Hp}{cal nam:List (Str×Str)}{nm:List Str}{xs:List V}{rows:List (List Str)}(h:DuAt H cal nam nm xs rows)(s:Same H H'):DuAt H' cal nam nm xs rows:=Paired.imp' (fun _ _ ⟨d,e,z⟩=>⟨d,e,s _ _ z⟩) h
theorem qA {H:Hp}{ld:Addr}{zs:List V}{o:HO}{nm:List Str}{xs:List V}{rows:List (List Str)}(h:H ld=some (.lst zs))(dc:DcAt H nm xs rows):DcAt (i6 H ld o) nm xs rows:=Paired.imp' (fun _ _ ⟨d,e,z⟩=>⟨d,e,by rw[b0 (fun q=>by rw[q,h] at z;cases z)];exact z⟩) dc
theorem rZ {H:Hp}{ld:Addr}{zs:List V}{o:HO}{cal nam:List (Str×Str)}{nm:List Str}{xs:List V}{rows:List (List Str)}(h:H ld=some (.lst zs))(dc:DuAt H cal nam nm xs rows):DuAt (i6 H ld o) cal nam nm xs rows:=Paired.imp' (fun _ _ ⟨d,e,z⟩=>⟨d,e,by rw[b0 (fun q=>by rw[q,h] at z;cases z)];exact z⟩) dc
theorem wm {H:Hp}{cal nam:List (Str×Str)}{nm:List Str}{zs:List V}{rows:List (List Str)}(h:DuAt H cal nam nm zs rows):∃es:List Addr,zs=es.map V.ref∧es.length=rows.length∧∀(i:Nat) (e:Addr) (row:List Str),es[i]?=some e→rows[i]?=some row→H e=some (.dK (d0 (G3 cal nam (nm.zip row)))):=by
 unfold DuAt at h
 induction h with
 |nil=>exact⟨[],rfl,rfl,fun i e row h=>by simp at h⟩
 |cons a t ih=>
  obtain⟨d,rfl,hd⟩:=a
  obtain⟨es,rfl,hl,ih⟩:=ih
  refine⟨d::es,rfl,by simp [hl],fun i e row h1 h2=>?_⟩
  cases i with
  |zero=>cases h1;cases h2;exact hd
  |succ i=>exact ih i e row (by simpa using h1) (by simpa using h2)
structure zW (H:Hp) (S R:y4) (d:Addr×List Str):Prop where
 at_:∃ms:List (Str×Str),H d.1=some (.dK (d0 ms))∧d.2=U5 S ms∧(ms.map (·.1)).Perm (d9 S)∧FitP S R (d0 ms)
set_option maxHeartbeats 8000000 in
theorem uv {f c Pl:Addr}{fd:FuncData}(T:Txt K mg)(F5:P0 P w K mg base)(T5:bE P w K mg base)(N5:X1 P w K mg base)(A4:U7 P w K mg base)(L4:W0 P w K mg base)(L8:V7 P w K mg base)(D1:S3 P w K mg base)(C2:Q3 P w K mg base)(cU:Z6 P w K mg base C7 7 "matches" ["piece","web","fixed"] [] (G0 K))(G6:Z6 P w K mg base C7 7 "matches" ["piece","web","fixed"] [.non] (G0 K))(CC:PySem.W.CodeHd base c Pl)(BB:Q0 mg base)(hcd:fd.code= .ref c)(F:Fun K "law" "law" gG f fd):A0 P w K mg base C7 8 f fd ["_law_script"] (eX K Pl):=by
 refine F.okT hcd sc_law (fun vs H Q E h=>?_) (fun A outer s H vs Q E hr h=>?_)
 ·obtain⟨a,ns,rfl,_⟩:=h
  rfl
 ·obtain⟨a,ns,rfl,hA,hl,hPl,k⟩:=h
  have hN:=sc_law.nd
  have hu:=A5 hr
  refine⟨_,QSs.r (u6 (V5 (i:=1) hN rfl (by walk_at "l") (own:=["_law_k"]) (js:=[0]) (by kernel_rfl) rfl (lN T.b_range (i0 h7 k4)) (fun _ _ _ _=>(R5 (i:=0) (show List.Nodup (["_law_k","_law_script"]:List Str) by decide+kernel) rfl (by walk_at "l"))) (fun _ _ _ _=>lZ) (fun _ _ _ _=>(qC F5 (hr.mono (by decide)) p8 (i0 (qV 1) (i0 (qV 0) k4)))))
   (u6 (j7 (i:=2) hN rfl (by walk_at "l") (qC T5 (hr.mono (by decide)) p8 (i0 (qC L4 (hr.mono (by decide)) p8 (i0 (qV 0) (i0 h7 (i0 h7 k4)))) (i0 (qC A4 (hr.mono (by decide)) p8 (i0 (u7 (u9 K hu) (qV 1) h7 (fun _ _=>rfl)) (i0 h7 k4))) (i0 (qC N5 (hr.mono (by decide)) p8 (i0 (u7 (u9 K hu) (qV 1) h7 (fun _ _=>rfl)) k4)) (i0 h7 k4))))))
   (u6 (T3 (qC L8 (hr.mono (by decide)) p8 (i0 (qV 2) (i0 (u7 (u9 K hu) (qV 1) h7 (fun _ _=>rfl)) (i0 (qC A4 (hr.mono (by decide)) p8 (i0 (u7 (u9 K hu) (qV 1) h7 (fun _ _=>rfl)) (i0 h7 k4))) (i0 h7 k4))))) (xy K rfl (qb (R5 (i:=3) hN rfl (by walk_at "l")) (qb (R5 (i:=4) hN rfl (by walk_at "l")) vX))))
   (u6 (j7 (i:=5) hN rfl (by walk_at "l") (qC D1 (hr.mono (by decide)) p8 (i0 (qV 2) (i0 (qC A4 (hr.mono (by decide)) p8 (i0 (C4 (O4 K) (C4 t7 (u7 (u9 K hu) (qV 1) h7 (fun _ _=>rfl)) h7) (C4 t7 (u7 (u9 K hu) (qV 1) h7 (fun _ _=>rfl)) h7)) (i0 h7 k4))) k4))))
   (u6 (j7 (i:=6) hN rfl (by walk_at "l") (qC D1 (hr.mono (by decide)) p8 (i0 (qV 3) (i0 (qC A4 (hr.mono (by decide)) p8 (i0 (C4 (O4 K) (C4 t7 (u7 (u9 K hu) (qV 1) h7 (fun _ _=>rfl)) h7) (C4 t7 (u7 (u9 K hu) (qV 1) h7 (fun _ _=>rfl)) h7)) (i0 h7 k4))) k4))))
   (u6 (j7 (i:=7) hN rfl (by walk_at "l") (qC C2 (hr.mono (by decide)) p8 (i0 (qV 2) (i0 (qV 5) k4))))
   (u6 (j7 (i:=8) hN rfl (by walk_at "l") (qC C2 (hr.mono (by decide)) p8 (i0 (qV 3) (i0 (qV 6) k4))))
   (u6 (j7 (i:=9) hN rfl (by walk_at "l") (cq k4))
   (u6 (U0 PassesOwn.never rfl (R1 K (qC G6 (hr.mono (by decide)) p8 (i0 (qV 3) (i0 (qV 2) k4)))) (R5 (i:=10) hN rfl (by walk_at "l"))
    (u6 (j7 (i:=11) hN rfl (by walk_at "l") mh)
   (u6 (U0 PassesOwn.never rfl (R1 K (qV 10)) (R5 (i:=12) hN rfl (by walk_at "l"))
    (D9 (T3 (u7 (u9 K hu) (qV 5) (u7 (u9 K hu) (qV 10) (qV 12) (fun _ _=>rfl)) (fun _ _=>rfl)) (iZ (qV 11) (u7 (u9 K hu) (qV 6) (qV 12) (fun _ _=>rfl)) (k6 P w hu)))))
   (D9 (vV (qM PySem.F.plainAttrs_list PySem.F.slot_list_append PySem.F.type_list_append r9 K (qV 9) (i0 (qV 11) k4)))))))
   (u6 (j7 (i:=13) hN rfl (by walk_at "l") (C4 (O4 K) (qB (C9 K rfl) T.b_sorted Boot.«sorted» (i0 (u7 (u9 K hu) (qV 8) h7 (fun _ _=>rfl)) k4)) (qB (C9 K rfl) T.b_sorted Boot.«sorted» (i0 (u7 (u9 K hu) (qV 8) h7 (fun _ _=>rfl)) k4))))
   (u6 (j7 (i:=9) hN rfl (by walk_at "l") (pS (k:=3) (x:="_law_one") (y:="_law_order") (j:=13) nJ hr rfl T.b_sorted rfl CC BB rfl rfl rfl (i0 (qV 9) k4) rfl rfl (by decide) rfl rfl rfl (fun _ _ _ _ _ _=>rfl) (fun qual f c' cy A outer s H hr=>have hu:=A5 hr;(af (own:=["_law_name"]) (js:=[0]) (by kernel_rfl) rfl (R1 K (qV 1)) (fun _ _ _ _=>(R5 (i:=0) (show List.Nodup (["_law_name","_law_one"]:List Str) by decide+kernel) rfl (by walk_at "l"))) (fun _ _ _ _=>lZ) (fun _ _ _ _=>(u7 (u9 K hu) (qV 1) (qV 0) (fun _ _=>rfl))))) ?hread))
   (D9 (E5 (xV (iW oY (qV 4) tX (r6 _)) (xV (iW (V6 K hr) (qC G6 (hr.mono (by decide)) p8 (i0 (qV 8) (i0 (qV 7) k4))) (qV 9) (r6 _)) (zr (iW sk (qB (E6 K P w) T.b_len Boot.«len» (i0 (qV 9) k4)) h7 (r6 _)))))))))))))))))),?_⟩
  case hread=>
   rintro H ord d Q ⟨ms,names,h1,h2,h3,h4,h5⟩ k
   walk_at "e"
   refine q9 (SqL.of h1) ?_
   refine B1 (n:=names.length) (fun i out H'=>H'=H∧out=(names.take i).map fun n=>V.str (d6 (d0 ms) n)) ⟨rfl,rfl⟩ (fun i out H' hi hp=>⟨names.map V.str,.str (names[i]),SqL.of (by rw[hp.1];exact h1),by rw[List.getElem?_map,List.getElem?_eq_getElem hi];rfl⟩) ?_ ?_
   ·rintro N j v out H5 H5' hj ⟨rfl,rfl⟩ y hN'
    obtain⟨rfl,hy⟩:=Itl.get y (SqL.of h1)
    rw[List.getElem?_map] at hy
    obtain⟨n,hn,rfl⟩:=Option.map_eq_some_iff.mp hy
    walk_at "e"
    refine⟨rfl,?_⟩
    walk_at "e"
    refine qd (.inl h2) (h3 n (List.mem_of_getElem? hn)) ?_
    refine⟨g7 (by rw[List.length_map,List.length_take];omega),hN' _ _ ⟨rfl,?_⟩⟩
    rw[List.take_succ,hn,List.map_append];rfl
   ·rintro out H5 ⟨rfl,rfl⟩
    refine⟨⟨_,SqL.of h1,by rw[List.length_map];exact Nat.le_refl _⟩,fun D hD=>⟨g7 (by rw[List.length_map,List.length_take];omega),?_⟩⟩
    rw[List.take_of_length_le (Nat.le_refl _)]
    refine k D _ hD (fun b o e=>?_) ?_
    ·show i6 H5 D _ b=some o
     rw[b0 (b9 e hD)];exact e
    ·show i6 H5 D _ D=_
     rw[c8,h4,List.map_map];rfl
  refine B6 ?_
  walk_at "e"
  refine Q7 (by omega) (by omega) ?_
  refine B1 (n:=4) (fun i out H'=>Same H H'∧∃cs:List Int,out=cs.map V.int∧cs.length=i∧∀c∈cs,0≤c) ⟨Same.refl _,[],rfl,rfl,fun _ h=>nomatch h⟩ (fun i out H' hi _=>by exact hi) ?_ ?_
  ·rintro N i v out H1' H1 hi ⟨s1,cs,rfl,hcl,hcp⟩ ⟨rfl,rfl⟩ hN'
   walk_at "e"
   refine⟨rfl,?_⟩
   walk_at "e"
   refine⟨a,ns,_,rfl,s1.seq hA,hl,by omega,fun c hc=>?_⟩
   refine⟨g7 (by rw[List.length_map];omega),hN' _ _ ⟨s1,cs++[c],by rw[List.map_append];rfl,by rw[List.length_append,hcl];rfl,fun x hx=>?_⟩⟩
   rcases List.mem_append.mp hx with z|z
   ·exact hcp x z
   ·rw[List.mem_singleton.mp z];exact hc
  rintro out H1 ⟨s1,cs4,rfl,hcl4,hcp4⟩
  refine⟨Nat.le_refl _,fun lcs hlcs=>⟨g7 (by rw[List.length_map];omega),?_⟩⟩
  obtain⟨H2,e2,f2,m2,_⟩:=c9 (H:=H1) (o:= .lst (cs4.map V.int)) hlcs
  change O1 _ _ _ (i6 H1 lcs (.lst (cs4.map V.int))) _
  rw[e2]
  have m02:=s1.trans m2
  obtain⟨c1,g1,hc1⟩:=eu (cs:=cs4) (j:=1) (by omega) hcp4
  obtain⟨c0,g0,hc0⟩:=eu (cs:=cs4) (j:=0) (by omega) hcp4
  obtain⟨c2,g2,hc2⟩:=eu (cs:=cs4) (j:=2) (by omega) hcp4
  obtain⟨c3,g3,hc3⟩:=eu (cs:=cs4) (j:=3) (by omega) hcp4
  walk_at "e"
  refine E1 fun nx2 hx=>?_
  walk_at "e"
  refine⟨a,ns,rfl,m02.seq hA,hl,fun lc H4 cs n4 m4 f4 hcl hcs=>?_⟩
  walk_at "e"
  refine i4 (SqL.of (m4 _ _ f2)) (d7 (j:=1) g1) ?_
  walk_at "e"
  refine⟨c1,9,rfl,hc1,by omega,by omega,fun ln H5 ss n5 m5 f5 ⟨hs1,hs2,hs3⟩=>?_⟩
  walk_at "e"
  refine i4 (SqL.of ((m4.trans m5) _ _ f2)) (d7 (j:=0) g0) ?_
  walk_at "e"
  refine⟨c0,rfl,hc0,fun lk H6 ks n6 m6 f6 hk=>?_⟩
  walk_at "e"
  refine⟨lc,ln,lk,cs,ss,ks,rfl,SqL.of (m6 _ _ (m5 _ _ f4)),SqL.of (m6 _ _ f5),SqL.of f6,hcl,hs1,hk,hs2,hs3,fun b p q kvs W H7 m7 hW=>?_⟩
  have m27:=m4.trans (m5.trans (m6.trans m7))
  have f27:=m27 _ _ f2
  have m07:=m02.trans m27
  walk_at "e"
  refine hx [some (.ref a),some (.ref lcs),some (.ref b),none,none,none,none,none,none,none,none,none,none,none] _ ?_
  clear hx f4 f5 f6 hcl hcs hs1 hs2 hs3 hk n4 n5 n6 m4 m5 m6 m7 e2 m2 f2
  refine E1 fun nx3 hx=>?_
  walk_at "e"
  refine i4 (SqL.of f27) (d7 (j:=2) g2) ?_
  walk_at "e"
  refine i4 (SqL.of f27) (d7 (j:=3) g3) ?_
  walk_at "e"
  refine⟨c3,16,rfl,hc3,by omega,by omega,fun ln2 H8 ss2 n8 m8 f8 ⟨ht1,ht2,ht3⟩=>?_⟩
  walk_at "e"
  refine⟨b,p,q,ln2,kvs,W,ss2,c2,rfl,hW.same m8,SqL.of f8,ht1,ht2,ht3,fun t b2 p2 q2 d kvs2 Pc ms H9 m9 f9 hP hd fit nd0 hdp hdq ndk hml hms=>?_⟩
  have m79:=m8.trans m9
  have W9:=hW.same m79
  have f29:=m79 _ _ f27
  have m09:=m07.trans m79
  refine bL (SqT.of f9) rfl ?_
  walk_at "e"
  refine hx [some (.ref a),some (.ref lcs),some (.ref b),some (.ref b2),some (.ref d),none,none,none,none,none,none,none,none,none] _ ?_
  clear hx f8 ht1 ht2 ht3 n8 m8 m9 f9 f27 m27
  refine E1 fun nx4 hx=>?_
  walk_at "e"
  refine i4 (SqL.of f29) (d7 (j:=0) g0) ?_
  walk_at "e"
  refine i4 (SqL.of f29) (d7 (j:=2) g2) ?_
  walk_at "e"
  refine⟨_,14,rfl,by omega,by omega,by omega,fun l3 HA ss3 nA mA fA ⟨hu1,hu2,hu3⟩=>?_⟩
  walk_at "e"
  refine⟨b,p,q,l3,kvs,W,ss3,rfl,W9.same mA,fA,by omega,hu2,hu3,fun dn HB nam nB mB fB hNm hsn=>?_⟩
  have m9B:=mA.trans mB
  have fB2:=m9B _ _ f29
  walk_at "e"
  refine hx [some (.ref a),some (.ref lcs),some (.ref b),some (.ref b2),some (.ref d),some (.ref dn),none,none,none,none,none,none,none,none] _ ?_
  clear hx hu1 hu2 hu3 fA nA nB f29 g0 g2
  refine E1 fun nx5 hx=>?_
  walk_at "e"
  refine i4 (SqL.of fB2) (d7 (j:=1) g1) ?_
  walk_at "e"
  refine i4 (SqL.of fB2) (d7 (j:=3) g3) ?_
  walk_at "e"
  refine⟨_,16,rfl,by omega,by omega,by omega,fun l4 HC ss4 nC mC fC ⟨hu1,hu2,hu3⟩=>?_⟩
  walk_at "e"
  refine⟨b2,p2,q2,l4,kvs2,Pc,ss4,rfl,(hP.same (m9B.trans mC)).up (by omega),fC,by omega,hu2,hu3,fun dc HD cal nD mD fD hCl hsc=>?_⟩
  have mBD:=mC.trans mD
  have m9D:=m9B.trans mBD
  have fnD:=mBD _ _ fB
  have WD:=W9.same m9D
  have PD:=hP.same m9D
  have m0D:=m09.trans m9D
  walk_at "e"
  refine hx [some (.ref a),some (.ref lcs),some (.ref b),some (.ref b2),some (.ref d),some (.ref dn),some (.ref dc),none,none,none,none,none,none,none] _ ?_
  clear hx hu1 hu2 hu3 fC nC nD fB2 fB g1 g3 mA mB mC mD
  refine E1 fun nx6 hx=>?_
  walk_at "e"
  refine⟨b,p,q,dn,kvs,W,nam,rfl,WD,fnD,hNm,hsn,fun aw pw qw kvw HE mE OW=>?_⟩
  walk_at "e"
  refine hx [some (.ref a),some (.ref lcs),some (.ref b),some (.ref b2),some (.ref d),some (.ref dn),some (.ref dc),some (.ref aw),none,none,none,none,none,none] _ ?_
  clear hx
  refine E1 fun nx7 hx=>?_
  walk_at "e"
  refine⟨b2,p2,q2,dc,kvs2,Pc,cal,rfl,(PD.same mE).up (by omega),mE _ _ fD,hCl,hsc,fun ap pp qp kvp HF mF OP=>?_⟩
  have mDF:=mE.trans mF
  have OWF:=OW.same mF
  have WF:=WD.same mDF
  have PF:=PD.same mDF
  have fnF:=mDF _ _ fnD
  have fcF:=mDF _ _ fD
  have m0F:=m0D.trans mDF
  walk_at "e"
  refine hx [some (.ref a),some (.ref lcs),some (.ref b),some (.ref b2),some (.ref d),some (.ref dn),some (.ref dc),some (.ref aw),some (.ref ap),none,none,none,none,none] _ ?_
  clear hx mE mF OW WD PD fnD fD hsn hsc m0D mDF
  refine E1 fun nx8 hx=>?_
  walk_at "e"
  refine⟨g7 (by simp),fun ld nld=>?_⟩
  obtain⟨HG,eG,fG,mG,_⟩:=c9 (o:= .lst []) nld
  rw[eG]
  walk_at "e"
  refine hx [some (.ref a),some (.ref lcs),some (.ref b),some (.ref b2),some (.ref d),some (.ref dn),some (.ref dc),some (.ref aw),some (.ref ap),some (.ref ld),none,none,none,none] _ ?_
  clear hx eG
  refine E1 fun nx9 hx=>?_
  walk_at "e"
  refine⟨b2,p2,q2,b,p,q,kvs2,kvs,Pc,W,[],.non,rfl,⟨(PF.same mG).up (by omega),(WF.same mG).up (by omega),xh WF.len PF.len,List.nodup_nil,fun _ h=>nomatch h⟩,.inl ⟨rfl,rfl⟩,fun le HH xs nH mH fH dcH hbig hnew=>?_⟩
  have ndP:=PF.nd
  have ndW:=WF.nd
  have hxl:=Paired.length dcH
  have hnC:=bz ndP
  have m0G:=m0F.trans mG
  show oh K (.ref le) HH _
  refine q9 (SqL.of fH) ?_
  refine M4 (n:=xs.length) (fun i σ H'=>∃(v10 v11 v12:Option V) (zs:List V),σ=[some (.ref a),some (.ref lcs),some (.ref b),some (.ref b2),some (.ref d),some (.ref dn),some (.ref dc),some (.ref aw),some (.ref ap),some (.ref ld),v10,v11,v12,none]∧Same HF H'∧H' le=some (.lst xs)∧DcAt H' (K4 Pc) xs (p5 Pc W [])∧H' ld=some (.lst zs)∧DuAt H' cal nam (K4 Pc) zs ((p5 Pc W []).take i)) ⟨none,none,none,[],rfl,mG.trans mH,fH,dcH,mH _ _ fG,.nil⟩ (fun i σ H' hi hp=>?_) ?_ ?_
  ·obtain⟨_,_,_,zs,_,_,f,_⟩:=hp
   exact⟨xs,xs[i],SqL.of f,List.getElem?_eq_getElem hi⟩
  ·rintro bk i v σ H8' H8 hi ⟨v10,v11,v12,zs,rfl,s8,fl8,dc8,fd8,du8⟩ y
   obtain⟨rfl,hy⟩:=Itl.get y (SqL.of fl8)
   obtain⟨row,hr,e1,rfl,he1⟩:=A1 dc8 hy
   have hrow:=List.mem_of_getElem? hr
   obtain⟨e1',ee,n1⟩:=hnew _ (List.mem_of_getElem? hy)
   cases ee
   have hrl:=X3 hrow
   have hfit:=(mem_rows.mp hrow).2.1
   have hkz:=P5 (Pc:=Pc) hrl
   have ndz:=hkz.nodup_iff.mpr ndP
   have ed:e1≠dn:=(b9 (mG _ _ fnF) n1).symm
   have ec:e1≠dc:=(b9 (mG _ _ fcF) n1).symm
   have zl:zs.length=i:=by have:=Paired.length du8;rw[List.length_take] at this;omega
   walk_at "e"
   refine E1 fun nz1 hz=>?_
   walk_at "e"
   intro eo neo
   obtain⟨H9,e9,f9,m9,_⟩:=c9 (o:= .dK []) neo
   rw[e9]
   walk_at "e"
   refine hz [some (.ref a),some (.ref lcs),some (.ref b),some (.ref b2),some (.ref d),some (.ref dn),some (.ref dc),some (.ref aw),some (.ref ap),some (.ref ld),some (.ref e1),some (.ref eo),v12,none] _ ?_
   clear hz
   refine E1 fun nz2 hz=>?_
   walk_at "e"
   have he9:=m9 _ _ he1
   have eoe:eo≠e1:=(b9 he1 neo).symm
   refine my he9 (fun ndp o7=>?_)
   refine M4 (n:=(d0 ((K4 Pc).zip row)).length) (fun i σ H'=>Same (A8 e1 o7 (d0 ((K4 Pc).zip row)) H8) H'∧(∃v12,σ=[some (.ref a),some (.ref lcs),some (.ref b),some (.ref b2),some (.ref d),some (.ref dn),some (.ref dc),some (.ref aw),some (.ref ap),some (.ref ld),some (.ref e1),some (.ref eo),v12,none])∧H' eo=some (.dK (d0 ((G3 cal nam ((K4 Pc).zip row)).take i)))) ⟨bP m9,⟨_,rfl⟩,by rw[F7 eoe];exact f9⟩ (fun i σ H' hi hp=>⟨hp.1 _ _ c8,hi⟩) ?_ ?_
   ·rintro bk2 i2 v σ HA' HA hi2 ⟨sA,⟨v12',rfl⟩,gA⟩ ⟨rfl,kv,hkv,rfl⟩
    obtain⟨x,hx,rfl⟩:=je hkv
    have hxm:=List.mem_of_getElem? hx
    have hn1:x.1∈d9 Pc:=hkz.mem_iff.mp (List.mem_map.mpr ⟨x,hxm,rfl⟩)
    have hv1:x.2∈d9 W:=by
     have z:=dE hfit hn1
     rw[i3 ndz (show(x.1,x.2)∈_ from hxm)] at z
     exact z
    have fnA:HA dn=some (.dK (d0 nam)):=sA _ _ (by rw[F7 ed.symm];exact s8 _ _ fnF)
    have fcA:HA dc=some (.dK (d0 cal)):=sA _ _ (by rw[F7 ec.symm];exact s8 _ _ fcF)
    have rdA:Rd HA e1 (.dK (d0 ((K4 Pc).zip row))):= .inr ⟨o7,sA _ _ c8⟩
    have hri:(G3 cal nam ((K4 Pc).zip row))[i2]?=some (d6 (d0 cal) x.1,d6 (d0 nam) x.2):=by
     unfold G3
     rw[List.getElem?_map,hx];rfl
    have hnw:d6 (d0 cal) x.1∉((G3 cal nam ((K4 Pc).zip row)).take i2).map (·.1):=by
     rw[List.map_take]
     exact aR ((R0 hCl ndP hkz).nodup_iff.mpr (hCl.ren_nd ndP)) (by rw[List.getElem?_map,hri];rfl)
    walk_at "e"
    refine qd rdA ⟨x.2,J2 ndz hxm⟩ ?_
    rw[i3 ndz (show(x.1,x.2)∈_ from hxm)]
    refine qd (.inl fnA) (hNm.tx ndW _ hv1) ?_
    walk_at "e"
    refine qd (.inl fcA) (hCl.tx ndP _ hn1) ?_
    refine E7 (j4 (k:=Sum.inr (d6 (d0 cal) x.1)) gA (g7 (by rw[j8,List.length_take];rw[j8] at hi2;have:=hkz.length_eq;rw[List.length_map] at this;have:=PF.len;omega)) ?_)
    rw[G8 hnw]
    refine⟨x8 sA (by rw[F7 eoe];exact neo),⟨_,rfl⟩,?_⟩
    rw[c8,List.take_succ,hri];rfl
   rintro σ HA ⟨sA,⟨v12',rfl⟩,gA⟩
   refine⟨⟨sA _ _ c8,Nat.le_refl _⟩,?_⟩
   have sT:=sA.thaw he1
   rw[List.take_of_length_le (by rw[j8];unfold G3;rw[List.length_map];exact Nat.le_refl _)] at gA
   have gT:thaw e1 HA eo=some (.dK (d0 (G3 cal nam ((K4 Pc).zip row)))):=by rw[G5 eoe];exact gA
   generalize thaw e1 HA=HT at sT gT⊢
   refine hz [some (.ref a),some (.ref lcs),some (.ref b),some (.ref b2),some (.ref d),some (.ref dn),some (.ref dc),some (.ref aw),some (.ref ap),some (.ref ld),some (.ref e1),some (.ref eo),v12',none] HT ?_
   clear hz
   walk_at "e"
   have fdT:=sT _ _ fd8
   have ldl:le≠ld:=fun z=>by rw[z,fG] at nH;cases nH
   refine⟨.inl ⟨rfl,_,SqL.of fdT⟩,?_⟩
   walk_at "e"
   refine⟨ld,zs,.ref eo,rfl,rfl,fdT,by rw[zl,sizeLine_eq];omega,?_⟩
   refine⟨_,_,_,zs++[.ref eo],rfl,x8 (s8.trans sT) nld,by rw[b0 ldl];exact sT _ _ fl8,qA fdT (dc8.same sT),c8,?_⟩
   rw[List.take_succ,hr]
   exact j5 (rZ fdT (du8.same sT)) ⟨eo,rfl,by rw[b0 (fun z=>by rw[z,fdT] at gT;cases gT)];exact gT⟩
  rintro σ HI ⟨v10,v11,v12,zs,rfl,s8,fl8,dc8,fd8,du8⟩
  refine⟨⟨_,SqL.of fl8,Nat.le_refl _⟩,?_⟩
  rw[List.take_of_length_le (by omega)] at du8
  show nx9 _ HI
  refine hx [some (.ref a),some (.ref lcs),some (.ref b),some (.ref b2),some (.ref d),some (.ref dn),some (.ref dc),some (.ref aw),some (.ref ap),some (.ref ld),v10,v11,v12,none] HI ?_
  clear hx dcH hnew mH fH nH dc8 fl8
  have OPI:=OP.same s8
  have OWI:=OWF.same s8
  have lS:=OPI.len
  rw[C1] at lS
  refine E1 fun nxA hx=>?_
  walk_at "e"
  refine g5 OPI.at_.tup (d7 (j:=0) rfl) ?_
  walk_at "e"
  refine l7 (ss:=(k8 (j3 (d0 cal) Pc)).pts.map (·.1)) OPI.at_.pts (by rw[B0,k9]) (by rw[List.length_map];omega) (fun s1' a1 a2 l1 n1=>?_)
  obtain⟨HJ,eJ,fJ,mJ,_⟩:=c9 (o:= .lst _) n1
  rw[eJ]
  have OPJ:=OPI.same mJ
  walk_at "e"
  refine g5 OPJ.at_.tup (d7 (j:=1) rfl) ?_
  walk_at "e"
  refine l7 (ss:=(k8 (j3 (d0 cal) Pc)).ts.map (·.1)) OPJ.at_.ties (by rw[OPJ.at_.ts.keys,k9]) (by rw[List.length_map];omega) (fun s2' y1 y2 l2 n2=>?_)
  obtain⟨HK,eK,fK,mK,_⟩:=c9 (o:= .lst _) n2
  rw[eK]
  have e1:s1'=eI (k8 (j3 (d0 cal) Pc)):=p6 a2 (U6 _) (a1.nodup_iff.mpr (B4 OPI.nd)) (a1.trans (J3 _).symm)
  have e2:s2'=dM (k8 (j3 (d0 cal) Pc)):=p6 y2 (U6 _) (y1.nodup_iff.mpr (J5 OPI.nd)) (y1.trans (J3 _).symm)
  have g1:=a1.length_eq
  have g2:=y1.length_eq
  rw[List.length_map] at g1 g2
  refine gn (mK _ _ fJ) fK (g7 (by rw[List.length_map,List.length_map];omega)) (fun lo n3=>?_)
  obtain⟨HL,eL,fL,mL,_⟩:=c9 (o:= .lst _) n3
  rw[eL]
  have mIL:=mJ.trans (mK.trans mL)
  have fo:HL lo=some (.lst ((K4 (k8 (j3 (d0 cal) Pc))).map V.str)):=by rw[fL,e1,e2,←List.map_append];rfl
  have OPL:=OPI.same mIL
  have OWL:=OWI.same mIL
  have duL:=du8.same mIL
  have fdL:=mIL _ _ fd8
  have hPL:HL Pl=some (.tbl #[]):=(m0F.trans (s8.trans mIL)) _ _ hPl
  walk_at "e"
  refine hx [some (.ref a),some (.ref lcs),some (.ref b),some (.ref b2),some (.ref d),some (.ref dn),some (.ref dc),some (.ref aw),some (.ref ap),some (.ref ld),v10,v11,v12,some (.ref lo)] _ ?_
  clear hx eJ eK eL fJ fK fL n1 n2 n3 a1 a2 y1 y2 e1 e2 g1 g2 OPI OWI OPJ du8 fd8 mJ mK mL
  obtain⟨es,rfl,esl,hes⟩:=wm duL
  have rp:=lE hCl hNm ndP ndW PF.ends WF.ends
  have rne:0<(p5 Pc W []).length:=List.length_pos_of_mem (jN ndP PF.ends fit)
  have hal:∀d∈es.zip ((p5 Pc W []).map (iE Pc (k8 (j3 (d0 cal) Pc)) cal nam)),zW HL (k8 (j3 (d0 cal) Pc)) (k8 (j3 (d0 nam) W)) d:=fun d hd=>by
   obtain⟨i,hi,e⟩:=List.getElem_of_mem hd
   rw[List.getElem_zip,List.getElem_map] at e
   rw[List.length_zip,List.length_map] at hi
   have hi1:i<es.length:=by omega
   have hi2:i<(p5 Pc W []).length:=by omega
   have hr:=List.getElem_mem hi2
   have hz:=P5 (Pc:=Pc) (X3 hr)
   rw[←e]
   exact⟨_,hes i _ _ (List.getElem?_eq_getElem hi1) (List.getElem?_eq_getElem hi2),rfl,R0 hCl ndP hz,jr hCl hNm ndP ndW PF.ends hz (mem_rows.mp hr).2.1⟩
  have nmS:=jf (Pc:=k8 (j3 (d0 cal) Pc))
  refine E1 fun nxB hx=>?_
  walk_at "e"
  unfold L2.tSortK
  walk_at "e"
  refine⟨ld,lo,es.zip ((p5 Pc W []).map (iE Pc (k8 (j3 (d0 cal) Pc)) cal nam)),rfl,rfl,?_,hPL,fun d hd=>?_,fun ds' pd pws p9 HM np sT f9=>?_⟩
  ·rw[fdL,show(fun d:Addr×List Str=>V.ref d.1)=V.ref∘Prod.fst from rfl,←List.map_map,List.map_fst_zip (by rw[List.length_map];omega)]
  ·obtain⟨ms',z1,z2,z3,z4⟩:=(hal d hd).at_
   refine⟨ms',K4 (k8 (j3 (d0 cal) Pc)),fo,z1,fun n hn=>?_,z2,by have:=OPL.len;omega⟩
   obtain⟨y,hy⟩:=key_of z3 (nmC_mem.mp hn)
   exact⟨y,J2 (z3.nodup_iff.mpr OPL.nd) hy⟩
  have OPM:=jn sT OPL
  have OWM:=jn sT OWL
  have hM:∀d∈ds',zW HM (k8 (j3 (d0 cal) Pc)) (k8 (j3 (d0 nam) W)) d:=fun d hd=>by
   obtain⟨ms',z1,z2⟩:=(hal d (pd.mem_iff.mp hd)).at_
   exact⟨ms',sT _ _ z1 (fun _ z=>nomatch z),z2⟩
  have hrows:ds'.map (·.2)=p5 (k8 (j3 (d0 cal) Pc)) (k8 (j3 (d0 nam) W)) []:=by
   refine kl OWM.nd (((pd.map (·.2)).trans (List.Perm.of_eq ?_)).trans rp) (List.pairwise_map.mpr pws)
   exact List.map_snd_zip (by rw[List.length_map];omega)
  have hdl:ds'.length=(p5 Pc W []).length:=by rw[pd.length_eq,List.length_zip,List.length_map];omega
  walk_at "e"
  refine hx [some (.ref a),some (.ref lcs),some (.ref b),some (.ref b2),some (.ref d),some (.ref dn),some (.ref dc),some (.ref aw),some (.ref ap),some (.ref p9),v10,v11,v12,some (.ref lo)] _ ?_
  clear hx
  walk_at "e"
  rw[if_pos (by simp)]
  walk_at "e"
  refine⟨ap,pp,qp,aw,pw,qw,kvp,kvw,k8 (j3 (d0 cal) Pc),k8 (j3 (d0 nam) W),[],.non,rfl,⟨OPM.up (by omega),OWM.up (by omega),?_,List.nodup_nil,fun _ h=>nomatch h⟩,.inl ⟨rfl,rfl⟩,fun lM HN ys nM mM fM dcM hbig2 _=>?_⟩
  ·have z1:=(rev_ren_nms (W:=W) (nam:=nam)).length_eq
   have z2:=(rev_ren_nms (W:=Pc) (nam:=cal)).length_eq
   rw[List.length_map] at z1 z2
   rw[z1,z2]
   exact xh WF.len PF.len
  have hyl:=Paired.length dcM
  walk_at "e"
  refine .inr ⟨List.replicate ys.length true,⟨lM,p9,ys,ds'.map (fun d=>V.ref d.1),rfl,rfl,.inr ⟨SqL.of fM,SqL.of (mM _ _ f9)⟩,by rw[List.length_map,hyl,←hrows,List.length_map],List.length_replicate,fun j x y bb hx hy hb=>?_⟩,?_⟩
  ·obtain⟨row,hr,e,rfl,he⟩:=A1 dcM hx
   rw[List.getElem?_map] at hy
   obtain⟨dd,hdd,rfl⟩:=Option.map_eq_some_iff.mp hy
   rw[←hrows,List.getElem?_map,hdd] at hr
   cases hr
   have hb':bb=true:=(List.mem_replicate.mp (List.mem_of_getElem? hb)).2
   subst hb'
   obtain⟨ms',z1,z2,z3,z4⟩:=(hM dd (List.mem_of_getElem? hdd)).at_
   replace he:HN e=some (.dK (d0 ((K4 (k8 (j3 (d0 cal) Pc))).zip dd.2))):=he
   rw[z2] at he
   have ndm:=z3.nodup_iff.mpr OPM.nd
   exact EqN.of0 (.inr ⟨e,dd.1,rfl,rfl,oP he (mM _ _ z1) (lX OPM.nd z4 ndm (fun x hx=>z3.mem_iff.mp (List.mem_map.mpr ⟨x,hx,rfl⟩))).symm ndm⟩) _
  rw[qy]
  walk_at "e"
  refine C5 (k5 (SqL.of (mM _ _ f9)) ?_)
  walk_at "e"
  rw[decide_eq_true (by rw[List.length_map,hdl];omega)]
  exact k _
end
theorem all_mk {l:PySem.W.OpenLaw}{w:World}{K0:PySem.W.Frag}{h:Heap}{mg:Str→Option Value}{fa f0 f1 f2 f3 f4 f5 f6 f7 f8 f9 f10 f11 f12 f13 f14 f15 f16 f17 f18 f19 f20:Addr}{od2 an2:Option Addr}{sl2:Array (Option Value)}{oc2 kV2 dc2 pm2 cd2 ct2:Value}{T2:Addr}{tc2:Value}{td2:Option Addr}{tn2:Nat}{ts2:Array (Option Value)}(X0:K0.In h)(G:h.Ns mainGlobals mg)(hfa:mg "law"=some (.ref fa))
  (a0:FnIn K0 "things" aY f0)
  (a1:FnIn K0 "tie_renamed" G9 f1)
  (a2:PySem.W.nsIn K0 mainGlobals "matches"=some (some (.ref f2))) (l2:K0.lookup f2=some ⟨oc2,od2,.func (PySem.W.fnOf "matches" "matches" (A3 E9) (t5 E9) (d8 E9) (.ref T2) kV2 dc2 pm2 an2 cd2 ct2),sl2⟩) (c2:PySem.W.codeIn K0 cd2 "matches"=true) (k2:PySem.W.keepIn K0 (.ref f2)=true) (t2:K0.lookup T2=some ⟨tc2,td2,.seq #[Value.none] tn2,ts2⟩)
  (a3:FnIn K0 "found" dY f3)
  (a4:FnIn K0 "may_be" bj f4)
  (a5:FnIn K0 "point_choices" E3 f5)
  (a6:FnIn K0 "tie_places" M9 f6)
  (a7:FnIn K0 "enough" bB f7)
  (a8:FnIn K0 "lines" dZ f8)
  (a9:FnIn K0 "images" bO f9)
  (a10:FnIn K0 "tie_choices" I0 f10)
  (a11:FnIn K0 "has_room" S9 f11)
  (a12:FnIn K0 "_law_cells" L1 f12)
  (a13:FnIn K0 "_law_cell_at" F0 f13)
  (a14:FnIn K0 "_law_names" L6 f14)
  (a15:FnIn K0 "_law_kinds" M8 f15)
  (a16:FnIn K0 "_law_web" U4 f16)
  (a17:FnIn K0 "_law_piece" L5 f17)
  (a18:FnIn K0 "_law_renamed" F9 f18)
  (a19:FnIn K0 "_law_naming" I9 f19)
  {cL Pl:Addr} {ocL kVL dcL pmL ctL:Value} {odL anL:Option Addr} {slL:Array (Option Value)} (aL:PySem.W.nsIn K0 mainGlobals "law"=some (some (.ref f20))) (lL:K0.lookup f20=some ⟨ocL,odL,.func (PySem.W.fnOf "law" "law" (A3 gG) (t5 gG) (d8 gG) .none kVL dcL pmL anL (.ref cL) ctL),slL⟩) (cdL:PySem.W.codeIn K0 (.ref cL) "law"=true) {ocC:Value} {odC:Option Addr} {vsC:Array Value} {slC:Array (Option Value)} (lC:K0.lookup cL=some ⟨ocC,odC,.fields vsC,slC⟩) (tL:vsC[11]?=some (.ref Pl)) (hL:PySem.W.codeHdIn K0 cL Pl=true) (hP:K0.lookup Pl=none) {ts:List Addr} (hM:Pl∈ts)
  (z_all:PySem.W.nsIn K0 mainGlobals "all"=some none)
  (z_dict:PySem.W.nsIn K0 mainGlobals "dict"=some none)
  (z_int:PySem.W.nsIn K0 mainGlobals "int"=some none)
  (z_len:PySem.W.nsIn K0 mainGlobals "len"=some none)
  (z_list:PySem.W.nsIn K0 mainGlobals "list"=some none)
  (z_max:PySem.W.nsIn K0 mainGlobals "max"=some none)
  (z_range:PySem.W.nsIn K0 mainGlobals "range"=some none)
  (z_reversed:PySem.W.nsIn K0 mainGlobals "reversed"=some none)
  (z_sorted:PySem.W.nsIn K0 mainGlobals "sorted"=some none)
  (z_zip:PySem.W.nsIn K0 mainGlobals "zip"=some none)
  :
  ∃(c Pl:Addr) (fd:FuncData),PySem.W.codeHdIn K0 c Pl=true∧K0.lookup Pl=none∧Pl∈ts∧(∀(s:Shared) (v:Value),BindsTo s fd ⟨[v],[]⟩ [("_law_script",v)])∧∀base:Heap,K0.In base→base.Ns mainGlobals mg→Q0 mg base→A0 l.prog w K0 mg base C7 8 fa fd ["_law_script"] (eX K0 Pl):=by
 have T:Txt K0 mg:=⟨PySem.W.mg_none_of X0 G z_all,PySem.W.mg_none_of X0 G z_dict,PySem.W.mg_none_of X0 G z_int,PySem.W.mg_none_of X0 G z_len,PySem.W.mg_none_of X0 G z_list,PySem.W.mg_none_of X0 G z_max,PySem.W.mg_none_of X0 G z_range,PySem.W.mg_none_of X0 G z_reversed,PySem.W.mg_none_of X0 G z_sorted,PySem.W.mg_none_of X0 G z_zip⟩
 refine qO hL hP hM X0 G hfa aL lL cdL (fun{base f fd} KB BB hcd F=>?_) fun _ _ _ _ _ _ s v=> .of_eq rfl
 have CC:=PySem.W.codeHd_of_K KB hL
 have B9:V3 l.prog w K0 mg base:=w5 X0 G a0 (fun F=>kU T F) (by walk_at "b")
 have J0:S1 l.prog w K0 mg base:=w5 X0 G a1 (fun F=>bh T F) (by walk_at "b")
 have K2:bS l.prog w K0 mg base:=w5 X0 G a4 (fun F=>kX T F) (by walk_at "b")
 have K3:aT l.prog w K0 mg base:=w5 X0 G a7 (fun F=>lH T F) (by walk_at "b")
 have L4:W0 l.prog w K0 mg base:=w5 X0 G a12 (fun F=>bY T F) (by walk_at "b")
 have F5:P0 l.prog w K0 mg base:=w5 X0 G a13 (fun F=>av T F) (by walk_at "b")
 have A4:U7 l.prog w K0 mg base:=w5 X0 G a14 (fun F=>bZ T F) (by walk_at "b")
 have N5:X1 l.prog w K0 mg base:=w5 X0 G a15 (fun F=>cz T F) (by walk_at "b")
 have T5:bE l.prog w K0 mg base:=w5 X0 G a16 (fun F=>gy T F) (by walk_at "b")
 have L8:V7 l.prog w K0 mg base:=w5 X0 G a17 (fun F=>cg T F) (by walk_at "b")
 have C2:Q3 l.prog w K0 mg base:=w5 X0 G a18 (fun F=>ax T F) (by walk_at "b")
 have D1:S3 l.prog w K0 mg base:=w5 X0 G a19 (fun F=>aX T F) (by walk_at "b")
 have E2:N9 l.prog w K0 mg base:=w5 X0 G a5 (fun F=>Z3 T K2 F) (by walk_at "b")
 have M3:V0 l.prog w K0 mg base:=w5 X0 G a6 (fun F=>bW T K2 F) (by walk_at "b")
 have y6:J1 l.prog w K0 mg base:=w5 X0 G a10 (fun F=>bw T J0 F) (by walk_at "b")
 have T7:aZ l.prog w K0 mg base:=w5 X0 G a11 (fun F=>gI T K3 y6 F) (by walk_at "b")
 have bo:gJ l.prog w K0 mg base:=w5 X0 G a9 (fun F=>kr T B9 y6 T7 F) (by walk_at "b")
 have dF:jy l.prog w K0 mg base:=w5 X0 G a8 (fun F=>oV T B9 bo F) (by walk_at "b")
 have aD:jU l.prog w K0 mg base:=w5 X0 G a3 (fun F=>nO T E2 K3 M3 B9 dF F) (by walk_at "b")
 have F2:=rE (st:=E9) l2 c2 k2
 have cU:Z6 l.prog w K0 mg base C7 7 "matches" ["piece","web","fixed"] [] (G0 K0):=⟨f2,_,[],bR T aD F2,PySem.W.mg_of X0 G a2,k2,fun s us hX hl=>(match us,(by simpa using hl:us.length=3) with|[_,_,_],_=>PySem.W.binds_K hX rfl t2 rfl rfl rfl),.nil⟩
 have G6:Z6 l.prog w K0 mg base C7 7 "matches" ["piece","web","fixed"] [.non] (G0 K0):=⟨f2,_,[Value.none],bR T aD F2,PySem.W.mg_of X0 G a2,k2,fun s us hX hl=>(match us,(by simpa using hl:us.length=2) with|[_,_],_=>PySem.W.binds_K hX rfl t2 rfl rfl rfl),.cons rfl .nil⟩
 exact uv T F5 T5 N5 A4 L4 L8 D1 C2 cU G6 CC BB hcd F
theorem walk {l:PySem.W.OpenLaw}{q:Program}{loose:List Str}{XP:(Str→Option Value)→Heap→Prop}{YP:World→Heap→Prop}{d:DefRec}{K:Params→PySem.W.Frag}(hn:l.most=some 63)(hdf:d.params.defaults=[])
  {ts:List Addr} (hY:∀(w:World) (h:Heap),YP w h→(K w.params).In h) (hY2:∀(w:World) (h:Heap),YP w h→∀P∈ts,h.get? P=some (PySem.W.tabObj #[]))
  (F:∀(w:World) (mg:Str→Option Value) (fa:Addr) (h:Heap),(K w.params).In h→h.Ns mainGlobals mg→mg d.name=some (.ref fa)→
   ∃(c Pl:Addr) (fd:FuncData),PySem.W.codeHdIn (K w.params) c Pl=true∧(K w.params).lookup Pl=none∧Pl∈ts∧(∀(s:Shared) (u:Value),BindsTo s fd ⟨[u],[]⟩ [("_law_script",u)])∧
    ∀base:Heap,(K w.params).In base→base.Ns mainGlobals mg→Q0 mg base→A0 l.prog w (K w.params) mg base C7 8 fa fd ["_law_script"] (eX (K w.params) Pl)):
  PySem.W.WalkO q loose XP YP l.row.toRowW d [] (fun f vs=>PySem.call f vs):=
 L2.walk_ofT (n:=63) (k:=8) (x:="_law_script") (CX:=C7) (sp:=eX) hn (by decide) hdf ⟨rfl,by decide,by decide⟩ hY hY2 F (fun _ _ _ a ns hl hP hS=>⟨a,ns,rfl,hS,hl,hP,fun _=>rfl⟩) fun _ _ _ _ z=>z
end K14
namespace PySem.W.Fast
def tw4174951585092169053:=Nat
def tw7828567976822029821:=Nat
def tw9930200163847620984:=Nat
def tw3106019709245600886:=Nat
def tw12200832863093314920:=Nat
def tw4208202960400186140:=Nat
def tw15433333719727822650:=Nat
def tw11400880691832623175:=Nat
def tw13800248581164813724:=Nat
def tw17497823906712618339:=Nat
def tw5696802047548354123:=Nat
def tw12392352422724223198:=Nat
def tw14181275180409853142:=Nat
def tw9430560220996298161:=Nat
def tw16087254251438335958:=Nat
def tw8251274408910186807:=Nat
def tw13309155688598506005:=Nat
def tw15273400283669444539:=Nat
def tw16482588010738826645:=Nat
def tw14715444696403608634:=Nat
def tw11264103299511083179:=Nat
def tw788518823159714277:=Nat
def tw11603320675361307816:=Nat
def tw17286914538614048486:=Nat
def tw8707895739638629677:=Nat
def tw3658216265295949556:=Nat
def tw16901892507415324896:=Nat
def tw3130130189850136598:=Nat
def tw232069337032293792:=Nat
def tw106368633157068152:=Nat
def tw9197474633618277968:=Nat
def tw4387473225734798209:=Nat
def tw12711355973644360706:=Nat
def tw9126519749334076211:=Nat
def tw3300275720842079347:=Nat
def tw9456437654550059132:=Nat
def tw12793382191904380361:=Nat
def tw14530510447792867757:=Nat
def tw16123285848686577011:=Nat
end PySem.W.Fast
open PySem PySem.W PyProof.Rows
local macro_rules| `(tactic|walk_at "F")=> `(tactic|(refine' L2.FnIn.mk' ?a ?l ?c ?k;(case a=>k_is);(case l=>k_is);(case c=>k_is);(case k=>k_is)))
set_option maxRecDepth 100000 in
set_option maxHeartbeats 0 in
theorem PySem.Challenge.cw_gluework_k14_matches_renamed_holds : PySem.Challenge.rw_gluework_k14_matches_renamed.Holds := by
 w_on;o_law;k_head;(case hw=>w_witness2)
 k_fill
 refine K14.walk (l:=PySem.Challenge.rw_gluework_k14_matches_renamed) rfl rfl (fun w h Y=>PySem.W.km_in_of Y) (fun w h Y=>PySem.W.km_tabs_of Y) ?F
 case F=>
  intro w mg fa h KX G hmg
  refine' K14.all_mk KX G hmg ?a0 ?a1 ?a2 ?l2 ?c2 ?k2 ?t2 ?a3 ?a4 ?a5 ?a6 ?a7 ?a8 ?a9 ?a10 ?a11 ?a12 ?a13 ?a14 ?a15 ?a16 ?a17 ?a18 ?a19 ?aL ?lL ?cdL ?lC ?tL ?hL ?hP ?hM ?z_all ?z_dict ?z_int ?z_len ?z_list ?z_max ?z_range ?z_reversed ?z_sorted ?z_zip
  (case a0=>walk_at "F")
  (case a1=>walk_at "F")
  (case a2|l2|c2|k2|t2=>k_is)
  (case a3=>walk_at "F")
  (case a4=>walk_at "F")
  (case a5=>walk_at "F")
  (case a6=>walk_at "F")
  (case a7=>walk_at "F")
  (case a8=>walk_at "F")
  (case a9=>walk_at "F")
  (case a10=>walk_at "F")
  (case a11=>walk_at "F")
  (case a12=>walk_at "F")
  (case a13=>walk_at "F")
  (case a14=>walk_at "F")
  (case a15=>walk_at "F")
  (case a16=>walk_at "F")
  (case a17=>walk_at "F")
  (case a18=>walk_at "F")
  (case a19=>walk_at "F")
  (case aL|lL|cdL|lC=>k_is)
  (case tL=>exact rfl)
  (case hL=>kernel_rfl)
  (case hP=>first|k_is|kernel_rfl)
  (case hM=>exact List.mem_singleton.mpr rfl)
  (case z_all|z_dict|z_int|z_len|z_list|z_max|z_range|z_reversed|z_sorted|z_zip=>k_is)
