import PyProof.Rows.All
import Wide.All
import OpenK.AllK
import Wide.FinOn
import PyProof.EqAt
import PyProof.EqKinds
import PyProof.TupleCall
import PyProof.NeKinds
import PyProof.AttrMissHeap
import PyProof.ExcClass3
import PyProof.RulesAs
import PyProof.Rows.FStr
import OpenK.KOwn
import PyProof.NsDelKeeps
import PyProof.Rows.Catch
import PyProof.Rows.SetFrom
import PyProof.SetRoads
import PyProof.FactsAll.NoneType
import PySem.Challenge.RW_gluework_k27_match_behind
set_option Elab.async false
set_option linter.all false
set_option maxRecDepth 100000
namespace L2
open PySem PySem.Spec PyProof.Rows
abbrev Key:=Sum Int Str
def a0Z:Key→Value→Bool
 | .inl k,v=>Value.isInt k v
 | .inr x,v=>Value.isStrOf x v
def b4O (w:World):Key→Int
 | .inl k=>hashInt k
 | .inr x=>hashStr w x
theorem u6:∀{k:Key} {v:Value},a0Z k v=true→(∃i t,k=Sum.inl i∧v=Value.int i t)∨(∃x t,k=Sum.inr x∧v=Value.str x t)
 | .inl i,v,h=>by
  obtain⟨t,e⟩:=Value.isInt_shape (k:=i) (v:=v) h
  exact .inl ⟨i,t,rfl,e⟩
 | .inr x,v,h=>by
  obtain⟨t,e⟩:=Value.isStrOf_shape (x:=x) (v:=v) h
  exact .inr ⟨x,t,rfl,e⟩
theorem a8i (i:Int)(t:Tok):a0Z (.inl i) (.int i t)=true:=by simp [a0Z,Value.isInt]
theorem a9a (x:Str)(t:Tok):a0Z (.inr x) (.str x t)=true:=by simp [a0Z,Value.isStrOf]
theorem a9I (a b:Int):decide ((Sum.inl a:Key)=Sum.inl b)=(a==b):=by
 by_cases e:a=b
 ·subst e;simp
 ·have h:¬(Sum.inl a:Key)=Sum.inl b:=fun q=>e (Sum.inl.inj q)
  rw[decide_eq_false h]
  exact(beq_eq_false_iff_ne.mpr e).symm
theorem a9s (a b:Str):decide ((Sum.inr a:Key)=Sum.inr b)=decide (a=b):=by
 by_cases e:a=b
 ·subst e;simp
 ·have h:¬(Sum.inr a:Key)=Sum.inr b:=fun q=>e (Sum.inr.inj q)
  rw[decide_eq_false h,decide_eq_false e]
theorem b0e (a:Int)(b:Str):decide ((Sum.inl a:Key)=Sum.inr b)=false:=decide_eq_false (fun q=>nomatch q)
theorem a9l (a:Str)(b:Int):decide ((Sum.inr a:Key)=Sum.inl b)=false:=decide_eq_false (fun q=>nomatch q)
def j8 (prog:Program)(w:World):PySem.KeyKind prog w Key where
 is:=a0Z
 hash:=b4O w
 inj:=fun v a b ha hb=>by
  rcases u6 ha with⟨i,t,rfl,rfl⟩|⟨x,t,rfl,rfl⟩
  ·rcases u6 hb with⟨j,u,rfl,e⟩|⟨y,u,rfl,e⟩
   ·injection e with e1 _;rw[e1]
   ·exact nomatch e
  ·rcases u6 hb with⟨j,u,rfl,e⟩|⟨y,u,rfl,e⟩
   ·exact nomatch e
   ·injection e with e1 _;rw[e1]
 byValue:=fun k v h=>by
  rcases u6 h with⟨i,t,rfl,rfl⟩|⟨x,t,rfl,rfl⟩<;>rfl
 pyHash:=fun hv h=>by
  rcases u6 hv with⟨i,t,rfl,rfl⟩|⟨x,t,rfl,rfl⟩
  ·exact wpAny_pyHash_int h
  ·exact wpAny_pyHash_str h
 eqBool:=fun hu hv h=>by
  rcases u6 hu with⟨i,t,rfl,rfl⟩|⟨x,t,rfl,rfl⟩
  ·rcases u6 hv with⟨j,u,rfl,rfl⟩|⟨y,u,rfl,rfl⟩
   ·rw[a9I] at h;exact wpAny_eqBool_int h
   ·rw[b0e] at h;exact SeqAt.EqAt.int_str i t y u _ _ _ _ h
  ·rcases u6 hv with⟨j,u,rfl,rfl⟩|⟨y,u,rfl,rfl⟩
   ·rw[a9l] at h;exact SeqAt.EqAt.str_int x t j u _ _ _ _ h
   ·rw[a9s] at h;exact wpAny_eqBool_str h
 «strs»:=fun k x t v h=>by
  rcases u6 h with⟨i,u,rfl,e⟩|⟨y,u,rfl,e⟩
  ·exact nomatch e
  ·injection e with e1 _
   subst e1
   cases v<;>rfl
theorem a5A (prog:Program)(w:World)(i:Int)(t:Tok):(j8 prog w).is (.inl i) (.int i t)=true:=a8i i t
theorem a5N (prog:Program)(w:World)(x:Str)(t:Tok):(j8 prog w).is (.inr x) (.str x t)=true:=a9a x t
end L2
namespace L2
open PySem PySem.Spec PyProof.Rows
inductive V where
 |non|bl (b:Bool)|int (i:Int)|str (x:Str)|byt (b:Array UInt8)|flt (b:UInt64)|ref (a:Addr)|ty (n:String)
 deriving DecidableEq
def RelV:V→Value→Prop
 | .non,u=>u=Value.none
 | .bl b,u=>u=Value.bool b
 | .int i,u=>∃t,u=Value.int i t
 | .str x,u=>∃t,u=Value.str x t
 | .byt b,u=>∃t,u=Value.bytes b t
 | .flt b,u=>∃t,u=Value.float b t
 | .ref a,u=>u=Value.ref a
 | .ty n,u=>u=Value.type n
abbrev Vals:List V→List Value→Prop:=Paired RelV
theorem Vals.length {xs:List V}{us:List Value}(r:Vals xs us):xs.length=us.length:=Paired.length r
theorem Vals.get:∀{xs:List V} {us:List Value} {i:Nat} {x:V},Vals xs us→xs[i]?=some x→∃u,us[i]?=some u∧RelV x u
 |_,_,_,_,.nil,e=>by simp at e
 |_,_,0,_,.cons r _,e=>by simp at e;subst e;exact⟨_,rfl,r⟩
 |_,_,i+1,x,.cons _ t,e=>by
  obtain⟨u,h1,h2⟩:=Vals.get (i:=i) (x:=x) t (by simpa using e)
  exact⟨u,by simpa using h1,h2⟩
theorem Vals.set {x:V}{u:Value}(r:RelV x u):∀{xs:List V} {us:List Value} (i:Nat),Vals xs us→Vals (xs.set i x) (us.set i u)
 |_,_,_,.nil=> .nil
 |_,_,0,.cons _ t=> .cons r t
 |_,_,i+1,.cons q t=> .cons q (Vals.set r i t)
theorem Vals.append:∀{xs ys:List V} {us ws:List Value},Vals xs us→Vals ys ws→Vals (xs++ys) (us++ws)
 |_,_,_,_,.nil,s=>s
 |_,_,_,_,.cons r t,s=> .cons r (Vals.append t s)
theorem Vals.take:∀{xs:List V} {us:List Value} (n:Nat),Vals xs us→Vals (xs.take n) (us.take n)
 |_,_,0,_=> .nil
 |_,_,_+1,.nil=> .nil
 |_,_,n+1,.cons r t=> .cons r (Vals.take n t)
theorem Vals.drop:∀{xs:List V} {us:List Value} (n:Nat),Vals xs us→Vals (xs.drop n) (us.drop n)
 |_,_,0,r=>r
 |_,_,_+1,.nil=> .nil
 |_,_,n+1,.cons _ t=>Vals.drop n t
theorem Vals.none_of:∀{xs:List V} {us:List Value} {i:Nat},Vals xs us→xs[i]?=none→us[i]?=none:=fun{xs us i} r e=>by
 have h1:=r.length
 have h2:xs.length≤i:=List.getElem?_eq_none_iff.mp e
 exact List.getElem?_eq_none_iff.mpr (by omega)
def RelO:Option V→Option Value→Prop
 |some v,some u=>RelV v u
 |none,none=>True
 |_,_=>False
def KV {κ:Type}:List (κ×V)→List (κ×Value)→Prop:=Paired fun(p:κ×V) (q:κ×Value)=>p.1=q.1∧RelV p.2 q.2
def kV:Key→V
 | .inl i=> .int i
 | .inr x=> .str x
inductive HO where
 |lst (xs:List V)
 |tup (xs:List V)
 |dK (kvs:List (Key×V))|dT (kvs:List (List Key×V))
 |set (S:Int→Bool) (n:Nat)
 |ins (C dx:Addr) (fs:List (Str×V))
 |own (x:Addr)
 |xd (fs:List (Str×V))
 |met (f x:Addr)
 |rng (lo hi:Int)
 |frz (o:Obj) (u:HO)
 |tbl (ps:Array Value)
 |ext (φ:Heap→Prop)
abbrev Hp:=Addr→Option HO
def upd (H:Hp)(a:Addr)(o:HO):Hp:=fun b=>if b=a then some o else H b
theorem i7 {H:Hp}{a:Addr}{o:HO}:upd H a o a=some o:=by unfold upd;rw[if_pos rfl]
theorem d0 {H:Hp}{a b:Addr}{o:HO}(h:b≠a):upd H a o b=H b:=by unfold upd;rw[if_neg h]
theorem b5E {H:Hp}{a b:Addr}{o u:HO}(h:H a=some o)(h':H b=some u)(d:o≠u):a≠b:=by
 intro e;subst e;rw[h] at h';exact d (Option.some.inj h')
theorem g0 {H:Hp}{a b:Addr}{o:HO}(h:H a=some o)(h':H b=none):a≠b:=by
 intro e;subst e;rw[h] at h';cases h'
section
variable (P:Program) (w:World)
def ObjOk (H:Hp)(h:Heap)(a:Addr):HO→Prop
 | .lst xs=>xs.length≤sizeLine∧∃(its:List Value) (n:Nat),Vals xs its∧h.get? a=some {cls:= .type "list",data:= .seq its.toArray n}
 | .tup xs=>xs.length≤sizeLine∧∃its:List Value,Vals xs its∧IsTup h a its.toArray
 | .dK kvs=>kvs.length≤sizeLine∧(a==sysModules)=false∧∃vs,KV kvs vs∧h.DictOf (j8 P w) a vs
 | .dT kvs=>kvs.length≤sizeLine∧(a==sysModules)=false∧∃xs:List (List Key×Addr×Value),
   Paired (fun(p:List Key×V) (q:List Key×Addr×Value)=>p.1=q.1∧H q.2.1=some (.tup (p.1.map kV))∧RelV p.2 q.2.2) kvs xs∧
   ∃o es ep,h.get? a=some o∧o.ExactDict∧o.data= .dict es ep∧es.toList=xs.map (entryOfKey (tupleKind (j8 P w)))∧(xs.map (·.1)).Nodup
 | .set S n=>h.SetOf (intKind P w) a S n
 | .ins C dx fs=>H dx=some (.own a)∧fs.length≤1000∧dx≠a∧h.get? a=some (PySem.W.instObj C dx)∧
   ∃mA,h.Ns1 dx mA∧(∀f,RelO (fs.lookup f) (mA f))∧PySem.Within mA (fs.map (·.1))
 | .own _=>∃o,h.get? a=some o
 | .xd fs=>∃mA,h.Ns1 a mA∧∀f,RelO (fs.lookup f) (mA f)
 | .rng lo hi=>∃t u v,h.get? a=some {cls:= .type "range",data:= .fields #[.int lo t,.int hi u,.int 1 v]}
 | .frz o u=>h.get? a=some o∧ObjOk H h a u
 | .tbl ps=>h.get? a=some {cls:= .none,data:= .fields ps}
 | .met f x=>h.get? a=some (PySem.W.methodObj (.ref f) (.ref x))
 | .ext φ=>φ h∧(∃o,h.get? a=some o)∧∀h1 h2:Heap,φ h1→(∀o,h1.get? a=some o→h2.get? a=some o)→φ h2
def HOk (H:Hp)(h:Heap):Prop:=∀a o,H a=some o→ObjOk P w H h a o
end
section
variable {P:Program} {w:World} {H H':Hp} {h h':Heap} {a:Addr} {o:HO}
theorem ObjOk.lt (x:ObjOk P w H h a o):a<h.objs.size:=by
 cases o with
 |lst xs=>obtain⟨_,_,_,_,e⟩:=x;exact Heap.lt_size e
 |tup xs=>obtain⟨_,_,_,p⟩:=x;exact p.lt
 |dK kvs=>obtain⟨_,_,_,_,o,_,_,e,_⟩:=x;exact Heap.lt_size e
 |dT kvs=>obtain⟨_,_,_,_,o,_,_,e,_⟩:=x;exact Heap.lt_size e
 |set S n=>obtain⟨o,_,_,_,e,_⟩:=x;exact Heap.lt_size e
 |ins C dx fs=>obtain⟨_,_,_,e,_⟩:=x;exact Heap.lt_size e
 |own y=>obtain⟨_,e⟩:=x;exact Heap.lt_size e
 |xd fs=>obtain⟨_,⟨_,_,_,e,_⟩,_⟩:=x;exact Heap.lt_size e
 |rng lo hi=>obtain⟨_,_,_,e⟩:=x;exact Heap.lt_size e
 |frz ob u=>obtain⟨e,_⟩:=x;exact Heap.lt_size e
 |tbl ps=>exact Heap.lt_size (show h.get? a=some _ from x)
 |met f y=>exact Heap.lt_size (show h.get? a=some _ from x)
 |ext φ=>obtain⟨_,⟨_,e⟩,_⟩:=x;exact Heap.lt_size e
theorem Paired.mapP {α β:Type}{F G:α→β→Prop}:∀{l₁:List α} {l₂:List β},Paired F l₁ l₂→(∀a b,F a b→G a b)→Paired G l₁ l₂
 |_,_,.nil,_=> .nil
 |_,_,.cons r t,f=> .cons (f _ _ r) (Paired.mapP t f)
theorem Paired.imp' {α β:Type}{F G:α→β→Prop}(f:∀a b,F a b→G a b){l₁:List α}{l₂:List β}(r:Paired F l₁ l₂):Paired G l₁ l₂:=Paired.mapP r f
theorem ObjOk.stay (x:ObjOk P w H h a o)(k:∀b u,(b=a∨H b=some (.own a))→h.get? b=some u→h'.get? b=some u)
  (ho:∀b,H b=some (.own a)→H' b=some (.own a)) (ht:∀b xs,H b=some (.tup xs)→H' b=some (.tup xs)):ObjOk P w H' h' a o:=by
 induction o with
 |lst xs=>obtain⟨z,its,n,r,e⟩:=x;exact⟨z,its,n,r,k _ _ (.inl rfl) e⟩
 |tup xs=>obtain⟨z,its,r,ob,e,c⟩:=x;exact⟨z,its,r,ob,k _ _ (.inl rfl) e,c⟩
 |dK kvs=>obtain⟨z,y,vs,r,ob,es,ep,e,c⟩:=x;exact⟨z,y,vs,r,ob,es,ep,k _ _ (.inl rfl) e,c⟩
 |dT kvs=>
  obtain⟨z,y,xs,r,ob,es,ep,e,c⟩:=x
  exact⟨z,y,xs,Paired.mapP r fun p q z=>⟨z.1,ht _ _ z.2.1,z.2.2⟩,ob,es,ep,k _ _ (.inl rfl) e,c⟩
 |set S n=>obtain⟨ob,es,ep,t,e,c⟩:=x;exact⟨ob,es,ep,t,k _ _ (.inl rfl) e,c⟩
 |ins C dx fs=>
  obtain⟨d,z,ne,e,mA,⟨od,es,ep,e2,c⟩,r⟩:=x
  exact⟨ho _ d,z,ne,k _ _ (.inl rfl) e,mA,⟨od,es,ep,k _ _ (.inr d) e2,c⟩,r⟩
 |own y=>obtain⟨ob,e⟩:=x;exact⟨ob,k _ _ (.inl rfl) e⟩
 |xd fs=>obtain⟨mA,⟨od,es,ep,e,c⟩,r⟩:=x;exact⟨mA,⟨od,es,ep,k _ _ (.inl rfl) e,c⟩,r⟩
 |rng lo hi=>obtain⟨t,u,v,e⟩:=x;exact⟨t,u,v,k _ _ (.inl rfl) e⟩
 |frz ob u ih=>obtain⟨e,q⟩:=x;exact⟨k _ _ (.inl rfl) e,ih q⟩
 |tbl ps=>
  have e:h.get? a=some {cls:= .none,data:= .fields ps}:=x
  show h'.get? a=some {cls:= .none,data:= .fields ps}
  exact k a _ (.inl rfl) e
 |met f y=>
  have e:h.get? a=some (PySem.W.methodObj (.ref f) (.ref y)):=x
  show h'.get? a=some (PySem.W.methodObj (.ref f) (.ref y))
  exact k a _ (.inl rfl) e
 |ext φ=>obtain⟨p,⟨o,e⟩,st⟩:=x;exact⟨st _ _ p fun o q=>k _ _ (.inl rfl) q,⟨o,k _ _ (.inl rfl) e⟩,st⟩
theorem HOk.lt (x:HOk P w H h)(e:H a=some o):a<h.objs.size:=(x a o e).lt
theorem HOk.fresh (x:HOk P w H h)(e:h.objs.size≤a):H a=none:=by
 cases q:H a with
 |none=>rfl
 |some u=>exact absurd (Nat.lt_of_lt_of_le (x.lt q) e) (Nat.lt_irrefl _)
theorem HOk.kept (x:HOk P w H h)(k:∀b u,h.get? b=some u→h'.get? b=some u):HOk P w H h':=fun a o e=>
 (x a o e).stay (fun b u _ q=>k b u q) (fun _ q=>q) fun _ _ q=>q
theorem HOk.laid (x:HOk P w H h)(k:∀b u,h.get? b=some u→h'.get? b=some u)(hp:h.objs.size≤a)(new:ObjOk P w (upd H a o) h' a o):HOk P w (upd H a o) h':=fun b u e=>by
 have hn:=x.fresh hp
 by_cases hb:b=a
 ·subst hb;rw[i7] at e;cases e;exact new
 ·rw[d0 hb] at e
  exact(x b u e).stay (fun c v _ q=>k c v q) (fun c q=>by rw[d0 (g0 q hn)];exact q) fun c xs q=>by rw[d0 (g0 q hn)];exact q
end
def Rd (H:Hp)(a:Addr)(u:HO):Prop:=H a=some u∨∃o,H a=some (.frz o u)
theorem Rd.of {H:Hp}{a:Addr}{u:HO}(h:H a=some u):Rd H a u:= .inl h
theorem Rd.ok {P:Program}{w:World}{H:Hp}{h:Heap}{a:Addr}{u:HO}(r:Rd H a u)(x:HOk P w H h):ObjOk P w H h a u:=by
 rcases r with r|⟨o,r⟩
 ·exact x a u r
 ·obtain⟨_,q⟩:=x a _ r
  exact q
def Mut:Option HO→Prop
 |some (.lst _)=>True
 |some (.dK _)=>True
 |some (.dT _)=>True
 |some (.set _ _)=>True
 |some (.ins _ _ _)=>True
 |some (.ext _)=>True
 |_=>False
section
variable {P:Program} {w:World} {H:Hp} {h h':Heap} {x e:Addr} {o':HO}
theorem HOk.write (ok:HOk P w H h)(mu:Mut (H x))(he:e=x∨H e=some (.own x))(k:∀b u,b≠e→h.get? b=some u→h'.get? b=some u)(heo:∃u,h'.get? e=some u)
  (new:ObjOk P w (upd H x o') h' x o'):HOk P w (upd H x o') h':=fun b u q=>by
 have nown:∀c y,H c=some (.own y)→c≠x:=fun c y r z=>by subst z;rw[r] at mu;exact mu
 have ntup:∀c xs,H c=some (.tup xs)→c≠x:=fun c xs r z=>by subst z;rw[r] at mu;exact mu
 by_cases hb:b=x
 ·subst hb;rw[i7] at q;cases q;exact new
 ·rw[d0 hb] at q
  by_cases hbe:b=e
  ·have q':H b=some (.own x):=by
    rcases he with z|z
    ·exact absurd (hbe.trans z) hb
    ·rw[hbe];exact z
   rw[q] at q';cases q'
   obtain⟨v,hv⟩:=heo
   exact⟨v,by rw[hbe];exact hv⟩
  ·refine(ok b u q).stay (fun c v hc r=>k c v ?_ r) (fun c r=>by rw[d0 (nown c b r)];exact r) fun c xs r=>by rw[d0 (ntup c xs r)];exact r
   rcases hc with rfl|hc
   ·exact hbe
   ·rintro rfl
    rcases he with z|z
    ·exact nown c b hc z
    ·rw[hc] at z;cases z;exact hb rfl
end
structure Un (fs ex:List Addr) (H H':Hp) (h h':Heap):Prop where
 keep:∀b o,h.get? b=some o→H b=none→b∉fs→b∉ex→h'.get? b=some o
 slot:∀b o,h.get? b=some o→H b=none→b∈fs→b∉ex→∃sl,h'.get? b=some {o with slots:=sl}
 free:∀b o,h.get? b=some o→H b=none→b∉ex→H' b=none
 there:∀b o,h.get? b=some o→b∉ex→∃o',h'.get? b=some o'
 tups:∀b xs,H b=some (.tup xs)→H' b=some (.tup xs)
 frzs:∀b o u,H b=some (.frz o u)→H' b=some (.frz o u)
 tbls:∀b ps,H b=some (.tbl ps)→∃more,H' b=some (.tbl (ps++more))
section
variable {fs fs' ex ex':List Addr} {H H1 H2:Hp} {h h1 h2 h':Heap} {a x e:Addr} {o:HO}
theorem Un.any (u:Un fs ex H H1 h h1){b:Addr}{ob:Obj}(q:h.get? b=some ob)(n:H b=none)(hx:b∉ex):∃sl,h1.get? b=some {ob with slots:=sl}:=by
 by_cases hb:b∈fs
 ·exact u.slot b ob q n hb hx
 ·exact⟨ob.slots,u.keep b ob q n hb hx⟩
theorem Un.trans (a:Un fs ex H H1 h h1)(b:Un fs ex H1 H2 h1 h2):Un fs ex H H2 h h2 where
 keep:=fun c ob q n hc hx=>b.keep c ob (a.keep c ob q n hc hx) (a.free c ob q n hx) hc hx
 slot:=fun c ob q n hc hx=>by
  obtain⟨sl,e1⟩:=a.slot c ob q n hc hx
  obtain⟨sl',e2⟩:=b.slot c _ e1 (a.free c ob q n hx) hc hx
  exact⟨sl',e2⟩
 free:=fun c ob q n hx=>by
  obtain⟨o',e1⟩:=a.there c ob q hx
  exact b.free c o' e1 (a.free c ob q n hx) hx
 there:=fun c ob q hx=>by
  obtain⟨o',e1⟩:=a.there c ob q hx
  exact b.there c o' e1 hx
 tups:=fun c xs q=>b.tups c xs (a.tups c xs q)
 frzs:=fun c ob xs q=>b.frzs c ob xs (a.frzs c ob xs q)
 tbls:=fun c ps q=>by
  obtain⟨m1,e1⟩:=a.tbls c ps q
  obtain⟨m2,e2⟩:=b.tbls c _ e1
  exact⟨m1++m2,by rw[e2,Array.append_assoc]⟩
theorem Un.kept (k:∀b u,h.get? b=some u→h'.get? b=some u):Un fs ex H H h h':=
 ⟨fun b ob q _ _ _=>k b ob q,fun b ob q _ _ _=>⟨ob.slots,k b ob q⟩,fun _ _ _ n _=>n,fun b ob q _=>⟨ob,k b ob q⟩,fun _ _ q=>q,fun _ _ _ q=>q,fun _ ps q=>⟨#[],by rw[q];simp⟩⟩
theorem Un.refl:Un fs ex H H h h:=Un.kept fun _ _ q=>q
theorem Un.laid (k:∀b u,h.get? b=some u→h'.get? b=some u)(hp:h.objs.size≤a)(hn:H a=none):Un fs ex H (upd H a o) h h' where
 keep:=fun b u q _ _ _=>k b u q
 slot:=fun b u q _ _ _=>⟨u.slots,k b u q⟩
 free:=fun b u q n _=>by rw[d0 (Nat.ne_of_lt (Nat.lt_of_lt_of_le (Heap.lt_size q) hp))];exact n
 there:=fun b u q _=>⟨u,k b u q⟩
 tups:=fun b xs q=>by rw[d0 (g0 q hn)];exact q
 frzs:=fun b u xs q=>by rw[d0 (g0 q hn)];exact q
 tbls:=fun b ps q=>⟨#[],by rw[d0 (g0 q hn),q];simp⟩
theorem Un.write (mu:Mut (H x))(he:e=x∨H e=some (.own x))(k:∀b u,b≠e→h.get? b=some u→h'.get? b=some u)(heo:∃u,h'.get? e=some u):Un fs ex H (upd H x o) h h':=by
 have hx:∀b,H b=none→b≠x:=fun b n z=>by subst z;rw[n] at mu;exact mu
 have hb:∀b,H b=none→b≠e:=fun b n z=>by
  subst z
  rcases he with r|r
  ·exact hx b n r
  ·rw[n] at r;cases r
 have hm:∀b u,H b=some u→¬Mut (some u)→b≠x:=fun b u q nm z=>by subst z;rw[q] at mu;exact nm mu
 refine⟨fun b u q n _ _=>k b u (hb b n) q,fun b u q n _ _=>⟨u.slots,k b u (hb b n) q⟩,fun b u q n _=>by rw[d0 (hx b n)];exact n,fun b u q _=>?_,
  fun b xs q=>by rw[d0 (hm b _ q fun z=>z)];exact q,fun b u xs q=>by rw[d0 (hm b _ q fun z=>z)];exact q,fun b ps q=>⟨#[],by rw[d0 (hm b _ q fun z=>z),q];simp⟩⟩
 by_cases hbe:b=e
 ·subst hbe;exact heo
 ·exact⟨u,k b u hbe q⟩
theorem Un.mono (u:Un fs ex H H1 h h1)(hs:∀b∈fs,b∈fs')(hx:∀b∈ex,b∈ex'):Un fs' ex' H H1 h h1:=
 ⟨fun b ob q n hb he=>u.keep b ob q n (fun z=>hb (hs b z)) fun z=>he (hx b z),fun _ _ q n _ he=>u.any q n fun z=>he (hx _ z),fun b ob q n he=>u.free b ob q n fun z=>he (hx b z),fun b ob q he=>u.there b ob q fun z=>he (hx b z),u.tups,u.frzs,u.tbls⟩
end
def trk (h:Heap)(H:Hp):List Addr:=(List.range h.objs.size).filter fun a=>(H a).isSome
def a4S (h:Heap)(H:Hp):Heap:=PySem.W.hideAll h (trk h H)
theorem a8d (h:Heap)(H:Hp):(a4S h H).objs.size=h.objs.size:=PySem.W.hideAll_size _ _
theorem a9v {h:Heap}{H:Hp}{b:Addr}{o:Obj}(e:h.get? b=some o)(n:H b=none):(a4S h H).get? b=some o:=
 PySem.W.hideAll_get _ e fun hm=>by
  have q:(H b).isSome=true:=(List.mem_filter.mp hm).2
  rw[n] at q;simp at q
theorem b1H {h:Heap}{H:Hp}{b:Addr}{o:Obj}(e:(a4S h H).get? b=some o):h.get? b=some o∧H b=none:=by
 have e':h.get? b=some o:=PySem.W.of_hideAll (trk h H) e
 refine⟨e',?_⟩
 cases q:H b with
 |none=>rfl
 |some x=>
  have hm:b∈trk h H:=List.mem_filter.mpr ⟨List.mem_range.mpr (Heap.lt_size e'),by simp [q]⟩
  have z:(a4S h H).get? b=none:=PySem.W.hideAll_none (trk h H) hm
  rw[z] at e;cases e
def b1N (g h:Heap)(L:Addr):List (Addr×Obj):=(List.range h.objs.size).filterMap fun a=>if a=L∨(g.get? a).isSome=true then none else(h.get? a).map fun o=>(a,o)
def U0 (g h:Heap)(L d:Addr):List (Addr×Obj):=(b1N g h L).filter fun p=>decide (p.1≠d)
end L2
namespace L2
open PySem PySem.Spec PyProof.Rows
structure Mod (K:PySem.W.Frag) (mg:Str→Option Value) (base:Heap):Prop where
 kin:K.In base
 glob:base.Ns mainGlobals mg
 blt:∃mb,base.Ns builtinsNs mb∧∀x:Str,x≠"__name__"→mb x=bootBuiltins x
 nolimit:base.NoLimit
structure Cx where
 prog:Program
 w:World
 K:PySem.W.Frag
 mg:Str→Option Value
 base:Heap
 A:Around
 N:List Str
 s₀:Shared
 H₀:Hp
 env:Env
 outer:List Env
 stack:List Env
 ex:List Addr
 fn:Str→Bool
 calm:Bool
 pn:List (Addr×Obj)
 xe:Value→Shared→Prop
def frs (l:List Env):List Addr:=l.filterMap (·.frame)
abbrev Cx.fs (X:Cx):List Addr:=frs X.outer
def Vis (sc:Scope)(x:Str):Prop:=sc.names.lookup x=some .local∨sc.names.lookup x=some .cell∨sc.names.lookup x=some .free
def Loc (sc:Scope)(x:Str):Prop:=sc.names.lookup x=some .local∨sc.names.lookup x=some .cell
def b6H (env:Env)(h:Heap)(m:Str→Option Value)(x:Str)(u:Value):Prop:=
 (env.kindOf x=some .local∧m x=some u)∨((env.kindOf x=some .cell∨env.kindOf x=some .free)∧∃c,env.cells.lookup x=some c∧h.IsCell c (some u))
structure Cx.Ok (X:Cx):Prop where
 mod:Mod X.K X.mg X.base
 kind:X.env.scope.kind= .function
 glob:X.env.globals=mainGlobals
 blt:X.env.builtins=builtinsNs
 above:X.s₀.heap.objs.size≤X.env.locals
 inj:∀x y c,X.env.cells.lookup x=some c→X.env.cells.lookup y=some c→x=y
 has:∀x,(X.env.kindOf x=some .cell∨X.env.kindOf x=some .free)→∃c,X.env.cells.lookup x=some c
 cab:∀x c,X.fn x=true→X.env.cells.lookup x=some c→X.s₀.heap.objs.size≤c
 hd:X.calm=true→X.A.handled=none
 frames:X.A.frames=some X.stack
 stk:X.stack=X.outer∨(X.stack=X.env::X.outer∧X.env.frame=some X.env.locals)
 exf:∀b∈X.ex,b≠X.env.locals∧∀x c,X.env.cells.lookup x=some c→c≠b
 bs:∀b o,X.base.get? b=some o→X.s₀.heap.get? b=some o∧X.H₀ b=none
 bsz:X.base.objs.size≤X.s₀.heap.objs.size
 noex:∀b o,X.base.get? b=some o→b∉X.ex
 exfs:∀b∈X.ex,b∉X.fs
 funs:X.s₀.heap.FunFrames X.base X.outer
 frf:∀b∈X.fs,X.H₀ b=none
structure Inv (X:Cx) (pins:List (Addr×Obj)) (σ:List (Option V)) (H:Hp) (s:Shared):Prop where
 ok:X.Ok
 os:s.os=X.s₀.os
 bare:AllBare s.gens
 base:Un X.fs X.ex X.H₀ H X.s₀.heap s.heap
 loc:∃m,s.heap.Ns X.env.locals m∧∀(i:Nat) (x:Str) (v:V),X.N[i]?=some x→σ[i]?=some (some v)→Vis X.env.scope x→∃u,RelV v u∧b6H X.env s.heap m x u
 cell:∀x c,X.env.cells.lookup x=some c→∃v,s.heap.IsCell c v
 free:H X.env.locals=none
 freeC:∀x c,X.env.cells.lookup x=some c→H c=none
 pin:∀p∈X.pn++pins,s.heap.get? p.1=some p.2∧H p.1=none∧p.1≠X.env.locals∧p.1∉X.fs∧∀v,p.2.data≠ .cell v
 hok:HOk X.prog X.w H s.heap
 len:σ.length=X.N.length
section
variable {X:Cx} {pins:List (Addr×Obj)} {σ:List (Option V)} {H H':Hp} {s:Shared} {h':Heap}
theorem Cx.Ok.nofr (ok:X.Ok){b:Addr}{o:Obj}(e:X.base.get? b=some o):b∉X.fs:=fun hb=>by
 have:=(ok.funs.mem hb).1
 rw[e] at this;cases this
theorem Inv.bs (I:Inv X pins σ H s):∀b o,X.base.get? b=some o→s.heap.get? b=some o∧H b=none:=fun b o e=>
 ⟨I.base.keep b o (I.ok.bs b o e).1 (I.ok.bs b o e).2 (I.ok.nofr e) (I.ok.noex b o e),I.base.free b o (I.ok.bs b o e).1 (I.ok.bs b o e).2 (I.ok.noex b o e)⟩
theorem Inv.bk (I:Inv X pins σ H s):∀b o,X.base.get? b=some o→s.heap.get? b=some o:=fun b o e=>(I.bs b o e).1
theorem Inv.mod (I:Inv X pins σ H s):Mod X.K X.mg X.base:=I.ok.mod
theorem Inv.kIn (I:Inv X pins σ H s):X.K.In s.heap:=I.ok.mod.kin.keeps I.bk
theorem Inv.nolimit (I:Inv X pins σ H s):s.heap.NoLimit:=I.ok.mod.nolimit.keeps I.bk
theorem Inv.fr (I:Inv X pins σ H s):∃m,Fr X.base X.env.locals s.heap m:=
 let ⟨m,hn,_⟩:=I.loc
 ⟨m,hn,I.bk,Nat.le_trans I.ok.bsz I.ok.above⟩
theorem Inv.lt (I:Inv X pins σ H s):X.env.locals<s.heap.objs.size:=let ⟨_,hn,_⟩:=I.loc;hn.lt
theorem Inv.sz (I:Inv X pins σ H s):X.s₀.heap.objs.size≤s.heap.objs.size:=Nat.le_trans I.ok.above (Nat.le_of_lt I.lt)
theorem Inv.nofs (I:Inv X pins σ H s){a:Addr}(h:s.heap.objs.size≤a):a∉X.fs:=fun hb=>by
 obtain⟨_,o,ho,_⟩:=I.ok.funs.mem hb
 exact absurd (Nat.lt_of_lt_of_le (Heap.lt_size ho) (Nat.le_trans I.sz h)) (Nat.lt_irrefl _)
theorem Inv.cne (I:Inv X pins σ H s):∀x c,X.env.cells.lookup x=some c→c≠X.env.locals:=fun x c e z=>by
 obtain⟨v,o,ho,hd⟩:=I.cell x c e
 obtain⟨m,⟨o',es,ep,ho',hd',_⟩,_⟩:=I.loc
 rw[z,ho'] at ho;cases ho;rw[hd'] at hd;cases hd
theorem Inv.funs (I:Inv X pins σ H s):s.heap.FunFrames X.base X.outer:=by
 have all:∀(l:List Env),(∀b∈frs l,b∈X.fs)→X.s₀.heap.FunFrames X.base l→s.heap.FunFrames X.base l:=by
  intro l
  induction l with
  |nil=>intro _ _;trivial
  |cons env r ih=>
   intro hs hl
   obtain⟨hk,⟨L,o,hf,hn,ho,hd⟩,hr⟩:=hl
   have hL:L∈X.fs:=hs L (by unfold frs;rw[List.filterMap_cons,hf];exact List.mem_cons_self)
   obtain⟨sl,e⟩:=I.base.slot L o ho (I.ok.frf L hL) hL fun z=>I.ok.exfs L z hL
   exact⟨hk,⟨L,_,hf,hn,e,hd⟩,ih (fun b hb=>hs b (by unfold frs;rw[List.filterMap_cons,hf];exact List.mem_cons_of_mem _ hb)) hr⟩
 exact all X.outer (fun _ hb=>hb) I.ok.funs
theorem Inv.stack (I:Inv X pins σ H s):s.heap.FunFrames X.base X.stack:=by
 rcases I.ok.stk with e|⟨e,hf⟩
 ·rw[e];exact I.funs
 ·rw[e]
  obtain⟨m,hn,_⟩:=I.loc
  refine .cons (by rw[I.ok.kind];decide) hf hn ?_ I.funs
  exact Heap.get?_none_of_le (Nat.le_trans I.ok.bsz I.ok.above)
theorem Inv.stkSub (I:Inv X pins σ H s):∀b∈frs X.stack,b∈X.env.locals::X.fs:=fun b hb=>by
 rcases I.ok.stk with e|⟨e,hf⟩
 ·rw[e] at hb;exact List.mem_cons_of_mem _ hb
 ·rw[e] at hb
  unfold frs at hb
  rw[List.filterMap_cons,hf] at hb
  exact hb
theorem Inv.stkFree (I:Inv X pins σ H s):∀b∈frs X.stack,H b=none:=fun b hb=>by
 rcases List.mem_cons.mp (I.stkSub b hb) with e|hb
 ·rw[e];exact I.free
 ·obtain⟨_,o,ho,_⟩:=I.ok.funs.mem hb
  exact I.base.free b o ho (I.ok.frf b hb) fun z=>I.ok.exfs b z hb
theorem Inv.step {g':Array GenState}{t':Nat}{d':Drawn}{ch:List Addr}(I:Inv X pins σ H s)
  (hch:∀b∈ch,(b∈X.ex∨X.s₀.heap.objs.size≤b)∧b≠X.env.locals∧(∀x c,X.env.cells.lookup x=some c→c≠b)∧∀p∈X.pn++pins,p.1≠b)
  (keep:∀b o,b≠X.env.locals→b∉X.fs→b∉ch→s.heap.get? b=some o→H b=none→h'.get? b=some o)
  (slot:∀b o,b≠X.env.locals→b∈X.fs→b∉ch→s.heap.get? b=some o→H b=none→∃sl,h'.get? b=some {o with slots:=sl}) (free:∀b o,b∉ch→s.heap.get? b=some o→H b=none→H' b=none)
  (there:∀b o,b∉ch→s.heap.get? b=some o→∃o',h'.get? b=some o')
  (tups:∀b xs,H b=some (.tup xs)→H' b=some (.tup xs)) (frzs:∀b o u,H b=some (.frz o u)→H' b=some (.frz o u)) (tbls:∀b ps,H b=some (.tbl ps)→∃more,H' b=some (.tbl (ps++more)))
  (ns:∀m,s.heap.Ns X.env.locals m→h'.Ns X.env.locals m) (hok:HOk X.prog X.w H' h') (hg:AllBare g'):
  Inv X pins σ H' {s with heap:=h',gens:=g',drawn:=d',toks:=t'}:=by
 have neL:∀b o,X.s₀.heap.get? b=some o→b≠X.env.locals:=fun b o e=>Nat.ne_of_lt (Nat.lt_of_lt_of_le (Heap.lt_size e) I.ok.above)
 have neC:∀b o,X.s₀.heap.get? b=some o→b∉X.ex→b∉ch:=fun b o e hx hb=>by
  rcases(hch b hb).1 with z|z
  ·exact hx z
  ·exact absurd (Nat.lt_of_lt_of_le (Heap.lt_size e) z) (Nat.lt_irrefl _)
 have cellK:∀x c,X.env.cells.lookup x=some c→∀v,s.heap.IsCell c v→h'.IsCell c v:=fun x c e v ⟨o,ho,hd⟩=>by
  have nch:c∉ch:=fun z=>(hch c z).2.2.1 x c e rfl
  by_cases hc:c∈X.fs
  ·obtain⟨sl,q⟩:=slot c o (I.cne x c e) hc nch ho (I.freeC x c e)
   exact⟨_,q,hd⟩
  ·exact⟨o,keep c o (I.cne x c e) hc nch ho (I.freeC x c e),hd⟩
 refine⟨I.ok,I.os,hg,⟨fun b o e n hb hx=>?_,fun b o e n hb hx=>?_,fun b o e n hx=>?_,fun b o e hx=>?_,fun b xs e=>tups b xs (I.base.tups b xs e),fun b o xs e=>frzs b o xs (I.base.frzs b o xs e),fun b ps e=>?_⟩,?_,fun x c e=>?_,?_,fun x c e=>?_,fun p hp=>?_,hok,I.len⟩
 ·exact keep b o (neL b o e) hb (neC b o e hx) (I.base.keep b o e n hb hx) (I.base.free b o e n hx)
 ·obtain⟨sl,e1⟩:=I.base.slot b o e n hb hx
  obtain⟨sl',e2⟩:=slot b _ (neL b o e) hb (neC b o e hx) e1 (I.base.free b o e n hx)
  exact⟨sl',e2⟩
 ·obtain⟨o',e1⟩:=I.base.there b o e hx
  exact free b o' (neC b o e hx) e1 (I.base.free b o e n hx)
 ·obtain⟨o',e1⟩:=I.base.there b o e hx
  exact there b o' (neC b o e hx) e1
 ·obtain⟨m1,e1⟩:=I.base.tbls b ps e
  obtain⟨m2,e2⟩:=tbls b _ e1
  exact⟨m1++m2,by rw[e2,Array.append_assoc]⟩
 ·obtain⟨m,hn,hl⟩:=I.loc
  refine⟨m,ns m hn,fun i x v e1 e2 e3=>?_⟩
  obtain⟨u,r,l⟩:=hl i x v e1 e2 e3
  refine⟨u,r,?_⟩
  rcases l with l|⟨k,c,e,z⟩
  ·exact .inl l
  ·exact .inr ⟨k,c,e,cellK x c e _ z⟩
 ·obtain⟨v,z⟩:=I.cell x c e
  exact⟨v,cellK x c e v z⟩
 ·obtain⟨m,⟨o,_,_,ho,_⟩,_⟩:=I.loc
  exact free _ o (fun z=>(hch _ z).2.1 rfl) ho I.free
 ·obtain⟨v,o,ho,hd⟩:=I.cell x c e
  exact free c o (fun z=>(hch c z).2.2.1 x c e rfl) ho (I.freeC x c e)
 ·obtain⟨e,n,ne,nf,d⟩:=I.pin p hp
  have nch:p.1∉ch:=fun z=>(hch p.1 z).2.2.2 p hp rfl
  exact⟨keep p.1 p.2 ne nf nch e n,free p.1 p.2 nch e n,ne,nf,d⟩
theorem Inv.un {t':Nat}(I:Inv X pins σ H s)(u:Un X.fs [] H H' s.heap h')(hok:HOk X.prog X.w H' h'):Inv X pins σ H' {s with heap:=h',toks:=t'}:=by
 obtain⟨m,⟨o,es,ep,ho,r⟩,_⟩:=id I.loc
 obtain⟨sl,hL⟩:=u.any ho I.free (by simp)
 exact I.step (g':=s.gens) (d':=s.drawn) (ch:=[]) (fun _ z=>nomatch z) (fun b o _ hb _ e n=>u.keep b o e n hb (by simp)) (fun b o _ hb _ e n=>u.slot b o e n hb (by simp)) (fun b o _ e n=>u.free b o e n (by simp)) (fun b o _ e=>u.there b o e (by simp)) u.tups u.frzs u.tbls (fun m' hm=>by
  obtain⟨o',es',ep',ho',r'⟩:=hm
  rw[ho] at ho';cases ho'
  exact⟨_,es',ep',hL,r'⟩) hok I.bare
theorem Inv.call {g':Array GenState}{t':Nat}{d':Drawn}{ch:List Addr}(I:Inv X pins σ H s)(u:Un (frs X.stack) ch H H' s.heap h')(hok:HOk X.prog X.w H' h')(hg:AllBare g')
  (hch:∀b∈ch,(b∈X.ex∨X.s₀.heap.objs.size≤b)∧b≠X.env.locals∧(∀x c,X.env.cells.lookup x=some c→c≠b)∧∀p∈X.pn++pins,p.1≠b):
  Inv X pins σ H' {s with heap:=h',gens:=g',drawn:=d',toks:=t'}:=by
 obtain⟨m,⟨o,es,ep,ho,r⟩,_⟩:=id I.loc
 obtain⟨sl,hL⟩:=u.any ho I.free fun z=>(hch _ z).2.1 rfl
 exact I.step (ch:=ch) hch (fun b o hL hb hc e n=>u.keep b o e n (fun z=>(List.mem_cons.mp (I.stkSub b z)).elim hL hb) hc) (fun b o _ _ hc e n=>u.any e n hc) (fun b o hc e n=>u.free b o e n hc) (fun b o hc e=>u.there b o e hc) u.tups u.frzs u.tbls (fun m' hm=>by
  obtain⟨o',es',ep',ho',r'⟩:=hm
  rw[ho] at ho';cases ho'
  exact⟨_,es',ep',hL,r'⟩) hok hg
theorem Inv.turned {t':Nat}{it:Addr}(I:Inv X pins σ H s)(k:∀b o,b≠it→s.heap.get? b=some o→h'.get? b=some o)(hn:H it=none)(hL:it≠X.env.locals)
  (h1:it∈X.ex∨X.s₀.heap.objs.size≤it) (h2:∀x c,X.env.cells.lookup x=some c→c≠it) (h3:∀p∈X.pn++pins,p.1≠it):Inv X pins σ H {s with heap:=h',toks:=t'}:=by
 have nit:∀b u,H b=some u→b≠it:=fun b u e z=>by rw[z,hn] at e;cases e
 refine I.step (g':=s.gens) (d':=s.drawn) (ch:=[it]) (fun b hb=>?_) (fun b o _ _ hc e _=>k b o (fun z=>hc (by simp [z])) e) (fun b o _ _ hc e _=>⟨o.slots,k b o (fun z=>hc (by simp [z])) e⟩) (fun _ _ _ _ n=>n)
  (fun b o hc e=>⟨o,k b o (fun z=>hc (by simp [z])) e⟩) (fun _ _ e=>e) (fun _ _ _ e=>e) (fun b ps e=>⟨#[],by rw[e];simp⟩) (fun m hm=>?_) (fun b u e=>?_) I.bare
 ·have e:b=it:=by simpa using hb
  subst e
  exact⟨h1,hL,h2,h3⟩
 ·obtain⟨o,es,ep,ho,r⟩:=hm
  exact⟨o,es,ep,k _ o (Ne.symm hL) ho,r⟩
 ·refine(I.hok b u e).stay (fun c v hc q=>k c v ?_ q) (fun _ q=>q) fun _ _ q=>q
  rcases hc with z|z
  ·rw[z];exact nit b u e
  ·exact nit c _ z
theorem Inv.tok (I:Inv X pins σ H s)(t:Nat):Inv X pins σ H {s with toks:=t}:=I.un (h':=s.heap) (t':=t) Un.refl I.hok
theorem Inv.kept {t':Nat}(I:Inv X pins σ H s)(k:∀b u,s.heap.get? b=some u→h'.get? b=some u):Inv X pins σ H {s with heap:=h',toks:=t'}:=I.un (Un.kept k) (I.hok.kept k)
theorem Inv.laid {a:Addr}{o:HO}{t':Nat}(I:Inv X pins σ H s)(k:∀b u,s.heap.get? b=some u→h'.get? b=some u)(hp:s.heap.objs.size≤a)(new:ObjOk X.prog X.w (upd H a o) h' a o):
  Inv X pins σ (upd H a o) {s with heap:=h',toks:=t'}:=I.un (Un.laid k hp (I.hok.fresh hp)) (I.hok.laid k hp new)
theorem Inv.write {x e:Addr}{o:HO}{t':Nat}(I:Inv X pins σ H s)(mu:Mut (H x))(he:e=x∨H e=some (.own x))(k:∀b u,b≠e→s.heap.get? b=some u→h'.get? b=some u)(heo:∃u,h'.get? e=some u)
  (new:ObjOk X.prog X.w (upd H x o) h' x o):Inv X pins σ (upd H x o) {s with heap:=h',toks:=t'}:=I.un (Un.write mu he k heo) (I.hok.write mu he k heo new)
theorem Inv.weak {σ':List (Option V)}(I:Inv X pins σ H s)(hl:σ'.length=σ.length)(w:∀(i:Nat) v,σ'[i]?=some (some v)→σ[i]?=some (some v)):Inv X pins σ' H s:=
 ⟨I.ok,I.os,I.bare,I.base,let ⟨m,hn,hl'⟩:=I.loc;⟨m,hn,fun i x v e1 e2 e3=>hl' i x v e1 (w i v e2) e3⟩,I.cell,I.free,I.freeC,I.pin,I.hok,hl.trans I.len⟩
theorem Inv.pins_of {pins':List (Addr×Obj)}(I:Inv X pins σ H s)(h:∀p∈pins',s.heap.get? p.1=some p.2∧H p.1=none∧p.1≠X.env.locals∧p.1∉X.fs∧∀v,p.2.data≠ .cell v):Inv X pins' σ H s:=
 ⟨I.ok,I.os,I.bare,I.base,I.loc,I.cell,I.free,I.freeC,fun p hp=>(List.mem_append.mp hp).elim (fun z=>I.pin p (List.mem_append_left _ z)) (h p),I.hok,I.len⟩
theorem a5H {N:List Str}(hN:N.Nodup){i j:Nat}{x:Str}(a:N[i]?=some x)(b:N[j]?=some x):i=j:=by
 obtain⟨h1,e1⟩:=List.getElem?_eq_some_iff.mp a
 obtain⟨h2,e2⟩:=List.getElem?_eq_some_iff.mp b
 exact(List.getElem_inj hN).mp (e1.trans e2.symm)
theorem a4a {M:Model}{A:Around}{E:Value→Shared→Prop}{i:Nat}{x:Str}{v:V}{u:Value}{Q:Unit→Shared→Prop}(I:Inv X pins σ H s)(hN:X.N.Nodup)(hi:X.N[i]?=some x)(hx:Loc X.env.scope x)(r:RelV v u)
  (h:∀s',Inv X pins (σ.set i (some v)) H s'→(∃a,Heap.SameBut a s.heap s'.heap∧(a=X.env.locals∨X.env.cells.lookup x=some a))→Q () s') (hf:X.fn x=true∨X.env.scope.names.lookup x=some .local:=by first|exact .inl rfl|exact .inr rfl|assumption):wpAny M A (storeName X.env x u) Q E s:=by
 obtain⟨m,hn,hl⟩:=id I.loc
 have hcls:(X.env.scope.kind== .class||(X.env.scope.kind== .module&&X.env.locals !=X.env.globals))=false:=by rw[I.ok.kind];rfl
 have hiσ:i<σ.length:=by rw[I.len];exact(List.getElem?_eq_some_iff.mp hi).1
 have cne:=I.cne
 have tracked:∀{a:Addr} {h':Heap},(∃o,s.heap.get? a=some o∧H a=none)→Heap.SameBut a s.heap h'→HOk X.prog X.w H h':=fun{a h'} ha hs b ob e=>by
  obtain⟨_,_,hfree⟩:=ha
  refine(I.hok b ob e).stay (fun c w' hc q=>(hs.2 c ?_).trans q) (fun _ q=>q) fun _ _ q=>q
  rintro rfl
  rcases hc with rfl|hc
  ·rw[hfree] at e;cases e
  ·rw[hfree] at hc;cases hc
 rcases hx with hk|hk
 ·refine wpAny_storeName_local hk hn (fun h' hn' hs=>?_) hcls
  obtain⟨oL,_,_,hoL,_⟩:=id hn
  refine h _ ⟨I.ok,I.os,I.bare,⟨fun b o e n hb hx=>?_,fun b o e n hb hx=>?_,I.base.free,fun b o e hx=>?_,I.base.tups,I.base.frzs,I.base.tbls⟩,⟨_,hn',fun j y v' e1 e2 e3=>?_⟩,fun y c e=>?_,I.free,I.freeC,fun p hp=>?_,tracked ⟨oL,hoL,I.free⟩ hs,by simpa using I.len⟩ ⟨_,hs,.inl rfl⟩
  ·exact(hs.2 b (Nat.ne_of_lt (Nat.lt_of_lt_of_le (Heap.lt_size e) I.ok.above))).trans (I.base.keep b o e n hb hx)
  ·obtain⟨sl,e1⟩:=I.base.slot b o e n hb hx
   exact⟨sl,(hs.2 b (Nat.ne_of_lt (Nat.lt_of_lt_of_le (Heap.lt_size e) I.ok.above))).trans e1⟩
  ·obtain⟨o',e1⟩:=I.base.there b o e hx
   exact⟨o',(hs.2 b (Nat.ne_of_lt (Nat.lt_of_lt_of_le (Heap.lt_size e) I.ok.above))).trans e1⟩
  ·by_cases hj:j=i
   ·subst hj
    rw[hi] at e1;cases e1
    rw[List.getElem?_set_self hiσ] at e2
    cases e2
    exact⟨u,r,.inl ⟨hk,by simp⟩⟩
   ·rw[List.getElem?_set_ne (Ne.symm hj)] at e2
    obtain⟨u',r',q⟩:=hl j y v' e1 e2 e3
    refine⟨u',r',?_⟩
    rcases q with⟨k,e⟩|⟨k,c,e,z⟩
    ·refine .inl ⟨k,?_⟩
     have:y≠x:=fun e=>hj (a5H hN e1 (e▸hi))
     simp [this,e]
    ·exact .inr ⟨k,c,e,z.sameBut hs (cne y c e)⟩
  ·obtain⟨w',z⟩:=I.cell y c e
   exact⟨w',z.sameBut hs (cne y c e)⟩
  ·obtain⟨e,n,ne,nf,d⟩:=I.pin p hp
   exact⟨(hs.2 p.1 ne).trans e,n,ne,nf,d⟩
 ·have hfn:X.fn x=true:=by
   rcases hf with z|z
   ·exact z
   ·rw[z] at hk;cases hk
  obtain⟨c,hc⟩:=I.ok.has x (.inl hk)
  obtain⟨w',z⟩:=I.cell x c hc
  refine wpAny_storeName_cell I.ok.kind hk hc z (fun h' hc' hs=>?_)
  obtain⟨oc,hoc,hocd⟩:=id z
  refine h {s with heap:=h'} ⟨I.ok,I.os,I.bare,⟨fun b o e n hb hx=>?_,fun b o e n hb hx=>?_,I.base.free,fun b o e hx=>?_,I.base.tups,I.base.frzs,I.base.tbls⟩,⟨m,hn.sameBut hs (Ne.symm (cne x c hc)),fun j y v' e1 e2 e3=>?_⟩,fun y c' e=>?_,I.free,I.freeC,fun p hp=>?_,tracked ⟨oc,hoc,I.freeC x c hc⟩ hs,by simpa using I.len⟩ ⟨c,hs,.inr hc⟩
  ·exact(hs.2 b (Nat.ne_of_lt (Nat.lt_of_lt_of_le (Heap.lt_size e) (I.ok.cab x c hfn hc)))).trans (I.base.keep b o e n hb hx)
  ·obtain⟨sl,e1⟩:=I.base.slot b o e n hb hx
   exact⟨sl,(hs.2 b (Nat.ne_of_lt (Nat.lt_of_lt_of_le (Heap.lt_size e) (I.ok.cab x c hfn hc)))).trans e1⟩
  ·obtain⟨o',e1⟩:=I.base.there b o e hx
   exact⟨o',(hs.2 b (Nat.ne_of_lt (Nat.lt_of_lt_of_le (Heap.lt_size e) (I.ok.cab x c hfn hc)))).trans e1⟩
  ·by_cases hj:j=i
   ·subst hj
    rw[hi] at e1;cases e1
    rw[List.getElem?_set_self hiσ] at e2
    cases e2
    exact⟨u,r,.inr ⟨.inl hk,c,hc,hc'⟩⟩
   ·rw[List.getElem?_set_ne (Ne.symm hj)] at e2
    obtain⟨u',r',q⟩:=hl j y v' e1 e2 e3
    refine⟨u',r',?_⟩
    rcases q with q|⟨k,c',e,z'⟩
    ·exact .inl q
    ·refine .inr ⟨k,c',e,z'.sameBut hs ?_⟩
     rintro rfl
     exact hj (a5H hN e1 (I.ok.inj _ _ _ e hc▸hi))
  ·by_cases hcc:c'=c
   ·subst hcc;exact⟨_,hc'⟩
   ·obtain⟨w2,z2⟩:=I.cell y c' e
    exact⟨w2,z2.sameBut hs hcc⟩
  ·obtain⟨e,n,ne,nf,d⟩:=I.pin p hp
   refine⟨(hs.2 p.1 ?_).trans e,n,ne,nf,d⟩
   intro q
   rw[q,hoc] at e
   have q':oc=p.2:=Option.some.inj e
   exact d w' (by rw[←q'];exact hocd)
theorem a5y {M:Model}{A:Around}{E:Value→Shared→Prop}{i:Nat}{x:Str}{v:V}{u:Value}{Q:Unit→Shared→Prop}(I:Inv X pins σ H s)(hN:X.N.Nodup)(hi:X.N[i]?=some x)(hx:Loc X.env.scope x)(r:RelV v u)
  (h:∀s',Inv X pins (σ.set i (some v)) H s'→Q () s') (hf:X.fn x=true∨X.env.scope.names.lookup x=some .local:=by first|exact .inl rfl|exact .inr rfl|assumption):wpAny M A (storeName X.env x u) Q E s:=
 a4a I hN hi hx r (fun s' I' _=>h s' I') hf
theorem Inv.call' {s':Shared}{ch:List Addr}(I:Inv X pins σ H s)(ho:s'.os=s.os)(u:Un (frs X.stack) ch H H' s.heap s'.heap)(hok:HOk X.prog X.w H' s'.heap)(hg:AllBare s'.gens)
  (hch:∀b∈ch,(b∈X.ex∨X.s₀.heap.objs.size≤b)∧b≠X.env.locals∧(∀x c,X.env.cells.lookup x=some c→c≠b)∧∀p∈X.pn++pins,p.1≠b):Inv X pins σ H' s':=by
 obtain⟨h',g',d',t',o'⟩:=s'
 have e:o'=s.os:=ho
 subst e
 exact I.call (g':=g') (t':=t') (d':=d') u hok hg hch
end
abbrev XK:=Value→Option Addr→Hp→Prop
abbrev St:=List (Option V)
abbrev VK:=V→Hp→Prop
abbrev TE:=St→Hp→VK→Prop
abbrev TT:=St→Hp→(Bool→Hp→Prop)→Prop
abbrev TA:=St→Hp→(List V→Hp→Prop)→Prop
structure a6L where
 nx:St→Hp→Prop
 rt:VK
 bk:St→Hp→Prop:=fun _ _=>False
 ct:St→Hp→Prop:=fun _ _=>False
abbrev TS:=a6L→St→Hp→Prop
def EP (X:Cx)(pins:List (Addr×Obj))(σ:St)(Q:VK)(u:Value)(s':Shared):Prop:=∃v H',Inv X pins σ H' s'∧RelV v u∧Q v H'
def TP (X:Cx)(pins:List (Addr×Obj))(σ:St)(Q:Bool→Hp→Prop)(b:Bool)(s':Shared):Prop:=∃H',Inv X pins σ H' s'∧Q b H'
def AP (X:Cx)(pins:List (Addr×Obj))(σ:St)(Q:List V→Hp→Prop)(us:List Value)(s':Shared):Prop:=∃vs H',Inv X pins σ H' s'∧Vals vs us∧Q vs H'
def SP (X:Cx)(pins:List (Addr×Obj))(D:a6L)(f:Flow)(s':Shared):Prop:=
 match f with
 | .next=>∃σ' H',Inv X pins σ' H' s'∧D.nx σ' H'
 | .brk=>∃σ' H',Inv X pins σ' H' s'∧D.bk σ' H'
 | .cont=>∃σ' H',Inv X pins σ' H' s'∧D.ct σ' H'
 | .ret u=>∃v σ' H',Inv X pins σ' H' s'∧RelV v u∧D.rt v H'
def PE (X:Cx)(e:Expr)(t:TE):Prop:=
 ∀(pins:List (Addr×Obj)) (s:Shared) (σ:St) (H:Hp) (Q:VK),Inv X pins σ H s→t σ H Q→wpAny (model X.prog X.w) X.A (eval e X.env) (EP X pins σ Q) X.xe s
def PT (X:Cx)(e:Expr)(t:TT):Prop:=
 ∀(pins:List (Addr×Obj)) (s:Shared) (σ:St) (H:Hp) (Q:Bool→Hp→Prop),Inv X pins σ H s→t σ H Q→wpAny (model X.prog X.w) X.A (isTrue e X.env (eval e X.env)) (TP X pins σ Q) X.xe s
def PW (X:Cx)(e:Expr)(t:TT):Prop:=
 ∀(whole:Sem Value) (pins:List (Addr×Obj)) (s:Shared) (σ:St) (H:Hp) (Q:Bool→Hp→Prop),Inv X pins σ H s→t σ H Q→wpAny (model X.prog X.w) X.A (isTrue e X.env whole) (TP X pins σ Q) X.xe s
theorem PW.pt {X:Cx}{e:Expr}{t:TT}(h:PW X e t):PT X e t:=h _
def PA (X:Cx)(es:List Expr)(t:TA):Prop:=
 ∀(pos:Pos) (pins:List (Addr×Obj)) (s:Shared) (σ:St) (H:Hp) (Q:List V→Hp→Prop),Inv X pins σ H s→t σ H Q→wpAny (model X.prog X.w) X.A (spliced (backTo pos (starEach es X.env))) (AP X pins σ Q) X.xe s
def PS (X:Cx)(st:Stmt)(t:TS):Prop:=
 ∀(pins:List (Addr×Obj)) (s:Shared) (σ:St) (H:Hp) (D:a6L),Inv X pins σ H s→t D σ H→wpAny (model X.prog X.w) X.A (exec st X.env) (SP X pins D) X.xe s
def PSs (X:Cx)(st:List Stmt)(t:TS):Prop:=
 ∀(pins:List (Addr×Obj)) (s:Shared) (σ:St) (H:Hp) (D:a6L),Inv X pins σ H s→t D σ H→wpAny (model X.prog X.w) X.A (execs st X.env) (SP X pins D) X.xe s
theorem thn {α:Type}{t:Sem α}{Q Q':α→Shared→Prop}{M:Model}{A:Around}{E:Value→Shared→Prop}{s:Shared}(h:wpAny M A t Q E s)(hQ:∀a s,Q a s→Q' a s):wpAny M A t Q' E s:=wpAny_mono h hQ fun _ _ x=>x
end L2
namespace L2
open PySem PySem.Spec PyProof.Rows
section
variable {X:Cx}
def b3G (i:Nat):TE:=fun σ H Q=>∃v,σ[i]?=some (some v)∧Q v H
def tC (v:V):TE:=fun _ H Q=>Q v H
theorem b4C {i:Nat}{x:Str}{pos:Pos}(hN:X.N[i]?=some x)(hv:Vis X.env.scope x)(hd:(x==("__debug__":Str))=false:=by decide)(hcd:(x==("__classdict__":Str))=false:=by decide):PE X (.Name x pos) (b3G i):=by
 intro pins s σ H Q I h
 obtain⟨v,e,h⟩:=h
 obtain⟨m,hn,hl⟩:=I.loc
 obtain⟨u,r,l⟩:=hl i x v hN e hv
 have fin:EP X pins σ Q u s:=⟨v,H,I,r,h⟩
 rcases l with⟨hk,hm⟩|⟨hk,c,hc,hcell⟩
 ·exact wpAny_Name (wpAny_loadName_local I.ok.kind hk hn hm fin) hd
 ·rcases hk with hk|hk
  ·exact wpAny_Name (wpAny_loadName_cell I.ok.kind hk hc hcell fin) hd
  ·exact wpAny_Name (wpAny_loadName_free I.ok.kind hk hc hcell fin hcd) hd
theorem b2O {i j pos}:PE X (.Constant (.int i) j pos) (tC (.int i)):=fun _ _ _ H _ I h=>wpAny_Constant_int ⟨.int i,H,I.tok _,⟨_,rfl⟩,h⟩
theorem b4N {b j pos}:PE X (.Constant (.bool b) j pos) (tC (.bl b)):=fun _ _ _ H _ I h=>Constant_bool ⟨.bl b,H,I,rfl,h⟩
theorem b3u {j pos}:PE X (.Constant .none j pos) (tC .non):=fun _ _ _ H _ I h=>Constant_none ⟨.non,H,I,rfl,h⟩
theorem b2W {x j pos}:PE X (.Constant (.str x) j pos) (tC (.str x)):=fun _ _ _ H _ I h=>Calls.Constant_str ⟨.str x,H,I.tok _,⟨_,rfl⟩,h⟩
def Gl (X:Cx)(x:Str):Prop:=X.env.kindOf x=some .globalImplicit
theorem a5k {E:Value→Shared→Prop}{pins:List (Addr×Obj)}{s:Shared}{σ:St}{H:Hp}{x:Str}{u:Value}{pos:Pos}{Q:Value→Shared→Prop}(I:Inv X pins σ H s)(hg:Gl X x)(hm:X.mg x=some u)(h:Q u s)
  (hd:(x==("__debug__":Str))=false:=by decide):wpAny (model X.prog X.w) X.A (eval (.Name x pos) X.env) Q E s:=
 Calls.Name_function_global I.ok.kind hg (Calls.loadGlobal_global (by rw[I.ok.glob];exact I.mod.glob.keeps I.bk) hm h) hd
theorem a2Z {E:Value→Shared→Prop}{pins:List (Addr×Obj)}{s:Shared}{σ:St}{H:Hp}{x:Str}{u:Value}{pos:Pos}{Q:Value→Shared→Prop}(I:Inv X pins σ H s)(hg:Gl X x)(hm:X.mg x=none)(hv:bootBuiltins x=some u)(h:Q u s)
  (hn:x≠"__name__":=by decide) (hd:(x==("__debug__":Str))=false:=by decide):wpAny (model X.prog X.w) X.A (eval (.Name x pos) X.env) Q E s:=by
 obtain⟨mb,h1,h2⟩:=I.mod.blt
 exact Calls.Name_function_global I.ok.kind hg (Calls.loadGlobal_builtin (by rw[I.ok.glob];exact I.mod.glob.keeps I.bk) hm (by rw[I.ok.blt];exact h1.keeps I.bk) ((h2 x hn).trans hv) h) hd
theorem b2q {x:Str}{v:V}{u:Value}{pos:Pos}(hg:Gl X x)(hm:X.mg x=some u)(r:RelV v u)(hd:(x==("__debug__":Str))=false:=by decide):PE X (.Name x pos) (tC v):=
 fun _ _ _ H _ I h=>a5k I hg hm ⟨v,H,I,r,h⟩ hd
theorem b2g {x:Str}{v:V}{u:Value}{pos:Pos}(hg:Gl X x)(hm:X.mg x=none)(hv:bootBuiltins x=some u)(r:RelV v u)(hn:x≠"__name__":=by decide)(hd:(x==("__debug__":Str))=false:=by decide):PE X (.Name x pos) (tC v):=
 fun _ _ _ H _ I h=>a2Z I hg hm hv ⟨v,H,I,r,h⟩ hn hd
variable {a b:Expr} {ta tb:TE} {pos:Pos}
theorem RelV.none_iff {x:V}{v:Value}(r:RelV x v):(v==Value.none)=decide (x= .non):=by
 cases x with
 |non=>cases r;rfl
 |bl _=>cases r;rfl
 |int _=>obtain⟨t,rfl⟩:=r;rfl
 |str _=>obtain⟨t,rfl⟩:=r;rfl
 |byt _=>obtain⟨t,rfl⟩:=r;rfl
 |flt _=>obtain⟨t,rfl⟩:=r;rfl
 |ref _=>cases r;rfl
 |ty _=>cases r;rfl
variable {tA tB':TT} {U0:List Expr}
def b4r (t u:TT):TT:=fun σ H Q=>t σ H fun c H1=>if c=true then u σ H1 Q else Q false H1
def tOr (t u:TT):TT:=fun σ H Q=>t σ H fun c H1=>if c=true then Q true H1 else u σ H1 Q
def b4t (t:TT):TT:=fun σ H Q=>t σ H fun c H1=>Q (!c) H1
theorem b2d (ha:PT X a tA):PW X (.BoolOp .And [a] pos) tA:=by
 intro wh pins s σ H Q I h
 refine isTrue_and (thn (ha pins s σ H Q I h) fun c s1 e=>?_)
 cases c with
 |true=>exact isTrue_and_nil e
 |false=>exact e
theorem b4f (ha:PT X a tA):PW X (.BoolOp .Or [a] pos) tA:=by
 intro wh pins s σ H Q I h
 refine isTrue_or (thn (ha pins s σ H Q I h) fun c s1 e=>?_)
 cases c with
 |false=>exact isTrue_or_nil e
 |true=>exact e
theorem b4A (ha:PT X a tA)(hb:PW X (.BoolOp .And (b::U0) pos) tB'):PW X (.BoolOp .And (a::b::U0) pos) (b4r tA tB'):=by
 intro wh pins s σ H Q I h
 refine isTrue_and (thn (ha pins s σ H _ I h) fun c s1 ⟨H1,I1,q1⟩=>?_)
 cases c with
 |true=>exact hb wh pins s1 σ H1 Q I1 q1
 |false=>exact⟨H1,I1,q1⟩
theorem b5G (ha:PT X a tA)(hb:PW X (.BoolOp .Or (b::U0) pos) tB'):PW X (.BoolOp .Or (a::b::U0) pos) (tOr tA tB'):=by
 intro wh pins s σ H Q I h
 refine isTrue_or (thn (ha pins s σ H _ I h) fun c s1 ⟨H1,I1,q1⟩=>?_)
 cases c with
 |true=>exact⟨H1,I1,q1⟩
 |false=>exact hb wh pins s1 σ H1 Q I1 q1
theorem b4u (ha:PT X a tA):PT X (.UnaryOp .Not a pos) (b4t tA):=by
 intro pins s σ H Q I h
 exact isTrue_not (ha pins s σ H (fun c H1=>Q (!c) H1) I h)
def b0D (ta tb:TE):TE:=fun σ H Q=>ta σ H fun x H1=>∃c,x= .bl c∧if c=true then tb σ H1 Q else Q (.bl false) H1
def b3h (ta tb:TE):TE:=fun σ H Q=>ta σ H fun x H1=>∃c,x= .bl c∧if c=true then Q (.bl true) H1 else tb σ H1 Q
def b1b (ta:TE):TE:=fun σ H Q=>ta σ H fun x H1=>∃c,x= .bl c∧Q (.bl (!c)) H1
theorem b3Y {op}{t:TE}(h:PE X a t):PE X (.BoolOp op [a] pos) t:=fun pins s σ H Q I hw=>BoolOp_one (h pins s σ H Q I hw)
theorem b3X (ha:PE X a ta)(hb:PE X (.BoolOp .And (b::U0) pos) tb):PE X (.BoolOp .And (a::b::U0) pos) (b0D ta tb):=by
 intro pins s σ H Q I h
 refine BoolOp_and (thn (ha pins s σ H _ I h) fun v s1 ⟨x,H1,I1,r1,q1⟩=>?_)
 obtain⟨c,rfl,q1⟩:=q1
 cases r1
 refine wpAny_truthy_bool ?_
 cases c with
 |true=>exact hb pins s1 σ H1 Q I1 q1
 |false=>exact⟨.bl false,H1,I1,rfl,q1⟩
theorem b5V (ha:PE X a ta)(hb:PE X (.BoolOp .Or (b::U0) pos) tb):PE X (.BoolOp .Or (a::b::U0) pos) (b3h ta tb):=by
 intro pins s σ H Q I h
 refine BoolOp_or (thn (ha pins s σ H _ I h) fun v s1 ⟨x,H1,I1,r1,q1⟩=>?_)
 obtain⟨c,rfl,q1⟩:=q1
 cases r1
 refine wpAny_truthy_bool ?_
 cases c with
 |false=>exact hb pins s1 σ H1 Q I1 q1
 |true=>exact⟨.bl true,H1,I1,rfl,q1⟩
theorem b3x (ha:PE X a ta):PE X (.UnaryOp .Not a pos) (b1b ta):=by
 intro pins s σ H Q I h
 refine UnaryOp_ (thn (ha pins s σ H _ I h) fun v s1 ⟨x,H1,I1,r1,q1⟩=>?_)
 obtain⟨c,rfl,q1⟩:=q1
 cases r1
 exact not_of (wpAny_truthy_bool ⟨.bl (!c),H1,I1,rfl,q1⟩)
def tIf (t:TT)(ta tb:TE):TE:=fun σ H Q=>t σ H fun c H1=>if c=true then ta σ H1 Q else tb σ H1 Q
end
end L2
namespace L2
open PySem PySem.Spec PyProof.Rows
def SqL (K:PySem.W.Frag)(H:Hp)(a:Addr)(xs:List V):Prop:=
 Rd H a (.lst xs)∨
  ∃(o:Obj) (its:Array Value) (n:Nat),K.lookup a=some o∧o.cls= .type "list"∧o.dict=none∧o.data= .seq its n∧its.size≤sizeLine∧Vals xs its.toList
def SqT (K:PySem.W.Frag)(H:Hp)(a:Addr)(xs:List V):Prop:=
 Rd H a (.tup xs)∨
  ∃(o:Obj) (its:Array Value) (n:Nat),K.lookup a=some o∧o.cls= .type "tuple"∧o.data= .seq its n∧its.size≤sizeLine∧Vals xs its.toList
def b6t:Value→Option V
 | .none=>some .non
 | .bool b=>some (.bl b)
 | .int i _=>some (.int i)
 | .str x _=>some (.str x)
 | .bytes b _=>some (.byt b)
 | .float b _=>some (.flt b)
 | .ref a=>some (.ref a)
 | .type n=>some (.ty n)
 |_=>none
theorem RelV.abs {x:V}{u:Value}(r:RelV x u):b6t u=some x:=by
 cases x with
 |non=>cases r;rfl
 |bl _=>cases r;rfl
 |int _=>obtain⟨t,rfl⟩:=r;rfl
 |str _=>obtain⟨t,rfl⟩:=r;rfl
 |byt _=>obtain⟨t,rfl⟩:=r;rfl
 |flt _=>obtain⟨t,rfl⟩:=r;rfl
 |ref _=>cases r;rfl
 |ty _=>cases r;rfl
theorem RelV.inj {x y:V}{u:Value}(r:RelV x u)(q:RelV y u):x=y:=Option.some.inj (r.abs.symm.trans q.abs)
theorem Vals.inj:∀{xs ys:List V} {us:List Value},Vals xs us→Vals ys us→xs=ys
 |_,_,_,.nil,.nil=>rfl
 |_,_,_,.cons r t,.cons r' t'=>by rw[r.inj r',Vals.inj t t']
section
variable {X:Cx} {pins:List (Addr×Obj)} {σ:St} {H:Hp} {s:Shared} {a:Addr} {xs ys:List V}
theorem SqL.of {K:PySem.W.Frag}(h:H a=some (.lst xs)):SqL K H a xs:= .inl (.inl h)
theorem SqT.of {K:PySem.W.Frag}(h:H a=some (.tup xs)):SqT K H a xs:= .inl (.inl h)
theorem Inv.list (I:Inv X pins σ H s)(h:SqL X.K H a xs):∃its:List Value,Vals xs its∧PlainL s.heap a its.toArray∧xs.length≤sizeLine:=by
 rcases h with h|⟨o,its,n,hk,hc,hd,hs,hz,r⟩
 ·obtain⟨z,its,n,r,e⟩:=h.ok I.hok
  exact⟨its,r,⟨_,n,e,rfl,rfl,rfl⟩,z⟩
 ·refine⟨its.toList,r,⟨o,n,I.kIn a o hk,hc,hd,by simpa using hs⟩,?_⟩
  have e:=r.length
  simp only[Array.length_toList] at e
  omega
theorem Inv.tuple (I:Inv X pins σ H s)(h:SqT X.K H a xs):∃its:List Value,Vals xs its∧IsTup s.heap a its.toArray∧xs.length≤sizeLine:=by
 rcases h with h|⟨o,its,n,hk,hc,hs,hz,r⟩
 ·obtain⟨z,its,r,p⟩:=h.ok I.hok
  exact⟨its,r,p,z⟩
 ·refine⟨its.toList,r,⟨o,I.kIn a o hk,hc,n,by simpa using hs⟩,?_⟩
  have e:=r.length
  simp only[Array.length_toList] at e
  omega
theorem Inv.list_inj (I:Inv X pins σ H s)(h:SqL X.K H a xs)(h':SqL X.K H a ys):xs=ys:=by
 obtain⟨its,r,⟨o,n,e,_,_,d⟩,_⟩:=I.list h
 obtain⟨its',r',⟨o',n',e',_,_,d'⟩,_⟩:=I.list h'
 rw[e] at e';cases e'
 rw[d] at d'
 injection d' with d1 _
 have:its=its':=by simpa using congrArg Array.toList d1
 subst this
 exact r.inj r'
theorem Inv.tuple_inj (I:Inv X pins σ H s)(h:SqT X.K H a xs)(h':SqT X.K H a ys):xs=ys:=by
 obtain⟨its,r,⟨o,e,_,n,d⟩,_⟩:=I.tuple h
 obtain⟨its',r',⟨o',e',_,n',d'⟩,_⟩:=I.tuple h'
 rw[e] at e';cases e'
 rw[d] at d'
 injection d' with d1 _
 have:its=its':=by simpa using congrArg Array.toList d1
 subst this
 exact r.inj r'
end
abbrev Cx.wish (X:Cx)(E:Value→Shared→Prop):Cx:={X with xe:=E}
abbrev Cx.nox (X:Cx):Cx:=X.wish fun _ _=>False
theorem Cx.Ok.wish {X:Cx}(ok:X.Ok)(E:Value→Shared→Prop):(X.wish E).Ok:=
 ⟨ok.mod,ok.kind,ok.glob,ok.blt,ok.above,ok.inj,ok.has,ok.cab,ok.hd,ok.frames,ok.stk,ok.exf,ok.bs,ok.bsz,ok.noex,ok.exfs,ok.funs,ok.frf⟩
theorem Cx.Ok.unwish {X:Cx}{E:Value→Shared→Prop}(ok:(X.wish E).Ok):X.Ok:=
 ⟨ok.mod,ok.kind,ok.glob,ok.blt,ok.above,ok.inj,ok.has,ok.cab,ok.hd,ok.frames,ok.stk,ok.exf,ok.bs,ok.bsz,ok.noex,ok.exfs,ok.funs,ok.frf⟩
section
variable {X:Cx} {pins:List (Addr×Obj)} {σ:St} {H:Hp} {s:Shared} {E:Value→Shared→Prop}
theorem Inv.wish (I:Inv X pins σ H s)(E:Value→Shared→Prop):Inv (X.wish E) pins σ H s:=⟨I.ok.wish E,I.os,I.bare,I.base,I.loc,I.cell,I.free,I.freeC,I.pin,I.hok,I.len⟩
theorem Inv.unwish (I:Inv (X.wish E) pins σ H s):Inv X pins σ H s:=⟨I.ok.unwish,I.os,I.bare,I.base,I.loc,I.cell,I.free,I.freeC,I.pin,I.hok,I.len⟩
theorem SP.unwish {D:a6L}{f:Flow}{s':Shared}(h:SP (X.wish E) pins D f s'):SP X pins D f s':=by
 cases f with
 |next=>obtain⟨σ',H',I,q⟩:=h;exact⟨σ',H',I.unwish,q⟩
 |brk=>obtain⟨σ',H',I,q⟩:=h;exact⟨σ',H',I.unwish,q⟩
 |cont=>obtain⟨σ',H',I,q⟩:=h;exact⟨σ',H',I.unwish,q⟩
 |ret u=>obtain⟨v,σ',H',I,r,q⟩:=h;exact⟨v,σ',H',I.unwish,r,q⟩
theorem PE.nox {e:Expr}{t:TE}(h:PE X.nox e t):PE X e t:=fun pins s σ H Q I hw=>
 wpAny_mono (h pins s σ H Q (I.wish _) hw) (fun _ _ ⟨v,H',I',r,q⟩=>⟨v,H',I'.unwish,r,q⟩) fun _ _ z=>False.elim z
theorem PT.nox {e:Expr}{t:TT}(h:PT X.nox e t):PT X e t:=fun pins s σ H Q I hw=>
 wpAny_mono (h pins s σ H Q (I.wish _) hw) (fun _ _ ⟨H',I',q⟩=>⟨H',I'.unwish,q⟩) fun _ _ z=>False.elim z
theorem PSs.nox {st:List Stmt}{t:TS}(h:PSs X.nox st t):PSs X st t:=fun pins s σ H D I hw=>
 wpAny_mono (h pins s σ H D (I.wish _) hw) (fun _ _ q=>q.unwish) fun _ _ z=>False.elim z
end
section
variable {X:Cx} {st:Stmt} {U0:List Stmt} {t u:TS} {e:Expr} {te:TE} {pos:Pos}
def a9q:TS:=fun D σ H=>D.nx σ H
def a6f (t u:TS):TS:=fun D σ H=>t {D with nx:=u D} σ H
theorem b2c:PSs X [] a9q:=fun _ _ σ H _ I h=>wpAny_execs_nil ⟨σ,H,I,h⟩
theorem a9Z (h1:PS X st t)(h2:PSs X U0 u):PSs X (st::U0) (a6f t u):=by
 intro pins s σ H D I h
 refine wpAny_execs_cons (thn (h1 pins s σ H {D with nx:=u D} I h) fun f s1 q=>?_)
 cases f with
 |next=>
  obtain⟨σ',H',I',q⟩:=q
  exact h2 pins s1 σ' H' D I' q
 |ret v=>exact q
 |brk=>exact q
 |cont=>exact q
theorem b1s (h1:PS X st t):PSs X [st] t:=by
 intro pins s σ H D I h
 refine wpAny_execs_cons (thn (h1 pins s σ H D I h) fun f s1 q=>?_)
 cases f with
 |next=>exact wpAny_execs_nil q
 |ret v=>exact q
 |brk=>exact q
 |cont=>exact q
theorem Inv.quiet {pins:List (Addr×Obj)}{σ:St}{H:Hp}{s:Shared}(I:Inv X pins σ H s):interactive X.env=false:=by simp [interactive,I.ok.kind]
def a9W (te:TE):TS:=fun D σ H=>te σ H fun _ H1=>D.nx σ H1
theorem b2f (he:PE X e te)(hs:swapsWith e none pos.line X.env=pure false:=by rfl):PS X (.Expr e pos) (a9W te):=by
 intro pins s σ H D I h
 exact wpAny_Expr_any (thn (he pins s σ H _ I h) fun v s1 ⟨x,H1,I1,r1,q1⟩=>⟨σ,H1,I1,q1⟩) I.quiet hs
def b2e (te:TE):TS:=fun D σ H=>te σ H D.rt
theorem b3L (he:PE X e te):PS X (.Return (some e) pos) (b2e te):=by
 intro pins s σ H D I h
 exact wpAny_Return_some (thn (he pins s σ H _ I h) fun v s1 ⟨x,H1,I1,r1,q1⟩=>⟨x,σ,H1,I1,r1,q1⟩)
def b4q (c:TT)(t u:TS):TS:=fun D σ H=>c σ H fun b H1=>if b=true then t D σ H1 else u D σ H1
theorem b5H {c:Expr}{a b:List Stmt}{tc:TT}(hc:PT X c tc)(ha:PSs X a t)(hb:PSs X b u):PS X (.If c a b pos) (b4q tc t u):=by
 intro pins s σ H D I h
 refine wpAny_If (thn (hc pins s σ H _ I h) fun d s1 ⟨H1,I1,q1⟩=>?_)
 cases d with
 |true=>exact ha pins s1 σ H1 D I1 q1
 |false=>exact hb pins s1 σ H1 D I1 q1
end
abbrev TG:=V→St→Hp→(St→Hp→Prop)→Prop
abbrev TGs:=List V→St→Hp→(St→Hp→Prop)→Prop
def PG (X:Cx)(target:Expr)(t:TG):Prop:=
 ∀(pins:List (Addr×Obj)) (s:Shared) (σ:St) (H:Hp) (v:V) (u:Value) (Q:St→Hp→Prop),Inv X pins σ H s→RelV v u→t v σ H Q→
  wpAny (model X.prog X.w) X.A (assign target X.env u) (fun _ s'=>∃σ' H',Inv X pins σ' H' s'∧Q σ' H') X.xe s
def PGs (X:Cx)(ts:List Expr)(t:TGs):Prop:=
 ∀(pins:List (Addr×Obj)) (s:Shared) (σ:St) (H:Hp) (vs:List V) (us:List Value) (Q:St→Hp→Prop),Inv X pins σ H s→Vals vs us→t vs σ H Q→
  wpAny (model X.prog X.w) X.A (assignInOrder ((assignEach ts X.env).map (·.2)) us) (fun _ s'=>∃σ' H',Inv X pins σ' H' s'∧Q σ' H') X.xe s
abbrev a7l:=V→V→V→Hp→(Hp→Prop)→Prop
def a8A (X:Cx)(t:a7l):Prop:=
 ∀(pins:List (Addr×Obj)) (s:Shared) (σ:St) (H:Hp) (o i v:V) (ov iv u:Value) (Q:Hp→Prop),Inv X pins σ H s→RelV o ov→RelV i iv→RelV v u→t o i v H Q→
  wpAny (model X.prog X.w) X.A (setItem ov iv u) (fun _ s'=>∃H',Inv X pins σ H' s'∧Q H') X.xe s
section
variable {X:Cx} {pos:Pos}
def M0 (i:Nat):TG:=fun v σ H Q=>Q (σ.set i (some v)) H
theorem b1t {i:Nat}{x:Str}(hN:X.N.Nodup)(hi:X.N[i]?=some x)(hx:Loc X.env.scope x)(hf:X.fn x=true∨X.env.scope.names.lookup x=some .local:=by first|exact .inl rfl|exact .inr rfl|assumption):PG X (.Name x pos) (M0 i):=by
 intro pins s σ H v u Q I r h
 exact wpAny_assign_Name (a5y I hN hi hx r (fun s' I'=>⟨_,H,I',h⟩) hf)
def b1x:TGs:=fun vs σ H Q=>vs=[]∧Q σ H
def a2W (t:TG)(u:TGs):TGs:=fun vs σ H Q=>∃v r,vs=v::r∧t v σ H fun σ' H'=>u r σ' H' Q
theorem b1R:PGs X [] b1x:=by
 intro pins s σ H vs us Q I r h
 obtain⟨e,h⟩:=h
 subst e
 cases r
 exact assignInOrder_nil ⟨σ,H,I,h⟩
theorem a9J {e:Expr}{es:List Expr}{t:TG}{u:TGs}(h1:PG X e t)(h2:PGs X es u)
  (hs:(assignEach (e::es) X.env).map (·.2)=assign e X.env::(assignEach es X.env).map (·.2):=by rfl):PGs X (e::es) (a2W t u):=by
 intro pins s σ H vs us Q I r h
 obtain⟨v,vr,e1,h⟩:=h
 subst e1
 cases r with
 |cons r rr=>
  rw[hs]
  refine assignInOrder_cons (thn (h1 pins s σ H _ _ _ I r h) fun _ s1 ⟨σ1,H1,I1,q1⟩=>?_)
  exact h2 pins s1 σ1 H1 _ _ Q I1 rr q1
def a9e (K:PySem.W.Frag)(n:Nat)(t:TGs):TG:=fun v σ H Q=>∃a xs,v= .ref a∧SqT K H a xs∧xs.length=n∧t xs σ H Q
theorem b4h {es:List Expr}{k:Nat}{t:TGs}{n:Nat}(hc:X.calm=true)(h:PGs X es t)
  (hn:(assignEach es X.env).length=n:=by rfl) (hst:(assignEach es X.env).findIdx? (·.1)=none:=by rfl):PG X (.Tuple es k pos) (a9e X.K n t):=by
 intro pins s σ H v u Q I r hw
 obtain⟨a,xs,e1,hq,hl,hw⟩:=hw
 subst e1
 cases r
 obtain⟨its,rv,ht,hz⟩:=I.tuple hq
 refine assign_Tuple_tuple (I.ok.hd hc) ht (by simp [hn,←hl,rv.length]) hst fun h' hx=>?_
 have I1:Inv X pins σ H {s with heap:=h'}:=I.kept (t':=s.toks) fun b o e=>hx b o (Nat.ne_of_lt (Heap.lt_size e)) e
 exact h pins _ σ H xs _ Q I1 (by simpa using rv) hw
def b3S (to ti:TE)(t:a7l):TG:=fun v σ H Q=>to σ H fun o H1=>ti σ H1 fun i H2=>t o i v H2 fun H3=>Q σ H3
theorem b4w {o i:Expr}{to ti:TE}{t:a7l}(ho:PE X o to)(hi:PE X i ti)(hs:a8A X t)
  (ha:∀v,assign (.Subscript o i pos) X.env v=(do
   let ov←holding [v] (eval o X.env)
   let iv←holding [v,ov] (eval i X.env)
   standAt pos
   holding [v,ov,iv] (setItem ov iv v)
   release [v,ov,iv] []):=by intro _;rfl):PG X (.Subscript o i pos) (b3S to ti t):=by
 intro pins s σ H v u Q I r h
 rw[ha]
 refine wpAny_bind (wpAny_holding (thn (ho pins s σ H _ I h) fun ov s1 ⟨x,H1,I1,r1,q1⟩=>?_))
 refine wpAny_bind (wpAny_holding (thn (hi pins s1 σ H1 _ I1 q1) fun iv s2 ⟨y,H2,I2,r2,q2⟩=>?_))
 refine wpAny_bind (wpAny_standAt (wpAny_bind (wpAny_holding (thn (hs pins s2 σ H2 x y v ov iv u _ I2 r1 r2 r q2) fun _ s3 ⟨H3,I3,q3⟩=>?_))))
 exact wpAny_release ⟨σ,H3,I3,q3⟩
def a6F (te:TE)(g:TG):TS:=fun D σ H=>te σ H fun x H1=>g x σ H1 D.nx
theorem b3P {tg e:Expr}{te:TE}{g:TG}(he:PE X e te)(hg:PG X tg g)(hs:swapsWithSole [tg] e pos.line X.env=pure false:=by rfl)(hw:swappedStores [tg] e X.env=pure none:=by rfl)
  (h1:(assignEach [tg] X.env).map (·.2)=[assign tg X.env]:=by rfl):PS X (.Assign [tg] e pos) (a6F te g):=by
 intro pins s σ H D I h
 refine wpAny_Assign_stores (thn (he pins s σ H _ I h) fun v s1 ⟨x,H1,I1,r1,q1⟩=>?_) hs hw
 rw[h1]
 exact thn (hg pins s1 σ H1 x v _ I1 r1 q1) fun _ s2 q=>q
theorem b4y {i:Nat}{x:Str}{e:Expr}{te:TE}{pos':Pos}(hN:X.N.Nodup)(hi:X.N[i]?=some x)(hx:Loc X.env.scope x)(he:PE X e te)(hs:swapsWith e (some (.Name x pos')) pos.line X.env=pure false:=by rfl)(hf:X.fn x=true∨X.env.scope.names.lookup x=some .local:=by first|exact .inl rfl|exact .inr rfl|assumption):
  PS X (.Assign [.Name x pos'] e pos) (a6F te (M0 i)):=by
 intro pins s σ H D I h
 refine wpAny_Assign_Name (thn (he pins s σ H _ I h) fun v s1 ⟨y,H1,I1,r1,q1⟩=>?_) hs
 exact a5y I1 hN hi hx r1 (fun s2 I2=>⟨_,H1,I2,q1⟩) hf
def b6I (i j:Nat)(ta:TA):TS:=fun D σ H=>ta σ H fun vs H1=>∃v w,vs=[v,w]∧D.nx ((σ.set i (some v)).set j (some w)) H1
end
section
variable {X:Cx} {pos:Pos}
end
structure It where
 go:Nat→Hp→Prop
 yld:Nat→Hp→V→Hp→Prop
 stop:Nat→Hp→Prop
def a1H (X:Cx)(pins:List (Addr×Obj))(H:Hp)(b:Addr):Prop:=
 H b=none∧b≠X.env.locals∧b∉X.fs∧(b∈X.ex∨X.s₀.heap.objs.size≤b)∧(∀x c,X.env.cells.lookup x=some c→c≠b)∧∀p∈X.pn++pins,p.1≠b
theorem Inv.fpOk {X:Cx}{pins:List (Addr×Obj)}{σ:St}{H H':Hp}{s:Shared}{b:Addr}(I:Inv X pins σ H s)(hb:s.heap.objs.size≤b)(hn:H' b=none):a1H X pins H' b:=by
 refine⟨hn,Nat.ne_of_gt (Nat.lt_of_lt_of_le I.lt hb),I.nofs hb,.inr (Nat.le_trans I.sz hb),fun x c e z=>?_,fun p hp z=>?_⟩
 ·obtain⟨v,q⟩:=I.cell x c e
  exact absurd (Nat.lt_of_lt_of_le q.lt (by rw[z];exact hb)) (Nat.lt_irrefl _)
 ·exact absurd (Nat.lt_of_lt_of_le (Heap.lt_size (I.pin p hp).1) (by rw[z];exact hb)) (Nat.lt_irrefl _)
structure a2q (P:Program) (w:World) (K:PySem.W.Frag) (tg:Expr) (J:It) (fp:List Addr) (it:Addr) (tn:Nat→Heap→Prop):Prop where
 mem:it∈fp
 obj:∀i h,tn i h→∀b∈fp,∃o,h.get? b=some o∧∀v,o.data≠ .cell v
 keep:∀i h h',tn i h→(∀b∈fp,∀o,h.get? b=some o→h'.get? b=some o)→tn i h'
 item:∀(X:Cx),X.prog=P→X.w=w→X.K=K→X.calm=true→∀(i:Nat) (pins:List (Addr×Obj)) (s:Shared) (σ:St) (H:Hp) (E:Value→Shared→Prop),Inv X pins σ H s→(∀b∈fp,a1H X pins H b)→tn i s.heap→J.go i H→
  wpAny (model P w) X.A (pyNext (.ref it)) (fun r s1=>∃u,r=some u∧
   wpAny (model P w) X.A (letOwnedTupleGo tg (.ref it) u) (fun _ s2=>∃x H',Inv X pins σ H' s2∧RelV x u∧J.yld i H x H'∧tn (i+1) s2.heap∧∀b∈fp,H' b=none) E s1) E s
 done:∀(X:Cx),X.prog=P→X.w=w→X.K=K→X.calm=true→∀(i:Nat) (pins:List (Addr×Obj)) (s:Shared) (σ:St) (H:Hp) (E:Value→Shared→Prop),Inv X pins σ H s→(∀b∈fp,a1H X pins H b)→tn i s.heap→J.stop i H→
  wpAny (model P w) X.A (pyNext (.ref it)) (fun r s1=>r=none∧Inv X pins σ H s1) E s
 self:∀(A:Around) (i:Nat) (s:Shared) (Q:Value→Shared→Prop) (E:Value→Shared→Prop),tn i s.heap→Q (.ref it) s→wpAny (model P w) A (pyIter (.ref it)) Q E s
abbrev TI:=St→Hp→(It→Hp→Prop)→Prop
def PIE (X:Cx)(pins:List (Addr×Obj))(σ:St)(tg:Expr)(R:It→Hp→Prop)(itv:Value)(s2:Shared):Prop:=
 ∃(it:Addr) (fp:List Addr) (tn:Nat→Heap→Prop) (J:It) (H':Hp),itv= .ref it∧Inv X pins σ H' s2∧a2q X.prog X.w X.K tg J fp it tn∧tn 0 s2.heap∧(∀b∈fp,a1H X pins H' b)∧R J H'
def PI (X:Cx)(tg iter:Expr)(wi:TI):Prop:=
 ∀(pins:List (Addr×Obj)) (s:Shared) (σ:St) (H:Hp) (R:It→Hp→Prop),Inv X pins σ H s→wi σ H R→
  wpAny (model X.prog X.w) X.A (eval iter X.env) (fun v s1=>wpAny (model X.prog X.w) X.A (pyIter v) (PIE X pins σ tg R) X.xe s1) X.xe s
theorem a7w {M : Model} {A : Around} {E : Value → Shared → Prop} {s : Shared} {tg : Expr} {it : Addr} {u : Value} {o : Obj} {n : String} {vs : Array Value} {Q : Unit → Shared → Prop} (ho : s.heap.get? it = some o) (hc : o.cls = .type n) (hd : o.data = .fields vs)
    (hn : ["enumerate", "zip", "dict_itemiterator", "dict_reverseitemiterator", "odict_iterator", "itertools.zip_longest", "itertools.pairwise"].contains n = false) (hQ : Q () s) : wpAny M A (letOwnedTupleGo tg (.ref it) u) Q E s := by
  unfold letOwnedTupleGo
  cases tg <;> first
    | exact wpAny_pure hQ
    | (cases u <;> first
        | exact wpAny_pure hQ
        | (refine wpAny_bind (wpAny_load ho ?_)
           rw [hc, hd]
           show wpAny M A (if (["enumerate", "zip", "dict_itemiterator", "dict_reverseitemiterator", "odict_iterator", "itertools.zip_longest", "itertools.pairwise"].contains n && vs[0]? == some (rawInt _)) = true then _ else _) Q E s
           rw [if_neg (by intro h; rw [hn, Bool.false_and] at h; cases h)]
           exact wpAny_pure hQ))
def Itl (K:PySem.W.Frag)(a:Addr):It:=
 ⟨fun i H=>∃xs x,SqL K H a xs∧xs[i]?=some x,fun i H x H'=>H'=H∧∀xs,SqL K H a xs→xs[i]?=some x,fun i H=>∃xs,SqL K H a xs∧xs.length≤i⟩
def Itt (K:PySem.W.Frag)(a:Addr):It:=
 ⟨fun i H=>∃xs x,SqT K H a xs∧xs[i]?=some x,fun i H x H'=>H'=H∧∀xs,SqT K H a xs→xs[i]?=some x,fun i H=>∃xs,SqT K H a xs∧xs.length≤i⟩
def Itr (lo:Int)(n:Nat):It:=⟨fun i _=>i<n,fun i H x H'=>H'=H∧x= .int (lo+i),fun i _=>n≤i⟩
theorem a8Q {P:Program}{w:World}{K:PySem.W.Frag}{tg:Expr}(a it:Addr):a2q P w K tg (Itl K a) [it] it (fun i h=>h.IsListIter it a i) where
 mem:=by simp
 obj:=fun i h st b hb=>by
  have e:b=it:=by simpa using hb
  subst e
  obtain⟨o,e,c,d⟩:=st
  exact⟨o,e,fun v z=>by rw[d] at z;cases z⟩
 keep:=fun i h h' st k=>st.at fun o e=>k it (by simp) o e
 item:=by
  intro X hP hw hK hc i pins s σ H E I hf st hg
  subst hP hw hK
  obtain⟨xs,x,hq,hx⟩:=hg
  obtain⟨its,rv,p,hz⟩:=I.list hq
  obtain⟨u,hu,ru⟩:=rv.get hx
  obtain⟨f0,f1,f2,f3,f4,f5⟩:=hf it (by simp)
  refine wpAny_pyNext_list_item st p.isList (x:=u) (by simpa using hu) fun h' st' sb=>?_
  have I1:Inv X pins σ H {s with heap:=h'}:=I.turned (t':=s.toks) (fun b o hb e=>(sb.2 b hb).trans e) f0 f1 f3 f4 f5
  obtain⟨o,e,c,d⟩:=id st'
  exact⟨u,rfl,a7w (s:={s with heap:=h'}) e c d (by decide) ⟨x,H,I1,ru,⟨rfl,fun ys hy=>by rw[I.list_inj hy hq];exact hx⟩,st',fun b hb=>(hf b hb).1⟩⟩
 done:=by
  intro X hP hw hK hc i pins s σ H E I hf st hg
  subst hP hw hK
  obtain⟨xs,hq,hx⟩:=hg
  obtain⟨its,rv,p,hz⟩:=I.list hq
  obtain⟨f0,f1,f2,f3,f4,f5⟩:=hf it (by simp)
  have hl:=rv.length
  exact wpAny_pyNext_list_end (I.ok.hd hc) st p.isList (by simp;omega) fun h' eb=>⟨rfl,I.turned (t':=s.toks) (fun b o hb e=>eb b o hb e) f0 f1 f3 f4 f5⟩
 self:=fun _ _ _ _ _ st h=>wpAny_pyIter_listiter st h
theorem a6w {P:Program}{w:World}{K:PySem.W.Frag}{tg:Expr}(a it:Addr):a2q P w K tg (Itt K a) [it] it (fun i h=>h.IsTupleIter it a i) where
 mem:=by simp
 obj:=fun i h st b hb=>by
  have e:b=it:=by simpa using hb
  subst e
  obtain⟨o,e,c,d⟩:=st
  exact⟨o,e,fun v z=>by rw[d] at z;cases z⟩
 keep:=fun i h h' st k=>st.at fun o e=>k it (by simp) o e
 item:=by
  intro X hP hw hK hc i pins s σ H E I hf st hg
  subst hP hw hK
  obtain⟨xs,x,hq,hx⟩:=hg
  obtain⟨its,rv,p,hz⟩:=I.tuple hq
  obtain⟨u,hu,ru⟩:=rv.get hx
  obtain⟨f0,f1,f2,f3,f4,f5⟩:=hf it (by simp)
  refine wpAny_pyNext_tuple_item st (show s.heap.IsTuple a its.toArray from p) (x:=u) (by simpa using hu) fun h' st' sb=>?_
  have I1:Inv X pins σ H {s with heap:=h'}:=I.turned (t':=s.toks) (fun b o hb e=>(sb.2 b hb).trans e) f0 f1 f3 f4 f5
  obtain⟨o,e,c,d⟩:=id st'
  exact⟨u,rfl,a7w (s:={s with heap:=h'}) e c d (by decide) ⟨x,H,I1,ru,⟨rfl,fun ys hy=>by rw[I.tuple_inj hy hq];exact hx⟩,st',fun b hb=>(hf b hb).1⟩⟩
 done:=by
  intro X hP hw hK hc i pins s σ H E I hf st hg
  subst hP hw hK
  obtain⟨xs,hq,hx⟩:=hg
  obtain⟨its,rv,p,hz⟩:=I.tuple hq
  obtain⟨f0,f1,f2,f3,f4,f5⟩:=hf it (by simp)
  have hl:=rv.length
  exact wpAny_pyNext_tuple_end (I.ok.hd hc) st (show s.heap.IsTuple a its.toArray from p) (by simp;omega) fun h' eb=>⟨rfl,I.turned (t':=s.toks) (fun b o hb e=>eb b o hb e) f0 f1 f3 f4 f5⟩
 self:=fun _ _ _ _ _ st h=>wpAny_pyIter_tupleiter st h
theorem a7d {P:Program}{w:World}{K:PySem.W.Frag}{tg:Expr}(it:Addr)(lo:Int)(n:Nat):a2q P w K tg (Itr lo n) [it] it (fun i h=>IsRangeIter h it (lo+(i:Nat)*1) ((n:Int) -(i:Nat)) 1) where
 mem:=by simp
 obj:=fun i h st b hb=>by
  have e:b=it:=by simpa using hb
  subst e
  exact⟨_,st,fun v z=>by
   have z':Data.fields _=Data.cell v:=z
   cases z'⟩
 keep:=fun i h h' st k=>k it (by simp) _ st
 item:=by
  intro X hP hw hK hc i pins s σ H E I hf st hg
  subst hP hw hK
  obtain⟨f0,f1,f2,f3,f4,f5⟩:=hf it (by simp)
  have W:=Walks.range (prog:=X.prog) (w:=X.w) (I.ok.hd hc) it lo 1 n
  refine W.item i s _ _ hg st fun v h' tk hv st' kk=>?_
  obtain⟨t,rfl⟩:=hv
  have I1:Inv X pins σ H {s with heap:=h',toks:=tk}:=I.turned (fun b o hb e=>kk b o (by simpa using hb) e) f0 f1 f3 f4 f5
  refine⟨_,rfl,a7w (s:={s with heap:=h',toks:=tk}) (n:="range_iterator") st' rfl rfl (by decide) ⟨.int (lo+i),H,I1,⟨t,?_⟩,⟨rfl,rfl⟩,st',fun b hb=>(hf b hb).1⟩⟩
  rw[Int.mul_one]
 done:=by
  intro X hP hw hK hc i pins s σ H E I hf st hg
  subst hP hw hK
  obtain⟨f0,f1,f2,f3,f4,f5⟩:=hf it (by simp)
  exact wpAny_pyNext_range_end (I.ok.hd hc) st (by have:n≤i:=hg;omega) fun h' eb=>⟨rfl,I.turned (t':=s.toks) (fun b o hb e=>eb b o hb e) f0 f1 f3 f4 f5⟩
 self:=fun _ _ _ _ _ st h=>wpAny_pyIter_rangeiter st h
end L2
namespace L2
open PySem PySem.Spec PyProof.Rows
section
variable {X:Cx} {tg:Expr}
theorem a9D {pins:List (Addr×Obj)}{σ:St}{H:Hp}{s:Shared}{R:It→Hp→Prop}{E:Value→Shared→Prop}{lo hi:Int}{t u v:Tok}{tk:Nat}(I:Inv X pins σ H s)(h1: -(2 ^ 62)≤lo)(h2:lo<2 ^ 62)(h3: -(2 ^ 62)≤hi)(h4:hi<2 ^ 62)
  (q:R (Itr lo (hi -lo).toNat) H):wpAny (model X.prog X.w) X.A (pyIter (.ref s.heap.objs.size)) (PIE X pins σ tg R) E {s with heap:=s.heap.push {cls:= .type "range",data:= .fields #[.int lo t,.int hi u,.int 1 v]},toks:=tk}:=by
 refine wpAny_pyIter_range (IsRange.new ..) (small_one h1 h2 h3 h4) ?_
 have I1:Inv X pins σ H {s with heap:=s.heap.push {cls:= .type "range",data:= .fields #[.int lo t,.int hi u,.int 1 v]},toks:=tk}:=I.kept fun b o e=>Heap.get?_push_of_some _ e
 refine⟨(s.heap.push {cls:= .type "range",data:= .fields #[.int lo t,.int hi u,.int 1 v]}).objs.size,[(s.heap.push {cls:= .type "range",data:= .fields #[.int lo t,.int hi u,.int 1 v]}).objs.size],_,_,H,rfl,
  I1.kept (t':=tk) fun b o e=>Heap.get?_push_of_some _ e,a7d _ lo (hi -lo).toNat,?_,fun b hb=>?_,q⟩
 ·have e1:lo+((0:Nat):Int)*1=lo:=by simp
  have e2:(((hi -lo).toNat:Nat):Int) -((0:Nat):Int)=Builtin.Range.rangeSize lo hi 1:=by rw[rangeSize_one];split<;>omega
  show IsRangeIter _ _ (lo+((0:Nat):Int)*1) ((((hi -lo).toNat:Nat):Int) -((0:Nat):Int)) 1
  rw[e1,e2]
  exact Heap.get?_push_size _ rfl
 ·have e:b=(s.heap.push {cls:= .type "range",data:= .fields #[.int lo t,.int hi u,.int 1 v]}).objs.size:=by simpa using hb
  subst e
  exact I1.fpOk (Nat.le_refl _) (I1.hok.fresh (Nat.le_refl _))
def a9X (ta:TA):TI:=fun σ H R=>ta σ H fun vs H1=>∃j:Int,vs=[.int j]∧-(2 ^ 62)≤j∧j<2 ^ 62∧R (Itr 0 j.toNat) H1
theorem a8X {a:Expr}{ta:TA}{p pos:Pos}(hg:Gl X "range")(hm:X.mg "range"=none)(ha:PA X [a] ta)(hs:starEach [a] X.env=[(false,eval a X.env)]:=by rfl):PI X tg (.Call (.Name "range" p) [a] [] pos) (a9X ta):=by
 intro pins s σ H R I h
 refine Call_ (a2Z I hg hm boot_range (PyProof.Rows.callWith_type1 (thn (ha pos pins s σ H _ I h) fun us s1 ⟨vs,H1,I1,r1,q1⟩=>?_) hs rfl))
 obtain⟨j,e,q1,q2,q⟩:=q1
 subst e
 cases r1 with
 |cons r rr=>
  cases rr
  obtain⟨t,rfl⟩:=r
  exact call_range_1 (a9D I1 (by omega) (by omega) q1 q2 (by simpa using q))
def a3r (fp:List Addr)(h:Heap):List (Addr×Obj):=fp.filterMap fun b=>(h.get? b).map fun o=>(b,o)
theorem a0b {fp:List Addr}{h:Heap}{b:Addr}{o:Obj}(hb:b∈fp)(e:h.get? b=some o):(b,o)∈a3r fp h:=List.mem_filterMap.mpr ⟨b,hb,by rw[e];rfl⟩
theorem a8F {fp:List Addr}{h:Heap}{p:Addr×Obj}(hp:p∈a3r fp h):p.1∈fp∧h.get? p.1=some p.2:=by
 obtain⟨b,hb,e⟩:=List.mem_filterMap.mp hp
 cases q:h.get? b with
 |none=>rw[q] at e;cases e
 |some o=>
  rw[q] at e
  have e':(b,o)=p:=Option.some.inj e
  subst e'
  exact⟨hb,q⟩
theorem Inv.pinned {pins:List (Addr×Obj)}{σ:St}{H:Hp}{s:Shared}{fp:List Addr}(I:Inv X pins σ H s)(hf:∀b∈fp,a1H X pins H b)(ho:∀b∈fp,∃o,s.heap.get? b=some o∧∀v,o.data≠ .cell v):Inv X (pins++a3r fp s.heap) σ H s:=
 I.pins_of fun p hp=>(List.mem_append.mp hp).elim (fun z=>I.pin p (List.mem_append_right _ z)) fun z=>by
  obtain⟨hb,e⟩:=a8F z
  obtain⟨f0,f1,f2,_⟩:=hf p.1 hb
  obtain⟨o,e',d⟩:=ho p.1 hb
  rw[e] at e';cases e'
  exact⟨e,f0,f1,f2,d⟩
theorem Inv.unpinned {pins pl:List (Addr×Obj)}{σ:St}{H:Hp}{s:Shared}(I:Inv X (pins++pl) σ H s):Inv X pins σ H s:=I.pins_of fun p hp=>I.pin p (List.mem_append_right _ (List.mem_append_left _ hp))
end
end L2
namespace L2
open PySem PySem.Spec PyProof.Rows
abbrev R2:=V→V→Hp→VK→Prop
def OpR (X:Cx)(f:Value→Value→Sem Value)(r:R2):Prop:=
 ∀(pins:List (Addr×Obj)) (s:Shared) (σ:St) (H:Hp) (x y:V) (v u:Value) (Q:VK),Inv X pins σ H s→RelV x v→RelV y u→r x y H Q→
  wpAny (model X.prog X.w) X.A (f v u) (EP X pins σ Q) X.xe s
def CallR (X:Cx)(f:Value)(r:List V→Hp→VK→Prop):Prop:=
 ∀(pins:List (Addr×Obj)) (s:Shared) (σ:St) (H:Hp) (xs:List V) (us:List Value) (Q:VK),Inv X pins σ H s→Vals xs us→r xs H Q→
  wpAny (model X.prog X.w) X.A (call f us) (EP X pins σ Q) X.xe s
def b6L (X:Cx)(r:V→Hp→(Bool→Hp→Prop)→Prop):Prop:=
 ∀(pins:List (Addr×Obj)) (s:Shared) (σ:St) (H:Hp) (x:V) (v:Value) (Q:Bool→Hp→Prop),Inv X pins σ H s→RelV x v→r x H Q→
  wpAny (model X.prog X.w) X.A (truthy v) (TP X pins σ Q) X.xe s
def tOp (r:R2)(ta tb:TE):TE:=fun σ H Q=>ta σ H fun x H1=>tb σ H1 fun y H2=>r x y H2 Q
def tUn (r:V→Hp→VK→Prop)(ta:TE):TE:=fun σ H Q=>ta σ H fun x H1=>r x H1 Q
def rI (C:Int→Int→Prop)(g:Int→Int→V):R2:=fun x y H Q=>∃i j,x= .int i∧y= .int j∧C i j∧Q (g i j) H
def rI0 (g:Int→Int→V):R2:=fun x y H Q=>∃i j,x= .int i∧y= .int j∧Q (g i j) H
def rU (g:Int→V):V→Hp→VK→Prop:=fun x H Q=>∃i,x= .int i∧Q (g i) H
section
variable {X:Cx} {a b c:Expr} {ta tb tc:TE} {pos:Pos}
theorem b4B (ha:PE X a ta)(hb:PE X b tb){pins:List (Addr×Obj)}{s:Shared}{σ:St}{H:Hp}{R:V→V→Hp→Prop}(I:Inv X pins σ H s)
  (h:ta σ H fun x H1=>tb σ H1 fun y H2=>R x y H2) {Q:Value→Shared→Prop} {f:Value→Value→Sem Value}
  (hf:∀v u s2 x y H2,Inv X pins σ H2 s2→RelV x v→RelV y u→R x y H2→wpAny (model X.prog X.w) X.A (f v u) Q X.xe s2):
  wpAny (model X.prog X.w) X.A (eval a X.env) (fun v s₁=>wpAny (model X.prog X.w) X.A (eval b X.env) (fun u s₂=>wpAny (model X.prog X.w) X.A (f v u) Q X.xe s₂) X.xe s₁) X.xe s:=by
 refine thn (ha pins s σ H _ I h) fun v s1 ⟨x,H1,I1,r1,q1⟩=>?_
 refine thn (hb pins s1 σ H1 _ I1 q1) fun u s2 ⟨y,H2,I2,r2,q2⟩=>?_
 exact hf v u s2 x y H2 I2 r1 r2 q2
theorem b6i {op:Operator}{r:R2}(ho:OpR X (binaryOp op) r)(ha:PE X a ta)(hb:PE X b tb):PE X (.BinOp a op b pos) (tOp r ta tb):=by
 intro pins s σ H Q I h
 exact wpAny_BinOp (b4B ha hb I h fun v u s2 x y H2 I2 rx ry q=>ho pins s2 σ H2 x y v u Q I2 rx ry q)
theorem opI {f:Value→Value→Sem Value}{C:Int→Int→Prop}{g:Int→Int→Int}
  (rule:∀(i j:Int) (t u:Tok) (s:Shared) (Q:Value→Shared→Prop) (E:Value→Shared→Prop),C i j→Q (.int (g i j) s.toks) {s with toks:=s.toks+1}→wpAny (model X.prog X.w) X.A (f (.int i t) (.int j u)) Q E s):
  OpR X f (rI C fun i j=> .int (g i j)):=by
 intro pins s σ H x y v u Q I rx ry h
 obtain⟨i,j,rfl,rfl,hc,q⟩:=h
 obtain⟨t,rfl⟩:=rx
 obtain⟨t',rfl⟩:=ry
 exact rule i j t t' s _ _ hc ⟨.int (g i j),H,I.tok _,⟨_,rfl⟩,q⟩
theorem b3w {f:Value→Value→Sem Value}{g:Int→Int→Int}
  (rule:∀(i j:Int) (t u:Tok) (s:Shared) (Q:Value→Shared→Prop) (E:Value→Shared→Prop),Q (.int (g i j) s.toks) {s with toks:=s.toks+1}→wpAny (model X.prog X.w) X.A (f (.int i t) (.int j u)) Q E s):
  OpR X f (rI0 fun i j=> .int (g i j)):=by
 intro pins s σ H x y v u Q I rx ry h
 obtain⟨i,j,rfl,rfl,q⟩:=h
 obtain⟨t,rfl⟩:=rx
 obtain⟨t',rfl⟩:=ry
 exact rule i j t t' s _ _ ⟨.int (g i j),H,I.tok _,⟨_,rfl⟩,q⟩
theorem b5J {f:Value→Value→Sem Value}{g:Int→Int→Bool}
  (rule:∀(i j:Int) (t u:Tok) (s:Shared) (Q:Value→Shared→Prop) (E:Value→Shared→Prop),Q (.bool (g i j)) s→wpAny (model X.prog X.w) X.A (f (.int i t) (.int j u)) Q E s):
  OpR X f (rI0 fun i j=> .bl (g i j)):=by
 intro pins s σ H x y v u Q I rx ry h
 obtain⟨i,j,rfl,rfl,q⟩:=h
 obtain⟨t,rfl⟩:=rx
 obtain⟨t',rfl⟩:=ry
 exact rule i j t t' s _ _ ⟨.bl (g i j),H,I,rfl,q⟩
def b5w (i j:Int):Prop:=0<j∧j<1073741824
def b6G (i j:Int):Prop:=0≤j∧j≤1000000∧i.natAbs<2 ^ 64
def CMul (i j:Int):Prop:=(-(2 ^ 64)<i∧i<2 ^ 64)∨(-(2 ^ 64)<j∧j<2 ^ 64)
theorem CMul.ok {i j:Int}(h:CMul i j):IntMulOk i j:=by
 rcases h with⟨h1,h2⟩|⟨h1,h2⟩
 ·exact .of_left (intBits_le_64 h1 h2)
 ·exact .of_right (intBits_le_64 h1 h2)
theorem a6S (k:Nat):(0:Int)≤2 ^ k:=by
 rw[two_pow_cast]
 exact Int.natCast_nonneg _
theorem op_add:OpR X (binaryOp .Add) (rI0 fun i j=> .int (i+j)):=b3w fun _ _ _ _ _ _ _ q=>add_int q
theorem b1f:OpR X (binaryOp .Sub) (rI0 fun i j=> .int (i -j)):=b3w fun _ _ _ _ _ _ _ q=>sub_int q
theorem op_mul:OpR X (binaryOp .Mult) (rI CMul fun i j=> .int (i*j)):=opI fun _ _ _ _ _ _ _ hc q=>mul_int q hc.ok
theorem B2:OpR X (binaryOp .FloorDiv) (rI b5w fun i j=> .int (i/j)):=opI fun i j _ _ _ _ _ hc q=>by
 have h1:(0:Int)<j:=hc.1
 have h2:j<1073741824:=hc.2
 exact floordiv_int (by omega) (by rw[Int.fdiv_eq_ediv_of_nonneg i (by omega)];exact q) (.inl (PyProof.noPylong_small (by omega)))
theorem q5:OpR X (binaryOp .Mod) (rI (fun _ j=>0<j) fun i j=> .int (i % j)):=opI fun i j _ _ _ _ _ hc q=>by
 have h1:(0:Int)<j:=hc
 exact mod_int' (by omega) (by rw[Int.fmod_eq_emod_of_nonneg i (by omega)];exact q)
theorem b0T:OpR X (binaryOp .RShift) (rI (fun _ j=>0≤j) fun i j=> .int (i/2 ^ j.toNat)):=opI fun i j _ _ _ _ _ hc q=>
 rshift_int hc (by rw[Int.fdiv_eq_ediv_of_nonneg i (a6S _)];exact q)
theorem a9C:OpR X (binaryOp .BitAnd) (rI0 fun i j=> .int (Builtin.bitAnd i j)):=b3w fun _ _ _ _ _ _ _ q=>and_int q
end
def b5p:V→V→Bool
 | .non,.non=>true| .non,.int _=>true| .int _,.non=>true| .non,.bl _=>true| .bl _,.non=>true| .non,.str _=>true| .str _,.non=>true
 | .int _,.int _=>true| .bl _,.bl _=>true| .str _,.str _=>true| .byt _,.byt _=>true
 | .int _,.str _=>true| .str _,.int _=>true| .bl _,.str _=>true| .str _,.bl _=>true
 |_,_=>false
def rEq:R2:=fun x y H Q=>b5p x y=true∧Q (.bl (decide (x=y))) H
def rNe:R2:=fun x y H Q=>b5p x y=true∧Q (.bl (!decide (x=y))) H
theorem a2L {i j:Int}:decide (V.int i=V.int j)=(i==j):=by
 rw[Bool.eq_iff_iff]
 simp
theorem a5a {i j:Bool}:decide (V.bl i=V.bl j)=(i==j):=by
 rw[Bool.eq_iff_iff]
 simp
theorem a4y {i j:Str}:decide (V.str i=V.str j)=(i==j):=by
 rw[Bool.eq_iff_iff]
 simp
theorem a7G {i j:Array UInt8}:decide (V.byt i=V.byt j)=(i.toList==j.toList):=by
 rw[Bool.eq_iff_iff]
 cases i
 cases j
 simp
section
variable {X:Cx} {a b c:Expr} {ta tb tc:TE} {pos:Pos}
theorem r6 {pins:List (Addr×Obj)}{σ:St}{H:Hp}{s:Shared}{Q:VK}{k k':Bool}(I:Inv X pins σ H s)(q:Q (.bl k) H)(e:k=k'):EP X pins σ Q (.bool k') s:=by
 subst e
 exact⟨.bl k,H,I,rfl,q⟩
theorem op_eq:OpR X (compareOp .Eq) rEq:=by
 intro pins s σ H x y v u Q I rx ry h
 obtain⟨hs,q⟩:=h
 cases x with
 |non=>
  cases rx
  cases y with
  |non=>cases ry;exact PySem.EqNone.eq_none_none (r6 I q (by simp))
  |bl j=>cases ry;exact PySem.EqNone.eq_none_bool (r6 I q (by simp))
  |int j=>obtain⟨t',rfl⟩:=ry;exact PySem.EqNone.eq_none_int (r6 I q (by simp))
  |str j=>obtain⟨t',rfl⟩:=ry;exact PySem.EqNone.eq_none_str (r6 I q (by simp))
  |_=>exact absurd (show false=true from hs) Bool.false_ne_true
 |bl i=>
  cases rx
  cases y with
  |non=>cases ry;exact PySem.EqNone.eq_bool_none (r6 I q (by simp))
  |bl j=>cases ry;exact eq_bool (r6 I q a5a)
  |str j=>obtain⟨t',rfl⟩:=ry;exact PySem.EqMixed.eq_bool_str (r6 I q (by simp))
  |_=>exact absurd (show false=true from hs) Bool.false_ne_true
 |int i=>
  obtain⟨t,rfl⟩:=rx
  cases y with
  |non=>cases ry;exact PySem.EqNone.eq_int_none (r6 I q (by simp))
  |int j=>obtain⟨t',rfl⟩:=ry;exact eq_int (r6 I q a2L)
  |str j=>obtain⟨t',rfl⟩:=ry;exact PySem.EqMixed.eq_int_str (r6 I q (by simp))
  |_=>exact absurd (show false=true from hs) Bool.false_ne_true
 |str i=>
  obtain⟨t,rfl⟩:=rx
  cases y with
  |non=>cases ry;exact PySem.EqNone.eq_str_none (r6 I q (by simp))
  |bl j=>cases ry;exact PySem.EqMixed.eq_str_bool (r6 I q (by simp))
  |int j=>obtain⟨t',rfl⟩:=ry;exact PySem.EqMixed.eq_str_int (r6 I q (by simp))
  |str j=>obtain⟨t',rfl⟩:=ry;exact eq_str (r6 I q a4y)
  |_=>exact absurd (show false=true from hs) Bool.false_ne_true
 |byt i=>
  obtain⟨t,rfl⟩:=rx
  cases y with
  |byt j=>obtain⟨t',rfl⟩:=ry;exact PySem.W.eq_bytes (r6 I q a7G)
  |_=>exact absurd (show false=true from hs) Bool.false_ne_true
 |_=>cases y<;>exact absurd (show false=true from hs) Bool.false_ne_true
theorem op_ne:OpR X (compareOp .NotEq) rNe:=by
 intro pins s σ H x y v u Q I rx ry h
 obtain⟨hs,q⟩:=h
 cases x with
 |non=>
  cases rx
  cases y with
  |non=>cases ry;exact PySem.EqNone.ne_none_none (r6 I q (by simp))
  |bl j=>cases ry;exact PySem.EqNone.ne_none_bool (r6 I q (by simp))
  |int j=>obtain⟨t',rfl⟩:=ry;exact PySem.EqNone.ne_none_int (r6 I q (by simp))
  |str j=>obtain⟨t',rfl⟩:=ry;exact PySem.EqNone.ne_none_str (r6 I q (by simp))
  |_=>exact absurd (show false=true from hs) Bool.false_ne_true
 |bl i=>
  cases rx
  cases y with
  |non=>cases ry;exact PySem.EqNone.ne_bool_none (r6 I q (by simp))
  |bl j=>cases ry;exact ne_bool (r6 I q (congrArg not a5a))
  |str j=>obtain⟨t',rfl⟩:=ry;exact PySem.EqMixed.ne_bool_str (r6 I q (by simp))
  |_=>exact absurd (show false=true from hs) Bool.false_ne_true
 |int i=>
  obtain⟨t,rfl⟩:=rx
  cases y with
  |non=>cases ry;exact PySem.EqNone.ne_int_none (r6 I q (by simp))
  |int j=>obtain⟨t',rfl⟩:=ry;exact ne_int (r6 I q (congrArg not a2L))
  |str j=>obtain⟨t',rfl⟩:=ry;exact PySem.EqMixed.ne_int_str (r6 I q (by simp))
  |_=>exact absurd (show false=true from hs) Bool.false_ne_true
 |str i=>
  obtain⟨t,rfl⟩:=rx
  cases y with
  |non=>cases ry;exact PySem.EqNone.ne_str_none (r6 I q (by simp))
  |bl j=>cases ry;exact PySem.EqMixed.ne_str_bool (r6 I q (by simp))
  |int j=>obtain⟨t',rfl⟩:=ry;exact PySem.EqMixed.ne_str_int (r6 I q (by simp))
  |str j=>obtain⟨t',rfl⟩:=ry;exact ne_str (r6 I q (congrArg not a4y))
  |_=>exact absurd (show false=true from hs) Bool.false_ne_true
 |byt i=>
  obtain⟨t,rfl⟩:=rx
  cases y with
  |byt j=>obtain⟨t',rfl⟩:=ry;exact PySem.W.ne_bytes (r6 I q (congrArg not a7G))
  |_=>exact absurd (show false=true from hs) Bool.false_ne_true
 |_=>cases y<;>exact absurd (show false=true from hs) Bool.false_ne_true
theorem op_lt:OpR X (compareOp .Lt) (rI0 fun i j=> .bl (decide (i<j))):=b5J fun _ _ _ _ _ _ _ q=>lt_int q
theorem a9R:OpR X (compareOp .Gt) (rI0 fun i j=> .bl (decide (j<i))):=b5J fun _ _ _ _ _ _ _ q=>gt_int q
theorem a8U:OpR X (compareOp .Lt) (fun x y H Q=>∃i j,x= .str i∧y= .str j∧Q (.bl (decide (i.cps.toList<j.cps.toList))) H):=by
 intro pins s σ H x y v u Q I rx ry h
 obtain⟨i,j,rfl,rfl,q⟩:=h
 obtain⟨t,rfl⟩:=rx
 obtain⟨t',rfl⟩:=ry
 exact lt_str (r6 I q rfl)
theorem a8j:OpR X (compareOp .In) (fun x y H Q=>∃i j,x= .str i∧y= .str j∧Q (.bl (!(Builtin.Str.occurrences j i 0 j.length 1).isEmpty)) H):=by
 intro pins s σ H x y v u Q I rx ry h
 obtain⟨i,j,rfl,rfl,q⟩:=h
 obtain⟨t,rfl⟩:=rx
 obtain⟨t',rfl⟩:=ry
 exact in_str (r6 I q rfl)
theorem OpR.or {f:Value→Value→Sem Value}{r r':R2}(h:OpR X f r)(h':OpR X f r'):OpR X f (fun x y H Q=>r x y H Q∨r' x y H Q):=by
 intro pins s σ H x y v u Q I rx ry q
 rcases q with q|q
 ·exact h pins s σ H x y v u Q I rx ry q
 ·exact h' pins s σ H x y v u Q I rx ry q
theorem u7 (b:Expr){op:CmpOp}(h:op≠ .In:=by decide)(h2:op≠ .NotIn:=by decide):behindInMarks op b=false:=by
 have e1:(op==CmpOp.In)=false:=by cases op<;>first|rfl|exact absurd rfl h
 have e2:(op==CmpOp.NotIn)=false:=by cases op<;>first|rfl|exact absurd rfl h2
 cases b<;>simp [behindInMarks,e1,e2]
theorem b1o {op:CmpOp}{r:R2}(ho:OpR X (compareOp op) r)(ha:PE X a ta)(hb:PE X b tb)(hm:behindInMarks op b=false):PE X (.Compare a [op] [b] pos) (tOp r ta tb):=by
 intro pins s σ H Q I h
 exact wpAny_Compare1 (b4B ha hb I h fun v u s2 x y H2 I2 rx ry q=>ho pins s2 σ H2 x y v u Q I2 rx ry q) hm
def b0C (t:TE):TT:=fun σ H Q=>t σ H fun x H'=>∃k,x= .bl k∧Q k H'
theorem b1K {op:CmpOp}{r:R2}(ho:OpR X (compareOp op) r)(ha:PE X a ta)(hb:PE X b tb)(hm:behindInMarks op b=false):PT X (.Compare a [op] [b] pos) (b0C (tOp r ta tb)):=by
 intro pins s σ H Q I h
 refine wpAny_isTrue_Compare1 (thn (ha pins s σ H _ I h) fun v s1 ⟨x,H1,I1,r1,q1⟩=>thn (hb pins s1 σ H1 _ I1 q1) fun u s2 ⟨y,H2,I2,r2,q2⟩=>
  thn (ho pins s2 σ H2 x y v u _ I2 r1 r2 q2) fun c s3 ⟨z,H3,I3,r3,k,e,q3⟩=>?_) hm
 subst e
 cases r3
 exact wpAny_truthy_bool ⟨H3,I3,q3⟩
def b3g (r r':R2)(ta tb tc:TE):TE:=fun σ H Q=>ta σ H fun x H1=>tb σ H1 fun y H2=>r x y H2 fun z H3=>∃k,z= .bl k∧
 (if k=true then tc σ H3 fun w' H4=>r' y w' H4 Q else Q (.bl false) H3)
def a9P (K:PySem.W.Frag)(x:V)(H:Hp)(k:Bool):Prop:=
 match x with
 | .non=>k=false
 | .bl b=>k=b
 | .int i=>k=(i !=0)
 | .str y=>y.length≤sizeLine∧k=((y.length:Int) !=0)
 | .byt y=>y.size≤sizeLine∧k=((y.size:Int) !=0)
 | .ref p=>(∃xs,SqL K H p xs∧k=!xs.isEmpty)∨(∃xs,SqT K H p xs∧k=!xs.isEmpty)∨∃kvs,H p=some (.dK kvs)∧k=!kvs.isEmpty
 |_=>False
theorem a6X {κ:Type}{kvs:List (κ×V)}{vs:List (κ×Value)}(r:KV kvs vs):(!vs.isEmpty)=!kvs.isEmpty:=by
 cases r<;>rfl
theorem a3l {xs:List V}{its:List Value}(r:Vals xs its):(!its.toArray.isEmpty)=!xs.isEmpty:=by
 cases r<;>simp
theorem a2k:(sizeLine:Nat)<2 ^ 63:=by rw[sizeLine_eq];decide
theorem b3W:b6L X (fun x H Q=>∃k,a9P X.K x H k∧Q k H):=by
 intro pins s σ H x v Q I rx h
 obtain⟨k,e,q⟩:=h
 have hl:=a2k
 have hs:sizeLine=16777216:=sizeLine_eq
 cases x with
 |non=>
  cases rx
  have e':k=false:=e
  subst e'
  exact truthy_none ⟨H,I,q⟩
 |bl b=>
  cases rx
  have e':k=b:=e
  subst e'
  exact wpAny_truthy_bool ⟨H,I,q⟩
 |int i=>
  obtain⟨t,rfl⟩:=rx
  have e':k=(i !=0):=e
  subst e'
  exact PySem.P.truthy_int ⟨H,I,q⟩
 |str y=>
  obtain⟨t,rfl⟩:=rx
  obtain⟨hy,e'⟩:y.length≤sizeLine∧k=((y.length:Int) !=0):=e
  subst e'
  exact PySem.P.truthy_str (by omega) ⟨H,I.tok _,q⟩
 |byt y=>
  obtain⟨t,rfl⟩:=rx
  obtain⟨hy,e'⟩:y.size≤sizeLine∧k=((y.size:Int) !=0):=e
  subst e'
  exact PySem.W.truthy_bytes (by omega) ⟨H,I.tok _,q⟩
 |ref p=>
  cases rx
  have e':(∃xs,SqL X.K H p xs∧k=!xs.isEmpty)∨(∃xs,SqT X.K H p xs∧k=!xs.isEmpty)∨∃kvs,H p=some (.dK kvs)∧k=!kvs.isEmpty:=e
  rcases e' with⟨xs,hx,e'⟩|⟨xs,hx,e'⟩|⟨kvs,hx,e'⟩
  ·subst e'
   obtain⟨its,r,pl,hz⟩:=I.list hx
   have hlen:=r.length
   exact wpAny_truthy_list pl.isList (by simp only[List.size_toArray];omega) ⟨H,I.tok _,by rw[a3l r];exact q⟩
  ·subst e'
   obtain⟨its,r,pl,hz⟩:=I.tuple hx
   have hlen:=r.length
   exact truthy_tuple pl (by simp only[List.size_toArray];omega) ⟨H,I.tok _,by rw[a3l r];exact q⟩
  ·subst e'
   obtain⟨hz,hS,vs,r,m⟩:kvs.length≤sizeLine∧(p==sysModules)=false∧∃vs,KV kvs vs∧s.heap.DictOf (j8 X.prog X.w) p vs:=I.hok p _ hx
   have hlen:kvs.length=vs.length:=Paired.length r
   exact wpAny_truthy_dict hS m (by omega) ⟨H,I.tok _,by rw[a6X r];exact q⟩
 |_=>exact(show False from e).elim
theorem b0j (ha:PE X a ta)(he:∀whole,isTrue a X.env whole=(do let v←whole;standAt a.pos;holding [v] (truthy v))):
  PT X a (fun σ H Q=>ta σ H fun x H'=>∃k,a9P X.K x H' k∧Q k H'):=by
 intro pins s σ H Q I h
 exact isTrue_plain (thn (ha pins s σ H _ I h) fun v s1 ⟨x,H1,I1,r1,q1⟩=>b3W pins s1 σ H1 x v Q I1 r1 q1) (he _)
theorem op_add_str:OpR X (binaryOp .Add) (fun x y H Q=>∃i j,x= .str i∧y= .str j∧i.length+j.length≤sizeLine∧Q (.str (i++j)) H):=by
 intro pins s σ H x y v u Q I rx ry h
 obtain⟨i,j,rfl,rfl,hz,q⟩:=h
 obtain⟨t,rfl⟩:=rx
 obtain⟨t',rfl⟩:=ry
 exact add_str (fun t' tk=>⟨.str (i++j),H,I.tok _,⟨_,rfl⟩,q⟩) hz
theorem O8 {x:V}{us:List Value}(r:Vals [x] us):∃u,us=[u]∧RelV x u:=by
 cases r with
 |cons r1 r2=>cases r2;exact⟨_,rfl,r1⟩
theorem a2t {x y:V}{us:List Value}(r:Vals [x,y] us):∃u w',us=[u,w']∧RelV x u∧RelV y w':=by
 cases r with
 |cons r1 r2=>
  cases r2 with
  |cons r3 r4=>cases r4;exact⟨_,_,rfl,r1,r3⟩
theorem a3V (hc:X.calm=true):CallR X (.builtin "min") (fun xs H Q=>∃i j,xs=[.int i,.int j]∧Q (.int (if j<i then j else i)) H):=by
 intro pins s σ H xs us Q I r h
 obtain⟨i,j,rfl,q⟩:=h
 obtain⟨u,w',rfl,⟨t,rfl⟩,⟨t',rfl⟩⟩:=a2t r
 refine min_two_ints (I.ok.hd hc) fun h' tk k=>⟨_,H,I.kept k,?_,q⟩
 by_cases hj:j<i
 ·rw[if_pos hj,if_pos hj];exact⟨_,rfl⟩
 ·rw[if_neg hj,if_neg hj];exact⟨_,rfl⟩
theorem a2b:CallR X (.type "int") (fun xs H Q=>(∃i,xs=[.int i]∧Q (.int i) H)∨∃k,xs=[.bl k]∧Q (.int (if k then 1 else 0)) H):=by
 intro pins s σ H xs us Q I r h
 rcases h with⟨i,rfl,q⟩|⟨k,rfl,q⟩
 ·obtain⟨u,rfl,t,rfl⟩:=O8 r
  exact call_int_int ⟨.int i,H,I,⟨_,rfl⟩,q⟩
 ·obtain⟨u,rfl,r1⟩:=O8 r
  cases r1
  exact call_int_bool ⟨.int (if k then 1 else 0),H,I.tok _,⟨_,rfl⟩,q⟩
def b5t (K:PySem.W.Frag)(x:V)(H:Hp)(n:Nat):Prop:=
 match x with
 | .str y=>y.length≤sizeLine∧n=y.length
 | .byt y=>y.size≤sizeLine∧n=y.size
 | .ref p=>(∃xs,SqL K H p xs∧n=xs.length)∨∃xs,SqT K H p xs∧n=xs.length
 |_=>False
theorem call_len:CallR X (.builtin "len") (fun xs H Q=>∃x n,xs=[x]∧b5t X.K x H n∧Q (.int n) H):=by
 intro pins s σ H xs us Q I r h
 obtain⟨x,n,rfl,e,q⟩:=h
 obtain⟨u,rfl,rx⟩:=O8 r
 have hl:=a2k
 have hs:sizeLine=16777216:=sizeLine_eq
 cases x with
 |str y=>
  obtain⟨t,rfl⟩:=rx
  obtain⟨hy,e'⟩:y.length≤sizeLine∧n=y.length:=e
  subst e'
  exact len_str (by omega) ⟨.int _,H,I.tok _,⟨_,rfl⟩,q⟩
 |byt y=>
  obtain⟨t,rfl⟩:=rx
  obtain⟨hy,e'⟩:y.size≤sizeLine∧n=y.size:=e
  subst e'
  exact PySem.W.len_bytes (by omega) ⟨.int _,H,I.tok _,⟨_,rfl⟩,q⟩
 |ref p=>
  cases rx
  have e':(∃xs,SqL X.K H p xs∧n=xs.length)∨∃xs,SqT X.K H p xs∧n=xs.length:=e
  rcases e' with⟨xs,hx,e'⟩|⟨xs,hx,e'⟩
  ·subst e'
   obtain⟨its,r',pl,hz⟩:=I.list hx
   have hlen:=r'.length
   exact Calls.call_len_list pl.isList (by simp only[List.size_toArray];omega) ⟨.int xs.length,H,I.tok _,⟨_,by simp only[List.size_toArray];rw[hlen]⟩,q⟩
  ·subst e'
   obtain⟨its,r',pl,hz⟩:=I.tuple hx
   have hlen:=r'.length
   exact len_tuple pl (by simp only[List.size_toArray];omega) ⟨.int xs.length,H,I.tok _,⟨_,by simp only[List.size_toArray];rw[hlen]⟩,q⟩
 |_=>exact(show False from e).elim
end
end L2
namespace L2
open PySem PySem.Spec PyProof.Rows
structure ObjM (h:Heap) (x dx C:Addr) (mA:Str→Option Value):Prop where
 obj:h.get? x=some (PySem.W.instObj C dx)
 ns:h.Ns1 dx mA
 ne:dx≠x
theorem a8c {h:Heap}{dx:Addr}{mA:Str→Option Value}(n:h.Ns1 dx mA):∃od,h.get? dx=some od∧∀name,PySem.W.lookIn name od=some (mA name):=by
 obtain⟨o,es,ep,ho,hd,hk,_,hm⟩:=n
 refine⟨o,ho,fun name=>?_⟩
 have e:=hm name
 unfold nsFind findBy at e
 rw[←Array.find?_toList] at e
 unfold PySem.W.lookIn
 rw[hd]
 dsimp only
 split
 ·rename_i y q
  rw[q] at e
  exact congrArg some e
 ·rename_i q
  rw[q] at e
  have a:es.toList.any (·.refKey)=false:=by
   rw[List.any_eq_false]
   intro y hy
   obtain⟨z,t,hkey⟩:=hk y (Array.mem_toList_iff.mp hy)
   simp [DictEntry.refKey,hkey]
  have a':¬es.toList.any (·.refKey)=true:=by rw[a];exact Bool.false_ne_true
  rw[if_neg a']
  exact congrArg some e
theorem ObjM.look {h:Heap}{x dx C:Addr}{mA:Str→Option Value}(I:ObjM h x dx C mA):∃od,PySem.W.InstAt h x (PySem.W.instObj C dx) C (some od)∧∀name,PySem.W.lookIn name od=some (mA name):=
 let ⟨od,ho,hl⟩:=a8c I.ns
 ⟨od,⟨I.obj,rfl,rfl,ho⟩,hl⟩
section
variable {prog:Program} {w:World} {A:Around} {E:Value→Shared→Prop} {s:Shared} {K:PySem.W.Frag} {x dx C f:Addr} {mA:Str→Option Value} {name:Str} {v:Value}
end
theorem RelO.some_of {v:V}{o:Option Value}(r:RelO (some v) o):∃u,o=some u∧RelV v u:=by
 cases o with
 |none=>exact(show False from r).elim
 |some u=>exact⟨u,rfl,r⟩
theorem RelO.none_of {o:Option Value}(r:RelO none o):o=none:=by
 cases o with
 |none=>rfl
 |some u=>exact(show False from r).elim
section
variable {P:Program} {w:World} {H H':Hp} {h h':Heap} {a C dx:Addr} {fs fs':List (Str×V)}
end
structure Cls (K:PySem.W.Frag) (C:Addr):Prop where
 pg:PySem.W.plainGet K C Str.empty=true
 hd:PySem.W.hasDictIn K C=true
 po:PySem.W.plainOver K C=true
 sa:PySem.W.findIn K (.ref C) "__setattr__"=some (some (.builtin "object.__setattr__"))
theorem Cls.get {K:PySem.W.Frag}{C:Addr}(c:Cls K C)(f:Str):PySem.W.plainGet K C f=true:=c.pg
structure Con (K:PySem.W.Frag) (C:Addr) (f:Str) (v:V) (u:Value):Prop where
 at_:PySem.W.findIn K (.ref C) f=some (some u)
 rel:RelV v u
 get:PySem.W.specialIn K u "__get__"=some none
 cp:PySem.W.copiedNames.contains f=false
structure b6W (K:PySem.W.Frag) (C:Addr) (m:Str) (f:Addr):Prop where
 at_:PySem.W.findIn K (.ref C) m=some (some (.ref f))
 fn:PySem.W.isFn K (.ref f)=true
 kp:PySem.W.keepIn K (.ref f)=true
section
variable {X:Cx} {pins:List (Addr×Obj)} {σ:St} {H:Hp} {s:Shared} {a C dx:Addr} {fs:List (Str×V)} {f:Str} {v:V} {A:Around} {E:Value→Shared→Prop}
theorem Inv.made (I:Inv X pins σ H s):Inv X pins σ (upd (upd H s.heap.objs.size (.own (s.heap.objs.size+1))) (s.heap.objs.size+1) (.ins C s.heap.objs.size []))
  {s with heap:=(s.heap.push PySem.W.emptyDict).push (PySem.W.instObj C s.heap.objs.size)}:=by
 have e1:(s.heap.push PySem.W.emptyDict).get? s.heap.objs.size=some PySem.W.emptyDict:=Heap.get?_push_size s.heap rfl
 have e2:((s.heap.push PySem.W.emptyDict).push (PySem.W.instObj C s.heap.objs.size)).get? (s.heap.objs.size+1)=some (PySem.W.instObj C s.heap.objs.size):=by
  have:=Heap.get?_push_size (s.heap.push PySem.W.emptyDict) (o:=PySem.W.instObj C s.heap.objs.size) rfl
  rwa [Heap.size_push] at this
 have e3:(s.heap.push PySem.W.emptyDict).Ns s.heap.objs.size (fun _=>none):=⟨PySem.W.emptyDict, #[],_,e1,rfl,(fun e he=>absurd he (by simp)),fun _=>rfl⟩
 have I1:=I.laid (a:=s.heap.objs.size) (o:= .own (s.heap.objs.size+1)) (h':=s.heap.push PySem.W.emptyDict) (t':=s.toks) (fun b u q=>Heap.get?_push_of_some _ q) (Nat.le_refl _) ⟨_,e1⟩
 refine I1.laid (a:=s.heap.objs.size+1) (o:= .ins C s.heap.objs.size []) (t':=s.toks) (fun b u q=>Heap.get?_push_of_some _ q) (Nat.le_of_eq (Heap.size_push _ _)) ?_
 have ne:s.heap.objs.size≠s.heap.objs.size+1:=Nat.ne_of_lt (Nat.lt_succ_self _)
 refine⟨by rw[d0 ne,i7],Nat.zero_le _,ne,e2,fun _=>none,(Heap.Ns1.of_empty e3).at fun o q=>Heap.get?_push_of_some _ q,fun _=>True.intro,fun y hy=>absurd rfl hy⟩
end
section
variable {X:Cx} {o e value:Expr} {f:Str} {pos pos' tpos:Pos} {ta tv:TE}
end
section
variable {X:Cx} {pins:List (Addr×Obj)} {σ:St} {H:Hp} {s:Shared} {A:Around} {E:Value→Shared→Prop} {Q:Value→Shared→Prop} {c:Value} {b:Bool}
inductive a3d (K:PySem.W.Frag) (H:Hp):V→Value→Prop where
 |non:a3d K H .non (.type "NoneType")
 |bl (x:Bool):a3d K H (.bl x) (.type "bool")
 |int (i:Int):a3d K H (.int i) (.type "int")
 |str (x:Str):a3d K H (.str x) (.type "str")
 |flt (x:UInt64):a3d K H (.flt x) (.type "float")
 |lst {a:Addr} {xs:List V} (e:H a=some (.lst xs)):a3d K H (.ref a) (.type "list")
 |frz {a:Addr} {o:Obj} {xs:List V} (e:H a=some (.frz o (.lst xs))):a3d K H (.ref a) (.type "list")
 |tup {a:Addr} {xs:List V} (e:H a=some (.tup xs)):a3d K H (.ref a) (.type "tuple")
 |dK {a:Addr} {kvs:List (Key×V)} (e:H a=some (.dK kvs)):a3d K H (.ref a) (.type "dict")
 |dT {a:Addr} {kvs:List (List Key×V)} (e:H a=some (.dT kvs)):a3d K H (.ref a) (.type "dict")
 |ins {a C dx:Addr} {fs:List (Str×V)} (e:H a=some (.ins C dx fs)) (cl:Cls K C) (ha:PySem.W.findIn K (.ref C) "__class__"=some (some (.builtin "object.__class__")))
   (hn:PySem.W.specialIn K (.builtin "object.__class__") "__get__"=some (some (.builtin "getset_descriptor.__get__"))) (htk:PySem.W.takesIn K (.builtin "object.__class__")=some true)
   (hm:PySem.W.mroIn K C (.type "object")=some true):a3d K H (.ref a) (.ref C)
end
end L2
namespace L2
open PySem PySem.Spec PyProof.Rows
structure Room (k:Nat) (A:Around):Prop where
 hd:A.handled=none
 dp:A.depth+3*k+5<recursionLimit
 un:A.units+16*k+200<cLine
theorem Room.mono {j k:Nat}{A:Around}(r:Room k A)(h:j≤k):Room j A:=⟨r.hd,by have:=r.dp;omega,by have:=r.un;omega⟩
theorem Room.deeper {k:Nat}{A:Around}(r:Room (k+1) A)(env:Env):Room k (A.deeper env):=
 ⟨r.hd,by have:=r.dp;show A.depth+1+3*k+5<_;omega,by have:=r.un;show A.units+3+16*k+200<_;omega⟩
theorem Room.in1 {k:Nat}{A:Around}(r:Room (k+1) A):Room k A.in1:=
 ⟨r.hd,by have:=r.dp;show A.depth+3*k+5<_;omega,by have:=r.un;show A.units+1+16*k+200<_;omega⟩
theorem a6v {A:Around}{C:Addr}{us:List Value}{kw:List (Str×Value)}:(A.under (.builtin "type.__call__" ⟨.ref C::us,kw⟩)).depth=A.depth+1:=by
 first|rfl|simp [Around.under,Code.weight,Code.isCreation,Code.isGuard,Code.isCaller,Code.frames,Code.isFrame,guardIds]
theorem a6J {A:Around}{C:Addr}{us:List Value}{kw:List (Str×Value)}:(A.under (.builtin "type.__call__" ⟨.ref C::us,kw⟩)).units=A.units+1:=by
 first|rfl|simp [Around.under,Code.cUnits,Code.frames,Code.isFrame]
theorem Room.make {k:Nat}{A:Around}(r:Room (k+1) A)(C:Addr)(us:List Value)(kw:List (Str×Value)):Room k (A.under (.builtin "type.__call__" ⟨.ref C::us,kw⟩)):=
 ⟨r.hd,by have:=r.dp;rw[a6v];omega,by have:=r.un;rw[a6J];omega⟩
theorem Room.depth {k:Nat}{A:Around}(r:Room k A):A.depth<recursionLimit:=by have:=r.dp;omega
theorem Room.units {k:Nat}{A:Around}(r:Room k A):A.units+64<cLine:=by have:=r.un;omega
def b1m:TA:=fun _ H Q=>Q [] H
def a7y (ta:TE)(tr:TA):TA:=fun σ H Q=>ta σ H fun x H1=>tr σ H1 fun xs H2=>Q (x::xs) H2
section
variable {X:Cx} {e:Expr} {es:List Expr} {te:TE} {t:TA} {pos:Pos}
theorem b2V:PA X [] b1m:=fun _ _ _ _ H Q I h=>Calls.spliced_nil ⟨[],H,I,.nil,h⟩
theorem b1X (ha:PE X e te)(hr:PA X es t)(hs:starEach (e::es) X.env=(false,eval e X.env)::starEach es X.env:=by rfl):PA X (e::es) (a7y te t):=by
 intro pos pins s σ H Q I h
 rw[hs]
 show wpAny _ _ (spliced ((false,eval e X.env)::backTo pos (starEach es X.env))) _ _ s
 refine Calls.spliced_cons (thn (ha pins s σ H _ I h) fun u s1 ⟨x,H1,I1,r1,q1⟩=>?_)
 exact thn (hr pos pins s1 σ H1 _ I1 q1) fun us s2 ⟨xs,H2,I2,r2,q2⟩=>⟨x::xs,H2,I2,.cons r1 r2,q2⟩
def b4k (t:TA):TE:=fun σ H Q=>t σ H fun xs H1=>xs.length≤sizeLine∧∀p,H1 p=none→Q (.ref p) (upd H1 p (.tup xs))
def b3H (t:TA):TE:=fun σ H Q=>t σ H fun xs H1=>xs.length≤sizeLine∧∀p,H1 p=none→Q (.ref p) (upd H1 p (.lst xs))
theorem b2T {x1}(h:PA X es t):PE X (.Tuple es x1 pos) (b4k t):=by
 intro pins s σ H Q I hq
 refine wpAny_Tuple_spliced (thn (h pos pins s σ H _ I hq) fun us s1 ⟨xs,H1,I1,r,z,q⟩=>⟨by rw[←r.length];exact z,?_⟩)
 have hf:H1 s1.heap.objs.size=none:=I1.hok.fresh (Nat.le_refl _)
 refine⟨.ref s1.heap.objs.size,upd H1 s1.heap.objs.size (.tup xs),I1.laid (t':=s1.toks) (fun b u e=>Heap.get?_push_of_some _ e) (Nat.le_refl _) ?_,rfl,q _ hf⟩
 exact⟨z,us,r,⟨_,Heap.get?_push_size _ rfl,rfl,_,rfl⟩⟩
theorem b2Z (h:PA X es t):PE X (.List es pos) (b3H t):=by
 intro pins s σ H Q I hq
 refine wpAny_List_spliced (thn (h pos pins s σ H _ I hq) fun us s1 ⟨xs,H1,I1,r,z,q⟩=>⟨by rw[←r.length];exact z,?_⟩)
 have hf:H1 s1.heap.objs.size=none:=I1.hok.fresh (Nat.le_refl _)
 refine⟨.ref s1.heap.objs.size,upd H1 s1.heap.objs.size (.lst xs),I1.laid (t':=s1.toks) (fun b u e=>Heap.get?_push_of_some _ e) (Nat.le_refl _) ?_,rfl,q _ hf⟩
 exact⟨z,us,0,r,Heap.get?_push_size _ rfl⟩
end
abbrev Sp:=List V→Hp→VK→XK→Prop
abbrev CXT:=List Env→Hp→Shared→XK→Value→Shared→Prop
structure Env0 (P:Program) (w:World) (K:PySem.W.Frag) (mg:Str→Option Value) (base:Heap) (A:Around) (outer:List Env) (s:Shared) (H:Hp):Prop where
 frames:A.frames=some outer
 mod:Mod K mg base
 bs:∀b o,base.get? b=some o→s.heap.get? b=some o∧H b=none
 bsz:base.objs.size≤s.heap.objs.size
 funs:s.heap.FunFrames base outer
 frf:∀b∈frs outer,H b=none
 hok:HOk P w H s.heap
 bare:AllBare s.gens
def CE (outer:List Env)(P:Program)(w:World)(H:Hp)(s:Shared)(Q:VK)(u:Value)(s':Shared):Prop:=
 ∃v H',s'.os=s.os∧AllBare s'.gens∧Un (frs outer) [] H H' s.heap s'.heap∧HOk P w H' s'.heap∧RelV v u∧Q v H'
def CR (CX:CXT)(outer:List Env)(P:Program)(w:World)(H:Hp)(s:Shared)(Q:VK)(E:XK)(r:Result)(s':Shared):Prop:=
 match r with
 | .ok (.ret u)=>CE outer P w H s Q u s'
 | .ok _=>False
 | .error e=>CX outer H s E e s'
structure FnOk (P:Program) (w:World) (K:PySem.W.Frag) (mg:Str→Option Value) (base:Heap) (CX:CXT) (k:Nat) (f:Addr) (fd:FuncData) (ps:List Str) (sp:Sp):Prop where
 len:∀vs H Q E,sp vs H Q E→vs.length=ps.length
 run:∀(A:Around) (outer:List Env) (s:Shared) (H:Hp) (args:Args) (us:List Value) (vs:List V) (Q:VK) (E:XK),Room k A→Env0 P w K mg base A outer s H→BindsTo s fd args (ps.zip us)→Vals vs us→sp vs H Q E→
  codeAny (model P w) A (.call (.ref f) args) (CR CX outer P w H s Q E) s
theorem FnOk.mono {P:Program}{w:World}{K:PySem.W.Frag}{mg:Str→Option Value}{base:Heap}{CX:CXT}{j k:Nat}{f:Addr}{fd:FuncData}{ps:List Str}{sp:Sp}(F:FnOk P w K mg base CX j f fd ps sp)(h:j≤k):
  FnOk P w K mg base CX k f fd ps sp:=⟨F.len,fun A outer s H args us vs Q E hr=>F.run A outer s H args us vs Q E (hr.mono h)⟩
theorem FnOk.imp {P:Program}{w:World}{K:PySem.W.Frag}{mg:Str→Option Value}{base:Heap}{CX:CXT}{k:Nat}{f:Addr}{fd:FuncData}{ps:List Str}{sp sp':Sp}(F:FnOk P w K mg base CX k f fd ps sp)
  (h:∀vs H Q E,sp' vs H Q E→sp vs H Q E):FnOk P w K mg base CX k f fd ps sp':=
 ⟨fun vs H Q E q=>F.len vs H Q E (h _ _ _ _ q),fun A outer s H args us vs Q E hr he hb hv hs=>F.run A outer s H args us vs Q E hr he hb hv (h _ _ _ _ hs)⟩
theorem Env0.make {P:Program}{w:World}{K:PySem.W.Frag}{mg:Str→Option Value}{base:Heap}{A:Around}{outer:List Env}{s:Shared}{H:Hp}(e:Env0 P w K mg base A outer s H)(C:Addr)(us:List Value)(kw:List (Str×Value)):
  Env0 P w K mg base (A.under (.builtin "type.__call__" ⟨.ref C::us,kw⟩)) outer s H:=⟨by first|exact e.frames|(simpa [Around.under,Code.envs,Code.isFrame,pushEnvs] using e.frames),e.mod,e.bs,e.bsz,e.funs,e.frf,e.hok,e.bare⟩
theorem Env0.in1 {P:Program}{w:World}{K:PySem.W.Frag}{mg:Str→Option Value}{base:Heap}{A:Around}{outer:List Env}{s:Shared}{H:Hp}(e:Env0 P w K mg base A outer s H):
  Env0 P w K mg base A.in1 outer s H:=⟨e.frames,e.mod,e.bs,e.bsz,e.funs,e.frf,e.hok,e.bare⟩
section
variable {X:Cx} {pins:List (Addr×Obj)} {σ:St} {H:Hp} {s s':Shared}
theorem Inv.env0 (I:Inv X pins σ H s):Env0 X.prog X.w X.K X.mg X.base X.A X.stack s H:=
 ⟨I.ok.frames,I.ok.mod,I.bs,Nat.le_trans I.ok.bsz I.sz,I.stack,I.stkFree,I.hok,I.bare⟩
theorem Inv.after {Q:VK}{u:Value}(I:Inv X pins σ H s)(h:CE X.stack X.prog X.w H s Q u s'):EP X pins σ Q u s':=by
 obtain⟨v,H',os,bare,un,hok,r,q⟩:=h
 obtain⟨hh,g,d,t,os'⟩:=s'
 obtain rfl:os'=s.os:=os
 exact⟨v,H',I.call (h':=hh) (g':=g) (d':=d) (t':=t) (ch:=[]) un hok bare (fun b z=>absurd z (by simp)),r,q⟩
end
def a5U (sp:Sp)(dvs:List V)(E:XK)(t:TA):TE:=fun σ H Q=>t σ H fun vs H1=>sp (vs++dvs) H1 Q E
def Binds (K:PySem.W.Frag)(fd:FuncData)(ps:List Str)(ds:List Value):Prop:=
 ∀(s:Shared) (us:List Value),K.In s.heap→(us++ds).length=ps.length→BindsTo s fd ⟨us,[]⟩ (ps.zip (us++ds))
theorem Binds.all {K:PySem.W.Frag}{fd:FuncData}{ps:List Str}(h:∀us:List Value,us.length=ps.length→bindArgs fd ⟨us,[]⟩=pure (ps.zip us)):Binds K fd ps []:=fun s us _ hl=>by
 rw[List.append_nil] at hl⊢
 exact .of_eq (h us hl)
def a0E (CX:CXT)(X:Cx)(E:XK):Prop:=∀(pins:List (Addr×Obj)) (σ:St) (H:Hp) (s:Shared) (e:Value) (s':Shared),Inv X pins σ H s→CX X.stack H s E e s'→X.xe e s'
section
variable {X:Cx} {CX:CXT} {k:Nat} {f C:Addr} {fd:FuncData} {ps:List Str} {sp:Sp} {dvs:List V} {ds:List Value} {E:XK} {x m:Str} {p pos apos:Pos} {e o:Expr} {es:List Expr} {ta:TE} {t:TA}
theorem b3K {pins:List (Addr×Obj)}{σ:St}{H:Hp}{s:Shared}{Q:VK}{us:List Value}{vs:List V}(F:FnOk X.prog X.w X.K X.mg X.base CX k f fd ps sp)(hr:Room k X.A)(hb:Binds X.K fd ps ds)(hd:Vals dvs ds)(hx:a0E CX X E)
  (I:Inv X pins σ H s) (r:Vals vs us) (h:sp (vs++dvs) H Q E):wpAny (model X.prog X.w) X.A (call (.ref f) us) (EP X pins σ Q) X.xe s:=by
 have r2:Vals (vs++dvs) (us++ds):=r.append hd
 have hl:(us++ds).length=ps.length:=by rw[←r2.length];exact F.len _ _ _ _ h
 refine wpAny_call (codeAny_mono (F.run X.A X.stack s H ⟨us,[]⟩ (us++ds) (vs++dvs) Q E hr I.env0 (hb s us I.kIn hl) r2 h) fun r s' hq=>?_)
 cases r with
 |error e=>exact hx pins σ H s e s' I hq
 |ok fl=>
  cases fl with
  |ret u=>exact I.after hq
  |next=>exact False.elim hq
  |brk=>exact False.elim hq
  |cont=>exact False.elim hq
theorem b1C (F:FnOk X.prog X.w X.K X.mg X.base CX k f fd ps sp)(hr:Room k X.A)(hg:Gl X x)(hm:X.mg x=some (.ref f))(hk:PySem.W.keepIn X.K (.ref f)=true)(hb:Binds X.K fd ps ds)(hd:Vals dvs ds)(hx:a0E CX X E)
  (ha:PA X (e::es) t) (hdb:(x==("__debug__":Str))=false:=by decide) (he:starEach (e::es) X.env=(false,eval e X.env)::starEach es X.env:=by rfl) (hpl:(backTo pos (starEach es X.env)).any (·.1)=false:=by rfl):
  PE X (.Call (.Name x p) (e::es) [] pos) (a5U sp dvs E t):=by
 intro pins s σ H Q I h
 refine wpAny_Call_Name_kw (a5k I hg hm ?_ hdb)
 refine PySem.W.callWith_K (h₀:=X.base) I.ok.mod.kin hk (thn (ha pos pins s σ H _ I h) fun us s1 ⟨vs,H1,I1,r,q⟩=>⟨I1.kIn,?_⟩) he hpl
 exact b3K F hr hb hd hx I1 r q
structure Mk (K:PySem.W.Frag) (C f:Addr):Prop where
 makes:PySem.W.makesIn K C=true
 init:PySem.W.findIn K (.ref C) "__init__"=some (some (.ref f))
 fn:PySem.W.isFn K (.ref f)=true
 kp:PySem.W.keepIn K (.ref C)=true
end
section
variable {X:Cx} {CX:CXT} {k:Nat} {f C:Addr} {fd:FuncData} {ps ks:List Str} {sp:Sp} {E:XK} {x m:Str} {p pos apos kpos:Pos} {e o:Expr} {es:List Expr} {kws:List Keyword} {te ta:TE} {t tk:TA} {nm:Option Str}
structure b6q (K:PySem.W.Frag) (fd:FuncData) (ps ks:List Str) (g:List Value→List Value→List Value) (gV:List V→List V→List V):Prop where
 to:∀(s:Shared) (us ws:List Value),K.In s.heap→(g us ws).length=ps.length→BindsTo s fd ⟨us,ks.zip ws⟩ (ps.zip (g us ws))
 rel:∀{vs:List V} {us:List Value} {zs:List V} {ws:List Value},Vals vs us→Vals zs ws→Vals (gV vs zs) (g us ws)
variable {g:List Value→List Value→List Value} {gV:List V→List V→List V}
end
structure j5 (N P:List Str) (sc:Scope):Prop where
 kind:sc.kind= .function
 co:sc.isCoroutine=false
 gen:sc.isGenerator=false
 nd:N.Nodup
 pre:N.take P.length=P
 par:∀x∈P,sc.names.lookup x=some .local∨sc.names.lookup x=some .cell
 nofree:∀y∈sc.names,y.2≠ .free
theorem a4p {kindOf:Str→Option NameKind}{x:Str}:∀{binds:List (Str×Value)} {m:Str→Option Value},(∀v,(x,v)∉binds)→bindL kindOf binds m x=m x
 |[],_,_=>rfl
 |(n,v)::r,m,h=>by
  unfold bindL
  rw[a4p fun w hw=>h w (List.mem_cons_of_mem _ hw)]
  split
  ·have:x≠n:=by rintro rfl;exact h v List.mem_cons_self
   simp [this]
  ·rfl
theorem a4e {kindOf:Str→Option NameKind}{x:Str}:∀{binds:List (Str×Value)} {m:Str→Option Value},(∀v,(x,v)∉binds)→bindC kindOf binds m x=m x
 |[],_,_=>rfl
 |(n,v)::r,m,h=>by
  unfold bindC
  rw[a4e fun w hw=>h w (List.mem_cons_of_mem _ hw)]
  split
  ·rfl
  ·have:x≠n:=by rintro rfl;exact h v List.mem_cons_self
   simp [this]
theorem a4m {kindOf:Str→Option NameKind}{x:Str}{v:Value}:∀{P:List Str} {vs:List Value} {i:Nat} {m:Str→Option Value},P.Nodup→P[i]?=some x→vs[i]?=some v→kindOf x=some .local→
  bindL kindOf (P.zip vs) m x=some v
 |[],_,_,_,_,h,_,_=>by simp at h
 |_::_,[],_,_,_,_,h,_=>by simp at h
 |p::P,w::vs,0,m,nd,h1,h2,hk=>by
  simp at h1 h2;subst h1;subst h2
  show bindL kindOf ((p,w)::P.zip vs) m p=_
  unfold bindL
  rw[a4p fun v hv=>(List.nodup_cons.mp nd).1 (List.of_mem_zip hv).1,if_pos hk]
  simp
 |p::P,w::vs,i+1,m,nd,h1,h2,hk=>by
  show bindL kindOf ((p,w)::P.zip vs) m x=_
  unfold bindL
  exact a4m (i:=i) (List.nodup_cons.mp nd).2 (by simpa using h1) (by simpa using h2) hk
theorem a4c {kindOf:Str→Option NameKind}{x:Str}{v:Value}:∀{P:List Str} {vs:List Value} {i:Nat} {m:Str→Option Value},P.Nodup→P[i]?=some x→vs[i]?=some v→kindOf x≠some .local→
  bindC kindOf (P.zip vs) m x=some v
 |[],_,_,_,_,h,_,_=>by simp at h
 |_::_,[],_,_,_,_,h,_=>by simp at h
 |p::P,w::vs,0,m,nd,h1,h2,hk=>by
  simp at h1 h2;subst h1;subst h2
  show bindC kindOf ((p,w)::P.zip vs) m p=_
  unfold bindC
  rw[a4e fun v hv=>(List.nodup_cons.mp nd).1 (List.of_mem_zip hv).1,if_neg hk]
  simp
 |p::P,w::vs,i+1,m,nd,h1,h2,hk=>by
  show bindC kindOf ((p,w)::P.zip vs) m x=_
  unfold bindC
  exact a4c (i:=i) (List.nodup_cons.mp nd).2 (by simpa using h1) (by simpa using h2) hk
def a1E (N:List Str)(vs:List V):St:=vs.map some++List.replicate (N.length -vs.length) none
def a3k (CX:CXT)(P:Program)(w:World)(K:PySem.W.Frag)(mg:Str→Option Value)(base:Heap)(N:List Str)(qual:Str)(scope:Scope)(f:Addr)(cd:Value)(A:Around)(outer:List Env)(s:Shared)(H:Hp)(E:XK):Cx where
 prog:=P
 w:=w
 K:=K
 mg:=mg
 base:=base
 A:=A.deeper (envOfC qual scope s.heap.objs.size f cd)
 N:=N
 s₀:=s
 H₀:=H
 env:=envOfC qual scope s.heap.objs.size f cd
 outer:=outer
 stack:=envOfC qual scope s.heap.objs.size f cd::outer
 ex:=[]
 calm:=true
 fn:=fun _=>true
 pn:=[]
 xe:=fun e s'=>wpAny (model P w) (A.deeper (envOfC qual scope s.heap.objs.size f cd)) («leaving» (envOfC qual scope s.heap.objs.size f cd) e) (fun _ s''=>CX outer H s E e s'') (fun e' s''=>CX outer H s E e' s'') s'
theorem a5V {sc:Scope}{n:Nat}{x:Str}(h:sc.names.lookup x=some .cell):∃c,(cellsFrom n sc.names []).lookup x=some c:=by
 have q:=PySem.W.cellsFrom_some sc.names n [] (.inl h)
 exact Option.isSome_iff_exists.mp q
theorem a8r {CX:CXT}{P:Program}{w:World}{K:PySem.W.Frag}{mg:Str→Option Value}{base:Heap}{N ps:List Str}{qual:Str}{scope:Scope}{f:Addr}{cd:Value}{A:Around}{outer:List Env}{s s1:Shared}{H:Hp}{E:XK}{us:List Value}{vs:List V}
  (S:j5 N ps scope) (hd:A.handled=none) (e0:Env0 P w K mg base A outer s H) (hl:vs.length=ps.length) (r:Vals vs us)
  (x:InCallC s s.heap.objs.size (bindL (envOfC qual scope s.heap.objs.size f cd).kindOf (ps.zip us) fun _=>none) (cellsFrom (s.heap.objs.size+1) scope.names []) (bindC (envOfC qual scope s.heap.objs.size f cd).kindOf (ps.zip us) fun _=>none) s1):
  Inv (a3k CX P w K mg base N qual scope f cd A outer s H E) [] (a1E N vs) H s1:=by
 have hpl:ps.length≤N.length:=by have:=congrArg List.length S.pre;rw[List.length_take] at this;omega
 obtain⟨h1,tk,rfl,hk⟩:=x.done
 have noA:∀b:Addr,b∉(a3k CX P w K mg base N qual scope f cd A outer s H E).ex:=fun b z=>absurd (show b∈([]:List Addr) from z) (by simp)
 refine⟨⟨e0.mod,S.kind,rfl,rfl,Nat.le_refl _,fun y z c h1 h2=>?_,fun y hy=>?_,fun y c _ h=>?_,fun _=>hd,Around.frames_deeper e0.frames,.inr ⟨rfl,rfl⟩,fun b z=>absurd z (noA b),e0.bs,e0.bsz,fun b _ _=>noA b,fun b z=>absurd z (noA b),e0.funs,e0.frf⟩,
  rfl,e0.bare,Un.kept hk,⟨_,x.toInCall.ns,fun i y v h1 h2 h3=>?_⟩,fun y c h=>⟨_,x.cell y c h⟩,e0.hok.fresh (Nat.le_refl _),fun y c h=>?_,fun p hp=>absurd (show p∈([]:List (Addr×Obj)) from hp) (by simp),e0.hok.kept hk,?_⟩
 ·exact name_of_addr x.apart (PySem.mem_of_lookup h1) (PySem.mem_of_lookup h2)
 ·have hy:scope.names.lookup y=some .cell∨scope.names.lookup y=some .free:=hy
  rcases hy with hy|hy
  ·exact a5V hy
  ·exact absurd rfl (S.nofree _ (PySem.mem_of_lookup hy))
 ·exact Nat.le_of_lt (x.above y c (PySem.mem_of_lookup h))
 ·have hi:i<vs.length:=by
   unfold a1E at h2
   by_cases hi:i<vs.length
   ·exact hi
   ·rw[List.getElem?_append_right (by simpa using hi)] at h2
    rw[List.getElem?_replicate] at h2
    split at h2<;>cases h2
  have ha:vs[i]?=some v:=by
   unfold a1E at h2
   rw[List.getElem?_append_left (by simpa using hi),List.getElem?_map] at h2
   cases e:vs[i]? with
   |none=>rw[e] at h2;cases h2
   |some a=>rw[e] at h2;cases h2;rfl
  obtain⟨u,hu,rv⟩:=r.get ha
  have hp:ps[i]?=some y:=by
   rw[←S.pre,List.getElem?_take_of_lt (by omega)];exact h1
  have ndP:ps.Nodup:=by rw[←S.pre];exact S.nd.sublist (List.take_sublist _ _)
  refine⟨u,rv,?_⟩
  rcases S.par y (List.mem_of_getElem? hp) with k|k
  ·exact .inl ⟨k,a4m ndP hp hu k⟩
  ·obtain⟨c,e⟩:=a5V (n:=s.heap.objs.size+1) k
   refine .inr ⟨.inl k,c,e,?_⟩
   have q:=x.cell y c e
   rw[a4c ndP hp hu (by show scope.names.lookup y≠_;rw[k];decide)] at q
   exact q
 ·exact e0.hok.fresh (Nat.le_of_lt (x.above y c (PySem.mem_of_lookup h)))
 ·unfold a1E
  show _=N.length
  rw[List.length_append,List.length_map,List.length_replicate]
  omega
theorem b2H {CX:CXT}{P:Program}{w:World}{K:PySem.W.Frag}{mg:Str→Option Value}{base:Heap}{k:Nat}{f:Addr}{name qual:Str}{params:Arguments}{body:List Stmt}{scope:Scope}{dV kV doc pm cdv ct oc:Value}{an od:Option Addr}
  {osl:Array (Option Value)} {N ps:List Str} {sp:Sp} (lk:K.lookup f=some ⟨oc,od,.func (PySem.W.fnOf name qual params body scope dV kV doc pm an cdv ct),osl⟩) (hcd:PySem.W.codeIn K cdv qual=true) (S:j5 N ps scope)
  (len:∀vs H Q E,sp vs H Q E→vs.length=ps.length)
  (hbody:∀(A:Around) (outer:List Env) (s:Shared) (H:Hp) (vs:List V) (Q:VK) (E:XK),Room k (A.deeper (envOfC qual scope s.heap.objs.size f cdv))→sp vs H Q E→
   ∃t,PSs (a3k CX P w K mg base N qual scope f cdv A outer s H E) body t∧t {nx:=fun _ H'=>Q .non H',rt:=Q} (a1E N vs) H):
  FnOk P w K mg base CX (k+1) f (PySem.W.fnOf name qual params body scope dV kV doc pm an cdv ct) ps sp:=by
 refine⟨len,fun A outer s H args us vs Q E hr e0 hb r hsp=>?_⟩
 have hl:=len _ _ _ _ hsp
 have KX:K.In s.heap:=e0.mod.kin.keeps fun b o e=>(e0.bs b o e).1
 have lim:s.heap.NoLimit:=e0.mod.nolimit.keeps fun b o e=>(e0.bs b o e).1
 have hkind:∀y∈ps.zip us,scope.names.lookup y.1=some .local∨(scope.names.lookup y.1=some .cell∧((cellsFrom (s.heap.objs.size+1) scope.names []).lookup y.1).isSome=true):=fun⟨n,v⟩ hy=>by
  rcases S.par n (List.of_mem_zip hy).1 with q|q
  ·exact .inl q
  ·exact .inr ⟨q,PySem.W.cellsFrom_some _ _ _ (.inl q)⟩
 refine codeAny_call_function hr.depth (KX _ _ lk) rfl S.co S.gen rfl (PySem.W.codeRec_of KX hcd) (hb _ _ _ _ ?_)
 refine wpAny_newFunctionEnv_cells S.kind hkind fun env he s1 x=>?_
 subst he
 refine⟨lim.keeps x.toInCall.keep,codeAny_func ?_⟩
 obtain⟨t,ht,hq⟩:=hbody A outer s H vs Q E (hr.deeper _) hsp
 have I:Inv (a3k CX P w K mg base N qual scope f cdv A outer s H E) [] (a1E N vs) H s1:=a8r S hr.hd e0 hl r x
 refine wpAny_mono (ht [] s1 (a1E N vs) H _ I hq) (fun fl s' hs=>?_) fun e s' hs=>hs
 have fin:∀{σ':St} {H':Hp} {v:V} {u:Value},Inv (a3k CX P w K mg base N qual scope f cdv A outer s H E) [] σ' H' s'→RelV v u→Q v H'→CE outer P w H s Q u s':=
  fun{σ' H' v u} J rv q=>⟨v,H',J.os,J.bare,J.base,J.hok,rv,q⟩
 cases fl with
 |ret u=>
  obtain⟨v,σ',H',J,rv,q⟩:=hs
  exact fin J rv q
 |next=>
  obtain⟨σ',H',J,q⟩:=hs
  exact fin (v:=V.non) (u:=Value.none) J rfl q
 |brk=>
  obtain⟨_,_,_,q⟩:=hs
  exact False.elim q
 |cont=>
  obtain⟨_,_,_,q⟩:=hs
  exact False.elim q
end L2
namespace L2
open PySem PySem.Spec PyProof.Rows
section
variable {X:Cx} {x:Str} {p pos:Pos} {e:Expr} {es:List Expr} {t:TA} {id T:String} {r:List V→Hp→VK→Prop}
def tCB (r:List V→Hp→VK→Prop)(t:TA):TE:=fun σ H Q=>t σ H fun vs H1=>r vs H1 Q
theorem a9E (hc:CallR X (.builtin id) r)(hg:Gl X x)(hm:X.mg x=none)(hv:bootBuiltins x=some (.builtin id))(ha:PA X (e::es) t)(hn:x≠"__name__":=by decide)(hdb:(x==("__debug__":Str))=false:=by decide)
  (he:starEach (e::es) X.env=(false,eval e X.env)::starEach es X.env:=by rfl) (hpl:(backTo pos (starEach es X.env)).any (·.1)=false:=by rfl):PE X (.Call (.Name x p) (e::es) [] pos) (tCB r t):=by
 intro pins s σ H Q I h
 refine wpAny_Call_Name_kw (a2Z I hg hm hv ?_ hn hdb)
 exact PyProof.Rows.callWith_builtin1 (thn (ha pos pins s σ H _ I h) fun us s1 ⟨vs,H1,I1,r1,q1⟩=>hc pins s1 σ H1 vs us Q I1 r1 q1) he hpl
theorem a8N (hc:CallR X (.type T) r)(hg:Gl X x)(hm:X.mg x=none)(hv:bootBuiltins x=some (.type T))(ha:PA X (e::es) t)(hn:x≠"__name__":=by decide)(hdb:(x==("__debug__":Str))=false:=by decide)
  (he:starEach (e::es) X.env=(false,eval e X.env)::starEach es X.env:=by rfl) (hpl:(backTo pos (starEach es X.env)).any (·.1)=false:=by rfl):PE X (.Call (.Name x p) (e::es) [] pos) (tCB r t):=by
 intro pins s σ H Q I h
 refine wpAny_Call_Name_kw (a2Z I hg hm hv ?_ hn hdb)
 exact PyProof.Rows.callWith_type1 (thn (ha pos pins s σ H _ I h) fun us s1 ⟨vs,H1,I1,r1,q1⟩=>hc pins s1 σ H1 vs us Q I1 r1 q1) he hpl
end
end L2
namespace HT
open PySem PyProof.Rows
section
open PySem.SeqAt
open PySem.AutoSeq1 (wpAny_loadPart')
open PySem.MeetsSeq PySem.MeetsSeq2 PySem.MeetsSeq3
end
section
variable {prog:Program} {w:World} {A:Around} {E:Value→Shared→Prop} {s:Shared}
theorem cat_tup {t b:Addr}{vs ws:List Value}{Q:Value→Shared→Prop}(ht:IsTup s.heap t vs.toArray)(hb:IsTup s.heap b ws.toArray)(hv:vs≠[])
  (h1:ws=[]→Q (.ref t) s) (h2:ws≠[]→Q (.ref s.heap.objs.size) {s with heap:=s.heap.push {cls:= .type "tuple",data:= .seq (vs++ws).toArray}})
  (hsz:vs.length+ws.length≤sizeLine):wpAny (model prog w) A (binaryOp .Add (.ref t) (.ref b)) Q E s:=by
 obtain⟨⟨cls,dd,data,sl⟩,ho,hc,n,hd⟩:=id ht
 obtain⟨⟨cls2,dd2,data2,sl2⟩,ho2,hc2,n2,hd2⟩:=id hb
 simp only at hc hd hc2 hd2
 subst hc hd hc2 hd2
 have e:vs.toArray++ws.toArray=(vs++ws).toArray:=by simp
 by_cases hw:ws=[]
 ·exact concat_meets ⟨_,ho,rfl⟩ ⟨_,ho2,rfl⟩ noFill_tuple_add seq_tuple_add PySem.F.slot_tuple_add PySem.F.entry_tuple_add (PySem.F.args_tuple_add_2 _ _)
   (tuple_addW1 t b vs.toArray ws.toArray n n2 dd dd2 sl sl2 (by simpa using hv) (by simp [hw])) ⟨ho,ho2,h1 hw⟩
 ·refine concat_meets ⟨_,ho,rfl⟩ ⟨_,ho2,rfl⟩ noFill_tuple_add seq_tuple_add PySem.F.slot_tuple_add PySem.F.entry_tuple_add (PySem.F.args_tuple_add_2 _ _)
   (tuple_addW2 t b vs.toArray ws.toArray n n2 dd dd2 sl sl2 (by simpa using hv) (by simpa using hw) (by rw[List.size_toArray,List.size_toArray];exact hsz)) ⟨ho,ho2,?_⟩
  rw[e]
  exact h2 hw
def sIx (n d:Nat):Option Int→Nat
 |none=>d
 |some v=>if v<0 then(v+(n:Int)).toNat else min v.toNat n
theorem b3o (n d:Nat)(hd:d≤n)(o:Option Int):sIx n d o≤n:=by
 cases o with
 |none=>exact hd
 |some v=>
  show(if v<0 then(v+(n:Int)).toNat else min v.toNat n)≤n
  by_cases hv:v<0
  ·rw[if_pos hv];omega
  ·rw[if_neg hv];exact Nat.min_le_right _ _
theorem a7n (v:Int)(n d:Nat):(if v<0 then max (v+(n:Int)) 0 else min v (n:Int))=((sIx n d (some v):Nat):Int):=by
 show(if v<0 then max (v+(n:Int)) 0 else min v (n:Int))=(((if v<0 then(v+(n:Int)).toNat else min v.toNat n):Nat):Int)
 by_cases hv:v<0
 ·simp only[if_pos hv];omega
 ·simp only[if_neg hv];omega
theorem a6B (lo hi:Option Int)(n:Nat):Builtin.Slice.sliceAdjust lo hi 1 (n:Int)=(((sIx n 0 lo:Nat):Int),((sIx n n hi:Nat):Int)):=by
 have h1:¬((1:Int)<0):=by omega
 unfold Builtin.Slice.sliceAdjust
 simp only[h1,if_false]
 refine Prod.ext ?_ ?_
 ·cases lo with
  |none=>rfl
  |some v=>exact a7n v n 0
 ·cases hi with
  |none=>rfl
  |some v=>exact a7n v n n
theorem a7h (i j:Nat):Builtin.Slice.slicePlaces (i:Int) (j:Int) 1=j -i:=by
 unfold Builtin.Slice.slicePlaces
 have h1:(1:Int)>0:=by omega
 simp only[h1,if_true,Int.ediv_one]
 split<;>omega
theorem a3G {v:Value}{o:Option Int}{Q:Option Int→Shared→Prop}(p:IsPart v o)(h:Q o s):wpAny (model prog w) A (Builtin.Slice.slicePartIndex v) Q E s:=by
 cases p with
 |none=>exact slicePart_none h
 |int i t=>exact slicePart_int h
theorem a2e {sl:Addr}{vl vu:Value}{lo hi:Option Int}{n:Nat}{Q:Int×Int×Nat→Shared→Prop}(hs:s.heap.IsSliceOf sl vl vu .none)(pl:IsPart vl lo)(pu:IsPart vu hi)
  (h:Q (((sIx n 0 lo:Nat):Int),1,sIx n n hi -sIx n 0 lo) s):wpAny (model prog w) A (Builtin.Slice.sliceApplied (.ref sl) (pure (n:Int))) Q E s:=by
 obtain⟨os,hos,hcs,hds⟩:=id hs
 unfold Builtin.Slice.sliceApplied Builtin.Slice.sliceFields
 refine wpAny_bind (wpAny_bind (wpAny_field hos hds (x:=vl) rfl (wpAny_bind (wpAny_field hos hds (x:=vu) rfl (wpAny_bind (wpAny_field hos hds (x:= .none) rfl (wpAny_pure ?_)))))))
 refine wpAny_bind (slicePart_none ?_)
 show wpAny _ _ (if((1:Int)==0)=true then _ else _) _ _ s
 rw[if_neg (by decide)]
 refine wpAny_bind (a3G pl (wpAny_bind (a3G pu (wpAny_bind (wpAny_pure ?_)))))
 show wpAny _ _ (match Builtin.Slice.sliceAdjust lo hi 1 (n:Int) with|(lo,hi)=>pure (lo,(1:Int),Builtin.Slice.slicePlaces lo hi 1)) _ _ s
 rw[a6B lo hi n]
 show wpAny _ _ (pure (((sIx n 0 lo:Nat):Int),(1:Int),Builtin.Slice.slicePlaces ((sIx n 0 lo:Nat):Int) ((sIx n n hi:Nat):Int) 1)) _ _ s
 rw[a7h]
 exact wpAny_pure h
theorem b1a (xs:Array Value)(i k:Nat):((List.range k).filterMap fun(m:Nat)=>xs[((i:Int)+(m:Int)*1).toNat]?).toArray=((xs.toList.drop i).take k).toArray:=by
 have e:(fun(m:Nat)=>xs[((i:Int)+(m:Int)*1).toNat]?)=fun m=>xs[i+m]?:=by
  funext m
  have:((i:Int)+(m:Int)*1).toNat=i+m:=by omega
  rw[this]
 rw[e]
 have:=pick_run xs i k
 rw[List.filterMap_map] at this
 have e2:((fun x=>xs[x]?)∘fun x=>i+x)=fun m=>xs[i+m]?:=rfl
 rw[e2] at this
 rw[this]
theorem getItem_tuple_cut {t sl:Addr}{items:Array Value}{vl vu:Value}{lo hi:Option Int}{Q:Value→Shared→Prop}(ht:IsTup s.heap t items)(hs:s.heap.IsSliceOf sl vl vu .none)(pl:IsPart vl lo)(pu:IsPart vu hi)
  (hw:¬(sIx items.size 0 lo=0∧sIx items.size items.size hi=items.size))
  (h:Q (.ref s.heap.objs.size) {s with heap:=s.heap.push {cls:= .type "tuple",data:= .seq ((items.toList.drop (sIx items.size 0 lo)).take (sIx items.size items.size hi -sIx items.size 0 lo)).toArray}})
  (hsz:items.size≤sizeLine):wpAny (model prog w) A (getItem (.ref t) (.ref sl)) Q E s:=by
 have htake:sizeOk (.seq ((items.toList.drop (sIx items.size 0 lo)).take (sIx items.size items.size hi -sIx items.size 0 lo)).toArray):=by
  show((items.toList.drop (sIx items.size 0 lo)).take (sIx items.size items.size hi -sIx items.size 0 lo)).toArray.size≤sizeLine
  rw[List.size_toArray,List.length_take,List.length_drop,Array.length_toList]
  omega
 have hj:sIx items.size items.size hi≤items.size:=b3o _ _ (Nat.le_refl _) hi
 obtain⟨os,hos,hcs,hds⟩:=id hs
 have hTs:s.TypeIs (.ref sl) "slice":=⟨os,hos,hcs⟩
 unfold getItem
 try with_reducible refine wpAny_holding ?_
 first|refine wpAny_bind (wpAny_pure ?_)|skip
 refine wpAny_bind (wpAny_sequenceKey ht.typeIs (by decide) ?_)
 refine wpAny_bind (wpAny_callSpecial?_slot (name:=Str.ofString "__getitem__") ht.typeIs PyProof.Rows.slot_tuple_getitem
  (wpAny_call_entry PyProof.Rows.slot_tuple_getitem ht.typeIs entry_tuple_getitem ?_ (args_tuple_getitem _ _)))
 show wpAny _ _ (Builtin.Tuple.tupleItemsOf (.ref t)>>=_) _ _ s
 refine wpAny_bind (tupleItemsOf_ ht ?_)
 refine wpAny_bind (wpAny_typeOf hTs ?_)
 rw[if_pos (by decide)]
 refine wpAny_bind (a2e hs pl pu ?_)
 have hno:¬((((sIx items.size 0 lo:Nat):Int)==0&&(1:Int)==1&&(sIx items.size items.size hi -sIx items.size 0 lo)==items.size)=true):=by
  intro q
  rw[Bool.and_eq_true,Bool.and_eq_true] at q
  have q1:((sIx items.size 0 lo:Nat):Int)=0:=eq_of_beq q.1.1
  have q2:sIx items.size items.size hi -sIx items.size 0 lo=items.size:=eq_of_beq q.2
  exact hw ⟨by omega,by omega⟩
 show wpAny _ _ (if(((sIx items.size 0 lo:Nat):Int)==0&&(1:Int)==1&&(sIx items.size items.size hi -sIx items.size 0 lo)==items.size)=true then _ else _) _ _ s
 rw[if_neg hno,b1a]
 first
  |exact wpAny_bind (m:=Builtin.Tuple.tupleExact _) (wpAny_newObj_type (wpAny_pure ⟨_,rfl,wpAny_pure h⟩) htake)
  |exact wpAny_bind (m:=Builtin.Tuple.tupleExact _) (wpAny_newObj_type (wpAny_bind (wpAny_pure (wpAny_pure ⟨_,rfl,wpAny_pure h⟩))) htake)
  |exact wpAny_bind (wpAny_bind (m:=Builtin.Tuple.tupleExact _) (wpAny_newObj_type (wpAny_pure (wpAny_pure ⟨_,rfl,wpAny_pure h⟩)) htake))
  |exact wpAny_bind (wpAny_bind (m:=Builtin.Tuple.tupleExact _) (wpAny_newObj_type (wpAny_pure ⟨_,rfl,wpAny_pure h⟩) htake))
end
end HT
namespace L2
open PySem PySem.Spec PyProof.Rows
abbrev TO:=St→Hp→(Option Int→Hp→Prop)→Prop
def PO (X:Cx)(e:Option Expr)(t:TO):Prop:=
 ∀(pins:List (Addr×Obj)) (s:Shared) (σ:St) (H:Hp) (Q:Option Int→Hp→Prop),Inv X pins σ H s→t σ H Q→
  wpAny (model X.prog X.w) X.A (evalPart e X.env) (fun u s'=>∃o H',Inv X pins σ H' s'∧IsPart u o∧Q o H') X.xe s
def a4F:TO:=fun _ H Q=>Q none H
def a9d (t:TE):TO:=fun σ H Q=>t σ H fun x H1=>∃i,x= .int i∧Q (some i) H1
section
variable {X:Cx} {e:Expr} {te:TE} {lo hi:Option Expr} {tl th:TO} {pos p2:Pos}
theorem b2k:PO X none a4F:=by
 intro pins s σ H Q I h
 rw[evalPart_none]
 exact wpAny_pure ⟨none,H,I,.none,h⟩
theorem b2j (h:PE X e te):PO X (some e) (a9d te):=by
 intro pins s σ H Q I hw
 rw[evalPart_some]
 refine thn (h pins s σ H _ I hw) fun u s1 ⟨x,H1,I1,r1,q1⟩=>?_
 obtain⟨i,rfl,q⟩:=q1
 obtain⟨t,rfl⟩:=r1
 exact⟨some i,H1,I1,.int i t,q⟩
def SlR (X:Cx)(r:V→Option Int→Option Int→Hp→VK→Prop):Prop:=
 ∀(pins:List (Addr×Obj)) (s:Shared) (σ:St) (H:Hp) (x:V) (v vl vu:Value) (lo hi:Option Int) (sl:Addr) (Q:VK),Inv X pins σ H s→RelV x v→s.heap.IsSliceOf sl vl vu .none→IsPart vl lo→IsPart vu hi→r x lo hi H Q→
  ∃T id,typeLookup (.type T) "__getitem__"=pure (some (.builtin id))∧s.TypeIs v T∧wpAny (model X.prog X.w) X.A (getItem v (.ref sl)) (EP X pins σ Q) X.xe s
theorem SlR.or {r r':V→Option Int→Option Int→Hp→VK→Prop}(h:SlR X r)(h':SlR X r'):SlR X (fun x lo hi H Q=>r x lo hi H Q∨r' x lo hi H Q):=by
 intro pins s σ H x v vl vu lo hi sl Q I rx hs pl pu q
 rcases q with q|q
 ·exact h pins s σ H x v vl vu lo hi sl Q I rx hs pl pu q
 ·exact h' pins s σ H x v vl vu lo hi sl Q I rx hs pl pu q
def tSl (r:V→Option Int→Option Int→Hp→VK→Prop)(te:TE)(tl th:TO):TE:=fun σ H Q=>te σ H fun x H1=>tl σ H1 fun l H2=>th σ H2 fun u H3=>r x l u H3 Q
theorem b1e {r:V→Option Int→Option Int→Hp→VK→Prop}(hr:SlR X r)(he:PE X e te)(hl:PO X lo tl)(hu:PO X hi th):PE X (.Subscript e (.Slice lo hi none p2) pos) (tSl r te tl th):=by
 intro pins s σ H Q I h
 refine Subscript_ (thn (he pins s σ H _ I h) fun v s1 ⟨x,H1,I1,r1,q1⟩=>?_)
 refine wpAny_Slice (thn (hl pins s1 σ H1 _ I1 q1) fun vl s2 ⟨l,H2,I2,pl,q2⟩=>thn (hu pins s2 σ H2 _ I2 q2) fun vu s3 ⟨u,H3,I3,pu,q3⟩=>?_)
 rw[evalPart_none]
 refine wpAny_pure ?_
 have I4:Inv X pins σ H3 {s3 with heap:=s3.heap.push {cls:= .type "slice",data:= .fields #[vl,vu,.none]}}:=I3.kept (t':=s3.toks) fun b ob q=>Heap.get?_push_of_some _ q
 obtain⟨T,id,hT,ht,hg⟩:=hr pins {s3 with heap:=s3.heap.push {cls:= .type "slice",data:= .fields #[vl,vu,.none]}} σ H3 x v vl vu l u s3.heap.objs.size Q I4 r1 (Heap.IsSliceOf.new ..) pl pu q3
 show wpAny (model X.prog X.w) X.A (subscriptTail e (.Slice lo hi none p2) v (.ref s3.heap.objs.size)) (EP X pins σ Q) X.xe {s3 with heap:=s3.heap.push {cls:= .type "slice",data:= .fields #[vl,vu,.none]}}
 exact tail_any (ops:=[.ref s3.heap.objs.size,v]) ht hT hg (by with_unfolding_all rfl)
def a2y (xs:List V)(lo hi:Option Int):List V:=(xs.drop (HT.sIx xs.length 0 lo)).take (HT.sIx xs.length xs.length hi -HT.sIx xs.length 0 lo)
theorem a2r (xs:List V)(lo hi:Option Int):(a2y xs lo hi).length≤xs.length:=by
 unfold a2y
 rw[List.length_take,List.length_drop]
 omega
def b4W (K:PySem.W.Frag):V→Option Int→Option Int→Hp→VK→Prop:=fun x lo hi H Q=>∃a xs,x= .ref a∧SqT K H a xs∧
 ¬(HT.sIx xs.length 0 lo=0∧HT.sIx xs.length xs.length hi=xs.length)∧∀p,H p=none→Q (.ref p) (upd H p (.tup (a2y xs lo hi)))
theorem sl_tup:SlR X (b4W X.K):=by
 intro pins s σ H x v vl vu lo hi sl Q I rx hs pl pu h
 obtain⟨a,xs,rfl,hx,hw,q⟩:=h
 cases rx
 obtain⟨its,r,ht,hz⟩:=I.tuple hx
 have hlen:its.toArray.size=xs.length:=by rw[List.size_toArray];exact r.length.symm
 refine⟨"tuple",_,PyProof.Rows.slot_tuple_getitem.lookup,ht.typeIs,?_⟩
 refine HT.getItem_tuple_cut ht hs pl pu (by rw[hlen];exact hw) ?_ (by rw[hlen];exact hz)
 rw[hlen]
 refine⟨.ref s.heap.objs.size,_,I.laid (t':=s.toks) (o:= .tup (a2y xs lo hi)) (fun b ob q=>Heap.get?_push_of_some _ q) (Nat.le_refl _) ?_,rfl,q _ (I.hok.fresh (Nat.le_refl _))⟩
 exact⟨Nat.le_trans (a2r xs lo hi) hz,_,(r.drop (HT.sIx xs.length 0 lo)).take (HT.sIx xs.length xs.length hi -HT.sIx xs.length 0 lo),IsTup.new _ _⟩
def b2B (K:PySem.W.Frag):R2:=fun x y H Q=>∃a b xs ys,x= .ref a∧y= .ref b∧SqT K H a xs∧SqT K H b ys∧xs≠[]∧xs.length+ys.length≤sizeLine∧
 (ys=[]→Q (.ref a) H)∧(ys≠[]→∀p,H p=none→Q (.ref p) (upd H p (.tup (xs++ys))))
theorem Vals.nil_iff {xs:List V}{us:List Value}(r:Vals xs us):us=[]↔xs=[]:=by
 cases r with
 |nil=>simp
 |cons _ _=>simp
theorem b2b:OpR X (binaryOp .Add) (b2B X.K):=by
 intro pins s σ H x y v u Q I rx ry h
 obtain⟨a,b,xs,ys,rfl,rfl,ha,hb,hx,hz,q1,q2⟩:=h
 cases rx
 cases ry
 obtain⟨its,r1,p1,_⟩:=I.tuple ha
 obtain⟨its2,r2,p2,_⟩:=I.tuple hb
 refine HT.cat_tup p1 p2 (fun z=>hx (r1.nil_iff.mp z)) (fun z=>⟨.ref a,H,I,rfl,q1 (r2.nil_iff.mp z)⟩) (fun z=>?_) (by rw[←r1.length,←r2.length];exact hz)
 refine⟨.ref s.heap.objs.size,_,I.laid (t':=s.toks) (o:= .tup (xs++ys)) (fun b ob q=>Heap.get?_push_of_some _ q) (Nat.le_refl _) ?_,rfl,q2 (fun w=>z (r2.nil_iff.mpr w)) _ (I.hok.fresh (Nat.le_refl _))⟩
 exact⟨by rw[List.length_append];exact hz,_,r1.append r2,IsTup.new _ _⟩
end
end L2
namespace L2
open PySem PySem.Spec PyProof.Rows
def ixN (n:Nat)(i:Int):Option Nat:=if 0≤i then(if i<n then some i.toNat else none) else if -(n:Int)≤i then some (i+n).toNat else none
def atI {α:Type}(xs:List α)(i:Int):Option α:=(ixN xs.length i).bind fun j=>xs[j]?
theorem a7L {n:Nat}{i:Int}{j:Nat}(h:ixN n i=some j):seqIndex? i n=some j∧j<n∧-(n:Int)≤i∧i<n:=by
 unfold ixN at h
 by_cases h0:0≤i
 ·rw[if_pos h0] at h
  by_cases h1:i<n
  ·rw[if_pos h1] at h
   have e:i.toNat=j:=Option.some.inj h
   exact⟨by rw[seqIndex_of h0 h1,e],by omega,by omega,h1⟩
  ·rw[if_neg h1] at h;cases h
 ·rw[if_neg h0] at h
  by_cases h1: -(n:Int)≤i
  ·rw[if_pos h1] at h
   have e:(i+n).toNat=j:=Option.some.inj h
   exact⟨by rw[seqIndex_neg (by omega) h1,e],by omega,h1,by omega⟩
  ·rw[if_neg h1] at h;cases h
theorem a4Q {α:Type}{xs:List α}{i:Int}{v:α}(h:atI xs i=some v):∃j,seqIndex? i xs.length=some j∧xs[j]?=some v∧j<xs.length∧-(xs.length:Int)≤i∧i<xs.length:=by
 unfold atI at h
 cases e:ixN xs.length i with
 |none=>rw[e] at h;cases h
 |some j=>
  rw[e] at h
  obtain⟨h1,h2,h3,h4⟩:=a7L e
  exact⟨j,h1,h,h2,h3,h4⟩
theorem b8 {α:Type}{xs:List α}{j:Nat}{v:α}(h:xs[j]?=some v):atI xs (j:Int)=some v:=by
 have hj:j<xs.length:=(List.getElem?_eq_some_iff.mp h).1
 have e:ixN xs.length (j:Int)=some j:=by
  unfold ixN
  rw[if_pos (by omega),if_pos (by omega)];simp
 unfold atI;rw[e];exact h
theorem atI_last {α:Type}(xs:List α)(v:α):atI (xs++[v]) (-1)=some v:=by
 have hl:(xs++[v]).length=xs.length+1:=by simp
 have e:ixN (xs++[v]).length (-1)=some xs.length:=by
  unfold ixN
  rw[hl,if_neg (by decide),if_pos (by omega)]
  congr 1
  omega
 unfold atI
 rw[e]
 show(xs++[v])[xs.length]?=some v
 simp
def a7M (b:Expr):Prop:=∀o i,subscripted b false o i=operate [o,i] (getItem o i)
def IxR (X:Cx)(r:R2):Prop:=
 ∀(value slice:Expr) (pins:List (Addr×Obj)) (s:Shared) (σ:St) (H:Hp) (x y:V) (v u:Value) (Q:VK),Inv X pins σ H s→RelV x v→RelV y u→r x y H Q→
  subscripted slice false v u=operate [v,u] (getItem v u)→wpAny (model X.prog X.w) X.A (subscriptTail value slice v u) (EP X pins σ Q) X.xe s
def MtR (X:Cx)(id:String)(r:V→List V→Hp→VK→Prop):Prop:=
 ∀(pins:List (Addr×Obj)) (s:Shared) (σ:St) (H:Hp) (x:V) (xs:List V) (v:Value) (us:List Value) (Q:VK),Inv X pins σ H s→RelV x v→Vals xs us→r x xs H Q→
  wpAny (model X.prog X.w) X.A (call (.builtin id) (v::us)) (EP X pins σ Q) X.xe s
section
variable {X:Cx} {a b:Expr} {ta tb:TE} {pos:Pos}
theorem IxR.or {r r':R2}(h:IxR X r)(h':IxR X r'):IxR X (fun x y H Q=>r x y H Q∨r' x y H Q):=by
 intro value slice pins s σ H x y v u Q I rx ry q hs
 rcases q with q|q
 ·exact h value slice pins s σ H x y v u Q I rx ry q hs
 ·exact h' value slice pins s σ H x y v u Q I rx ry q hs
theorem MtR.or {id:String}{r r':V→List V→Hp→VK→Prop}(h:MtR X id r)(h':MtR X id r'):MtR X id (fun x xs H Q=>r x xs H Q∨r' x xs H Q):=by
 intro pins s σ H x xs v us Q I rx rs q
 rcases q with q|q
 ·exact h pins s σ H x xs v us Q I rx rs q
 ·exact h' pins s σ H x xs v us Q I rx rs q
theorem b6f {r:R2}(hr:IxR X r)(ha:PE X a ta)(hb:PE X b tb)(hs:a7M b):PE X (.Subscript a b pos) (tOp r ta tb):=by
 intro pins s σ H Q I h
 exact Subscript_ (b4B ha hb I h fun v u s2 x y H2 I2 rx ry q=>hr a b pins s2 σ H2 x y v u Q I2 rx ry q (hs _ _))
def b4F (K:PySem.W.Frag):R2:=fun x y H Q=>∃p xs i v,x= .ref p∧y= .int i∧SqL K H p xs∧atI xs i=some v∧Q v H
def b5b (K:PySem.W.Frag):R2:=fun x y H Q=>∃p xs i v,x= .ref p∧y= .int i∧SqT K H p xs∧atI xs i=some v∧Q v H
def b4S:R2:=fun x y H Q=>∃z i c,x= .str z∧y= .int i∧z.length≤sizeLine∧atI z.cps.toList i=some c∧Q (.str ⟨#[c]⟩) H
theorem ix_list:IxR X (b4F X.K):=by
 intro value slice pins s σ H x y v u Q I rx ry h hs
 obtain⟨p,xs,i,z,rfl,rfl,hq,he,q⟩:=h
 cases rx
 obtain⟨t,rfl⟩:=ry
 obtain⟨its,r,pl,hz⟩:=I.list hq
 obtain⟨j,h1,h2,h3,h4,h5⟩:=a4Q he
 obtain⟨w,ew,rw'⟩:=r.get h2
 have hl:=r.length
 have hn:=a2k
 have fin:EP X pins σ Q w s:=⟨z,H,I,rw',q⟩
 by_cases h0:0≤i
 ·have hj:i.toNat=j:=by
   rw[seqIndex_of h0 h5] at h1
   exact Option.some.inj h1
  exact item_listR pl.isList h0 (by omega) (by rw[hj];simpa using ew) fin hs
 ·have hj:(i+(its.toArray.size:Int)).toNat=j:=by
   rw[seqIndex_neg (by omega) h4] at h1
   rw[List.size_toArray,←hl]
   exact Option.some.inj h1
  exact subscriptTail_builtinR (x:=w) pl.isList.typeIs slot_list_getitem.lookup
   (wpAny_getItem_list_neg (Q:=fun r s'=>r=w∧EP X pins σ Q r s') pl.isList (by omega) (by rw[List.size_toArray]<;>omega) (by omega) (by rw[hj];simpa using ew) ⟨rfl,fin⟩) hs
theorem ix_tup:IxR X (b5b X.K):=by
 intro value slice pins s σ H x y v u Q I rx ry h hs
 obtain⟨p,xs,i,z,rfl,rfl,hq,he,q⟩:=h
 cases rx
 obtain⟨t,rfl⟩:=ry
 obtain⟨its,r,pl,hz⟩:=I.tuple hq
 obtain⟨j,h1,h2,h3,h4,h5⟩:=a4Q he
 obtain⟨w,ew,rw'⟩:=r.get h2
 have hl:=r.length
 have hn:=a2k
 have fin:EP X pins σ Q w s:=⟨z,H,I,rw',q⟩
 exact subscriptTail_builtinR (x:=w) pl.typeIs slot_tuple_getitem.lookup
  (getItem_tuple (j:=j) (Q:=fun r s'=>r=w∧EP X pins σ Q r s') pl (by omega) (by omega) (by rw[List.size_toArray,←hl];exact h1) (by simpa using ew) ⟨rfl,fin⟩) hs
theorem b3r:IxR X b4S:=by
 intro value slice pins s σ H x y v u Q I rx ry h hs
 obtain⟨z,i,c,rfl,rfl,hz,he,q⟩:=h
 obtain⟨t,rfl⟩:=rx
 obtain⟨t',rfl⟩:=ry
 obtain⟨j,h1,h2,h3,h4,h5⟩:=a4Q he
 have hl:z.cps.toList.length=z.length:=by simp [Str.length]
 rw[hl] at h1 h4 h5
 have hn:=a2k
 exact tail_any (typeIs_str s z t) slot_str_getitem.lookup (getItem_str (c:=c) (by
  have e1:decide (i< -(2 ^ 63:Int))=false:=decide_eq_false (by omega)
  have e2:decide (i≥2 ^ 63)=false:=decide_eq_false (by omega)
  rw[e1,e2,Bool.or_false]) (by rw[h1];simpa using h2) ⟨.str ⟨#[c]⟩,H,I.tok _,⟨_,rfl⟩,q⟩) hs
def rIx (K:PySem.W.Frag):R2:=fun x y H Q=>b4F K x y H Q∨b5b K x y H Q∨b4S x y H Q
theorem ix_seq:IxR X (rIx X.K):=ix_list.or (ix_tup.or b3r)
theorem a6G (its:List Value)(n j:Nat)(u:Value):Obj.mapSeq (·.setIfInBounds j u) {cls:= .type "list",data:= .seq its.toArray n}={cls:= .type "list",data:= .seq (its.set j u).toArray n}:=by
 simp [Obj.mapSeq]
theorem Inv.lst {pins:List (Addr×Obj)}{σ:St}{H:Hp}{s:Shared}{p:Addr}{xs:List V}(I:Inv X pins σ H s)(h:H p=some (.lst xs)):
  ∃(its:List Value) (n:Nat),Vals xs its∧s.heap.get? p=some {cls:= .type "list",data:= .seq its.toArray n}∧xs.length≤sizeLine:=by
 obtain⟨z,its,n,r,e⟩:=I.hok p _ h
 exact⟨its,n,r,e,z⟩
theorem Inv.lstUpd {pins:List (Addr×Obj)}{σ:St}{H:Hp}{s:Shared}{p:Addr}{xs ys:List V}{its its':List Value}{n n':Nat}{f:Obj→Obj}(I:Inv X pins σ H s)(h:H p=some (.lst xs))
  (ho:s.heap.get? p=some {cls:= .type "list",data:= .seq its.toArray n}) (hf:f {cls:= .type "list",data:= .seq its.toArray n}={cls:= .type "list",data:= .seq its'.toArray n'}) (r:Vals ys its') (hz:ys.length≤sizeLine) (t:Nat):
  Inv X pins σ (upd H p (.lst ys)) {s with heap:=s.heap.update p f,toks:=t}:=by
 have e:(s.heap.update p f).get? p=some {cls:= .type "list",data:= .seq its'.toArray n'}:=by
  rw[Heap.get?_update_self f ho (by rw[hf]<;>rfl),hf]
 refine I.write (x:=p) (e:=p) (by rw[h];trivial) (.inl rfl) (fun b u hb q=>(Heap.get?_update_other _ _ (Ne.symm hb)).trans q) ⟨_,e⟩ ?_
 exact⟨hz,its',n',r,e⟩
def b2z:V→V→V→Hp→(Hp→Prop)→Prop:=fun o i v H Q=>∃p xs k j,o= .ref p∧i= .int k∧H p=some (.lst xs)∧ixN xs.length k=some j∧Q (upd H p (.lst (xs.set j v)))
theorem b0G:a8A X b2z:=by
 intro pins s σ H o i v ov iv u Q I ro ri rv h
 obtain⟨p,xs,k,j,rfl,rfl,hp,hj,q⟩:=h
 cases ro
 obtain⟨t,rfl⟩:=ri
 obtain⟨its,n,r,ho,hz⟩:=I.lst hp
 obtain⟨h1,h2,h3,h4⟩:=a7L hj
 have hl:=r.length
 have hn:=a2k
 have I':Inv X pins σ (upd H p (.lst (xs.set j v))) {s with heap:=s.heap.update p (Obj.mapSeq (·.setIfInBounds j u))}:=
  I.lstUpd hp ho (a6G its n j u) (r.set rv j) (by rw[List.length_set];exact hz) s.toks
 by_cases h0:0≤k
 ·have hk:k.toNat=j:=by
   rw[seqIndex_of h0 h4] at h1
   exact Option.some.inj h1
  exact PySem.W.ki_setAt ho h0 (by omega) (by rw[List.size_toArray,←hl];exact h4) (by rw[hk];exact⟨_,I',q⟩)
 ·have hk:(k+(its.toArray.size:Int)).toNat=j:=by
   rw[seqIndex_neg (by omega) h3] at h1
   rw[List.size_toArray,←hl]
   exact Option.some.inj h1
  exact PySem.W.ki_setBack ho (by omega) (by rw[List.size_toArray,←hl];exact h3) (by omega) (by rw[hk];exact⟨_,I',q⟩)
theorem a4O (lo hi:Option Int)(n:Nat):(sliceBounds lo hi none n).1=((HT.sIx n 0 lo:Nat):Int)∧(sliceBounds lo hi none n).2.1=((HT.sIx n n hi:Nat):Int)∧(sliceBounds lo hi none n).2.2=1:=by
 refine⟨?_,?_,rfl⟩
 ·cases lo with
  |none=>simp [sliceBounds,HT.sIx]
  |some i=>
   simp only[sliceBounds,HT.sIx,Option.getD_none,show(1:Int)>0 by decide,if_true]
   by_cases h:i<0
   ·simp only[h,if_true]<;>omega
   ·simp only[h,if_false]<;>omega
 ·cases hi with
  |none=>simp [sliceBounds,HT.sIx]
  |some i=>
   simp only[sliceBounds,HT.sIx,Option.getD_none,show(1:Int)>0 by decide,if_true]
   by_cases h:i<0
   ·simp only[h,if_true]<;>omega
   ·simp only[h,if_false]<;>omega
theorem a3P (its:List Value)(lo hi:Option Int):slicePick its.toArray lo hi none=((its.drop (HT.sIx its.length 0 lo)).take (HT.sIx its.length its.length hi -HT.sIx its.length 0 lo)).toArray:=by
 obtain⟨h1,h2,h3⟩:=a4O lo hi its.toArray.size
 unfold slicePick
 rw[h1,h2,h3]
 simp only[sliceRange_one,pick_run,List.size_toArray]<;>rfl
def b5A (K:PySem.W.Frag):V→Option Int→Option Int→Hp→VK→Prop:=fun x lo hi H Q=>∃a xs,x= .ref a∧SqL K H a xs∧∀p,H p=none→Q (.ref p) (upd H p (.lst (a2y xs lo hi)))
theorem sl_list:SlR X (b5A X.K):=by
 intro pins s σ H x v vl vu lo hi sl Q I rx hs pl pu h
 obtain⟨a,xs,rfl,hx,q⟩:=h
 cases rx
 obtain⟨its,r,ht,hz⟩:=I.list hx
 have hlen:=r.length
 refine⟨"list",_,slot_list_getitem.lookup,ht.isList.typeIs,?_⟩
 refine wpAny_getItem_list_slice ht.isList hs pl pu .none (by simp) ?_ (by rw[List.size_toArray]<;>omega)
 rw[a3P,←hlen]
 refine⟨.ref s.heap.objs.size,_,I.laid (t':=s.toks) (o:= .lst (a2y xs lo hi)) (fun b ob q=>Heap.get?_push_of_some _ q) (Nat.le_refl _) ?_,rfl,q _ (I.hok.fresh (Nat.le_refl _))⟩
 exact⟨Nat.le_trans (a2r xs lo hi) hz,_,0,(r.drop (HT.sIx xs.length 0 lo)).take (HT.sIx xs.length xs.length hi -HT.sIx xs.length 0 lo),Heap.get?_push_size _ rfl⟩
def w9:V→Bool
 | .non=>true
 | .bl _=>true
 | .int _=>true
 | .str _=>true
 |_=>false
def eqV:V→V→Bool
 | .non,.non=>true
 | .bl a,.bl b=>a==b
 | .bl a,.int b=>(if a then 1 else 0)==b
 | .int a,.bl b=>a==(if b then 1 else 0)
 | .int a,.int b=>a==b
 | .str a,.str b=>a==b
 |_,_=>false
theorem a1t {A:Around}{s:Shared}{y x:V}{u v:Value}(ry:RelV y u)(rx:RelV x v)(fy:w9 y=true)(fx:w9 x=true):SeqAt.EqAt A s u v (eqV y x):=by
 cases y with
 |non=>
  cases ry
  cases x with
  |non=>cases rx;exact SeqAt.EqAt.same _
  |bl b=>cases rx;exact SeqAt.EqAt.none_bool b
  |int b=>obtain⟨t,rfl⟩:=rx;exact SeqAt.EqAt.none_int b t
  |str b=>obtain⟨t,rfl⟩:=rx;exact SeqAt.EqAt.none_str b t
  |_=>exact absurd (show false=true from fx) Bool.false_ne_true
 |bl a=>
  cases ry
  cases x with
  |non=>cases rx;exact SeqAt.EqAt.bool_none a
  |bl b=>cases rx;exact SeqAt.EqAt.bool_bool a b
  |int b=>obtain⟨t,rfl⟩:=rx;exact SeqAt.EqAt.bool_int a b t
  |str b=>obtain⟨t,rfl⟩:=rx;exact SeqAt.EqAt.bool_str a b t
  |_=>exact absurd (show false=true from fx) Bool.false_ne_true
 |int a=>
  obtain⟨t',rfl⟩:=ry
  cases x with
  |non=>cases rx;exact SeqAt.EqAt.int_none a t'
  |bl b=>cases rx;exact SeqAt.EqAt.int_bool a t' b
  |int b=>obtain⟨t,rfl⟩:=rx;exact SeqAt.EqAt.int_int a t' b t
  |str b=>obtain⟨t,rfl⟩:=rx;exact SeqAt.EqAt.int_str a t' b t
  |_=>exact absurd (show false=true from fx) Bool.false_ne_true
 |str a=>
  obtain⟨t',rfl⟩:=ry
  cases x with
  |non=>cases rx;exact SeqAt.EqAt.str_none a t'
  |bl b=>cases rx;exact SeqAt.EqAt.str_bool a t' b
  |int b=>obtain⟨t,rfl⟩:=rx;exact SeqAt.EqAt.str_int a t' b t
  |str b=>obtain⟨t,rfl⟩:=rx;exact SeqAt.EqAt.str_str a t' b t
  |_=>exact absurd (show false=true from fx) Bool.false_ne_true
 |_=>exact absurd (show false=true from fy) Bool.false_ne_true
def eqU (x:V)(u:Value):Bool:=match u with
 | .none=>eqV .non x
 | .bool b=>eqV (.bl b) x
 | .int i _=>eqV (.int i) x
 | .str z _=>eqV (.str z) x
 |_=>false
theorem b0u {x y:V}{u:Value}(r:RelV y u)(f:w9 y=true):eqU x u=eqV y x:=by
 cases y with
 |non=>cases r;rfl
 |bl b=>cases r;rfl
 |int i=>obtain⟨t,rfl⟩:=r;rfl
 |str z=>obtain⟨t,rfl⟩:=r;rfl
 |_=>exact absurd (show false=true from f) Bool.false_ne_true
theorem a1K {x:V}:∀{xs:List V} {us:List Value},Vals xs us→xs.all w9=true→us.any (eqU x)=xs.any fun y=>eqV y x
 |_,_,.nil,_=>rfl
 |y::xs,u::us,.cons r t,f=>by
  rw[List.all_cons,Bool.and_eq_true] at f
  rw[List.any_cons,List.any_cons,b0u r f.1,a1K t f.2]
theorem a0K {A:Around}{s:Shared}{x:V}{v:Value}(rx:RelV x v)(fx:w9 x=true):∀{xs:List V} {us:List Value},Vals xs us→xs.all w9=true→∀u∈us,SeqAt.EqAt A s u v (eqU x u)
 |_,_,.nil,_=>fun u hu=>by cases hu
 |y::xs,u::us,.cons r t,f=>fun u' hu=>by
  rw[List.all_cons,Bool.and_eq_true] at f
  rcases List.mem_cons.mp hu with rfl|hu
  ·rw[b0u r f.1];exact a1t r rx f.1 fx
  ·exact a0K rx fx t f.2 u' hu
def inV (x:V)(xs:List V):Bool:=xs.any fun y=>eqV y x
def rIn (K:PySem.W.Frag)(neg:Bool):R2:=fun x y H Q=>∃p xs,y= .ref p∧(SqL K H p xs∨SqT K H p xs)∧w9 x=true∧xs.all w9=true∧Q (.bl (if neg then !inV x xs else inV x xs)) H
theorem op_in_seq:OpR X (compareOp .In) (rIn X.K false):=by
 intro pins s σ H x y v u Q I rx ry h
 obtain⟨p,xs,rfl,hq,fx,fs,q⟩:=h
 cases ry
 rcases hq with hq|hq
 ·obtain⟨its,r,pl,hz⟩:=I.list hq
  refine SeqAt.in_listAt (eqU x) pl.isList (fun w hw=>a0K rx fx r fs w (by simpa using hw)) ⟨.bl _,H,I,rfl,?_⟩
  rw[show its.toArray.any (eqU x)=its.any (eqU x) by simp,a1K r fs]
  exact q
 ·obtain⟨its,r,pl,hz⟩:=I.tuple hq
  refine SeqAt.in_tupleAt (eqU x) pl (fun w hw=>a0K rx fx r fs w (by simpa using hw)) ⟨.bl _,H,I,rfl,?_⟩
  rw[show its.toArray.any (eqU x)=its.any (eqU x) by simp,a1K r fs]
  exact q
theorem op_notIn_seq:OpR X (compareOp .NotIn) (rIn X.K true):=by
 intro pins s σ H x y v u Q I rx ry h
 obtain⟨p,xs,rfl,hq,fx,fs,q⟩:=h
 cases ry
 rcases hq with hq|hq
 ·obtain⟨its,r,pl,hz⟩:=I.list hq
  refine SeqAt.notIn_listAt (eqU x) pl.isList (fun w hw=>a0K rx fx r fs w (by simpa using hw)) ⟨.bl _,H,I,rfl,?_⟩
  rw[show its.toArray.any (eqU x)=its.any (eqU x) by simp,a1K r fs]
  exact q
 ·obtain⟨its,r,pl,hz⟩:=I.tuple hq
  refine SeqAt.notIn_tupleAt (eqU x) pl (fun w hw=>a0K rx fx r fs w (by simpa using hw)) ⟨.bl _,H,I,rfl,?_⟩
  rw[show its.toArray.any (eqU x)=its.any (eqU x) by simp,a1K r fs]
  exact q
theorem a5l:OpR X (compareOp .NotIn) (fun x y H Q=>∃i j,x= .str i∧y= .str j∧Q (.bl (!(!(Builtin.Str.occurrences j i 0 j.length 1).isEmpty))) H):=by
 intro pins s σ H x y v u Q I rx ry h
 obtain⟨i,j,rfl,rfl,q⟩:=h
 obtain⟨t,rfl⟩:=rx
 obtain⟨t',rfl⟩:=ry
 exact notIn_str ⟨.bl _,H,I,rfl,q⟩
theorem CallR.or {f:Value}{r r':List V→Hp→VK→Prop}(h:CallR X f r)(h':CallR X f r'):CallR X f (fun xs H Q=>r xs H Q∨r' xs H Q):=by
 intro pins s σ H xs us Q I rs q
 rcases q with q|q
 ·exact h pins s σ H xs us Q I rs q
 ·exact h' pins s σ H xs us Q I rs q
theorem call_list_of:CallR X (.type "list") (fun xs H Q=>∃p ys,xs=[.ref p]∧(SqL X.K H p ys∨SqT X.K H p ys)∧∀l,H l=none→Q (.ref l) (upd H l (.lst ys))):=by
 intro pins s σ H xs us Q I r h
 obtain⟨p,ys,rfl,hq,q⟩:=h
 obtain⟨u,rfl,rx⟩:=O8 r
 cases rx
 have fin:∀(its:List Value),Vals ys its→ys.length≤sizeLine→∀(h':Heap) (c':Nat),(∀b o',s.heap.get? b=some o'→h'.get? b=some o')→
   h'.get? s.heap.objs.size=some {cls:= .type "list",dict:=none,data:= .seq its.toArray c',slots:= #[]}→EP X pins σ Q (.ref s.heap.objs.size) {s with heap:=h'}:=fun its r' hz h' c' kp e=>
  ⟨.ref s.heap.objs.size,_,I.laid (t':=s.toks) kp (Nat.le_refl _) (show ObjOk X.prog X.w _ h' _ (.lst ys) from⟨hz,its,c',r',e⟩),rfl,q _ (I.hok.fresh (Nat.le_refl _))⟩
 rcases hq with hq|hq
 ·obtain⟨its,r',pl,hz⟩:=I.list hq
  have hlen:=r'.length
  obtain⟨o,ho,hc,n,hd⟩:=pl.isList
  exact call_list_seq p (.inl rfl) ho hc hd (fun h' c' kp e=>fin its r' hz h' c' kp e) (by simp only[List.size_toArray]<;>omega)
 ·obtain⟨its,r',pl,hz⟩:=I.tuple hq
  have hlen:=r'.length
  obtain⟨o,ho,hc,n,hd⟩:=pl
  exact call_list_seq p (.inr rfl) ho hc hd (fun h' c' kp e=>fin its r' hz h' c' kp e) (by simp only[List.size_toArray]<;>omega)
def tyV (K:PySem.W.Frag)(T:String)(x:V)(H:Hp):Prop:=match x with
 | .str _=>T="str"
 | .int _=>T="int"
 | .ref p=>(T="list"∧∃xs,SqL K H p xs)∨(T="tuple"∧∃o,K.lookup p=some o∧o.cls= .type "tuple"∧o.dict=none)∨
   (T="dict"∧((∃kvs,H p=some (.dK kvs))∨∃kvs,H p=some (.dT kvs)))∨(T="set"∧∃S n,H p=some (.set S n))
 |_=>False
theorem a9o {pins:List (Addr×Obj)}{σ:St}{H:Hp}{s:Shared}{T:String}{x:V}{v:Value}(I:Inv X pins σ H s)(r:RelV x v)(ty:tyV X.K T x H):
  s.TypeIs v T∧∀a,v= .ref a→∃ob,s.heap.get? a=some ob∧ob.dict=none:=by
 cases x with
 |str z=>
  obtain⟨t,rfl⟩:=r
  cases (show T="str" from ty)
  exact⟨typeIs_str s z t,fun _ e=>nomatch e⟩
 |int i=>
  obtain⟨t,rfl⟩:=r
  cases (show T="int" from ty)
  exact⟨typeIs_int s i t,fun _ e=>nomatch e⟩
 |ref p=>
  cases r
  rcases ty with⟨rfl,xs,hq⟩|⟨rfl,o,hk,hc,hd⟩|⟨rfl,hk⟩|⟨rfl,S,n,hk⟩
  ·obtain⟨its,_,pl,_⟩:=I.list hq
   refine⟨pl.isList.typeIs,fun a e=>?_⟩
   cases e
   obtain⟨o,n,e,c,hd,_⟩:=pl
   exact⟨o,e,hd⟩
  ·refine⟨⟨o,I.kIn p o hk,hc⟩,fun a e=>?_⟩
   cases e
   exact⟨o,I.kIn _ o hk,hd⟩
  ·have z:∃o,s.heap.get? p=some o∧o.ExactDict:=by
    rcases hk with⟨kvs,hk⟩|⟨kvs,hk⟩
    ·obtain⟨_,_,_,_,o,_,_,e,ex,_⟩:=I.hok p _ hk
     exact⟨o,e,ex⟩
    ·obtain⟨_,_,_,_,o,_,_,e,ex,_⟩:=I.hok p _ hk
     exact⟨o,e,ex⟩
   obtain⟨o,e,ex⟩:=z
   refine⟨⟨o,e,ex.1⟩,fun a e2=>?_⟩
   cases e2
   exact⟨o,e,ex.2.1⟩
  ·obtain⟨o,_,_,_,e,ex,_⟩:=I.hok p _ hk
   refine⟨⟨o,e,ex.1⟩,fun a e2=>?_⟩
   cases e2
   exact⟨o,e,ex.2.1⟩
 |_=>exact False.elim ty
def b2P (K:PySem.W.Frag)(T:String)(r:V→List V→Hp→VK→Prop)(to:TE):TE:=fun σ H Q=>to σ H fun x H1=>tyV K T x H1∧r x [] H1 Q
def tBM (K:PySem.W.Frag)(T:String)(r:V→List V→Hp→VK→Prop)(to:TE)(t:TA):TE:=fun σ H Q=>to σ H fun x H1=>tyV K T x H1∧t σ H1 fun xs H2=>r x xs H2 Q
variable {o e:Expr} {es:List Expr} {to:TE} {t:TA} {name:Str} {apos cpos:Pos} {T id:String} {r:V→List V→Hp→VK→Prop}
theorem b3V (pa:PlainAttrs T)(slot:Slot T name id)(hty:typeOf (.builtin id)=pure (.type "method_descriptor"))(hm:MtR X id r)(ho:PE X o to)
  (hbase:attributeBase o name X.env (eval o X.env)=eval o X.env:=by rfl) (hline:(apos.endLine==cpos.line)=true:=by rfl):PE X (.Call (.Attribute o name apos) [] [] cpos) (b2P X.K T r to):=by
 intro pins s σ H Q I h
 refine wpAny_Call_method0_late hbase hline (thn (ho pins s σ H _ I h) fun v s1 ⟨x,H1,I1,r1,ty,q1⟩=>?_)
 obtain⟨h1,h2⟩:=a9o I1 r1 ty
 exact⟨T,id,pa,slot,hty,h1,h2,Calls.callWith_builtin rfl (PySem.evalArgs_none (hm pins s1 σ H1 x [] v [] Q I1 r1 .nil q1))⟩
theorem b5j (pa:PlainAttrs T)(slot:Slot T name id)(hty:typeOf (.builtin id)=pure (.type "method_descriptor"))(hm:MtR X id r)(ho:PE X o to)(ha:PA X (e::es) t)
  (hbase:attributeBase o name X.env (eval o X.env)=eval o X.env:=by rfl)
  (hfew:((backTo cpos (starEach (e::es) X.env)).all (fun x=>!x.1)&&(backToKw cpos (keywordEach [] X.env)).all (fun x=>x.1.isSome)
   &&decide ((e::es).length+([]:List Keyword).length+(if([]:List Keyword).isEmpty then 0 else 1)<30))=true:=by rfl)
  (hline:(apos.endLine==cpos.line)=true:=by rfl) (hs:starEach (e::es) X.env=(false,eval e X.env)::starEach es X.env:=by rfl) (hplain:(backTo cpos (starEach es X.env)).any (·.1)=false:=by rfl):
  PE X (.Call (.Attribute o name apos) (e::es) [] cpos) (tBM X.K T r to t):=by
 intro pins s σ H Q I h
 refine wpAny_Call_method_late hbase hfew hline rfl (thn (ho pins s σ H _ I h) fun v s1 ⟨x,H1,I1,r1,ty,q1⟩=>?_)
 obtain⟨h1,h2⟩:=a9o I1 r1 ty
 refine⟨T,id,pa,slot,hty,h1,h2,?_⟩
 have hA:=ha cpos pins s1 σ H1 _ I1 q1
 rw[hs] at hA⊢
 refine Calls.callWith_builtin (by show(false||(backTo cpos (starEach es X.env)).any (·.1))=false;rw[hplain]<;>rfl) (Calls.evalArgs_plain ?_)
 exact thn hA fun us s2 ⟨vs,H2,I2,r2,q2⟩=>hm pins s2 σ H2 x vs v us Q I2 r1 r2 q2
end
end L2
namespace L2
open PySem PySem.Spec PyProof.Rows
def MtM (X:Cx)(id:String)(r:V→List V→Hp→VK→Prop):Prop:=
 ∀(pins:List (Addr×Obj)) (s:Shared) (σ:St) (H:Hp) (x:V) (xs:List V) (v:Value) (us:List Value) (Q:VK),Inv X pins σ H s→RelV x v→Vals xs us→r x xs H Q→
  wpAny (model X.prog X.w) X.A (call (.builtin id) (v::us)) (EP X pins σ Q) X.xe s
theorem Vals.one:∀{x:V} {us:List Value},Vals [x] us→∃u,us=[u]∧RelV x u
 |_,_,.cons r .nil=>⟨_,rfl,r⟩
theorem Vals.two:∀{x y:V} {us:List Value},Vals [x,y] us→∃u v,us=[u,v]∧RelV x u∧RelV y v
 |_,_,_,.cons r (.cons q .nil)=>⟨_,_,rfl,r,q⟩
theorem Vals.zero:∀{us:List Value},Vals [] us→us=[]
 |_,.nil=>rfl
theorem Vals.dropLast {xs:List V}{us:List Value}(h:Vals xs us):Vals xs.dropLast us.dropLast:=by
 induction h with
 |nil=>exact .nil
 |cons r t ih=>
  cases t with
  |nil=>exact .nil
  |cons q t'=>exact .cons r ih
theorem Vals.reverse {xs:List V}{us:List Value}(h:Vals xs us):Vals xs.reverse us.reverse:=by
 induction h with
 |nil=>exact .nil
 |cons r t ih=>rw[List.reverse_cons,List.reverse_cons];exact Vals.append ih (.cons r .nil)
theorem Vals.rep {xs:List V}{us:List Value}(h:Vals xs us):∀k:Nat,Vals (List.replicate k xs).flatten (List.replicate k us).flatten
 |0=> .nil
 |k+1=>by
  rw[List.replicate_succ,List.replicate_succ,List.flatten_cons,List.flatten_cons]
  exact Vals.append h (Vals.rep h k)
section
variable {X:Cx} {pins:List (Addr×Obj)} {σ:St} {H:Hp} {s:Shared} {l b:Addr} {xs ys zs:List V}
theorem Inv.lset {its its':List Value}{n:Nat}{f:Array Value→Array Value}{t':Nat}(I:Inv X pins σ H s)(hH:H l=some (.lst xs))
  (e:s.heap.get? l=some {cls:= .type "list",data:= .seq its.toArray n}) (hf:f its.toArray=its'.toArray) (hv:Vals ys its') (hz:ys.length≤sizeLine):
  Inv X pins σ (upd H l (.lst ys)) {s with heap:=s.heap.update l (Obj.mapSeq f),toks:=t'}:=by
 have q:=PySem.IsL.update e f
 rw[hf] at q
 refine I.write (x:=l) (e:=l) (by rw[hH];exact trivial) (.inl rfl) (fun b' u hb hu=>(Heap.get?_update_other s.heap (Obj.mapSeq f) (Ne.symm hb)).trans hu) ⟨_,q⟩ ?_
 exact⟨hz,its',_,hv,q⟩
theorem Inv.lnew {its:List Value}{t':Nat}(I:Inv X pins σ H s)(hv:Vals ys its)(hz:ys.length≤sizeLine):
  Inv X pins σ (upd H s.heap.objs.size (.lst ys)) {s with heap:=s.heap.push {cls:= .type "list",data:= .seq its.toArray},toks:=t'}:=
 I.laid (fun _ _ q=>Heap.get?_push_of_some _ q) (Nat.le_refl _) ⟨hz,its,0,hv,Heap.get?_push_size _ rfl⟩
theorem Inv.fresh (I:Inv X pins σ H s):H s.heap.objs.size=none:=I.hok.fresh (Nat.le_refl _)
theorem Inv.lstM (I:Inv X pins σ H s)(hH:H l=some (.lst xs)):xs.length≤sizeLine∧∃(its:List Value) (n:Nat),Vals xs its∧xs.length=its.length∧s.heap.get? l=some {cls:= .type "list",data:= .seq its.toArray n}:=by
 obtain⟨z,its,n,r,e⟩:=I.hok l _ hH
 exact⟨z,its,n,r,r.length,e⟩
theorem a5z {n:Nat}(h:n≤sizeLine):Builtin.List.listTooLong n=false:=by
 unfold Builtin.List.listTooLong
 exact decide_eq_false (by omega)
end
section
variable {X:Cx}
def a7F:V→List V→Hp→VK→Prop:=fun x vs H Q=>∃l xs y,x= .ref l∧vs=[y]∧H l=some (.lst xs)∧xs.length<sizeLine∧Q .non (upd H l (.lst (xs++[y])))
theorem a7U:MtM X "list.append" a7F:=by
 intro pins s σ H x vs v us Q I rx rv h
 obtain⟨l,xs,y,rfl,rfl,hH,hz,q⟩:=h
 cases rx
 obtain⟨u,rfl,ru⟩:=rv.one
 obtain⟨z,its,n,r,hl,e⟩:=I.lstM hH
 refine call_meets F.slot_list_append ⟨_,e,rfl⟩ F.entry_list_append (F.args_list_append_2 _ _) (PySem.list_append l its.toArray n u (by rw[List.size_toArray];omega)) ⟨e,?_⟩
 refine⟨.non,_,I.lset (its':=its++[u]) hH e (by simp) (r.append (.cons ru .nil)) ?_,rfl,q⟩
 rw[List.length_append,List.length_singleton]
 omega
def b5n:R2:=fun x y H Q=>∃l b xs zs,x= .ref l∧y= .ref b∧H l=some (.lst xs)∧H b=some (.lst zs)∧xs.length+zs.length≤sizeLine∧∀p,H p=none→Q (.ref p) (upd H p (.lst (xs++zs)))
theorem op_cat:OpR X (binaryOp .Add) b5n:=by
 intro pins s σ H x y v u Q I rx ry h
 obtain⟨l,b,xs,zs,rfl,rfl,hH,hB,hz,q⟩:=h
 cases rx
 cases ry
 obtain⟨z,its,n,r,hl,e⟩:=I.lstM hH
 obtain⟨z2,its2,n2,r2,hl2,e2⟩:=I.lstM hB
 refine PySem.P.add_list e e2 ?_ (by rw[List.size_toArray,List.size_toArray];omega)
 have ea:its.toArray++its2.toArray=(its++its2).toArray:=by simp
 rw[ea]
 exact⟨.ref _,_,I.lnew (t':=s.toks) (r.append r2) (by rw[List.length_append];omega),rfl,q _ I.fresh⟩
end
section
variable {prog:Program} {w:World} {A:Around} {E:Value→Shared→Prop} {s:Shared}
theorem a6V {a c n:Nat}(hac:a≤c)(hc:c≤n):sliceBounds (some (a:Int)) (some (c:Int)) none n=((a:Int),(c:Int),1):=by
 simp only[sliceBounds,Option.getD_none]
 have h1:¬((a:Int)<0):=by omega
 have h2:¬((c:Int)<0):=by omega
 simp only[h1,h2,if_false,show(1:Int)>0 by decide,if_true]
 congr 1
 ·omega
 ·congr 1;omega
set_option maxRecDepth 100000 in
theorem b1i {l b sl : Addr} {items new : Array Value} {n n2 : Nat} {vl vu : Value} {a c : Nat} {Q : Unit → Shared → Prop}
    (e : s.heap.get? l = some { cls := .type "list", data := .seq items n }) (e2 : s.heap.get? b = some { cls := .type "list", data := .seq new n2 }) (hne : l ≠ b)
    (hs : s.heap.IsSliceOf sl vl vu .none) (pl : IsPart vl (some (a : Int))) (pu : IsPart vu (some (c : Int))) (hac : a ≤ c) (hc : c ≤ items.size)
    (hsz : items.size + new.size ≤ sizeLine) (h : Q () { s with heap := s.heap.update l (Obj.mapSeq fun xs => xs.extract 0 a ++ new ++ xs.extract c xs.size) }) :
    wpAny (model prog w) A (setItem (.ref l) (.ref sl) (.ref b)) Q E s := by
  have hl : s.heap.IsList l items := PySem.IsL.isList e
  have hb : s.heap.IsList b new := PySem.IsL.isList e2
  obtain ⟨os, hos, hcs, hds⟩ := id hs
  have hTs : s.TypeIs (.ref sl) "slice" := ⟨os, hos, hcs⟩
  have hstep : ¬ ((rawPart none == rawInt 0) = true) := Bool.false_ne_true
  have hsame : Builtin.List.listSameRef (.ref l) (.ref b) = false := by
    unfold Builtin.List.listSameRef
    exact beq_eq_false_iff_ne.mpr hne
  have hmax : (max (a : Int) (c : Int)).toNat = c := by omega
  have hz' : ((fun xs : Array Value => xs.extract 0 a ++ new ++ xs.extract c xs.size) items).size ≤ sizeLine + 1 := by
    simp only [Array.size_append, Array.size_extract]
    omega
  unfold setItem
  try with_reducible refine wpAny_holding ?_
  first | refine wpAny_bind (wpAny_pure ?_) | skip
  refine wpAny_bind (wpAny_sequenceKey hl.typeIs (by decide) ?_)
  refine wpAny_bind (wpAny_callSpecial?_slot (name := Str.ofString "__setitem__") hl.typeIs slot_list_setitem
    (wpAny_call_entry slot_list_setitem hl.typeIs entry_list_setitem ?_ (args_list_setitem _ _ _)))
  show wpAny _ _ (Builtin.List.listSubscript? (.ref sl) >>= _) _ _ s
  refine wpAny_bind ?_
  unfold Builtin.List.listSubscript?
  refine wpAny_bind (wpAny_specialOf hTs slice_no_index ?_)
  simp only [Option.isNone_none, if_true]
  refine wpAny_pure ?_
  show wpAny _ _ (typeOf (.ref sl) >>= _) _ _ s
  refine wpAny_bind (wpAny_typeOf hTs ?_)
  first
    | rw [if_neg (by decide)]
    | refine PySem.W.KFB.if_not (by decide) ?_
  rw [listSliceParts_eq]
  refine wpAny_bind (wpAny_bind (wpAny_field hos hds (x := .none) rfl (wpAny_bind (wpAny_listPart .none ?_))))
  rw [if_neg hstep]
  refine wpAny_bind (wpAny_field hos hds (x := vl) rfl (wpAny_bind (wpAny_listPart pl ?_)))
  refine wpAny_bind (wpAny_field hos hds (x := vu) rfl (wpAny_bind (wpAny_listPart pu (wpAny_pure ?_))))
  first
    | simp only [hsame, Bool.false_eq_true, if_false]
    | refine PySem.W.KFB.if_not hsame ?_
    | (dsimp only
       rw [if_neg (by rw [hsame]; exact Bool.false_ne_true)])
  refine wpAny_bind (m := Builtin.List.listAllItems (.ref b) "must assign iterable to extended slice") ?_
  unfold Builtin.List.listAllItems
  refine wpAny_bind (wpAny_typeOf hb.typeIs ?_)
  first
    | refine PySem.W.KFB.if_so (by decide) ?_
    | rw [if_pos (by decide)]
    | simp only [beq_self_eq_true, Bool.true_or, if_true]
  unfold Builtin.List.listItems
  refine wpAny_bind (wpAny_seqItems e2 rfl (wpAny_pure ?_))
  refine wpAny_bind (wpAny_bind (wpAny_seqItems e rfl (wpAny_pure ?_)))
  refine wpAny_bind (wpAny_of_eq ((sliceIndices_raw (some (a : Int)) (some (c : Int)) none items.size (by simp)).trans (congrArg (pure : Int × Int × Int → Sem (Int × Int × Int)) (a6V hac hc))) ?_)
  show wpAny _ _ (if ((1 : Int) == 1) = true then _ else _) _ _ s
  rw [if_pos (by decide)]
  refine wpAny_bind (wpAny_rule ?_)
  first
    | simp only [a5z hsz, Bool.false_eq_true, if_false]
    | refine PySem.W.KFB.if_not (a5z hsz) ?_
  first | refine wpAny_bind (wpAny_pure ?_) | skip
  show wpAny _ _ (updateSeq l (fun xs => xs.extract 0 ((a : Int)).toNat ++ new ++ xs.extract (max (a : Int) (c : Int)).toNat xs.size) >>= _) _ _ s
  rw [hmax, Int.toNat_natCast]
  refine wpAny_bind (wpAny_updateSeq (hz := Nat.le_trans (Nat.le_add_right _ _) hsz) (_hz' := hz') e rfl ?_)
  refine wpAny_bind (wpAny_letGo ?_)
  first
    | exact wpAny_bind (wpAny_pure (wpAny_pure ⟨.none, rfl, wpAny_pure h⟩))
    | exact wpAny_pure ⟨.none, rfl, wpAny_pure h⟩
end
section
variable {X:Cx}
end
end L2
namespace L2
open PySem PySem.Spec PyProof.Rows
section
variable {κ:Type} [DecidableEq κ]
def q8 (kvs:List (κ×V))(k:κ):Option V:=(kvs.find? fun kv=>decide (kv.1=k)).map (·.2)
def z6 (kvs:List (κ×V))(k:κ)(v:V):List (κ×V):=
 if(kvs.any fun kv=>decide (kv.1=k))=true then kvs.map (fun kv=>if kv.1=k then(kv.1,v) else kv) else kvs++[(k,v)]
def b2w (kvs:List (κ×V))(k:κ):List (κ×V):=kvs.filter fun kv=>decide (kv.1≠k)
theorem B0 {p:κ×V}{r:List (κ×V)}{k:κ}(e:p.1=k):q8 (p::r) k=some p.2:=by simp [q8,List.find?_cons,e]
theorem A9 {p:κ×V}{r:List (κ×V)}{k:κ}(e:¬p.1=k):q8 (p::r) k=q8 r k:=by simp [q8,List.find?_cons,e]
theorem J1 (k:κ):∀kvs:List (κ×V),(kvs.any fun kv=>decide (kv.1=k))=(q8 kvs k).isSome
 |[]=>rfl
 |p::r=>by
  rw[List.any_cons]
  by_cases e:p.1=k
  ·simp only[B0 e,decide_eq_true e,Bool.true_or,Option.isSome_some]
  ·rw[A9 e,decide_eq_false e,Bool.false_or];exact J1 k r
theorem a5v (k j:κ)(y:V):∀kvs:List (κ×V),q8 (kvs.map fun kv=>if kv.1=k then(kv.1,y) else kv) j=(q8 kvs j).map fun x=>if j=k then y else x
 |[]=>rfl
 |p::r=>by
  have ih:=a5v k j y r
  rw[List.map_cons]
  by_cases h:p.1=k
  ·rw[if_pos h]
   by_cases e:p.1=j
   ·rw[B0 (p:=(p.1,y)) e,B0 e,Option.map_some,if_pos (e.symm.trans h)]
   ·rw[A9 (p:=(p.1,y)) e,A9 e,ih]
  ·rw[if_neg h]
   by_cases e:p.1=j
   ·rw[B0 (p:=p) e,B0 e,Option.map_some,if_neg (fun z=>h (e.trans z))]
   ·rw[A9 (p:=p) e,A9 e,ih]
theorem a4i (k j:κ)(y:V):∀kvs:List (κ×V),q8 kvs k=none→q8 (kvs++[(k,y)]) j=if j=k then some y else q8 kvs j
 |[],_=>by
  by_cases e:k=j
  ·rw[if_pos e.symm];exact B0 (p:=(k,y)) e
  ·rw[if_neg (fun z=>e z.symm)];exact A9 (p:=(k,y)) e
 |p::r,hn=>by
  rw[List.cons_append]
  have hk:¬p.1=k:=fun z=>by rw[B0 z] at hn;cases hn
  rw[A9 hk] at hn
  have ih:=a4i k j y r hn
  by_cases e:p.1=j
  ·rw[B0 e,B0 e,if_neg (fun z=>hk (e.trans z))]
  ·rw[A9 e,A9 e,ih]
theorem a5M (kvs:List (κ×V))(k j:κ)(y:V):q8 (z6 kvs k y) j=if j=k then some y else q8 kvs j:=by
 unfold z6
 by_cases a:(kvs.any fun kv=>decide (kv.1=k))=true
 ·rw[if_pos a,a5v]
  rw[J1] at a
  by_cases e:j=k
  ·obtain⟨x,hx⟩:=Option.isSome_iff_exists.mp a
   rw[if_pos e,e,hx,Option.map_some,if_pos rfl]
  ·rw[if_neg e]
   cases q8 kvs j with
   |none=>rfl
   |some x=>rw[Option.map_some,if_neg e]
 ·rw[if_neg a]
  refine a4i k j y kvs ?_
  rw[J1] at a
  cases q:q8 kvs k with
  |none=>rfl
  |some x=>rw[q] at a;exact(a rfl).elim
theorem V0 (kvs:List (κ×V))(k:κ)(v:V):(z6 kvs k v).length≤kvs.length+1:=by
 unfold z6
 split
 ·rw[List.length_map];omega
 ·rw[List.length_append,List.length_cons,List.length_nil];omega
theorem O7 {kvs:List (κ×V)}{k:κ}(v:V)(h:q8 kvs k=none):z6 kvs k v=kvs++[(k,v)]:=by
 unfold z6
 rw[J1,h]
 exact if_neg (by decide)
theorem RelO.isSome_eq {o:Option V}{u:Option Value}(r:RelO o u):o.isSome=u.isSome:=by
 cases o with
 |none=>cases u with
  |none=>rfl
  |some _=>exact(show False from r).elim
 |some _=>cases u with
  |none=>exact(show False from r).elim
  |some _=>rfl
theorem RelO.getD {o:Option V}{u:Option Value}{d:V}{d':Value}(r:RelO o u)(rd:RelV d d'):RelV (o.getD d) (u.getD d'):=by
 cases o with
 |none=>cases u with
  |none=>exact rd
  |some _=>exact(show False from r).elim
 |some _=>cases u with
  |none=>exact(show False from r).elim
  |some _=>exact r
theorem KV.val {kvs:List (κ×V)}{vs:List (κ×Value)}(r:KV kvs vs)(k:κ):RelO (q8 kvs k) (valueAt vs k):=by
 unfold KV at r
 induction r with
 |nil=>exact True.intro
 | @cons p q ps qs h t ih=>
  obtain⟨h1,h2⟩:=h
  by_cases e:p.1=k
  ·have e':q.1=k:=h1.symm.trans e
   have b:valueAt (q::qs) k=some q.2:=by simp [valueAt,List.find?_cons,e']
   rw[B0 e,b];exact h2
  ·have e':¬q.1=k:=fun z=>e (h1.trans z)
   have b:valueAt (q::qs) k=valueAt qs k:=by simp [valueAt,List.find?_cons,e']
   rw[A9 e,b];exact ih
theorem KV.any {kvs:List (κ×V)}{vs:List (κ×Value)}(r:KV kvs vs)(k:κ):(kvs.any fun kv=>decide (kv.1=k))=vs.any fun kv=>decide (kv.1=k):=by
 unfold KV at r
 induction r with
 |nil=>rfl
 |cons h t ih=>rw[List.any_cons,List.any_cons,ih,h.1]
theorem KV.repl {kvs:List (κ×V)}{vs:List (κ×Value)}(r:KV kvs vs)(k:κ){y:V}{u:Value}(ry:RelV y u):
  KV (kvs.map fun kv=>if kv.1=k then(kv.1,y) else kv) (vs.map fun kv=>if kv.1=k then(kv.1,u) else kv):=by
 unfold KV at r⊢
 induction r with
 |nil=>exact .nil
 | @cons p q ps qs h t ih=>
  rw[List.map_cons,List.map_cons]
  refine .cons ?_ ih
  obtain⟨h1,h2⟩:=h
  by_cases e:p.1=k
  ·rw[if_pos e,if_pos (h1.symm.trans e)];exact⟨h1,ry⟩
  ·rw[if_neg e,if_neg (fun z=>e (h1.trans z))];exact⟨h1,h2⟩
theorem KV.put {kvs:List (κ×V)}{vs:List (κ×Value)}(r:KV kvs vs)(k:κ){y:V}{u:Value}(ry:RelV y u):KV (z6 kvs k y) (stored vs k u):=by
 unfold z6 stored
 rw[r.any k]
 by_cases e:(vs.any fun kv=>decide (kv.1=k))=true
 ·rw[if_pos e,if_pos e];exact r.repl k ry
 ·rw[if_neg e,if_neg e];exact Paired.snoc r ⟨rfl,ry⟩
theorem KV.drop {kvs:List (κ×V)}{vs:List (κ×Value)}(r:KV kvs vs)(k:κ):KV (b2w kvs k) (without vs k):=by
 unfold KV at r⊢
 unfold b2w without
 induction r with
 |nil=>exact .nil
 | @cons p q ps qs h t ih=>
  obtain⟨h1,h2⟩:=h
  rw[List.filter_cons,List.filter_cons]
  by_cases e:p.1=k
  ·have a:¬decide (p.1≠k)=true:=by simp [e]
   have b:¬decide (q.1≠k)=true:=by simp [h1.symm.trans e]
   rw[if_neg a,if_neg b];exact ih
  ·have e':¬q.1=k:=fun z=>e (h1.trans z)
   have a:decide (p.1≠k)=true:=by simp [e]
   have b:decide (q.1≠k)=true:=by simp [e']
   rw[if_pos a,if_pos b];exact .cons ⟨h1,h2⟩ ih
theorem KV.keys {kvs:List (κ×V)}{vs:List (κ×Value)}(r:KV kvs vs):kvs.map (·.1)=vs.map (·.1):=by
 unfold KV at r
 induction r with
 |nil=>rfl
 |cons h t ih=>rw[List.map_cons,List.map_cons,ih,h.1]
theorem KV.length {kvs:List (κ×V)}{vs:List (κ×Value)}(r:KV kvs vs):kvs.length=vs.length:=Paired.length r
end
theorem a3t {P:Program}{w:World}{k:Key}{u:Value}(r:RelV (kV k) u):(j8 P w).is k u=true:=by
 cases k with
 |inl i=>obtain⟨t,e⟩:=(show ∃t,u=Value.int i t from r);subst e;exact a5A P w i t
 |inr x=>obtain⟨t,e⟩:=(show ∃t,u=Value.str x t from r);subst e;exact a5N P w x t
theorem a4n {P:Program}{w:World}:∀{ks:List Key} {us:List Value},Vals (ks.map kV) us→ItemsAre (j8 P w) ks us
 |[],_,r=>by rw[List.map_nil] at r;cases r;exact .nil
 |k::ks,_,r=>by
  rw[List.map_cons] at r
  cases r with
  |cons h t=>exact .cons (a3t h) (a4n t)
abbrev KT (H:Hp):List (List Key×V)→List (List Key×Addr×Value)→Prop:=Paired fun p q=>p.1=q.1∧H q.2.1=some (.tup (p.1.map kV))∧RelV p.2 q.2.2
theorem KT.val {H:Hp}{kvs:List (List Key×V)}{xs:List (List Key×Addr×Value)}(r:KT H kvs xs)(k:List Key):RelO (q8 kvs k) ((atKey xs k).map (·.2)):=by
 induction r with
 |nil=>exact True.intro
 | @cons p q ps qs h t ih=>
  obtain⟨h1,_,h2⟩:=h
  by_cases e:p.1=k
  ·have e':q.1=k:=h1.symm.trans e
   have b:atKey (q::qs) k=some q.2:=by simp [atKey,List.find?_cons,e']
   rw[B0 e,b];exact h2
  ·have e':¬q.1=k:=fun z=>e (h1.trans z)
   have b:atKey (q::qs) k=atKey qs k:=by simp [atKey,List.find?_cons,e']
   rw[A9 e,b];exact ih
theorem KT.repl {H:Hp}{kvs:List (List Key×V)}{xs:List (List Key×Addr×Value)}(r:KT H kvs xs)(k:List Key){y:V}{u:Value}(ry:RelV y u):
  KT H (kvs.map fun kv=>if kv.1=k then(kv.1,y) else kv) (xs.map (putAt k u)):=by
 induction r with
 |nil=>exact .nil
 | @cons p q ps qs h t ih=>
  rw[List.map_cons,List.map_cons]
  refine .cons ?_ ih
  obtain⟨h1,h2,h3⟩:=h
  unfold putAt
  by_cases e:p.1=k
  ·rw[if_pos e,if_pos (h1.symm.trans e)];exact⟨h1,h2,ry⟩
  ·rw[if_neg e,if_neg (fun z=>e (h1.trans z))];exact⟨h1,h2,h3⟩
theorem KT.put {H:Hp}{kvs:List (List Key×V)}{xs:List (List Key×Addr×Value)}(r:KT H kvs xs)(k:List Key){b:Addr}{y:V}{u:Value}(hb:H b=some (.tup (k.map kV)))(ry:RelV y u):
  KT H (z6 kvs k y) (storedH xs k b u):=by
 have e:(kvs.any fun kv=>decide (kv.1=k))=(atKey xs k).isSome:=by
  rw[J1,(r.val k).isSome_eq,Option.isSome_map]
 unfold z6 storedH
 rw[e]
 by_cases q:(atKey xs k).isSome=true
 ·rw[if_pos q,if_pos q];exact r.repl k ry
 ·rw[if_neg q,if_neg q];exact Paired.snoc r ⟨rfl,hb,ry⟩
theorem KT.keeps {H H':Hp}{kvs:List (List Key×V)}{xs:List (List Key×Addr×Value)}(r:KT H kvs xs)(ht:∀b ys,H b=some (.tup ys)→H' b=some (.tup ys)):KT H' kvs xs:=
 Paired.mapP r fun _ _ z=>⟨z.1,ht _ _ z.2.1,z.2.2⟩
section
variable {P:Program} {w:World} {H:Hp} {h:Heap} {a:Addr}
theorem b2x {u:HO}(ok:HOk P w H h)(e:Rd H a u):ObjOk P w H h a u:=e.ok ok
theorem J0 {kvs:List (Key×V)}(ok:HOk P w H h)(e:Rd H a (.dK kvs)):kvs.length≤sizeLine∧(a==sysModules)=false∧∃vs,KV kvs vs∧h.DictOf (j8 P w) a vs:=
 show ObjOk P w H h a (.dK kvs) from b2x ok e
theorem a7J {kvs:List (Key×V)}(ok:HOk P w H h)(e:H a=some (.dK kvs)):kvs.length≤sizeLine∧(a==sysModules)=false∧∃vs,KV kvs vs∧h.DictOf (j8 P w) a vs:=J0 ok (.inl e)
theorem a1Z {ks:List Key}(ok:HOk P w H h)(e:H a=some (.tup (ks.map kV))):(tupleKind (j8 P w)).is h ks a:=by
 obtain⟨_,its,r,o,h1,h2,n,h3⟩:=(show ObjOk P w H h a (.tup (ks.map kV)) from ok a _ e)
 exact⟨o,its.toArray,n,h1,h2,h3,by simpa using a4n r⟩
theorem a2V {kvs:List (List Key×V)}(ok:HOk P w H h)(e:Rd H a (.dT kvs)):kvs.length≤sizeLine∧(a==sysModules)=false∧
  ∃xs,KT H kvs xs∧h.DictOfH (tupleKind (j8 P w)) a xs:=by
 obtain⟨z,y,xs,r,o,es,ep,h1,h2,h3,h4,h5⟩:=(show ObjOk P w H h a (.dT kvs) from b2x ok e)
 refine⟨z,y,xs,r,o,es,ep,h1,h2,h3,h4,fun x hx=>?_,h5⟩
 have all:∀{l:List (List Key×V)} {m:List (List Key×Addr×Value)},KT H l m→∀x∈m,(tupleKind (j8 P w)).is h x.1 x.2.1:=by
  intro l m q
  induction q with
  |nil=>intro x hx;exact nomatch hx
  | @cons p q ps qs hq t ih=>
   intro x hx
   rcases List.mem_cons.mp hx with e|hx
   ·subst e
    exact a1Z ok (by rw[←hq.1];exact hq.2.1)
   ·exact ih x hx
 exact all r x hx
theorem b5Z {kvs:List (List Key×V)}(ok:HOk P w H h)(e:H a=some (.dT kvs)):kvs.length≤sizeLine∧(a==sysModules)=false∧
  ∃xs,KT H kvs xs∧h.DictOfH (tupleKind (j8 P w)) a xs:=a2V ok (.inl e)
end
def DGet (H:Hp)(a:Addr)(y:V)(r:Option V):Prop:=
 (∃kvs k,Rd H a (.dK kvs)∧y=kV k∧r=q8 kvs k)∨∃kvs k b,Rd H a (.dT kvs)∧y= .ref b∧H b=some (.tup (k.map kV))∧r=q8 kvs k
def DPut (H:Hp)(a:Addr)(y v:V)(H':Hp):Prop:=
 (∃kvs k,H a=some (.dK kvs)∧y=kV k∧kvs.length<sizeLine∧H'=upd H a (.dK (z6 kvs k v)))∨
 ∃kvs k b,H a=some (.dT kvs)∧y= .ref b∧H b=some (.tup (k.map kV))∧kvs.length<sizeLine∧H'=upd H a (.dT (z6 kvs k v))
theorem DGet.k {H:Hp}{a:Addr}{kvs:List (Key×V)}{k:Key}(e:H a=some (.dK kvs)):DGet H a (kV k) (q8 kvs k):= .inl ⟨kvs,k,.inl e,rfl,rfl⟩
theorem DGet.t {H:Hp}{a b:Addr}{kvs:List (List Key×V)}{k:List Key}(e:H a=some (.dT kvs))(eb:H b=some (.tup (k.map kV))):DGet H a (.ref b) (q8 kvs k):= .inr ⟨kvs,k,b,.inl e,rfl,eb,rfl⟩
theorem DPut.k {H:Hp}{a:Addr}{kvs:List (Key×V)}{k:Key}{v:V}(e:H a=some (.dK kvs))(hl:kvs.length<sizeLine):DPut H a (kV k) v (upd H a (.dK (z6 kvs k v))):= .inl ⟨kvs,k,e,rfl,hl,rfl⟩
theorem DPut.t {H:Hp}{a b:Addr}{kvs:List (List Key×V)}{k:List Key}{v:V}(e:H a=some (.dT kvs))(eb:H b=some (.tup (k.map kV)))(hl:kvs.length<sizeLine):
  DPut H a (.ref b) v (upd H a (.dT (z6 kvs k v))):= .inr ⟨kvs,k,b,e,rfl,eb,hl,rfl⟩
section
variable {X:Cx} {pins:List (Addr×Obj)} {σ:St} {H:Hp} {s:Shared} {a:Addr} {y v:V} {u r:Value} {o:Option V} {A:Around} {E:Value→Shared→Prop}
theorem Inv.big (I:Inv X pins σ H s):sysModules<s.heap.objs.size:=by
 have h:mainGlobals<s.heap.objs.size:=(I.mod.glob.keeps I.bk).lt
 exact Nat.lt_trans (by decide) h
theorem a8K {Q:Value→Shared→Prop}(hu:A.units+1<cLine)(I:Inv X pins σ H s)(g:DGet H a y (some v))(ry:RelV y u)(h:∀w' s',Inv X pins σ H s'→RelV v w'→Q w' s'):
  wpAny (model X.prog X.w) A (getItem (.ref a) u) Q E s:=by
 rcases g with⟨kvs,k,e,ey,l⟩|⟨kvs,k,b,e,ey,eb,l⟩
 ·subst ey
  obtain⟨z,hd,vs,rel,dd⟩:=J0 I.hok e
  obtain⟨w',hw,rw'⟩:=RelO.some_of (v:=v) (o:=valueAt vs k) (by rw[l];exact rel.val k)
  exact wpAny_getItem_of (a3t ry) dd.mapOf hw (h w' _ (I.tok _) rw')
 ·subst ey
  cases (show u=Value.ref b from ry)
  obtain⟨z,hd,xs,rel,dd⟩:=a2V I.hok e
  obtain⟨w',hw,rw'⟩:=RelO.some_of (v:=v) (o:=(atKey xs k).map (·.2)) (by rw[l];exact rel.val k)
  obtain⟨p,hp,hp2⟩:=Option.map_eq_some_iff.mp hw
  refine wpAny_getItem_heap (tupleKind_room_in1 hu) (a1Z I.hok eb) dd hp ?_
  rw[hp2]
  exact h w' _ (I.tok _) rw'
theorem b6p {Q:Value→Shared→Prop}(hu:A.units+1<cLine)(I:Inv X pins σ H s)(g:DGet H a y o)(ry:RelV y u)(h:∀s',Inv X pins σ H s'→Q (.bool o.isSome) s'):
  wpAny (model X.prog X.w) A (compareOp .In u (.ref a)) Q E s:=by
 rcases g with⟨kvs,k,e,ey,l⟩|⟨kvs,k,b,e,ey,eb,l⟩
 ·subst ey
  obtain⟨z,hd,vs,rel,dd⟩:=J0 I.hok e
  refine wpAny_in_of (a3t ry) hd dd.mapOf ?_
  rw[←(rel.val k).isSome_eq,←l]
  exact h _ (I.tok _)
 ·subst ey
  cases (show u=Value.ref b from ry)
  obtain⟨z,hd,xs,rel,dd⟩:=a2V I.hok e
  refine wpAny_in_heap (tupleKind_room_in1 hu) (a1Z I.hok eb) hd dd ?_
  have q:=(rel.val k).isSome_eq
  rw[Option.isSome_map] at q
  rw[←q,←l]
  exact h _ (I.tok _)
theorem b1Z {Q:Value→Shared→Prop}(hu:A.units+1<cLine)(I:Inv X pins σ H s)(g:DGet H a y o)(ry:RelV y u)(h:∀s',Inv X pins σ H s'→Q (.bool (!o.isSome)) s'):
  wpAny (model X.prog X.w) A (compareOp .NotIn u (.ref a)) Q E s:=by
 rcases g with⟨kvs,k,e,ey,l⟩|⟨kvs,k,b,e,ey,eb,l⟩
 ·subst ey
  obtain⟨z,hd,vs,rel,dd⟩:=J0 I.hok e
  refine wpAny_notIn_of (a3t ry) hd dd.mapOf ?_
  rw[←(rel.val k).isSome_eq,←l]
  exact h _ (I.tok _)
 ·subst ey
  cases (show u=Value.ref b from ry)
  obtain⟨z,hd,xs,rel,dd⟩:=a2V I.hok e
  refine wpAny_notIn_heap (tupleKind_room_in1 hu) (a1Z I.hok eb) hd dd ?_
  have q:=(rel.val k).isSome_eq
  rw[Option.isSome_map] at q
  rw[←q,←l]
  exact h _ (I.tok _)
theorem a1N {h':Heap}{t':Nat}{ob:HO}(I:Inv X pins σ H s)(mu:Mut (H a))(hs:Heap.SameBut a s.heap h')(he:∃q,h'.get? a=some q)(new:ObjOk X.prog X.w (upd H a ob) h' a ob):
  Inv X pins σ (upd H a ob) {s with heap:=h',toks:=t'}:=
 I.write (x:=a) (e:=a) mu (.inl rfl) (fun b q hb z=>(hs.2 b hb).trans z) he new
theorem a3C {P:Program}{w:World}{H':Hp}{h':Heap}{kvs:List (Key×V)}{vs:List (Key×Value)}(z:kvs.length≤sizeLine)(hd:(a==sysModules)=false)(rel:KV kvs vs)(dd:h'.DictOf (j8 P w) a vs):
  ObjOk P w H' h' a (.dK kvs):=⟨z,hd,vs,rel,dd⟩
theorem a8q {H':Hp}{Q:Unit→Shared→Prop}(hu:A.units+1<cLine)(I:Inv X pins σ H s)(g:DPut H a y v H')(ry:RelV y u)(rv:RelV v r)(h:∀s',Inv X pins σ H' s'→Q () s'):
  wpAny (model X.prog X.w) A (setItem (.ref a) u r) Q E s:=by
 rcases g with⟨kvs,k,e,ey,l,eH⟩|⟨kvs,k,b,e,ey,eb,l,eH⟩
 ·subst ey eH
  obtain⟨z,hd,vs,rel,dd⟩:=a7J I.hok e
  have hz:vs.length≤sizeLine:=by rw[←rel.length];exact z
  have hl:(z6 kvs k v).length≤sizeLine:=by have:=V0 kvs k v;omega
  refine wpAny_setItem_pairs (hsz:=hz) (a3t ry) dd fun h' dd' hs=>h _ ?_
  have he:∃q,h'.get? a=some q:=let ⟨q,_,_,hq,_⟩:=dd';⟨q,hq⟩
  exact a1N I (by rw[e];exact True.intro) hs he (a3C hl hd (rel.put k rv) dd')
 ·subst ey eH
  cases (show u=Value.ref b from ry)
  obtain⟨z,hd,xs,rel,dd⟩:=b5Z I.hok e
  have hz:xs.length≤sizeLine:=by rw[←Paired.length rel];exact z
  have hl:(z6 kvs k v).length≤sizeLine:=by have:=V0 kvs k v;omega
  refine wpAny_setItem_heap (hsz:=hz) (tupleKind_room_in1 hu) (a1Z I.hok eb) dd fun h' dd' hs=>h _ ?_
  obtain⟨q,es,ep,hq,h2,h3,h4,_,h5⟩:=dd'
  refine a1N I (by rw[e];exact True.intro) hs ⟨q,hq⟩ ⟨hl,hd,_,(rel.put k eb rv).keeps fun c ys ec=>?_,q,es,ep,hq,h2,h3,h4,h5⟩
  rw[d0 (b5E ec e (fun z=>nomatch z))]
  exact ec
end
section
variable {X:Cx} {pins:List (Addr×Obj)} {σ:St} {H:Hp} {s:Shared} {a:Addr} {kvs:List (Key×V)} {k:Key} {u:Value} {A:Around} {E:Value→Shared→Prop}
theorem b1q {Q:Value→Shared→Prop}(I:Inv X pins σ H s)(e:H a=some (.dK kvs))(h:∀s',Inv X pins σ (upd H a (.dK [])) s'→Q .none s'):wpAny (model X.prog X.w) A (call (.builtin "dict.clear") [.ref a]) Q E s:=by
 obtain⟨z,hd,vs,rel,dd⟩:=a7J I.hok e
 refine call_meetsIn PySem.F.slot_dict_clear dd.typeIs PySem.F.entry_dict_clear (PySem.F.args_dict_clear_1 _) (meets_dict_clear (j8 X.prog X.w) a) ⟨vs,dd,by rw[←rel.length];exact z,fun h' dd' hs=>h _ ?_⟩
 have he:∃q,h'.get? a=some q:=let ⟨q,_,_,hq,_⟩:=dd';⟨q,hq⟩
 exact a1N (t':=s.toks) I (by rw[e];exact True.intro) hs he (a3C (Nat.zero_le _) hd .nil dd')
theorem b5F {Q:Value→Shared→Prop}(I:Inv X pins σ H s)(e:Rd H a (.dK kvs))(h:∀t s',Inv X pins σ H s'→Q (.int kvs.length t) s'):wpAny (model X.prog X.w) A (call (.builtin "len") [.ref a]) Q E s:=by
 obtain⟨z,hd,vs,rel,dd⟩:=J0 I.hok e
 refine call_len_dict hd dd (by rw[←rel.length];rw[sizeLine_eq] at z;omega) ?_
 rw[←rel.length]
 exact h _ _ (I.tok _)
end
theorem a5F {X:Cx}{pins:List (Addr×Obj)}{σ:St}{H:Hp}{s:Shared}{a:Addr}{y:V}{o:Option V}(I:Inv X pins σ H s)(g:DGet H a y o):s.TypeIs (.ref a) "dict":=by
 rcases g with⟨kvs,k,e,_,_⟩|⟨kvs,k,b,e,_,_,_⟩
 ·obtain⟨_,_,vs,_,dd⟩:=J0 I.hok e
  exact dd.typeIs
 ·obtain⟨_,_,xs,_,dd⟩:=a2V I.hok e
  exact dd.typeIs
section
variable {X:Cx} {o i e value:Expr} {pos pos' tpos:Pos} {td ty tv:TE}
end
theorem a9Q {P:Program}{w:World}{H:Hp}(h:Heap)(hb:sysModules<h.objs.size):ObjOk P w H (h.push {cls:= .type "dict",data:= .dict #[]}) h.objs.size (.dK []):=
 ⟨Nat.zero_le _,beq_eq_false_iff_ne.mpr (Ne.symm (Nat.ne_of_lt hb)),[],.nil,Heap.DictOf.new h⟩
def b0R:TE:=fun _ H Q=>∀p,H p=none→Q (.ref p) (upd H p (.dK []))
section
variable {X:Cx} {pos:Pos}
theorem a9m:PE X (.Dict [] [] pos) b0R:=fun pins s σ H Q I h=>
 wpAny_Dict_empty ⟨.ref s.heap.objs.size,_,I.laid (a:=s.heap.objs.size) (o:= .dK []) (t':=s.toks) (fun _ _ q=>Heap.get?_push_of_some _ q) (Nat.le_refl _) (a9Q s.heap I.big),rfl,h _ (I.hok.fresh (Nat.le_refl _))⟩
end
def a9f:List (TE×TE)→St→Hp→(List (V×V)→Hp→Prop)→Prop
 |[],_,H,Q=>Q [] H
 |(tk,tv)::r,σ,H,Q=>tk σ H fun x H1=>tv σ H1 fun y H2=>a9f r σ H2 fun ps H3=>Q ((x,y)::ps) H3
abbrev VV:List (V×V)→List (Value×Value)→Prop:=Paired fun p q=>RelV p.1 q.1∧RelV p.2 q.2
def PPs (X:Cx)(pos:Pos)(keys:List (Option Expr))(values:List Expr)(trs:List (TE×TE)):Prop:=
 ∀(pins:List (Addr×Obj)) (s:Shared) (σ:St) (H:Hp) (Q:List (V×V)→Hp→Prop),Inv X pins σ H s→a9f trs σ H Q→
  wpAny (model X.prog X.w) X.A (evalPairs (pairTrees keys values X.env pos)) (fun vs s'=>∃ps H',Inv X pins σ H' s'∧VV ps vs∧Q ps H') X.xe s
structure M1 (X:Cx) (o:Expr) (m:Str) (apos:Pos) (e:Expr) (cpos:Pos):Prop where
 base:attributeBase o m X.env (eval o X.env)=eval o X.env
 few:((backTo cpos (starEach [e] X.env)).all (fun x=>!x.1)&&(backToKw cpos (keywordEach [] X.env)).all (fun x=>x.1.isSome)
  &&decide (([e]:List Expr).length+([]:List Keyword).length+(if([]:List Keyword).isEmpty then 0 else 1)<30))=true
 line:(apos.endLine==cpos.line)=true
 trees:backTo cpos (starEach [e] X.env)=[(false,eval e X.env)]
structure M2 (X:Cx) (o:Expr) (m:Str) (apos:Pos) (e f:Expr) (cpos:Pos):Prop where
 base:attributeBase o m X.env (eval o X.env)=eval o X.env
 few:((backTo cpos (starEach [e,f] X.env)).all (fun x=>!x.1)&&(backToKw cpos (keywordEach [] X.env)).all (fun x=>x.1.isSome)
  &&decide (([e,f]:List Expr).length+([]:List Keyword).length+(if([]:List Keyword).isEmpty then 0 else 1)<30))=true
 line:(apos.endLine==cpos.line)=true
 trees:backTo cpos (starEach [e,f] X.env)=[(false,eval e X.env),(false,eval f X.env)]
def IsD (H:Hp)(a:Addr):Prop:=(∃kvs,Rd H a (.dK kvs))∨∃kvs,Rd H a (.dT kvs)
theorem b3p {X:Cx}{pins:List (Addr×Obj)}{σ:St}{H:Hp}{s:Shared}{a:Addr}(I:Inv X pins σ H s)(d:IsD H a):
  s.TypeIs (.ref a) "dict"∧(∀b,Value.ref a= .ref b→∃ob,s.heap.get? b=some ob∧ob.dict=none)∧(a==sysModules)=false:=by
 rcases d with⟨kvs,e⟩|⟨kvs,e⟩
 ·obtain⟨_,hd,vs,_,dd⟩:=J0 I.hok e
  refine⟨dd.typeIs,fun b q=>?_,hd⟩
  cases q
  obtain⟨ob,_,_,h1,h2,_⟩:=dd
  exact⟨ob,h1,h2.2.1⟩
 ·obtain⟨_,hd,xs,_,dd⟩:=a2V I.hok e
  refine⟨dd.typeIs,fun b q=>?_,hd⟩
  cases q
  obtain⟨ob,_,_,h1,h2,_⟩:=dd
  exact⟨ob,h1,h2.2.1⟩
section
variable {X:Cx} {pins:List (Addr×Obj)} {σ:St} {H:Hp} {s:Shared} {a:Addr} {y d:V} {u r:Value} {o:Option V} {A:Around} {E:Value→Shared→Prop}
theorem b4a {Q:Value→Shared→Prop}(hu:A.units+1<cLine)(I:Inv X pins σ H s)(g:DGet H a y o)(ry:RelV y u)(h:∀w' s',Inv X pins σ H s'→RelV (o.getD .non) w'→Q w' s'):
  wpAny (model X.prog X.w) A (call (.builtin "dict.get") [.ref a,u]) Q E s:=by
 rcases g with⟨kvs,k,e,ey,l⟩|⟨kvs,k,b,e,ey,eb,l⟩
 ·subst ey
  obtain⟨z,hd,vs,rel,dd⟩:=J0 I.hok e
  refine call_meetsIn PySem.F.slot_dict_get dd.typeIs PySem.F.entry_dict_get (PySem.F.args_dict_get_2 _ _) (meets_dict_get (j8 X.prog X.w) a (a3t ry) hd) ⟨_,dd.mapOf,h _ _ (I.tok _) ?_⟩
  rw[l]
  exact(rel.val k).getD rfl
 ·subst ey
  cases (show u=Value.ref b from ry)
  obtain⟨z,hd,xs,rel,dd⟩:=a2V I.hok e
  refine call_meetsIn PySem.F.slot_dict_get dd.typeIs PySem.F.entry_dict_get (PySem.F.args_dict_get_2 _ _) (meetsH_dict_get (tupleKind (j8 X.prog X.w)) a b hd) ⟨tupleKind_room_in1 hu,k,xs,a1Z I.hok eb,dd,h _ _ (I.tok _) ?_⟩
  rw[l]
  exact(rel.val k).getD rfl
end
def a6D (td ty:TE):TE:=fun σ H Q=>td σ H fun x H1=>∃a,x= .ref a∧IsD H1 a∧ty σ H1 fun y H2=>∃o,DGet H2 a y o∧Q (o.getD .non) H2
section
variable {X:Cx} {o e f:Expr} {apos cpos:Pos} {td ty tx:TE}
theorem a9y (hu:X.A.units+1<cLine)(ho:PE X o td)(he:PE X e ty)(m:M1 X o "get" apos e cpos):PE X (.Call (.Attribute o "get" apos) [e] [] cpos) (a6D td ty):=by
 intro pins s σ H Q I h
 refine wpAny_Call_method m.base m.few m.line PySem.F.plainAttrs_dict PySem.F.slot_dict_get PySem.F.type_dict_get (thn (ho pins s σ H _ I h) fun u s1 ⟨x,H1,I1,rx,a,ex,d,q1⟩=>?_)
 subst ex
 obtain rfl:u=Value.ref a:=rx
 obtain⟨t1,t2,_⟩:=b3p I1 d
 refine⟨t1,t2,?_⟩
 rw[m.trees]
 refine Calls.callWith_builtin rfl (Calls.evalArgs_plain (Calls.spliced_cons (thn (he pins s1 σ H1 _ I1 q1) fun iv s2 ⟨y,H2,I2,ry,ov,g,q2⟩=>Calls.spliced_nil ?_)))
 exact b4a hu I2 g ry fun w' s3 I3 rw'=>⟨_,H2,I3,rw',q2⟩
end
section
variable {X:Cx} {pins:List (Addr×Obj)} {σ:St} {H:Hp} {s:Shared} {a:Addr} {kvs:List (Key×V)} {A:Around} {E:Value→Shared→Prop}
theorem b0g {Q:Value→Shared→Prop}(I:Inv X pins σ H s)(e:Rd H a (.dK kvs))(h:∀p s',H p=none→Inv X pins σ (upd H p (.dK kvs)) s'→Q (.ref p) s'):wpAny (model X.prog X.w) A (call (.type "dict") [.ref a]) Q E s:=by
 obtain⟨z,hd,vs,rel,dd⟩:=J0 I.hok e
 refine kt_call_dict hd dd (by rw[←rel.length];exact z) fun h' dd' hs=>?_
 refine h _ _ (I.hok.fresh (Nat.le_refl _)) (I.laid (a:=s.heap.objs.size) (o:= .dK kvs) (t':=s.toks) (fun b q hq=>?_) (Nat.le_refl _) (a3C z (beq_eq_false_iff_ne.mpr (Ne.symm (Nat.ne_of_lt I.big))) rel dd'))
 exact(hs.2 b (Nat.ne_of_lt (Heap.lt_size hq))).trans (Heap.get?_push_of_some _ hq)
end
section
variable {X:Cx} {pins:List (Addr×Obj)} {σ:St} {H:Hp} {s:Shared} {a:Addr} {y:V} {u:Value} {A:Around} {E:Value→Shared→Prop}
end
end L2
namespace Att
open PySem PySem.W PySem.Calls PyProof.Rows
theorem a2B {P:Params}{h:Heap}:∀(ns:List Int) (vs:List Value),WellAll P h vs (ns.map WData.int)→IntsAre vs ns:=by
 intro ns
 induction ns with
 |nil=>
  intro vs w
  rw[List.map_nil] at w
  cases w
  exact .nil
 |cons n ns ih=>
  intro vs w
  rw[List.map_cons] at w
  cases w with
  |cons a b=>
   cases a
   exact .cons _ _ (ih _ b)
theorem a8g {l:OpenLaw}{n:Nat}(hn:l.most=some n){P:Params}{h:Heap}{args:List WData}{vals:List Value}
  (hpre:l.row.toRowW.claim.pre args=true) (hwl:WellAll P h vals args):
  ∃a vs ns,vals=[Value.ref a]∧args=[WData.list (ns.map WData.int)]∧h.get? a=some {cls:= .type "list",data:= .seq vs.toArray}∧IntsAre vs ns∧ns.length≤n:=by
 have hsh:WShape.hasAll [] args [.list .int]=true:=(pre_splitW hpre).1
 have hc:l.pre.holds [] {args:=args}=true:=(pre_splitW hpre).2
 obtain⟨d,r,rfl,h1,h2⟩:=hasAllW_cons hsh
 obtain rfl:=hasAllW_nil h2
 obtain⟨xs,rfl,h3⟩:=hasW_list h1
 obtain⟨ns,rfl⟩:=items_int h3
 have hlen:ns.length≤n:=by
  unfold OpenLaw.pre at hc
  have h4:(WTm.not (.lt (.lit (.int (n:Int))) (.len (.arg 0)))).holds [] {args:=[.list (ns.map .int)]}=true:=by
   have h4:=(holds_andW hc).1
   rw[hn] at h4
   exact h4
  have h5:=condW_of h4 (w_not (w_lt w_lit (w_len_list (w_arg rfl))))
  rw[List.length_map] at h5
  refine Nat.le_of_not_lt fun q=>?_
  have q':(n:Int)<((ns.length:Nat):Int):=by omega
  first
   |(rw[decide_eq_true q'] at h5;exact absurd h5 (by decide))
   |(simp at h5;omega)
 cases hwl with
 |cons w1 w2=>
  cases w2
  cases w1 with
  |list ho hall=>exact⟨_,_,ns,rfl,rfl,ho,a2B ns _ hall,hlen⟩
theorem a8v (l:OpenLaw)(args:List WData):l.row.toRowW.claim.post args (.bool true) args=true:=
 postW_of (r:=l.row.toRowW) (X:=(true==true))
  (show WShape.has [] (.bool true) .bool=true by first|rfl|decide|simp [WShape.has,WShape.arms,WShape.armsAll])
  (show(WTm.eq .res (.lit (.bool true))).value [] {args:=args,res:=some (.bool true),after:=args}=some (.bool (true==true)) from w_eq_bool (w_res rfl) w_lit) rfl
theorem attach_call {l:OpenLaw}{n:Nat}{q:Program}{loose:List Str}{XP:(Str→Option Value)→Heap→Prop}{YP:World→Heap→Prop}{d:DefRec}
  (hn:l.most=some n) (hdf:d.params.defaults=[])
  (call:∀(w:World) (s₀ s₁:Shared) (mg mb:Str→Option Value) (fa:Addr) (o:Obj) (pm cd doc:Value) (a:Addr) (vs:List Value) (ns:List Int),
   Ground q loose [] XP w s₀ mg mb s₁.heap→YP w s₁.heap→
   s₁.heap.get? fa=some o→o.data= .func (docDef d.name d.params d.body d.scope pm cd doc)→s₁.heap.CodeRec cd d.name→mg d.name=some (.ref fa)→
   s₁.heap.get? a=some {cls:= .type "list",data:= .seq vs.toArray}→IntsAre vs ns→ns.length≤n→s₁.gens= #[]→
   codeAny (model l.prog w) callerA (.call (.ref fa) ⟨[.ref a],[]⟩) (fun r s'=>r= .ok (.ret (.bool true))∧OldK s₁.heap s'.heap∧s'.os=s₁.os∧AllBare s'.gens) s₁):
  WalkO q loose XP YP l.row.toRowW d [] (fun f vs=>PySem.call f vs):=by
 intro w s₀ s₁ mg mb G Y fa o pm cd doc dV kV ho hd hcd hD hmg hg args vals as hpre hlay hrd hwl hlo
 obtain rfl:dV= .none:=Dflts.none hD hdf
 obtain rfl:kV= .none:=Dflts.noKw hD
 obtain⟨a,vs,ns,rfl,rfl,hobj,hints,hlen⟩:=a8g hn hpre hwl
 refine enter_call (codeAny_mono (call w s₀ s₁ mg mb fa o pm cd doc a vs ns G Y ho (fd_plain hd) hcd hmg hobj hints hlen hg) fun r s' hq=>?_)
 obtain⟨rfl,h2,h3,h4⟩:=hq
 exact⟨.inl ⟨.bool true,.bool true,[],rfl,fun _=>rfl,.bool true,a8v l _,fun _=>⟨List.Pairwise.nil,fun _ hm=>(nomatch hm)⟩⟩,h2,h3,h4⟩
section
variable {prog:Program} {w:World} {A:Around} {E:Value→Shared→Prop} {s:Shared} {K:Frag}
end
end Att
namespace L2
open PySem PySem.Spec PyProof.Rows
theorem a3Y:∀{vs:List Value} {ns:List Int},IntsAre vs ns→Vals (ns.map V.int) vs
 |_,_,.nil=> .nil
 |_,_,.cons n t h=> .cons ⟨t,rfl⟩ (a3Y h)
def b4z (H:Hp):Prop:=∀b,H b=none∨∃o xs,H b=some (.frz o (.lst xs))
theorem a9S {P:Program}{w:World}{K:PySem.W.Frag}{mg mb:Str→Option Value}{CX:CXT}{k:Nat}{fa a:Addr}{fd:FuncData}{x:Str}{sp:Sp}{s₁:Shared}{vs:List Value}{ns:List Int}
  (KX:K.In s₁.heap) (hns:s₁.heap.Ns mainGlobals mg) (hb:s₁.heap.Ns builtinsNs mb) (hbb:∀x:Str,x≠"__name__"→mb x=bootBuiltins x) (hlim:s₁.heap.NoLimit) (hg:s₁.gens= #[])
  (ha:s₁.heap.get? a=some {cls:= .type "list",data:= .seq vs.toArray}) (hi:IntsAre vs ns) (hl:ns.length≤sizeLine) (hr:Room k callerA)
  (F:∀base:Heap,K.In base→base.Ns mainGlobals mg→FnOk P w K mg base CX k fa fd [x] sp) (hbind:∀(s:Shared) (u:Value),BindsTo s fd ⟨[u],[]⟩ [(x,u)])
  (hsp:∀H:Hp,b4z H→SqL K H a (ns.map V.int)→sp [.ref a] H (fun v _=>v= .bl true) fun _ _ _=>False)
  (hCX:∀H e s',CX [] H s₁ (fun _ _ _=>False) e s'→False):
  codeAny (model P w) callerA (.call (.ref fa) ⟨[.ref a],[]⟩) (fun r s'=>r= .ok (.ret (.bool true))∧OldK s₁.heap s'.heap∧s'.os=s₁.os∧AllBare s'.gens) s₁:=by
 have rv:=a3Y hi
 have lenV:=hi.length
 have core:∀H:Hp,b4z H→SqL K H a (ns.map V.int)→HOk P w H s₁.heap→(∀b,H b≠none→b=a)→(H a≠none→K.lookup a=none)→
   codeAny (model P w) callerA (.call (.ref fa) ⟨[.ref a],[]⟩) (fun r s'=>r= .ok (.ret (.bool true))∧OldK s₁.heap s'.heap∧s'.os=s₁.os∧AllBare s'.gens) s₁:=by
  intro H hO hS hok hA hK
  have base_of:∀{b:Addr} {o:Obj},s₁.heap.get? b=some o→H b=none→(a4S s₁.heap H).get? b=some o:=fun e n=>a9v e n
  have noA:∀{b:Addr} {o:Obj} {es:Array DictEntry} {ep:Nat},s₁.heap.get? b=some o→o.data= .dict es ep→H b=none:=fun{b o es ep} e d=>by
   cases q:H b with
   |none=>rfl
   |some u=>
    have e':b=a:=hA b (by rw[q];simp)
    subst e'
    rw[ha] at e;cases e
    have d':Data.seq vs.toArray _=Data.dict es ep:=d
    cases d'
  have nsK:∀{b:Addr} {m:Str→Option Value},s₁.heap.Ns b m→(a4S s₁.heap H).Ns b m:=fun{b m} ⟨o,es,ep,e,d,r⟩=>⟨o,es,ep,base_of e (noA e d),d,r⟩
  have hKb:K.In (a4S s₁.heap H):=fun b o e=>base_of (KX b o e) (by
   cases q:H b with
   |none=>rfl
   |some u=>
    have e':b=a:=hA b (by rw[q];simp)
    subst e'
    rw[hK (by rw[q];simp)] at e;cases e)
  have hM:Mod K mg (a4S s₁.heap H):=⟨hKb,nsK hns,⟨mb,nsK hb,hbb⟩,let ⟨mc,h1,h2⟩:=hlim;⟨mc,nsK h1,h2⟩⟩
  have e0:Env0 P w K mg (a4S s₁.heap H) callerA [] s₁ H:=⟨rfl,hM,fun b o e=>b1H e,Nat.le_of_eq (a8d _ _),trivial,fun b hb=>absurd (show b∈([]:List Addr) from hb) (by simp),hok,.of_eq hg⟩
  refine codeAny_mono ((F _ hKb (nsK hns)).run callerA [] s₁ H ⟨[.ref a],[]⟩ [.ref a] [.ref a] _ _ hr e0 (hbind s₁ (.ref a)) (.cons rfl .nil) (hsp H hO hS)) fun r s' h=>?_
  cases r with
  |error e=>exact(hCX H e s' h).elim
  |ok fl=>
   cases fl with
   |next=>exact False.elim h
   |brk=>exact False.elim h
   |cont=>exact False.elim h
   |ret u=>
    obtain⟨v,H',os,bare,un,hok',r',q⟩:=h
    have q':v= .bl true:=q
    subst q'
    obtain rfl:u=Value.bool true:=r'
    refine⟨rfl,OldK.of_keep fun b o e=>?_,os,bare⟩
    cases q:H b with
    |none=>exact un.keep b o e q (by intro z;exact absurd (show b∈([]:List Addr) from z) (by simp)) (by simp)
    |some u=>
     rcases hO b with z|⟨ob,xs,z⟩
     ·rw[q] at z;cases z
     ·have z2:=un.frzs b ob _ z
      obtain⟨e1,_⟩:=hok b _ z
      obtain⟨e2,_⟩:=hok' b _ z2
      rw[e] at e1;cases e1
      exact e2
 cases hk:K.lookup a with
 |some o=>
  have e:=KX a o hk
  rw[ha] at e
  cases e
  refine core (fun _=>none) (fun _=> .inl rfl) (.inr ⟨_,vs.toArray,_,hk,rfl,rfl,rfl,by rw[List.size_toArray,lenV];exact hl,by simpa using rv⟩) (fun b u z=>by have z':(none:Option HO)=some u:=z;cases z') (fun b z=>absurd rfl z) fun z=>absurd rfl z
 |none=>
  refine core (fun b=>if b=a then some (.frz {cls:= .type "list",data:= .seq vs.toArray} (.lst (ns.map V.int))) else none) (fun b=>?_) (.inl (.inr ⟨{cls:= .type "list",data:= .seq vs.toArray},if_pos rfl⟩)) (fun b u z=>?_) (fun b z=>?_) fun _=>hk
  ·by_cases hb:b=a
   ·exact .inr ⟨_,_,if_pos hb⟩
   ·exact .inl (if_neg hb)
  ·by_cases hb:b=a
   ·have z':=(if_pos hb).symm.trans z
    cases z'
    subst hb
    exact⟨ha,by rw[List.length_map];exact hl,vs,_,rv,ha⟩
   ·have z':=(if_neg hb).symm.trans z
    cases z'
  ·by_cases hb:b=a
   ·exact hb
   ·exact absurd (if_neg hb) z
end L2
namespace L2
open PySem PySem.Spec PyProof.Rows
theorem walk_of {l:PySem.W.OpenLaw}{n k:Nat}{q:Program}{loose:List Str}{XP:(Str→Option Value)→Heap→Prop}{YP:World→Heap→Prop}{d:DefRec}{K:Params→PySem.W.Frag}{CX:World→CXT}{sp:World→Sp}{x:Str}
  (hn:l.most=some n) (hn2:n≤sizeLine) (hdf:d.params.defaults=[]) (hr:Room k callerA)
  (hY:∀(w:World) (h:Heap),YP w h→(K w.params).In h)
  (F:∀(w:World) (mg:Str→Option Value) (fa:Addr) (h:Heap),(K w.params).In h→h.Ns mainGlobals mg→mg d.name=some (.ref fa)→
   ∃fd:FuncData,(∀(s:Shared) (u:Value),BindsTo s fd ⟨[u],[]⟩ [(x,u)])∧
    ∀base:Heap,(K w.params).In base→base.Ns mainGlobals mg→FnOk l.prog w (K w.params) mg base (CX w) k fa fd [x] (sp w))
  (hsp:∀(w:World) (H:Hp) (a:Addr) (ns:List Int),ns.length≤n→b4z H→SqL (K w.params) H a (ns.map V.int)→sp w [.ref a] H (fun v _=>v= .bl true) fun _ _ _=>False)
  (hCX:∀(w:World) (H:Hp) (s:Shared) (e:Value) (s':Shared),CX w [] H s (fun _ _ _=>False) e s'→False):
  PySem.W.WalkO q loose XP YP l.row.toRowW d [] (fun f vs=>PySem.call f vs):=by
 refine Att.attach_call hn hdf fun w s₀ s₁ mg mb fa o pm cd doc a vs ns G Y ho hd hcd hmg hobj hints hlen hg=>?_
 have KX:=hY w _ Y
 obtain⟨fd,hb,hF⟩:=F w mg fa _ KX G.T.g hmg
 exact a9S KX G.T.g G.T.b G.T.builtins G.T.nolimit hg hobj hints (Nat.le_trans hlen hn2) hr hF hb (fun H hO hS=>hsp w H a ns hlen hO hS) fun H e s'=>hCX w H s₁ e s'
end L2
namespace L2
open PySem PySem.Spec PyProof.Rows
def j4 (s:Stmt):Arguments:=match s with
 | .FunctionDef _ a _ _ _ _ _ _ _ _=>a
 |_=>{posonlyargs:=[],args:=[],vararg:=none,kwonlyargs:=[],kw_defaults:=[],kwarg:=none,defaults:=[]}
def j0 (s:Stmt):List Stmt:=match s with
 | .FunctionDef _ _ b _ _ _ _ _ _ _=>b
 |_=>[]
def b5 (s:Stmt):Scope:=match s with
 | .FunctionDef _ _ _ _ _ _ sc _ _ _=>sc
 |_=>{kind:= .function,names:=[],isGenerator:=false,isCoroutine:=false}
abbrev CX0:CXT:=fun _ _ _ _ _ _=>False
abbrev E0:XK:=fun _ _ _=>False
theorem p0 {X:Cx}:a0E CX0 X E0:=fun _ _ _ _ _ _ _ h=>h.elim
structure Fun (K:PySem.W.Frag) (x qual:Str) (st:Stmt) (f:Addr) (fd:FuncData):Prop where
 ex:∃(oc:Value) (od:Option Addr) (kV doc pm:Value) (an:Option Addr) (cdv ct:Value) (osl:Array (Option Value)),
  fd=PySem.W.fnOf x qual (j4 st) (j0 st) (b5 st) .none kV doc pm an cdv ct∧K.lookup f=some ⟨oc,od,.func fd,osl⟩∧PySem.W.codeIn K cdv qual=true
 kp:PySem.W.keepIn K (.ref f)=true
section
variable {P:Program} {w:World} {K:PySem.W.Frag} {mg:Str→Option Value} {base:Heap}
theorem Fun.ok {x qual:Str}{st:Stmt}{f:Addr}{fd:FuncData}{N ps:List Str}{k:Nat}{sp:Sp}(F:Fun K x qual st f fd)(S:j5 N ps (b5 st))(len:∀vs H Q E,sp vs H Q E→vs.length=ps.length)
  (hbody:∀(cdv:Value) (A:Around) (outer:List Env) (s:Shared) (H:Hp) (vs:List V) (Q:VK) (E:XK),Room k (A.deeper (envOfC qual (b5 st) s.heap.objs.size f cdv))→sp vs H Q E→
   ∃t,PSs (a3k CX0 P w K mg base N qual (b5 st) f cdv A outer s H E).nox (j0 st) t∧t {nx:=fun _ H'=>Q .non H',rt:=Q} (a1E N vs) H):FnOk P w K mg base CX0 (k+1) f fd ps sp:=by
 obtain⟨oc,od,kV,doc,pm,an,cdv,ct,osl,rfl,lk,hcd⟩:=F.ex
 refine b2H lk hcd S len fun A outer s H vs Q E hr hsp=>?_
 obtain⟨t,h,q⟩:=hbody cdv A outer s H vs Q E hr hsp
 exact⟨t,h.nox,q⟩
theorem Fun.binds {x qual:Str}{st:Stmt}{f:Addr}{fd:FuncData}{ps:List Str}(F:Fun K x qual st f fd)
  (h:∀(kV doc pm:Value) (an:Option Addr) (cdv ct:Value) (us:List Value),us.length=ps.length→bindArgs (PySem.W.fnOf x qual (j4 st) (j0 st) (b5 st) .none kV doc pm an cdv ct) ⟨us,[]⟩=pure (ps.zip us)):Binds K fd ps []:=by
 obtain⟨oc,od,kV,doc,pm,an,cdv,ct,osl,rfl,lk,hcd⟩:=F.ex
 exact .all (h kV doc pm an cdv ct)
theorem j9 {x qual:Str}{st:Stmt}{f:Addr}{oc:Value}{od an:Option Addr}{osl:Array (Option Value)}{kV doc pm cdv ct:Value}(l:K.lookup f=some ⟨oc,od,.func (PySem.W.fnOf x qual (j4 st) (j0 st) (b5 st) .none kV doc pm an cdv ct),osl⟩)
  (c:PySem.W.codeIn K cdv qual=true) (k:PySem.W.keepIn K (.ref f)=true):Fun K x qual st f (PySem.W.fnOf x qual (j4 st) (j0 st) (b5 st) .none kV doc pm an cdv ct):=⟨⟨oc,od,kV,doc,pm,an,cdv,ct,osl,rfl,l,c⟩,k⟩
end
theorem K8 {n:Nat}(h:n≤1000):n<sizeLine:=Nat.lt_of_le_of_lt h (by decide)
section
variable {X:Cx}
end
theorem b6m {A B:Prop}(h:B):if false=true then A else B:=by
 rw[if_neg Bool.false_ne_true]
 exact h
theorem b6Q {A B:Prop}(h:A):if true=true then A else B:=by
 rw[if_pos rfl]
 exact h
def Same (H H':Hp):Prop:=∀b o,H b=some o→H' b=some o
theorem Same.refl (H:Hp):Same H H:=fun _ _ h=>h
theorem Same.trans {H H1 H2:Hp}(a:Same H H1)(b:Same H1 H2):Same H H2:=fun c o h=>b c o (a c o h)
theorem Same.free {H H':Hp}(e:Same H H'){l:Addr}(h:H' l=Option.none):H l=Option.none:=by
 cases q:H l with
 |none=>rfl
 |some o=>
  rw[e l o q] at h
  cases h
theorem Same.seq {K:PySem.W.Frag}{H H':Hp}{a:Addr}{xs:List V}(e:Same H H')(h:SqL K H a xs):SqL K H' a xs:=by
 rcases h with(h|⟨o,h⟩)|h
 ·exact .inl (.inl (e _ _ h))
 ·exact .inl (.inr ⟨o,e _ _ h⟩)
 ·exact .inr h
section
variable {κ:Type} [DecidableEq κ]
theorem b0x {kvs:List (κ×V)}{k:κ}(h:q8 kvs k=none):¬k∈kvs.map (·.1):=by
 intro m
 obtain⟨p,hp,e⟩:=List.mem_map.mp m
 have q:(kvs.any fun kv=>decide (kv.1=k))=true:=List.any_eq_true.mpr ⟨p,hp,decide_eq_true e⟩
 rw[J1,h] at q
 exact absurd q (by simp)
theorem a7C {kvs:List (κ×V)}{k:κ}{v:V}(h:q8 kvs k=some v):k∈kvs.map (·.1):=by
 have q:(kvs.any fun kv=>decide (kv.1=k))=true:=by
  rw[J1,h]
  all_goals rfl
 obtain⟨p,hp,e⟩:=List.any_eq_true.mp q
 exact List.mem_map.mpr ⟨p,hp,of_decide_eq_true e⟩
theorem A2:∀{l:List κ} {k:κ},l.Nodup→¬k∈l→(l++[k]).Nodup
 |[],k,_,_=>by simp
 |a::r,k,h,hk=>by
  obtain⟨h1,h2⟩:=List.nodup_cons.mp h
  show(a::(r++[k])).Nodup
  refine List.nodup_cons.mpr ⟨fun m=>?_,A2 h2 fun m=>hk (List.mem_cons.mpr (Or.inr m))⟩
  rcases List.mem_append.mp m with q|q
  ·exact h1 q
  ·exact hk (List.mem_cons.mpr (Or.inl (List.mem_singleton.mp q).symm))
theorem b1Q {kvs:List (κ×V)}{k:κ}(v:V)(hn:(kvs.map (·.1)).Nodup)(h:q8 kvs k=none):((z6 kvs k v).map (·.1)).Nodup:=by
 rw[O7 v h,List.map_append]
 exact A2 hn (b0x h)
end
end L2
set_option Elab.async false
set_option linter.all false
set_option maxRecDepth 100000
set_option maxHeartbeats 4000000
namespace L2
open PySem PySem.Spec PyProof.Rows
def a2x (scope:Scope)(env:Env):List (Str×Addr):=(scope.names.filter fun x=>x.2== .free).reverse.map fun x=>(x.1,(env.cells.lookup x.1).getD 0)
theorem a0A {env:Env}:∀(l:List (Str×NameKind)) (cs:List (Str×Addr)),(∀x∈l,x.2= .free→∃c,env.cells.lookup x.1=some c)→
  (forIn l cs fun(x:Str×NameKind) (r:List (Str×Addr))=>if(x.2==NameKind.free)=true then(do let a←cellOf env x.1;pure (ForInStep.yield ((x.1,a)::r))) else(pure (ForInStep.yield r):Sem (ForInStep (List (Str×Addr)))))=
   pure (((l.filter fun x=>x.2== .free).reverse.map fun x=>(x.1,(env.cells.lookup x.1).getD 0))++cs)
 |[],cs,_=>rfl
 |(n,k)::l,cs,h=>by
  rw[List.forIn_cons]
  by_cases hk:k= .free
  ·subst hk
   obtain⟨c,hc⟩:=h (n,.free) List.mem_cons_self rfl
   simp only[beq_self_eq_true,if_true]
   have hc':env.cells.lookup n=some c:=hc
   have e0:cellOf env n=pure c:=by unfold cellOf;rw[hc']
   simp only[e0,pure_bind]
   rw[a0A l _ fun x hx=>h x (List.mem_cons_of_mem _ hx)]
   rw[List.filter_cons,if_pos (by rfl),List.reverse_cons,List.map_append,List.append_assoc]
   simp only[List.map_cons,List.map_nil,hc',Option.getD_some,List.cons_append,List.nil_append]
  ·have hb:(k==NameKind.free)=false:=by simpa using hk
   simp only[hb,Bool.false_eq_true,if_false,pure_bind]
   rw[a0A l cs fun x hx=>h x (List.mem_cons_of_mem _ hx)]
   rw[List.filter_cons,if_neg (by simp [hb])]
theorem a3j {scope:Scope}{env:Env}(h:∀x∈scope.names,x.2= .free→∃c,env.cells.lookup x.1=some c):closureFor scope env=pure (a2x scope env):=by
 have e:=a0A (env:=env) scope.names [] h
 rw[List.append_nil] at e
 unfold closureFor a2x
 simp only[]
 refine Eq.trans ?_ (congrArg (fun m=>m>>=fun r=>(pure r:Sem (List (Str×Addr)))) e)
 rfl
theorem P4 {env:Env}{x:Str}:∀(l:List (Str×NameKind)),(∀y∈l,∃c,env.cells.lookup y.1=some c)→(x∈l.map (·.1)→(l.map fun y=>(y.1,(env.cells.lookup y.1).getD 0)).lookup x=env.cells.lookup x)∧(x∉l.map (·.1)→(l.map fun y=>(y.1,(env.cells.lookup y.1).getD 0)).lookup x=none)
 |[],_=>⟨fun h=>by simp at h,fun _=>rfl⟩
 |(n,k)::l,h=>by
  have ih:=P4 (x:=x) l fun y hy=>h y (List.mem_cons_of_mem _ hy)
  obtain⟨c,hc⟩:=h (n,k) List.mem_cons_self
  have hc':env.cells.lookup n=some c:=hc
  by_cases e:x=n
  ·subst e
   refine⟨fun _=>?_,fun z=>absurd (by simp) z⟩
   simp [List.lookup_cons,hc']
  ·have eb:(x==n)=false:=by simpa using e
   refine⟨fun hm=>?_,fun hm=>?_⟩
   ·simp only[List.map_cons,List.lookup_cons,eb]
    exact ih.1 (by simpa [e] using hm)
   ·simp only[List.map_cons,List.lookup_cons,eb]
    exact ih.2 (fun z=>hm (by simp [z]))
theorem R0 {scope:Scope}{env:Env}(h:∀x∈scope.names,x.2= .free→∃c,env.cells.lookup x.1=some c){x:Str}{c:Addr}(e:(a2x scope env).lookup x=some c):env.cells.lookup x=some c:=by
 have hl:∀y∈(scope.names.filter fun x=>x.2== .free).reverse,∃c,env.cells.lookup y.1=some c:=fun y hy=>by
  obtain⟨h1,h2⟩:=List.mem_filter.mp (List.mem_reverse.mp hy)
  exact h y h1 (by simpa using h2)
 have a:=P4 (x:=x) _ hl
 by_cases hm:x∈(scope.names.filter fun x=>x.2== .free).reverse.map (·.1)
 ·rw[←a.1 hm];exact e
 ·have z:=a.2 hm
  unfold a2x at e
  rw[z] at e;cases e
theorem a6g {scope:Scope}{env:Env}(h:∀x∈scope.names,x.2= .free→∃c,env.cells.lookup x.1=some c){x:Str}(hx:(x,NameKind.free)∈scope.names):(a2x scope env).lookup x=env.cells.lookup x:=by
 have hl:∀y∈(scope.names.filter fun x=>x.2== .free).reverse,∃c,env.cells.lookup y.1=some c:=fun y hy=>by
  obtain⟨h1,h2⟩:=List.mem_filter.mp (List.mem_reverse.mp hy)
  exact h y h1 (by simpa using h2)
 exact(P4 (x:=x) _ hl).1 (List.mem_map.mpr ⟨(x,.free),List.mem_reverse.mpr (List.mem_filter.mpr ⟨hx,rfl⟩),rfl⟩)
theorem a4V {scope:Scope}{env:Env}(hc:∀y∈scope.names,y.2≠ .cell){x:Str}(h:(relabel scope env).names.lookup x=some .cell∨(relabel scope env).names.lookup x=some .free):(x,NameKind.free)∈scope.names:=by
 have key:∀(l:List (Str×NameKind)),(∀y∈l,y.2≠ .cell)→∀k,(k=NameKind.cell∨k=NameKind.free)→(l.map fun(n,k)=>if(k==NameKind.free&&env.scope.kind== .function&&env.kindOf n==some .cell) then(n,NameKind.cell) else(n,k)).lookup x=some k→(x,NameKind.free)∈l:=by
  intro l
  induction l with
  |nil=>intro _ k _ e;simp at e
  |cons y r ih=>
   obtain⟨n,k0⟩:=y
   intro hl k hk e
   have ih':=ih (fun y hy=>hl y (List.mem_cons_of_mem _ hy)) k hk
   rw[List.map_cons] at e
   have hk0:k0≠ .cell:=hl (n,k0) List.mem_cons_self
   dsimp only at e
   by_cases hcnd:(k0==NameKind.free&&env.scope.kind== .function&&env.kindOf n==some .cell)=true
   ·rw[if_pos hcnd] at e
    cases hx:x==n with
    |true=>
     have:x=n:=by simpa using hx
     subst this
     have:k0= .free:=by
      simp only[Bool.and_eq_true,beq_iff_eq] at hcnd
      exact hcnd.1.1
     subst this
     exact List.mem_cons_self
    |false=>
     simp only[List.lookup_cons,hx] at e
     exact List.mem_cons_of_mem _ (ih' e)
   ·rw[if_neg hcnd] at e
    cases hx:x==n with
    |true=>
     have:x=n:=by simpa using hx
     subst this
     simp only[List.lookup_cons,hx] at e
     have e':k0=k:=Option.some.inj e
     subst e'
     rcases hk with z|z
     ·exact absurd z hk0
     ·subst z;exact List.mem_cons_self
    |false=>
     simp only[List.lookup_cons,hx] at e
     exact List.mem_cons_of_mem _ (ih' e)
 rcases h with h|h
 ·exact key _ hc _ (.inl rfl) h
 ·exact key _ hc _ (.inr rfl) h
def cxB (X:Cx)(own:List Str)(js:List Nat)(scope:Scope)(C:Addr)(s:Shared)(H:Hp)(fp:List Addr):Cx:=
 {X with N:=own++js.map (fun j=>X.N.getD j Str.empty),s₀:=s,H₀:=H,env:=compEnvC scope (a2x scope X.env) C X.env,outer:=X.stack,stack:=X.stack,ex:=fp,fn:=fun _=>false,pn:=[],xe:=fun _ _=>False}
def stB (own:List Str)(js:List Nat)(σ:St):St:=own.map (fun _=>none)++js.map (fun j=>(σ[j]?).join)
def scB (X:Cx)(own:List Str)(js:List Nat)(scope:Scope):Bool:=
 (scope.kind== .function)&&(scope.names.all fun x=>x.2 != .cell)&&(scope.names.all fun x=>x.2 != .local||scope.names.lookup x.1==some .local)&&
 (scope.names.all fun x=>x.2 != .free||(X.env.kindOf x.1==some .cell||X.env.kindOf x.1==some .free))&&
 (js.all fun j=>decide (j<X.N.length)&&scope.names.any (fun y=>y.1==X.N.getD j Str.empty&&y.2== .free))&&
 (scope.names.all fun x=>x.2 != .free||scope.names.lookup x.1 !=some .local)
theorem a7K {own:List Str}{js:List Nat}{σ:St}{X:Cx}{scope:Scope}{C:Addr}{s:Shared}{H:Hp}{fp:List Addr}:(stB own js σ).length=(cxB X own js scope C s H fp).N.length:=by
 show(stB own js σ).length=(own++js.map (fun j=>X.N.getD j Str.empty)).length
 unfold stB;simp
section
variable {X:Cx} {pins:List (Addr×Obj)} {σ:St} {H:Hp} {s:Shared} {own:List Str} {js:List Nat} {scope:Scope} {fp:List Addr} {C D:Addr} {h1:Heap}
structure ScB (X:Cx) (own:List Str) (js:List Nat) (scope:Scope):Prop where
 kind:scope.kind= .function
 nocell:∀y∈scope.names,y.2≠ .cell
 names:∀x∈scope.names,x.2= .local→scope.names.lookup x.1=some .local
 free:∀x∈scope.names,x.2= .free→X.env.kindOf x.1=some .cell∨X.env.kindOf x.1=some .free
 js:∀j∈js,j<X.N.length∧(X.N.getD j Str.empty,NameKind.free)∈scope.names
 one:∀x,(x,NameKind.free)∈scope.names→scope.names.lookup x≠some .local
theorem a9p (h:scB X own js scope=true):ScB X own js scope:=by
 unfold scB at h
 simp only[Bool.and_eq_true,List.all_eq_true,Bool.or_eq_true,bne_iff_ne,beq_iff_eq,decide_eq_true_eq,List.any_eq_true] at h
 obtain⟨⟨⟨⟨⟨h1,h2⟩,h3⟩,h4⟩,h5⟩,h6⟩:=h
 refine⟨h1,h2,fun x hx e=>?_,fun x hx e=>?_,fun j hj=>?_,fun x hx=>?_⟩
 ·rcases h3 x hx with z|z
  ·exact absurd e z
  ·exact z
 ·rcases h4 x hx with z|z
  ·exact absurd e z
  ·exact z
 ·obtain⟨a,y,hy,e1,e2⟩:=h5 j hj
  refine⟨a,?_⟩
  obtain⟨n,k⟩:=y
  simp only at e1 e2
  rw[←e1,←e2];exact hy
 ·rcases h6 _ hx with z|z
  ·exact absurd rfl z
  ·exact z
theorem ScB.cells (S:ScB X own js scope)(I:Inv X pins σ H s):∀x∈scope.names,x.2= .free→∃c,X.env.cells.lookup x.1=some c:=fun x hx e=>I.ok.has x.1 (S.free x hx e)
theorem Inv.block (S:ScB X own js scope)(I:Inv X pins σ H s)(hf:∀b∈fp,a1H X pins H b)(hob:∀b∈fp,∃o,s.heap.get? b=some o)(hC:s.heap.objs.size≤C){m:Str→Option Value}{t':Nat}(hn:h1.Ns C m)(k:∀b u,s.heap.get? b=some u→h1.get? b=some u):
  Inv (cxB X own js scope C s H fp) (X.pn++pins) (stB own js σ) H {s with heap:=h1,toks:=t'}:=by
 have hcl:=S.cells I
 have below:∀b o,s.heap.get? b=some o→b≠C:=fun b o e=>Nat.ne_of_lt (Nat.lt_of_lt_of_le (Heap.lt_size e) hC)
 have stk:∀b,b≠X.env.locals→b∉X.fs→b∉frs X.stack:=fun b h1 h2 z=>by
  rcases List.mem_cons.mp (I.stkSub b z) with e|e
  ·exact h1 e
  ·exact h2 e
 have noex:∀b o,X.base.get? b=some o→b∉fp:=fun b o e z=>by
  rcases(hf b z).2.2.2.1 with q|q
  ·exact I.ok.noex b o e q
  ·exact absurd (Nat.lt_of_lt_of_le (Heap.lt_size e) (Nat.le_trans I.ok.bsz q)) (Nat.lt_irrefl _)
 refine⟨⟨I.ok.mod,S.kind,I.ok.glob,I.ok.blt,hC,fun x y c e1 e2=>?_,fun x hx=>?_,fun x c z _=>(Bool.false_ne_true z).elim,I.ok.hd,I.ok.frames,.inl rfl,fun b hb=>⟨?_,fun x c e=>?_⟩,I.bs,Nat.le_trans I.ok.bsz I.sz,noex,fun b hb=>?_,I.stack,I.stkFree⟩,
  rfl,I.bare,Un.kept k,⟨m,hn,fun i x v e1 e2 e3=>?_⟩,fun x c e=>?_,?_,fun x c e=>?_,fun p hp=>?_,I.hok.kept k,a7K⟩
 ·exact I.ok.inj x y c (R0 hcl e1) (R0 hcl e2)
 ·have hm:=a4V S.nocell (x:=x) (env:=X.env) hx
  obtain⟨c,e⟩:=hcl (x,.free) hm rfl
  exact⟨c,(a6g hcl hm).trans e⟩
 ·obtain⟨o,e⟩:=hob b hb;exact below b o e
 ·exact(hf b hb).2.2.2.2.1 x c (R0 hcl e)
 ·exact stk b (hf b hb).2.1 (hf b hb).2.2.1
 ·have e1':(own++js.map (fun j=>X.N.getD j Str.empty))[i]?=some x:=e1
  unfold stB at e2
  by_cases hi:i<own.length
  ·rw[List.getElem?_append_left (by simpa using hi),List.getElem?_map] at e2
   rw[List.getElem?_eq_getElem hi] at e2
   simp at e2
  ·rw[List.getElem?_append_right (by simpa using hi),List.getElem?_map] at e2
   rw[List.getElem?_append_right (by simpa using hi),List.getElem?_map] at e1'
   have el:(own.map fun _=>(none:Option V)).length=own.length:=by simp
   rw[el] at e2
   cases hj:js[i -own.length]? with
   |none=>rw[hj] at e1';simp at e1'
   |some j=>
    rw[hj] at e1' e2
    simp only[Option.map_some,Option.some.injEq] at e1' e2
    have hjm:j∈js:=List.mem_of_getElem? hj
    obtain⟨hlt,hmem⟩:=S.js j hjm
    have hNj:X.N[j]?=some x:=by
     rw[←e1',List.getD_eq_getElem?_getD,List.getElem?_eq_getElem hlt];simp
    have hσ:σ[j]?=some (some v):=by
     cases q:σ[j]? with
     |none=>rw[q] at e2;simp at e2
     |some w=>rw[q] at e2;simp at e2;rw[e2]
    rw[e1'] at hmem
    obtain⟨m0,hn0,hl0⟩:=I.loc
    have hkx:X.env.kindOf x=some .cell∨X.env.kindOf x=some .free:=S.free (x,.free) hmem rfl
    obtain⟨u,r,l⟩:=hl0 j x v hNj hσ (by rcases hkx with z|z;exact .inr (.inl z);exact .inr (.inr z))
    refine⟨u,r,?_⟩
    rcases l with⟨z,_⟩|⟨_,c,hc,hcell⟩
    ·rcases hkx with q|q
     ·rw[q] at z;cases z
     ·rw[q] at z;cases z
    ·have hc':(a2x scope X.env).lookup x=some c:=(a6g hcl hmem).trans hc
     obtain⟨oc,hoc,hocd⟩:=hcell
     refine .inr ⟨?_,c,hc',⟨oc,k _ _ hoc,hocd⟩⟩
     rcases e3 with z|z|z
     ·exfalso
      have hmm:(relabel scope X.env).names.lookup x=some .local:=z
      exact absurd hmm (by
       intro hh
       have key:∀l:List (Str×NameKind),(∀y∈l,y.2= .local→scope.names.lookup y.1=some .local)→(l.map fun(n,k)=>if(k==NameKind.free&&X.env.scope.kind== .function&&X.env.kindOf n==some .cell) then(n,NameKind.cell) else(n,k)).lookup x=some .local→scope.names.lookup x=some .local:=by
        intro l
        induction l with
        |nil=>intro _ e;simp at e
        |cons y r ih=>
         obtain⟨n,k0⟩:=y
         intro hl e
         rw[List.map_cons] at e
         dsimp only at e
         by_cases hcnd:(k0==NameKind.free&&X.env.scope.kind== .function&&X.env.kindOf n==some .cell)=true
         ·rw[if_pos hcnd] at e
          cases hx:x==n with
          |true=>simp only[List.lookup_cons,hx] at e;cases e
          |false=>simp only[List.lookup_cons,hx] at e;exact ih (fun y hy=>hl y (List.mem_cons_of_mem _ hy)) e
         ·rw[if_neg hcnd] at e
          cases hx:x==n with
          |true=>
           simp only[List.lookup_cons,hx] at e
           have e':k0= .local:=Option.some.inj e
           have:x=n:=by simpa using hx
           subst this
           exact hl (x,k0) List.mem_cons_self e'
          |false=>simp only[List.lookup_cons,hx] at e;exact ih (fun y hy=>hl y (List.mem_cons_of_mem _ hy)) e
       have a:=key scope.names S.names hh
       exact S.one x hmem a)
     ·exact .inl z
     ·exact .inr z
 ·obtain⟨v,o,ho,hd⟩:=I.cell x c (R0 hcl e)
  exact⟨v,o,k _ _ ho,hd⟩
 ·exact I.hok.fresh hC
 ·exact I.freeC x c (R0 hcl e)
 ·obtain⟨e,n,ne,nf,d⟩:=I.pin p hp
  exact⟨k _ _ e,n,below _ _ e,stk _ ne nf,d⟩
end
end L2
set_option Elab.async false
set_option linter.all false
set_option maxRecDepth 100000
set_option maxHeartbeats 4000000
namespace L2
open PySem PySem.Spec PyProof.Rows
theorem HOk.track {P:Program}{w:World}{H:Hp}{h h':Heap}{a C:Addr}{o:HO}(x:HOk P w H h)(hC:H C=none)(k:∀b,b≠C→h'.get? b=h.get? b)(hn:H a=none)(new:ObjOk P w (upd H a o) h' a o):HOk P w (upd H a o) h':=fun b u e=>by
 by_cases hb:b=a
 ·subst hb;rw[i7] at e;cases e;exact new
 ·rw[d0 hb] at e
  refine(x b u e).stay (fun c v hc q=>?_) (fun c q=>by rw[d0 (g0 q hn)];exact q) fun c xs q=>by rw[d0 (g0 q hn)];exact q
  have hcC:c≠C:=by
   rcases hc with z|z
   ·subst z;exact g0 e hC
   ·exact g0 z hC
  rw[k c hcC];exact q
abbrev a9N (ifs:List Expr)(env:Env):Sem Bool:=forIn ifs true fun c r=>if r=true then do let ok←isTrue c env (eval c env);pure (ForInStep.yield ok) else pure (ForInStep.yield r)
def a6Q (X:Cx)(ifs:List Expr)(t:TT):Prop:=
 ∀(pins:List (Addr×Obj)) (s:Shared) (σ:St) (H:Hp) (Q:Bool→Hp→Prop),Inv X pins σ H s→t σ H Q→wpAny (model X.prog X.w) X.A (a9N ifs X.env) (TP X pins σ Q) X.xe s
theorem b6F {X:Cx}:a6Q X [] (fun _ H Q=>Q true H):=fun pins s σ H Q I h=>wpAny_tests_nil ⟨H,I,h⟩
theorem b6n {X:Cx}{c:Expr}{t:TT}(h:PT X c t):a6Q X [c] t:=fun pins s σ H Q I hq=>wpAny_tests_one (h pins s σ H Q I hq)
section
variable {X:Cx} {pins:List (Addr×Obj)} {σ:St} {H:Hp} {s:Shared} {own:List Str} {js:List Nat} {scope:Scope}
variable {tg iter elt:Expr} {ifs:List Expr} {pos:Pos} {g:TG} {ti:TT} {te:TE}
structure BlockEnd (X:Cx) (pins:List (Addr×Obj)) (own:List Str) (js:List Nat) (scope:Scope) (σ:St) (H:Hp) (s:Shared) (fp:List Addr) (C D:Addr) (out:List V) (H':Hp) (s':Shared):Prop where
 inv:Inv (cxB X own js scope C s H fp) (X.pn++pins) (stB own js σ) H' s'
 free:H' D=none
 obj:∃(its:List Value) (n:Nat),Vals out its∧s'.heap.get? D=some {cls:= .type "list",data:= .seq its.toArray n}
theorem BlockEnd.out {fp:List Addr}{C D:Addr}{out:List V}{H':Hp}{s':Shared}{h':Heap}(e:BlockEnd X pins own js scope σ H s fp C D out H' s')(I:Inv X pins σ H s)(hf:∀b∈fp,a1H X pins H b)(hD:s.heap.objs.size≤D)(hC:s.heap.objs.size≤C)(hDC:D≠C)
  (hl:out.length≤sizeLine) (sb:Heap.SameBut C s'.heap h'):Inv X pins σ (upd H' D (.lst out)) {s' with heap:=h'}:=by
 obtain⟨its,n,rv,ob⟩:=e.obj
 have J:=e.inv
 have U:Un (frs X.stack) fp H H' s.heap s'.heap:=J.base
 have same:∀b,b≠C→h'.get? b=s'.heap.get? b:=fun b hb=>sb.2 b hb
 have old:∀b o,s.heap.get? b=some o→b≠C∧b≠D:=fun b o q=>⟨Nat.ne_of_lt (Nat.lt_of_lt_of_le (Heap.lt_size q) hC),Nat.ne_of_lt (Nat.lt_of_lt_of_le (Heap.lt_size q) hD)⟩
 have hHC:H' C=none:=J.free
 refine I.call' (s':={s' with heap:=h'}) (ch:=fp) J.os ?_ ?_ J.bare fun b hb=>?_
 ·refine⟨fun b o q n hb hx=>?_,fun b o q n hb hx=>?_,fun b o q n hx=>?_,fun b o q hx=>?_,fun b xs q=>?_,fun b o u q=>?_,fun b ps q=>?_⟩
  ·show h'.get? b=_
   rw[same b (old b o q).1];exact U.keep b o q n hb hx
  ·show ∃sl,h'.get? b=_
   rw[same b (old b o q).1];exact U.slot b o q n hb hx
  ·rw[d0 (old b o q).2];exact U.free b o q n hx
  ·show ∃o',h'.get? b=_
   rw[same b (old b o q).1];exact U.there b o q hx
  ·rw[d0 (g0 (U.tups b xs q) e.free)];exact U.tups b xs q
  ·rw[d0 (g0 (U.frzs b o u q) e.free)];exact U.frzs b o u q
  ·obtain⟨mo,z⟩:=U.tbls b ps q
   exact⟨mo,by rw[d0 (g0 z e.free)];exact z⟩
 ·refine HOk.track J.hok hHC same e.free ?_
  exact⟨hl,its,n,rv,by rw[same D hDC];exact ob⟩
 ·exact⟨(hf b hb).2.2.2.1,(hf b hb).2.1,(hf b hb).2.2.2.2.1,(hf b hb).2.2.2.2.2⟩
theorem a4r (S:ScB X own js scope)(hc:X.calm=true){fp:List Addr}{it C D:Addr}{tn:Nat→Heap→Prop}{J:It}(T:a2q X.prog X.w X.K tg J fp it tn)(I:Inv X pins σ H s)(hf:∀b∈fp,a1H X pins H b)
  (hD:s.heap.objs.size≤D) (hC:s.heap.objs.size≤C) (hDC:D≠C) (hob:∀b∈fp,∃o,s.heap.get? b=some o)
  (hg:PG (cxB X own js scope C s H fp) tg g) (hi:a6Q (cxB X own js scope C s H fp) ifs ti) (he:PE (cxB X own js scope C s H fp) elt te)
  (W:Nat→Nat→List V→Hp→Prop) {K:List V→Hp→Prop}
  (turn:∀i m out H,W i m out H→(J.stop i H∧(H D=none→out.length≤sizeLine∧K out H))∨
   (J.go i H∧∀x H',J.yld i H x H'→g x (stB own js σ) H' fun σ2 H2=>σ2.drop own.length=js.map (fun j=>(σ[j]?).join)∧ti σ2 H2 fun b H3=>
    if b=true then te σ2 H3 fun v H4=>out.length≤sizeLine∧∃m',m'<m∧W (i+1) m' (out++[v]) H4 else ∃m',m'<m∧W (i+1) m' out H3))
  {R:Result→Shared→Prop} (hR:∀out H' s',BlockEnd X pins own js scope σ H s fp C D out H' s'→out.length≤sizeLine→K out H'→R (.ok .next) s')
  {m0:Nat} {H1:Hp} {s1:Shared} (w0:W 0 m0 [] H1) (B:BlockEnd X pins own js scope σ H s fp C D [] H1 s1) (st:tn 0 s1.heap) (fr:∀b∈fp,H1 b=none):
  codeAny (model X.prog X.w) X.A (.compLoop (.ListComp elt [⟨tg,iter,ifs,0⟩] scope pos) 0 (.ref it) (.ref D) (compEnvC scope (a2x scope X.env) C X.env)) R s1:=by
 have stat:∀{H':Hp},(∀b∈fp,H' b=none)→∀b∈fp,a1H (cxB X own js scope C s H fp) (X.pn++pins) H' b:=fun hn b hb=>by
  obtain⟨o,ho⟩:=hob b hb
  refine⟨hn b hb,Nat.ne_of_lt (Nat.lt_of_lt_of_le (Heap.lt_size ho) hC),?_,.inl hb,fun x c e=>(hf b hb).2.2.2.2.1 x c (R0 (S.cells I) e),fun p hp=>(hf b hb).2.2.2.2.2 p hp⟩
  intro z
  rcases List.mem_cons.mp (I.stkSub b z) with e|e
  ·exact(hf b hb).2.1 e
  ·exact(hf b hb).2.2.1 e
 have Dfp:D∉fp:=fun z=>by
  obtain⟨o,ho⟩:=hob D z
  exact absurd (Nat.lt_of_lt_of_le (Heap.lt_size ho) hD) (Nat.lt_irrefl _)
 have Dcell:∀x c,(cxB X own js scope C s H fp).env.cells.lookup x=some c→c≠D:=fun x c e z=>by
  obtain⟨v,o,ho,_⟩:=I.cell x c (R0 (S.cells I) e)
  rw[z] at ho
  exact absurd (Nat.lt_of_lt_of_le (Heap.lt_size ho) hD) (Nat.lt_irrefl _)
 have Dpin:∀p∈X.pn++pins,p.1≠D:=fun p hp z=>by
  have ho:=(I.pin p hp).1
  rw[z] at ho
  exact absurd (Nat.lt_of_lt_of_le (Heap.lt_size ho) hD) (Nat.lt_irrefl _)
 have Dfs:D∉(cxB X own js scope C s H fp).fs:=fun z=>by
  obtain⟨_,o,ho,_⟩:=I.stack.mem z
  exact absurd (Nat.lt_of_lt_of_le (Heap.lt_size ho) hD) (Nat.lt_irrefl _)
 refine codeAny_loop rfl (fun n s'=>∃i out H',BlockEnd X pins own js scope σ H s fp C D out H' s'∧tn i s'.heap∧(∀b∈fp,H' b=none)∧W i n out H') (fun n s3 hI=>?_) m0 ⟨0,[],H1,B,st,fr,w0⟩
 obtain⟨i,out,H3,B3,st3,fr3,w3⟩:=hI
 obtain⟨its,nD,rv,obD⟩:=B3.obj
 have pinD:∀{σ':St} {H':Hp} {s':Shared},Inv (cxB X own js scope C s H fp) (X.pn++pins) σ' H' s'→H' D=none→s'.heap.get? D=some {cls:= .type "list",data:= .seq its.toArray nD}→
   Inv (cxB X own js scope C s H fp) (X.pn++pins++[(D,{cls:= .type "list",data:= .seq its.toArray nD})]) σ' H' s':=fun{σ' H' s'} I' n' e'=>I'.pins_of fun p hp=>by
  rcases List.mem_append.mp hp with z|z
  ·exact I'.pin p (by show p∈([]:List (Addr×Obj))++_;exact List.mem_append_right _ z)
  ·have z':p=(D,{cls:= .type "list",data:= .seq its.toArray nD}):=by simpa using z
   subst z'
   exact⟨e',n',hDC,Dfs,fun v q=>by cases q⟩
 have stat':∀{H':Hp},(∀b∈fp,H' b=none)→∀b∈fp,a1H (cxB X own js scope C s H fp) (X.pn++pins++[(D,{cls:= .type "list",data:= .seq its.toArray nD})]) H' b:=fun hn b hb=>by
  obtain⟨a1,a2,a3,a4,a5,a6⟩:=stat hn b hb
  refine⟨a1,a2,a3,a4,a5,fun p hp=>?_⟩
  have hp':p∈X.pn++pins++[(D,{cls:= .type "list",data:= .seq its.toArray nD})]:=hp
  rcases List.mem_append.mp hp' with z|z
  ·exact a6 p (by show p∈([]:List (Addr×Obj))++_;exact z)
  ·have z':p=(D,{cls:= .type "list",data:= .seq its.toArray nD}):=by simpa using z
   subst z'
   rintro rfl
   exact Dfp hb
 have thx:∀{α:Type} {t:Sem α} {Q Q':α→Shared→Prop} {E:Value→Shared→Prop} {s:Shared},wpAny (model X.prog X.w) X.A t Q (fun _ _=>False) s→(∀a s,Q a s→Q' a s)→wpAny (model X.prog X.w) X.A t Q' E s:=
  fun h hQ=>wpAny_mono h hQ fun _ _ x=>x.elim
 have unD:∀{pl:List (Addr×Obj)} {σ':St} {H':Hp} {s':Shared},Inv (cxB X own js scope C s H fp) (X.pn++pins++[(D,{cls:= .type "list",data:= .seq its.toArray nD})]++pl) σ' H' s'→Inv (cxB X own js scope C s H fp) (X.pn++pins) σ' H' s'∧H' D=none∧s'.heap.get? D=some {cls:= .type "list",data:= .seq its.toArray nD}:=fun{pl σ' H' s'} I'=>by
  have q:=I'.pin (D,{cls:= .type "list",data:= .seq its.toArray nD}) (List.mem_append_right _ (List.mem_append_left _ (List.mem_append_right _ (by simp))))
  exact⟨I'.unpinned.unpinned,q.2.1,q.1⟩
 show wpAny _ X.A ((compTurn (.ListComp elt [⟨tg,iter,ifs,0⟩] scope pos) 0 (.ref it) (.ref D) (compEnvC scope (a2x scope X.env) C X.env)).onRaise (fun x=>do noteFrame x (compEnvC scope (a2x scope X.env) C X.env);theTreesLotGoes x)) _ _ s3
 refine wpAny_noted ?_
 rw[compTurn_list]
 refine wpAny_bind (wpAny_standAt (wpAny_bind ?_))
 rcases turn i n out H3 w3 with⟨stop,fin⟩|⟨go,step⟩
 ·refine thn (T.done (cxB X own js scope C s H fp) rfl rfl rfl hc i _ s3 _ H3 _ (pinD B3.inv B3.free obD) (stat' fr3) st3 stop) fun r s4 ⟨hr,I4⟩=>?_
  subst hr
  obtain⟨J4,n4,o4⟩:=unD (pl:=[]) (by rw[List.append_nil];exact I4)
  obtain⟨hl,k⟩:=fin B3.free
  exact wpAny_pure (hR out H3 s4 ⟨J4,n4,its,nD,rv,o4⟩ hl k)
 ·refine thn (T.item (cxB X own js scope C s H fp) rfl rfl rfl hc i _ s3 _ H3 _ (pinD B3.inv B3.free obD) (stat' fr3) st3 go) fun r s4 ⟨u,hr,h4⟩=>?_
  subst hr
  refine wpAny_bind (thn h4 fun _ s5 ⟨x,H5,I5,r5,y5,st5,fr5⟩=>?_)
  have I5':=I5.pinned (stat' fr5) (T.obj _ _ st5)
  refine wpAny_bind (thx (hg _ s5 _ H5 x u _ I5' r5 (step x H5 y5)) fun _ s6 ⟨σ6,H6,I6,q6⟩=>?_)
  obtain⟨ed,q6⟩:=q6
  refine wpAny_bind (thx (hi _ s6 σ6 H6 _ I6 q6) fun ok s7 ⟨H7,I7,q7⟩=>?_)
  have stay:∀{H':Hp} {s':Shared},Inv (cxB X own js scope C s H fp) (X.pn++pins++[(D,{cls:= .type "list",data:= .seq its.toArray nD})]++a3r fp s5.heap) σ6 H' s'→tn (i+1) s'.heap∧∀b∈fp,H' b=none:=fun{H' s'} I'=>by
   refine⟨T.keep _ _ _ st5 fun b hb o e=>(I'.pin (b,o) (List.mem_append_right _ (List.mem_append_right _ (a0b hb e)))).1,fun b hb=>?_⟩
   obtain⟨o,e,d⟩:=T.obj _ _ st5 b hb
   exact(I'.pin (b,o) (List.mem_append_right _ (List.mem_append_right _ (a0b hb e)))).2.1
  have wk:∀{H':Hp} {s':Shared},Inv (cxB X own js scope C s H fp) (X.pn++pins) σ6 H' s'→Inv (cxB X own js scope C s H fp) (X.pn++pins) (stB own js σ) H' s':=fun{H' s'} I'=>by
   refine I'.weak (by rw[I'.len];exact a7K) fun k v e=>?_
   unfold stB at e
   by_cases hk:k<own.length
   ·rw[List.getElem?_append_left (by simpa using hk),List.getElem?_map,List.getElem?_eq_getElem hk] at e
    simp at e
   ·rw[List.getElem?_append_right (by simpa using hk)] at e
    have el:(own.map fun _=>(none:Option V)).length=own.length:=by simp
    rw[el,←ed,List.getElem?_drop] at e
    have ek:own.length+(k -own.length)=k:=by omega
    rw[ek] at e
    exact e
  cases ok with
  |false=>
   rw[if_neg Bool.false_ne_true] at q7
   obtain⟨m',hm,w7⟩:=q7
   obtain⟨J7,n7,o7⟩:=unD I7
   exact wpAny_pure ⟨rfl,m',hm,i+1,out,H7,⟨wk J7,n7,its,nD,rv,o7⟩,(stay I7).1,(stay I7).2,w7⟩
  |true=>
   rw[if_pos rfl] at q7
   refine wpAny_bind (wpAny_bind (thx (he _ s7 σ6 H7 _ I7 q7) fun y s8 ⟨v,H8,I8,r8,hl8,m',hm,w8⟩=>?_))
   obtain⟨J8,n8,o8⟩:=unD I8
   have isl:s8.heap.IsList D its.toArray:=⟨_,o8,rfl,nD,rfl⟩
   refine wpAny_bind (wpAny_list_append_plain (hsz:=by have:=rv.length;simp;omega) ⟨nD,o8⟩ fun h' hp' hs'=>?_)
   obtain⟨nn,ob'⟩:=hp'
   have ob2:h'.get? D=some {cls:= .type "list",data:= .seq (its++[y]).toArray nn}:=by
    rw[ob',List.push_toArray]
   have keep:∀b o,b≠D→s8.heap.get? b=some o→h'.get? b=some o:=fun b o hb e=>(hs'.2 b hb).trans e
   have J9:Inv (cxB X own js scope C s H fp) (X.pn++pins) σ6 H8 {s8 with heap:=h'}:=J8.turned (t':=s8.toks) keep n8 hDC (.inr hD) Dcell (fun p hp=>Dpin p (by
    have hp':p∈([]:List (Addr×Obj))++(X.pn++pins):=hp
    rw[List.nil_append] at hp'
    exact hp'))
   refine wpAny_pure (wpAny_pure ⟨rfl,m',hm,i+1,out++[v],H8,⟨wk J9,n8,its++[y],nn,rv.append (.cons r8 .nil),ob2⟩,?_,(stay I8).2,w8⟩)
   exact T.keep _ _ _ (stay I8).1 fun b hb o e=>keep b o (by rintro rfl;exact Dfp hb) e
end
end L2
set_option Elab.async false
set_option linter.all false
set_option maxRecDepth 100000
set_option maxHeartbeats 4000000
namespace L2
open PySem PySem.Spec PyProof.Rows
def Itw (n:Nat)(PV:Nat→V→Prop):It:=⟨fun i _=>i<n,fun i H x H'=>H'=H∧PV i x,fun i _=>n≤i⟩
theorem a7x {M:Model}{A:Around}{E:Value→Shared→Prop}{s:Shared}{tg:Expr}{it:Addr}{u:Value}{Q:Unit→Shared→Prop}(hu:∀a,u≠ .ref a)(hQ:Q () s):wpAny M A (letOwnedTupleGo tg (.ref it) u) Q E s:=by
 unfold letOwnedTupleGo
 cases tg<;>first
  |exact wpAny_pure hQ
  |(cases u<;>first
    |exact wpAny_pure hQ
    |exact absurd rfl (hu _))
theorem a2O {P:Program}{w:World}{K:PySem.W.Frag}{tg:Expr}{it:Addr}{n:Nat}{Pv:Nat→Value→Prop}{PV:Nat→V→Prop}{St:Nat→Heap→Prop}
  (W:∀A:Around,A.handled=none→Walks P w A it [it] [it] n Pv St) (hv:∀i u,Pv i u→(∀a,u≠ .ref a)∧∃x,RelV x u∧PV i x)
  (ho:∀i h,St i h→∃o,h.get? it=some o∧∀v,o.data≠ .cell v)
  (hk:∀i h h',St i h→(∀o,h.get? it=some o→h'.get? it=some o)→St i h')
  (hself:∀(A:Around) (i:Nat) (s:Shared) (Q:Value→Shared→Prop) (E:Value→Shared→Prop),St i s.heap→Q (.ref it) s→wpAny (model P w) A (pyIter (.ref it)) Q E s):
  a2q P w K tg (Itw n PV) [it] it (fun i h=>St i h∧i≤n) where
 mem:=by simp
 obj:=fun i h st b hb=>by
  have e:b=it:=by simpa using hb
  subst e
  exact ho i h st.1
 keep:=fun i h h' st k=>⟨hk i h h' st.1 fun o e=>k it (by simp) o e,st.2⟩
 item:=by
  intro X hP hw hK hc i pins s σ H E I hf st hg
  subst hP hw hK
  obtain⟨f0,f1,f2,f3,f4,f5⟩:=hf it (by simp)
  refine(W X.A (I.ok.hd hc)).item i s _ _ hg st.1 fun v h' tk hv' st' kk=>?_
  obtain⟨hne,x,rx,px⟩:=hv i v hv'
  have I1:Inv X pins σ H {s with heap:=h',toks:=tk}:=I.turned (fun b o hb e=>kk b o (by simpa using hb) e) f0 f1 f3 f4 f5
  exact⟨v,rfl,a7x hne ⟨x,H,I1,rx,⟨rfl,px⟩,⟨st',hg⟩,fun b hb=>(hf b hb).1⟩⟩
 done:=by
  intro X hP hw hK hc i pins s σ H E I hf st hg
  subst hP hw hK
  obtain⟨f0,f1,f2,f3,f4,f5⟩:=hf it (by simp)
  have e:i=n:=Nat.le_antisymm st.2 hg
  subst e
  exact(W X.A (I.ok.hd hc)).done s _ _ st.1 fun h' tk kk=>⟨rfl,I.turned (fun b o hb e=>kk b o (by simpa using hb) e) f0 f1 f3 f4 f5⟩
 self:=fun A i s Q E st h=>hself A i s Q E st.1 h
def sgn (c:Nat):V:= .str ⟨#[c]⟩
def b2J (x:Str)(i:Nat)(v:V):Prop:=∃c,x.cps[i]?=some c∧v=sgn c
def Its (x:Str):It:=Itw x.cps.size (b2J x)
theorem b0B {x:Str}{i:Nat}{u:Value}(h:SignAt x i u):(∀a,u≠ .ref a)∧∃v,RelV v u∧b2J x i v:=by
 obtain⟨c,t,hc,rfl⟩:=h
 exact⟨fun a z=>(by cases z),sgn c,⟨t,rfl⟩,c,hc,rfl⟩
theorem a8Y {P:Program}{w:World}{K:PySem.W.Frag}{tg:Expr}(it:Addr)(x:Str)(t:Tok):a2q P w K tg (Its x) [it] it (fun i h=>h.IsStrIter it "str_ascii_iterator" x t i∧i≤x.cps.size):=
 a2O (fun A hh=>Walks.strAscii hh it x t) (fun i u h=>b0B h)
  (fun i h st=>by obtain⟨o,e,c,d⟩:=st;exact⟨o,e,fun v z=>by rw[d] at z;cases z⟩)
  (fun i h h' st k=>let ⟨o,e,r⟩:=st;⟨o,k o e,r⟩)
  (fun A i s Q E st h=>wpAny_pyIter_striter_ascii st h)
theorem a8p {P:Program}{w:World}{K:PySem.W.Frag}{tg:Expr}(it:Addr)(x:Str)(t:Tok):a2q P w K tg (Its x) [it] it (fun i h=>h.IsStrIter it "str_iterator" x t i∧i≤x.cps.size):=
 a2O (fun A hh=>Walks.strWide hh it x t) (fun i u h=>b0B h)
  (fun i h st=>by obtain⟨o,e,c,d⟩:=st;exact⟨o,e,fun v z=>by rw[d] at z;cases z⟩)
  (fun i h h' st k=>let ⟨o,e,r⟩:=st;⟨o,k o e,r⟩)
  (fun A i s Q E st h=>wpAny_pyIter_striter_wide st h)
section
variable {X:Cx} {tg:Expr}
def rIter (K:PySem.W.Frag)(v:V)(H:Hp)(R:It→Hp→Prop):Prop:=
 (∃a,v= .ref a∧(∃xs,SqL K H a xs)∧R (Itl K a) H)∨(∃a,v= .ref a∧(∃xs,SqT K H a xs)∧R (Itt K a) H)∨(∃x,v= .str x∧R (Its x) H)
theorem a9w {pins:List (Addr×Obj)}{σ:St}{H1:Hp}{s1:Shared}{x:V}{v:Value}{R:It→Hp→Prop}(I1:Inv X pins σ H1 s1)(r1:RelV x v)(q1:rIter X.K x H1 R):
  wpAny (model X.prog X.w) X.A (pyIter v) (PIE X pins σ tg R) X.xe s1:=by
 have fp0:∀b∈[s1.heap.objs.size],a1H X pins H1 b:=fun b hb=>by
  have e:b=s1.heap.objs.size:=by simpa using hb
  subst e
  exact I1.fpOk (Nat.le_refl _) (I1.hok.fresh (Nat.le_refl _))
 rcases q1 with⟨a,e,⟨xs,hq⟩,q⟩|⟨a,e,⟨xs,hq⟩,q⟩|⟨z,e,q⟩
 ·subst e
  cases r1
  obtain⟨its,rv,p,hz⟩:=I1.list hq
  refine wpAny_pyIter_list p.isList ?_
  exact⟨s1.heap.objs.size,[s1.heap.objs.size],_,_,H1,rfl,I1.kept (t':=s1.toks) fun b o e=>Heap.get?_push_of_some _ e,a8Q a _,⟨_,Heap.get?_push_size _ rfl,rfl,rfl⟩,fp0,q⟩
 ·subst e
  cases r1
  obtain⟨its,rv,p,hz⟩:=I1.tuple hq
  refine wpAny_pyIter_tuple (show s1.heap.IsTuple a its.toArray from p) ?_
  exact⟨s1.heap.objs.size,[s1.heap.objs.size],_,_,H1,rfl,I1.kept (t':=s1.toks) fun b o e=>Heap.get?_push_of_some _ e,a6w a _,⟨_,Heap.get?_push_size _ rfl,rfl,rfl⟩,fp0,q⟩
 ·subst e
  obtain⟨t,rfl⟩:=r1
  cases ha:z.cps.all (·<128) with
  |false=>exact wpAny_pyIter_wide ha ⟨s1.heap.objs.size,[s1.heap.objs.size],_,_,H1,rfl,I1.kept (t':=s1.toks) fun b o e=>Heap.get?_push_of_some _ e,a8p _ z t,⟨⟨_,Heap.get?_push_size _ rfl,rfl,rfl⟩,Nat.zero_le _⟩,fp0,q⟩
  |true=>exact wpAny_pyIter_ascii ha ⟨s1.heap.objs.size,[s1.heap.objs.size],_,_,H1,rfl,I1.kept (t':=s1.toks) fun b o e=>Heap.get?_push_of_some _ e,a8Y _ z t,⟨⟨_,Heap.get?_push_size _ rfl,rfl,rfl⟩,Nat.zero_le _⟩,fp0,q⟩
end
section
variable {X:Cx}
theorem a4J:∀{bs:List Bool} {us:List Value},Vals (bs.map V.bl) us→us=bs.map Value.bool
 |[],_,.nil=>rfl
 |b::bs,_,.cons r t=>by
  have e:_=Value.bool b:=r
  rw[e,a4J t];rfl
theorem a6N (bs:List Bool):((List.range bs.length).all fun i=>(bs[i]?).getD true)=bs.all id:=by
 rw[Bool.eq_iff_iff,List.all_eq_true,List.all_eq_true]
 constructor
 ·intro h b hb
  obtain⟨i,hi,rfl⟩:=List.getElem_of_mem hb
  have:=h i (List.mem_range.mpr hi)
  simpa [List.getElem?_eq_getElem hi] using this
 ·intro h i hi
  have hi':=List.mem_range.mp hi
  simpa [List.getElem?_eq_getElem hi'] using h _ (List.getElem_mem hi')
theorem a6Z (bs:List Bool):((List.range bs.length).any fun i=>(bs[i]?).getD true)=bs.any id:=by
 rw[Bool.eq_iff_iff,List.any_eq_true,List.any_eq_true]
 constructor
 ·rintro⟨i,hi,e⟩
  have hi':=List.mem_range.mp hi
  simp only[List.getElem?_eq_getElem hi',Option.getD_some] at e
  exact⟨_,List.getElem_mem hi',e⟩
 ·rintro⟨b,hb,e⟩
  obtain⟨i,hi,rfl⟩:=List.getElem_of_mem hb
  exact⟨i,List.mem_range.mpr hi,by simp only[List.getElem?_eq_getElem hi,Option.getD_some];exact e⟩
theorem a7o {s:Shared}{h':Heap}{o:Obj}(hk:∀b x,b∉[s.heap.objs.size]→(s.heap.push o).get? b=some x→h'.get? b=some x):∀b x,s.heap.get? b=some x→h'.get? b=some x:=
 fun b x e=>hk b x (fun hm=>by rw[List.mem_singleton.mp hm] at e;exact Nat.lt_irrefl _ (Heap.lt_size e)) (Heap.get?_push_of_some _ e)
def a9g (K:PySem.W.Frag):List V→Hp→VK→Prop:=fun xs H Q=>∃(p:Addr) (bs:List Bool),xs=[.ref p]∧SqL K H p (bs.map V.bl)∧Q (.bl (bs.all id)) H
def b5M (K:PySem.W.Frag):List V→Hp→VK→Prop:=fun xs H Q=>∃(p:Addr) (bs:List Bool),xs=[.ref p]∧SqL K H p (bs.map V.bl)∧Q (.bl (bs.any id)) H
theorem a8E (hc:X.calm=true):CallR X (.builtin "all") (a9g X.K):=by
 intro pins s σ H xs us Q I r h
 obtain⟨l,bs,rfl,hx,q⟩:=h
 obtain⟨u,rfl,ru⟩:=O8 r
 cases ru
 obtain⟨its,rv,ht,hz⟩:=I.list hx
 have e:=a4J rv
 subst e
 have hl:=ht.isList
 have hlt:l<s.heap.objs.size:=ht.lt
 refine call_all_walk (wpAny_pyIter_list hl ?_)
 refine⟨s.heap.objs.size,[s.heap.objs.size,l],[s.heap.objs.size],(bs.map Value.bool).toArray.size,_,_,fun i=>(bs[i]?).getD true,rfl,Walks.list (A:=X.A.in1) (I.ok.hd hc) _ l (Nat.ne_of_lt hlt) (bs.map Value.bool).toArray,
  ⟨⟨_,Heap.get?_push_size _ rfl,rfl,rfl⟩,hl.push _⟩,fun i v s' Q' E' hP hQ=>?_,fun h' tk hk=>?_⟩
 ·have hP':(bs.map Value.bool)[i]?=some v:=by simpa using hP
  rw[List.getElem?_map] at hP'
  cases e:bs[i]? with
  |none=>rw[e] at hP';cases hP'
  |some b=>
   rw[e] at hP'
   cases hP'
   simp only[e,Option.getD_some] at hQ
   exact wpAny_truthy_bool hQ
 ·have e:((List.range (bs.map Value.bool).toArray.size).all fun i=>(bs[i]?).getD true)=bs.all id:=by
   rw[List.size_toArray,List.length_map];exact a6N bs
  rw[e]
  exact⟨.bl (bs.all id),H,I.kept (a7o hk),rfl,q⟩
theorem a8u (hc:X.calm=true):CallR X (.builtin "any") (b5M X.K):=by
 intro pins s σ H xs us Q I r h
 obtain⟨l,bs,rfl,hx,q⟩:=h
 obtain⟨u,rfl,ru⟩:=O8 r
 cases ru
 obtain⟨its,rv,ht,hz⟩:=I.list hx
 have e:=a4J rv
 subst e
 have hl:=ht.isList
 have hlt:l<s.heap.objs.size:=ht.lt
 refine call_any_walk (wpAny_pyIter_list hl ?_)
 refine⟨s.heap.objs.size,[s.heap.objs.size,l],[s.heap.objs.size],(bs.map Value.bool).toArray.size,_,_,fun i=>(bs[i]?).getD true,rfl,Walks.list (A:=X.A.in1) (I.ok.hd hc) _ l (Nat.ne_of_lt hlt) (bs.map Value.bool).toArray,
  ⟨⟨_,Heap.get?_push_size _ rfl,rfl,rfl⟩,hl.push _⟩,fun i v s' Q' E' hP hQ=>?_,fun h' tk hk=>?_⟩
 ·have hP':(bs.map Value.bool)[i]?=some v:=by simpa using hP
  rw[List.getElem?_map] at hP'
  cases e:bs[i]? with
  |none=>rw[e] at hP';cases hP'
  |some b=>
   rw[e] at hP'
   cases hP'
   simp only[e,Option.getD_some] at hQ
   exact wpAny_truthy_bool hQ
 ·have e:((List.range (bs.map Value.bool).toArray.size).any fun i=>(bs[i]?).getD true)=bs.any id:=by
   rw[List.size_toArray,List.length_map];exact a6Z bs
  rw[e]
  exact⟨.bl (bs.any id),H,I.kept (a7o hk),rfl,q⟩
def b4J:V→Option Int→Option Int→Hp→VK→Prop:=fun x lo hi H Q=>∃z,x= .str z∧z.length≤sizeLine∧Q (.str (Txt.slice z lo hi)) H
theorem b3O:SlR X b4J:=by
 intro pins s σ H x v vl vu lo hi sl Q I rx hs pl pu h
 obtain⟨z,rfl,hz,q⟩:=h
 obtain⟨t,rfl⟩:=rx
 refine⟨"str",_,F.slot_str_getitem.lookup,typeIs_str _ _ _,?_⟩
 have fin:∀t' k,EP X pins σ Q (.str (Txt.slice z lo hi) t') {s with toks:=k}:=fun t' k=>⟨.str _,H,I.tok _,⟨t',rfl⟩,q⟩
 cases pl with
 |none=>
  cases pu with
  |none=>exact wpAny_getItem_str_slice (l:=none) (u:=none) (st:=none) hs rfl (post_val_or_str ⟨Nat.le_trans (Txt.slice_le z _ _) hz,fin⟩)
  |int j tj=>exact wpAny_getItem_str_slice (l:=none) (u:=some (j,tj)) (st:=none) hs rfl (post_val_or_str ⟨Nat.le_trans (Txt.slice_le z _ _) hz,fin⟩)
 |int i ti=>
  cases pu with
  |none=>exact wpAny_getItem_str_slice (l:=some (i,ti)) (u:=none) (st:=none) hs rfl (post_val_or_str ⟨Nat.le_trans (Txt.slice_le z _ _) hz,fin⟩)
  |int j tj=>exact wpAny_getItem_str_slice (l:=some (i,ti)) (u:=some (j,tj)) (st:=none) hs rfl (post_val_or_str ⟨Nat.le_trans (Txt.slice_le z _ _) hz,fin⟩)
def rSl (K:PySem.W.Frag):V→Option Int→Option Int→Hp→VK→Prop:=fun x lo hi H Q=>b5A K x lo hi H Q∨b4W K x lo hi H Q∨b4J x lo hi H Q
theorem b3e:SlR X (rSl X.K):=sl_list.or (sl_tup.or b3O)
theorem RelV.plainB {x:V}{v:Value}(r:RelV x v)(b:Bool):plainIs v (.bool b)=true∧(v==Value.bool b)=decide (x= .bl b):=by
 cases x with
 |non=>cases r;exact⟨rfl,rfl⟩
 |bl c=>cases r;exact⟨rfl,by cases b<;>cases c<;>rfl⟩
 |int _=>obtain⟨t,rfl⟩:=r;exact⟨rfl,rfl⟩
 |str _=>obtain⟨t,rfl⟩:=r;exact⟨rfl,rfl⟩
 |byt _=>obtain⟨t,rfl⟩:=r;exact⟨rfl,rfl⟩
 |flt _=>obtain⟨t,rfl⟩:=r;exact⟨rfl,rfl⟩
 |ref _=>cases r;exact⟨rfl,rfl⟩
 |ty _=>cases r;exact⟨rfl,rfl⟩
def rIs (neg:Bool):R2:=fun x y H Q=>(y= .non∨∃b,y= .bl b)∧Q (.bl (if neg then !decide (x=y) else decide (x=y))) H
theorem a6j:OpR X (compareOp .IsNot) (rIs true):=by
 intro pins s σ H x y v u Q I rx ry h
 obtain⟨hy,q⟩:=h
 rcases hy with rfl|⟨b,rfl⟩
 ·cases ry;exact isnot_none_gen ⟨.bl _,H,I,by rw[rx.none_iff];rfl,q⟩
 ·cases ry
  exact wpAny_isNot_plain (rx.plainB b).1 ⟨.bl _,H,I,by rw[(rx.plainB b).2];rfl,q⟩
def TyB (K:PySem.W.Frag)(H:Hp):V→String→Prop
 | .non,t=>t="NoneType"
 | .bl _,t=>t="bool"
 | .int _,t=>t="int"
 | .str _,t=>t="str"
 | .ref a,t=>(t="list"∧∃xs,SqL K H a xs)∨(t="tuple"∧∃xs,SqT K H a xs)∨(t="dict"∧∃kvs,Rd H a (.dK kvs))
 |_,_=>False
def a1c (t T:String):Bool:=t==T||(t=="bool"&&T=="int")
def b1y (K:PySem.W.Frag):List V→Hp→VK→Prop:=fun xs H Q=>∃x T t,xs=[x,.ty T]∧TyB K H x t∧(T="str"∨T="int"∨T="bool"∨T="list"∨T="tuple"∨T="dict")∧Q (.bl (a1c t T)) H
theorem U9 {K:PySem.W.Frag}{t T:String}(ht:t="NoneType"∨t="bool"∨t="int"∨t="str"∨t="list"∨t="tuple"∨t="dict")(hT:T="str"∨T="int"∨T="bool"∨T="list"∨T="tuple"∨T="dict"):
  PySem.W.kitOne K (.type t) (.type T)=some (a1c t T):=by
 rcases ht with rfl|rfl|rfl|rfl|rfl|rfl|rfl<;>rcases hT with rfl|rfl|rfl|rfl|rfl|rfl<;>rfl
theorem call_isi:CallR X (.builtin "isinstance") (b1y X.K):=by
 intro pins s σ H xs us Q I r h
 obtain⟨x,T,t,rfl,ty,hT,q⟩:=h
 obtain⟨u,c,rfl,rx,rc⟩:=a2t r
 cases rc
 have fin:∀tk,EP X pins σ Q (.bool (a1c t T)) {s with toks:=tk}:=fun tk=>⟨.bl _,H,I.tok tk,rfl,q⟩
 cases x with
 |non=>cases ty;cases (show u=Value.none from rx);exact PySem.W.kia_one PySem.W.kitx_none I.kIn True.intro (U9 (by simp) hT) (fun z=>nomatch z) fin
 |bl y=>cases ty;cases (show u=Value.bool y from rx);exact PySem.W.kia_one PySem.W.kitx_bool I.kIn True.intro (U9 (by simp) hT) (fun z=>nomatch z) fin
 |int i=>cases ty;obtain⟨t,q⟩:=(show ∃t,u=Value.int i t from rx);cases q;exact PySem.W.kia_one PySem.W.kitx_int I.kIn True.intro (U9 (by simp) hT) (fun z=>nomatch z) fin
 |str y=>cases ty;obtain⟨t,q⟩:=(show ∃t,u=Value.str y t from rx);cases q;exact PySem.W.kia_one PySem.W.kitx_str I.kIn True.intro (U9 (by simp) hT) (fun z=>nomatch z) fin
 |byt _=>exact False.elim ty
 |flt _=>exact False.elim ty
 |ty _=>exact False.elim ty
 |ref a=>
  cases (show u=Value.ref a from rx)
  rcases ty with⟨rfl,ys,hy⟩|⟨rfl,ys,hy⟩|⟨rfl,kvs,hy⟩
  ·obtain⟨its,_,⟨o,n,e,c,_,_⟩,_⟩:=I.list hy
   exact PySem.W.kia_one PySem.W.kitx_list I.kIn ⟨o,e,c⟩ (U9 (by simp) hT) (fun z=>nomatch z) fin
  ·obtain⟨its,_,⟨o,e,c,_⟩,_⟩:=I.tuple hy
   exact PySem.W.kia_one PySem.W.kitx_tuple I.kIn ⟨o,e,c⟩ (U9 (by simp) hT) (fun z=>nomatch z) fin
  ·obtain⟨_,_,vs,_,o,es,ep,h1,h2,_⟩:=J0 I.hok hy
   exact PySem.W.kia_one PySem.W.kitx_dict I.kIn ⟨o,h1,h2.1⟩ (U9 (by simp) hT) (fun z=>nomatch z) fin
end
end L2
set_option Elab.async false
set_option linter.all false
set_option maxRecDepth 100000
set_option maxHeartbeats 4000000
namespace L2
open PySem PySem.Spec PyProof.Rows
section
variable {X:Cx}
def a5Z (K:PySem.W.Frag):R2:=fun x y H Q=>rI0 (fun i j=> .int (i+j)) x y H Q∨(∃i j,x= .str i∧y= .str j∧i.length+j.length≤sizeLine∧Q (.str (i++j)) H)∨b5n x y H Q∨b2B K x y H Q
theorem b2m:OpR X (binaryOp .Add) (a5Z X.K):=op_add.or (op_add_str.or (op_cat.or b2b))
theorem op_in_sgn:OpR X (compareOp .In) (fun x y H Q=>∃c j,x=sgn c∧y= .str j∧Q (.bl (decide (c∈j.cps.toList))) H):=by
 intro pins s σ H x y v u Q I rx ry h
 obtain⟨c,j,rfl,rfl,q⟩:=h
 refine a8j pins s σ H _ _ v u Q I rx ry ⟨⟨#[c]⟩,j,rfl,rfl,?_⟩
 rw[StrLaws.found_one];exact q
theorem op_notIn_sgn:OpR X (compareOp .NotIn) (fun x y H Q=>∃c j,x=sgn c∧y= .str j∧Q (.bl (!decide (c∈j.cps.toList))) H):=by
 intro pins s σ H x y v u Q I rx ry h
 obtain⟨c,j,rfl,rfl,q⟩:=h
 refine a5l pins s σ H _ _ v u Q I rx ry ⟨⟨#[c]⟩,j,rfl,rfl,?_⟩
 rw[StrLaws.found_one];exact q
theorem a6O (hu:X.A.units+1<cLine):OpR X (compareOp .In) (fun y x H Q=>∃a o,x= .ref a∧DGet H a y o∧Q (.bl o.isSome) H):=by
 intro pins s σ H y x v u Q I ry rx h
 obtain⟨a,o,rfl,g,q⟩:=h
 cases rx
 exact b6p hu I g ry fun s' I'=>⟨.bl _,H,I',rfl,q⟩
theorem a3J (hu:X.A.units+1<cLine):OpR X (compareOp .NotIn) (fun y x H Q=>∃a o,x= .ref a∧DGet H a y o∧Q (.bl (!o.isSome)) H):=by
 intro pins s σ H y x v u Q I ry rx h
 obtain⟨a,o,rfl,g,q⟩:=h
 cases rx
 exact b1Z hu I g ry fun s' I'=>⟨.bl _,H,I',rfl,q⟩
def a8C (K:PySem.W.Frag):R2:=fun x y H Q=>(∃c j,x=sgn c∧y= .str j∧Q (.bl (decide (c∈j.cps.toList))) H)∨rIn K false x y H Q∨(∃a o,y= .ref a∧DGet H a x o∧Q (.bl o.isSome) H)
def a1L (K:PySem.W.Frag):R2:=fun x y H Q=>(∃c j,x=sgn c∧y= .str j∧Q (.bl (!decide (c∈j.cps.toList))) H)∨rIn K true x y H Q∨(∃a o,y= .ref a∧DGet H a x o∧Q (.bl (!o.isSome)) H)
theorem b4v (hu:X.A.units+1<cLine):OpR X (compareOp .In) (a8C X.K):=op_in_sgn.or (op_in_seq.or (a6O hu))
theorem a8e (hu:X.A.units+1<cLine):OpR X (compareOp .NotIn) (a1L X.K):=op_notIn_sgn.or (op_notIn_seq.or (a3J hu))
def b4E:R2:=fun x y H Q=>rI0 (fun i j=> .bl (decide (i<j))) x y H Q∨(∃i j,x= .str i∧y= .str j∧Q (.bl (decide (i.cps.toList<j.cps.toList))) H)
theorem a7e:OpR X (compareOp .Lt) b4E:=op_lt.or a8U
theorem b1u (hu:X.A.units+1<cLine):IxR X (fun x y H Q=>∃a v,x= .ref a∧DGet H a y (some v)∧Q v H):=by
 intro value slice pins s σ H x y v u Q I rx ry h hs
 obtain⟨a,z,rfl,g,q⟩:=h
 cases rx
 exact tail_any (a5F I g) PySem.F.slot_dict_getitem.lookup (a8K hu I g ry fun w2 s' I' r'=>⟨z,H,I',r',q⟩) hs
def a6o (K:PySem.W.Frag):R2:=fun x y H Q=>rIx K x y H Q∨(∃a v,x= .ref a∧DGet H a y (some v)∧Q v H)
theorem b2Q (hu:X.A.units+1<cLine):IxR X (a6o X.K):=ix_seq.or (b1u hu)
def a8O (K:PySem.W.Frag):List V→Hp→VK→Prop:=fun xs H Q=>(∃x n,xs=[x]∧b5t K x H n∧Q (.int n) H)∨(∃a kvs,xs=[V.ref a]∧Rd H a (.dK kvs)∧Q (.int kvs.length) H)
theorem call_lenX:CallR X (.builtin "len") (a8O X.K):=by
 refine call_len.or ?_
 intro pins s σ H xs us Q I r h
 obtain⟨a,kvs,rfl,ha,q⟩:=h
 obtain⟨u,rfl,ru⟩:=O8 r
 cases ru
 exact b5F I ha fun t s' I'=>⟨.int kvs.length,H,I',⟨t,rfl⟩,q⟩
end
def Cal (P:Program)(w:World)(K:PySem.W.Frag)(mg:Str→Option Value)(base:Heap)(CX:CXT)(k:Nat)(x:Str)(ps:List Str)(dvs:List V)(sp:Sp):Prop:=
 ∃f fd ds,FnOk P w K mg base CX k f fd ps sp∧mg x=some (.ref f)∧PySem.W.keepIn K (.ref f)=true∧Binds K fd ps ds∧Vals dvs ds
section
variable {X:Cx} {CX:CXT} {k:Nat} {x:Str} {ps:List Str} {dvs:List V} {sp:Sp} {E:XK} {e:Expr} {es:List Expr} {t:TA} {p pos:Pos}
theorem a9j (C:Cal X.prog X.w X.K X.mg X.base CX k x ps dvs sp)(hr:Room k X.A)(hx:a0E CX X E)(ha:PA X (e::es) t)(hg:Gl X x:=by rfl)
  (hdb:(x==("__debug__":Str))=false:=by decide) (he:starEach (e::es) X.env=(false,eval e X.env)::starEach es X.env:=by rfl) (hpl:(backTo pos (starEach es X.env)).any (·.1)=false:=by rfl):
  PE X (.Call (.Name x p) (e::es) [] pos) (a5U sp dvs E t):=by
 obtain⟨f,fd,ds,F,hm,hk,hb,hd⟩:=C
 exact b1C F hr hg hm hk hb hd hx ha hdb he hpl
def GlV (mg:Str→Option Value)(x:Str)(v:V):Prop:=∃u,mg x=some u∧RelV v u
theorem b3j {v:V}(h:GlV X.mg x v)(hg:Gl X x:=by rfl)(hd:(x==("__debug__":Str))=false:=by decide):PE X (.Name x pos) (tC v):=by
 obtain⟨u,hm,r⟩:=h
 exact b2q hg hm r hd
theorem u9 {k:Nat}{A:Around}(r:Room k A):A.units+1<cLine:=by have:=r.un;omega
end
section
variable {K:PySem.W.Frag} {σ:St} {H:Hp} {Q:VK} {D:a6L} {nx bk ct:St→Hp→Prop} {rt:VK}
theorem b5W {i:Nat}{v:V}(h:σ[i]?=some (some v))(q:Q v H):b3G i σ H Q:=⟨v,h,q⟩
theorem r_C {v:V}(q:Q v H):tC v σ H Q:=q
theorem b6O {r:R2}{ta tb:TE}(q:ta σ H fun x H1=>tb σ H1 fun y H2=>r x y H2 Q):tOp r ta tb σ H Q:=q
theorem b4p {t:TE}{Qb:Bool→Hp→Prop}(q:t σ H fun x H'=>∃k,x= .bl k∧Qb k H'):b0C t σ H Qb:=q
theorem b6M {b:Bool}{Qb:Bool→Prop}(q:Qb b):∃k,V.bl b= .bl k∧Qb k:=⟨b,rfl,q⟩
theorem b5a {b:Bool}{Qb:Bool→Prop}(q:Qb b):∃k,a9P K (V.bl b) H k∧Qb k:=⟨b,rfl,q⟩
theorem b6e {t:TT}{Qb:Bool→Hp→Prop}(q:t σ H fun c H1=>Qb (!c) H1):b4t t σ H Qb:=q
theorem b5Y {t u:TT}{Qb:Bool→Hp→Prop}(q:t σ H fun c H1=>if c=true then u σ H1 Qb else Qb false H1):b4r t u σ H Qb:=q
theorem b6E {t u:TT}{Qb:Bool→Hp→Prop}(q:t σ H fun c H1=>if c=true then Qb true H1 else u σ H1 Qb):tOr t u σ H Qb:=q
theorem b2Y {ta tb:TE}(q:ta σ H fun x H1=>∃c,x= .bl c∧if c=true then tb σ H1 Q else Q (.bl false) H1):b0D ta tb σ H Q:=q
theorem b5C {ta tb:TE}(q:ta σ H fun x H1=>∃c,x= .bl c∧if c=true then Q (.bl true) H1 else tb σ H1 Q):b3h ta tb σ H Q:=q
theorem b3E {ta:TE}(q:ta σ H fun x H1=>∃c,x= .bl c∧Q (.bl (!c)) H1):b1b ta σ H Q:=q
theorem b6D {t:TT}{ta tb:TE}(q:t σ H fun c H1=>if c=true then ta σ H1 Q else tb σ H1 Q):tIf t ta tb σ H Q:=q
theorem b5c {Qa:List V→Hp→Prop}(q:Qa [] H):b1m σ H Qa:=q
theorem b3c {ta:TE}{tr:TA}{Qa:List V→Hp→Prop}(q:ta σ H fun x H1=>tr σ H1 fun xs H2=>Qa (x::xs) H2):a7y ta tr σ H Qa:=q
theorem b3Z {sp:Sp}{dvs:List V}{E:XK}{t:TA}(q:t σ H fun vs H1=>sp (vs++dvs) H1 Q E):a5U sp dvs E t σ H Q:=q
theorem b6r {r:List V→Hp→VK→Prop}{t:TA}(q:t σ H fun vs H1=>r vs H1 Q):tCB r t σ H Q:=q
theorem b6J {r:V→Option Int→Option Int→Hp→VK→Prop}{te:TE}{tl th:TO}(q:te σ H fun x H1=>tl σ H1 fun l H2=>th σ H2 fun u H3=>r x l u H3 Q):tSl r te tl th σ H Q:=q
theorem b0r {Qo:Option Int→Hp→Prop}(q:Qo none H):a4F σ H Qo:=q
theorem b4s {t:TE}{Qo:Option Int→Hp→Prop}(q:t σ H fun x H1=>∃i,x= .int i∧Qo (some i) H1):a9d t σ H Qo:=q
theorem b5R {i:Int}{Qo:Int→Prop}(q:Qo i):∃j,V.int i= .int j∧Qo j:=⟨i,rfl,q⟩
theorem b1z {r r':R2}{ta tb tc:TE}(q:ta σ H fun x H1=>tb σ H1 fun y H2=>r x y H2 fun z H3=>∃k,z= .bl k∧(if k=true then tc σ H3 fun w' H4=>r' y w' H4 Q else Q (.bl false) H3)):b3g r r' ta tb tc σ H Q:=q
theorem a8y {i j:Int}(q:Q (.int (i+j)) H):a5Z K (.int i) (.int j) H Q:= .inl ⟨i,j,rfl,rfl,q⟩
theorem K1 {i j:Str}(h:i.length+j.length≤sizeLine)(q:Q (.str (i++j)) H):a5Z K (.str i) (.str j) H Q:= .inr (.inl ⟨i,j,rfl,rfl,h,q⟩)
theorem b6A {g:Int→Int→V}{i j:Int}(q:Q (g i j) H):rI0 g (.int i) (.int j) H Q:=⟨i,j,rfl,rfl,q⟩
theorem r_i {C:Int→Int→Prop}{g:Int→Int→V}{i j:Int}(h:C i j)(q:Q (g i j) H):rI C g (.int i) (.int j) H Q:=⟨i,j,rfl,rfl,h,q⟩
theorem b0J {i j:Int}(q:Q (.bl (decide (i<j))) H):b4E (.int i) (.int j) H Q:= .inl ⟨i,j,rfl,rfl,q⟩
theorem b0s {i j:Str}(q:Q (.bl (decide (i.cps.toList<j.cps.toList))) H):b4E (.str i) (.str j) H Q:= .inr ⟨i,j,rfl,rfl,q⟩
theorem a6r {i j:Int}(q:Q (.bl (decide (i=j))) H):rEq (.int i) (.int j) H Q:=⟨rfl,by rw[a2L];rw[show(i==j)=decide (i=j) from Bool.beq_eq_decide_eq i j];exact q⟩
theorem a7H {i j:Bool}(q:Q (.bl (decide (i=j))) H):rEq (.bl i) (.bl j) H Q:=⟨rfl,by rw[a5a];rw[show(i==j)=decide (i=j) from Bool.beq_eq_decide_eq i j];exact q⟩
theorem a5Q {i j:Str}(q:Q (.bl (decide (i=j))) H):rEq (.str i) (.str j) H Q:=⟨rfl,by rw[a4y];rw[show(i==j)=decide (i=j) from Bool.beq_eq_decide_eq i j];exact q⟩
theorem b0W {c:Nat}{j:Str}(q:Q (.bl (decide (c∈j.cps.toList))) H):a8C K (sgn c) (.str j) H Q:= .inl ⟨c,j,rfl,rfl,q⟩
theorem a5X {c:Nat}{j:Str}(q:Q (.bl (!decide (c∈j.cps.toList))) H):a1L K (sgn c) (.str j) H Q:= .inl ⟨c,j,rfl,rfl,q⟩
theorem a0P {y:Str}(h:y.length≤sizeLine)(q:Q (.int y.length) H):a8O K [.str y] H Q:= .inl ⟨.str y,y.length,rfl,⟨h,rfl⟩,q⟩
theorem q9 {p:Addr}{xs:List V}(h:SqL K H p xs)(q:Q (.int xs.length) H):a8O K [.ref p] H Q:= .inl ⟨.ref p,xs.length,rfl,.inl ⟨xs,h,rfl⟩,q⟩
theorem K4 {p:Addr}{kvs:List (Key×V)}(h:Rd H p (.dK kvs))(q:Q (.int kvs.length) H):a8O K [.ref p] H Q:= .inr ⟨p,kvs,rfl,h,q⟩
theorem j7 {p:Addr}{xs:List V}{i:Int}{v:V}(h:SqL K H p xs)(e:atI xs i=some v)(q:Q v H):a6o K (.ref p) (.int i) H Q:= .inl (.inl ⟨p,xs,i,v,rfl,rfl,h,e,q⟩)
theorem b6 {p:Addr}{xs:List V}{i:Int}{v:V}(h:SqT K H p xs)(e:atI xs i=some v)(q:Q v H):a6o K (.ref p) (.int i) H Q:= .inl (.inr (.inl ⟨p,xs,i,v,rfl,rfl,h,e,q⟩))
theorem Y5 {z:Str}{i:Int}{c:Nat}(hz:z.length≤sizeLine)(e:atI z.cps.toList i=some c)(q:Q (sgn c) H):a6o K (.str z) (.int i) H Q:= .inl (.inr (.inr ⟨z,i,c,rfl,rfl,hz,e,q⟩))
theorem w5 {p:Addr}{y v:V}(g:DGet H p y (some v))(q:Q v H):a6o K (.ref p) y H Q:= .inr ⟨p,v,rfl,g,q⟩
theorem a3x {p:Addr}{xs:List V}{lo hi:Option Int}(h:SqL K H p xs)(q:∀p,H p=none→Q (.ref p) (upd H p (.lst (a2y xs lo hi)))):rSl K (.ref p) lo hi H Q:= .inl ⟨p,xs,rfl,h,q⟩
theorem a1x {z:Str}{lo hi:Option Int}(hz:z.length≤sizeLine)(q:Q (.str (Txt.slice z lo hi)) H):rSl K (.str z) lo hi H Q:= .inr (.inr ⟨z,rfl,hz,q⟩)
theorem a5K {l b:Addr}{xs zs:List V}(h1:H l=some (.lst xs))(h2:H b=some (.lst zs))(hz:xs.length+zs.length≤sizeLine)(q:∀p,H p=none→Q (.ref p) (upd H p (.lst (xs++zs)))):a5Z K (.ref l) (.ref b) H Q:= .inr (.inr (.inl ⟨l,b,xs,zs,rfl,rfl,h1,h2,hz,q⟩))
theorem b6w {neg:Bool}{x:V}{b:Bool}(q:Q (.bl (if neg then !decide (x= .bl b) else decide (x= .bl b))) H):rIs neg x (.bl b) H Q:=⟨.inr ⟨b,rfl⟩,q⟩
theorem b5X {neg:Bool}{x:V}(q:Q (.bl (if neg then !decide (x= .non) else decide (x= .non))) H):rIs neg x .non H Q:=⟨.inl rfl,q⟩
theorem a1S {x:V}{t T:String}(ty:TyB K H x t)(hT:T="str"∨T="int"∨T="bool"∨T="list"∨T="tuple"∨T="dict")(q:Q (.bl (a1c t T)) H):b1y K [x,.ty T] H Q:=⟨x,T,t,rfl,ty,hT,q⟩
theorem a5x {p:Addr}{bs:List Bool}(h:SqL K H p (bs.map V.bl))(q:Q (.bl (bs.all id)) H):a9g K [.ref p] H Q:=⟨p,bs,rfl,h,q⟩
theorem b5U {t:TA}(q:t σ H fun xs H1=>xs.length≤sizeLine∧∀p,H1 p=none→Q (.ref p) (upd H1 p (.tup xs))):b4k t σ H Q:=q
theorem b6d {t:TA}(q:t σ H fun xs H1=>xs.length≤sizeLine∧∀p,H1 p=none→Q (.ref p) (upd H1 p (.lst xs))):b3H t σ H Q:=q
theorem r9 {t u:TS}(q:t ⟨u ⟨nx,rt,bk,ct⟩,rt,bk,ct⟩ σ H):a6f t u ⟨nx,rt,bk,ct⟩ σ H:=q
theorem b2M (q:nx σ H):a9q ⟨nx,rt,bk,ct⟩ σ H:=q
theorem b4Z {te:TE}(q:te σ H rt):b2e te ⟨nx,rt,bk,ct⟩ σ H:=q
theorem b4i {te:TE}(q:te σ H fun _ H1=>nx σ H1):a9W te ⟨nx,rt,bk,ct⟩ σ H:=q
theorem b5O {c:TT}{t u:TS}(q:c σ H fun b H1=>if b=true then t ⟨nx,rt,bk,ct⟩ σ H1 else u ⟨nx,rt,bk,ct⟩ σ H1):b4q c t u ⟨nx,rt,bk,ct⟩ σ H:=q
theorem b4V {te:TE}{g:TG}(q:te σ H fun x H1=>g x σ H1 nx):a6F te g ⟨nx,rt,bk,ct⟩ σ H:=q
theorem b3J {i:Nat}{v:V}{Qs:St→Hp→Prop}(q:Qs (σ.set i (some v)) H):M0 i v σ H Qs:=q
end
end L2
set_option Elab.async false
set_option linter.all false
set_option maxRecDepth 100000
set_option maxHeartbeats 4000000
namespace L2
open PySem PySem.Spec PyProof.Rows
section
variable {X:Cx} {pins:List (Addr×Obj)} {σ:St} {H:Hp} {s:Shared} {d:Addr} {kvs:List (Key×V)} {o:Obj}
abbrev B6 (d:Addr)(o:Obj)(kvs:List (Key×V))(H:Hp):Hp:=upd H d (.frz o (.dK kvs))
theorem Inv.freeze (I:Inv X pins σ H s)(h:H d=some (.dK kvs))(ho:s.heap.get? d=some o):Inv X pins σ (B6 d o kvs H) s:=by
 have nd:∀b u,H b=some u→u≠ .dK kvs→b≠d:=fun b u e n z=>by
  subst z;rw[h] at e;exact n (Option.some.inj e).symm
 have hok:HOk X.prog X.w (B6 d o kvs H) s.heap:=fun b u e=>by
  have st:∀{a:Addr} {u:HO},ObjOk X.prog X.w H s.heap a u→ObjOk X.prog X.w (B6 d o kvs H) s.heap a u:=fun{a u} x=>
   x.stay (fun c v _ q=>q) (fun c q=>by unfold B6;rw[d0 (nd c _ q (by intro z;cases z))];exact q) fun c xs q=>by unfold B6;rw[d0 (nd c _ q (by intro z;cases z))];exact q
  by_cases hb:b=d
  ·subst hb
   unfold B6 at e
   rw[i7] at e
   cases e
   exact⟨ho,st (I.hok _ _ h)⟩
  ·unfold B6 at e
   rw[d0 hb] at e
   exact st (I.hok b u e)
 have q:=I.un (H':=B6 d o kvs H) (h':=s.heap) (t':=s.toks) ⟨fun b o e n hb hx=>e,fun b o e n hb hx=>⟨o.slots,e⟩,fun b o e n hx=>by
  unfold B6;rw[d0 (fun z=>by subst z;rw[h] at n;cases n)];exact n,fun b o e _=>⟨o,e⟩,fun b xs e=>by unfold B6;rw[d0 (nd b _ e (by intro z;cases z))];exact e,
  fun b o u e=>by unfold B6;rw[d0 (nd b _ e (by intro z;cases z))];exact e,fun b ps e=>⟨#[],by unfold B6;rw[d0 (nd b _ e (by intro z;cases z))];simpa using e⟩⟩ hok
 exact q
def b5N:Option HO→Option HO
 |some (.frz _ u)=>some u
 |o=>o
def thaw (d:Addr)(H:Hp):Hp:=fun b=>if b=d then b5N (H d) else H b
theorem a0U {b:Addr}(h:b≠d):thaw d H b=H b:=by unfold thaw;rw[if_neg h]
theorem a5m {u:HO}(h:H d=some (.frz o u)):thaw d H d=some u:=by unfold thaw;rw[if_pos rfl,h];rfl
theorem b1c {u:HO}(h:H d=some (.frz o u)):thaw d H=upd H d u:=by
 funext b
 by_cases hb:b=d
 ·subst hb;rw[a5m h,i7]
 ·rw[a0U hb,d0 hb]
theorem a7m (h:∀o u,H d≠some (.frz o u)):thaw d H=H:=by
 funext b
 by_cases hb:b=d
 ·subst hb
  unfold thaw
  rw[if_pos rfl]
  cases q:H b with
  |none=>rfl
  |some u=>cases u with
   |frz o u=>exact absurd q (h o u)
   |_=>rfl
 ·exact a0U hb
def b1F (X:Cx)(th:Hp→Hp):Prop:=∀(pins:List (Addr×Obj)) (σ:St) (H:Hp) (s:Shared),Inv X pins σ H s→Inv X pins σ (th H) s
theorem a2H:b1F X id:=fun _ _ _ _ I=>I
theorem a8o (hn:∀o u,X.H₀ d≠some (.frz o u)):b1F X (thaw d):=fun pins σ H s I=>by
 by_cases hf:∃o u,H d=some (.frz o u)
 ·obtain⟨o,u,h⟩:=hf
  rw[b1c h]
  have nd:∀b v,H b=some v→v≠ .frz o u→b≠d:=fun b v e n z=>by
   subst z;rw[h] at e;exact n (Option.some.inj e).symm
  have nn:∀b,H b=none→b≠d:=fun b e z=>by subst z;rw[h] at e;cases e
  have st:∀{a:Addr} {v:HO},ObjOk X.prog X.w H s.heap a v→ObjOk X.prog X.w (upd H d u) s.heap a v:=fun{a v} x=>
   x.stay (fun c v _ q=>q) (fun c q=>by rw[d0 (nd c _ q (by intro z;cases z))];exact q) fun c xs q=>by rw[d0 (nd c _ q (by intro z;cases z))];exact q
  refine⟨I.ok,I.os,I.bare,⟨I.base.keep,I.base.slot,fun b ob e n hx=>?_,I.base.there,fun b xs e=>?_,fun b ob v e=>?_,fun b ps e=>?_⟩,I.loc,I.cell,?_,fun x c e=>?_,fun p hp=>?_,fun b v e=>?_,I.len⟩
  ·have q:=I.base.free b ob e n hx
   rw[d0 (nn b q)];exact q
  ·have q:=I.base.tups b xs e
   rw[d0 (nd b _ q (by intro z;cases z))];exact q
  ·have q:=I.base.frzs b ob v e
   rw[d0 (fun z=>by subst z;exact hn ob v e)];exact q
  ·obtain⟨m,q⟩:=I.base.tbls b ps e
   exact⟨m,by rw[d0 (nd b _ q (by intro z;cases z))];exact q⟩
  ·rw[d0 (nn _ I.free)];exact I.free
  ·have q:=I.freeC x c e
   rw[d0 (nn _ q)];exact q
  ·obtain⟨a1,a2,a3⟩:=I.pin p hp
   exact⟨a1,by rw[d0 (nn _ a2)];exact a2,a3⟩
  ·by_cases hb:b=d
   ·subst hb
    rw[i7] at e
    cases e
    exact st (I.hok _ _ h).2
   ·rw[d0 hb] at e
    exact st (I.hok b v e)
 ·rw[a7m fun o u e=>hf ⟨o,u,e⟩];exact I
theorem Same.thaw {H H':Hp}(h:H d=some (.dK kvs))(e:Same (B6 d o kvs H) H'):Same H (thaw d H'):=fun b u q=>by
 by_cases hb:b=d
 ·subst hb
  rw[h] at q;cases q
  have z:=e b _ (show B6 b o kvs H b=some _ from i7)
  exact a5m z
 ·rw[a0U hb]
  exact e b u (by unfold B6;rw[d0 hb];exact q)
end
abbrev TI2:=St→Hp→(It→(Hp→Hp)→Hp→Prop)→Prop
def PI2 (X:Cx)(tg iter:Expr)(wi:TI2):Prop:=
 ∀(pins:List (Addr×Obj)) (s:Shared) (σ:St) (H:Hp) (R:It→(Hp→Hp)→Hp→Prop),Inv X pins σ H s→wi σ H R→
  wpAny (model X.prog X.w) X.A (eval iter X.env) (fun v s1=>wpAny (model X.prog X.w) X.A (pyIter v) (PIE X pins σ tg fun J H'=>∃th,b1F X th∧R J th H') X.xe s1) X.xe s
theorem PI.two {X:Cx}{tg iter:Expr}{wi:TI}(h:PI X tg iter wi):PI2 X tg iter (fun σ H R=>wi σ H fun J H'=>R J id H'):=by
 intro pins s σ H R I q
 refine thn (h pins s σ H _ I q) fun v s1 h1=>thn h1 fun itv s2 h2=>?_
 obtain⟨it,fp,tn,J,H',e,I',T,st,f,q⟩:=h2
 exact⟨it,fp,tn,J,H',e,I',T,st,f,id,a2H,q⟩
def b1A (J:It)(th:Hp→Hp)(g:TG)(tb:TS)(nx:St→Hp→Prop)(rt:VK)(σ:St)(H1:Hp):Prop:=∃W:Nat→Nat→St→Hp→Prop,(∃m,W 0 m σ H1)∧∀i m σ H,W i m σ H→
 (J.stop i H∧nx σ (th H))∨(J.go i H∧∃N:St→Hp→Prop,(∀σ' H',N σ' H'→∃m',m'<m∧W (i+1) m' σ' H')∧∀x H',J.yld i H x H'→g x σ H' fun σ2 H2=>tb ⟨N,fun v H=>rt v (th H),fun σ H=>nx σ (th H),N⟩ σ2 H2)
def b0b (wi:TI2)(g:TG)(tb:TS):TS:=fun D σ H=>wi σ H fun J th H1=>b1A J th g tb D.nx D.rt σ H1
theorem b1E {X:Cx}{tg iter:Expr}{body:List Stmt}{wi:TI2}{g:TG}{tb:TS}{pos:Pos}(hp:PassesOwn (model X.prog X.w) X.A X.env X.xe)(hc:X.calm=true)(hi:PI2 X tg iter wi)(hg:PG X tg g)(hb:PSs X body tb)
  (hs:∀x,foldedSetIterable iter X.env x=pure x:=by intro _;rfl):PS X (.For tg iter body [] pos) (b0b wi g tb):=by
 intro pins s σ H D I h
 refine wpAny_For (thn (hi pins s σ H _ I h) fun v s1 h1=>thn h1 fun itv s2 h2=>?_) hs
 obtain⟨it,fp,tn,J,H2,e,I2,T,st2,f2,th,hth,W,⟨m0,w0⟩,turn⟩:=h2
 subst e
 have stat:∀{H':Hp},(∀b∈fp,H' b=none)→∀b∈fp,a1H X pins H' b:=fun hn b hb=>⟨hn b hb,(f2 b hb).2⟩
 refine codeAny_forLoop_any (fun n s'=>∃i σ' H',Inv X pins σ' H' s'∧tn i s'.heap∧(∀b∈fp,H' b=none)∧W i n σ' H') ?_ m0 ⟨0,σ,H2,I2,st2,fun b hb=>(f2 b hb).1,w0⟩
 rintro n s3 ⟨i,σ3,H3,I3,st3,fr3,w3⟩
 rcases turn i n σ3 H3 w3 with⟨stop,qn⟩|⟨go,N,hN,step⟩
 ·refine wpAny_passesOwn hp (thn (T.done X rfl rfl rfl hc i pins s3 σ3 H3 X.xe I3 (stat fr3) st3 stop) fun r s4 ⟨hr,I4⟩=>?_)
  subst hr
  exact wpAny_execs_nil ⟨σ3,th H3,hth _ _ _ _ I4,qn⟩
 ·refine wpAny_passesOwn hp (thn (T.item X rfl rfl rfl hc i pins s3 σ3 H3 X.xe I3 (stat fr3) st3 go) fun r s4 ⟨u,hr,h4⟩=>?_)
  subst hr
  refine wpAny_passesOwn hp (thn h4 fun _ s5 ⟨x,H5,I5,r5,y5,st5,fr5⟩=>?_)
  have I5':=I5.pinned (stat fr5) (T.obj _ _ st5)
  refine wpAny_passesOwn hp (thn (hg _ s5 σ3 H5 x u _ I5' r5 (step x H5 y5)) fun _ s6 ⟨σ6,H6,I6,q6⟩=>?_)
  refine wpAny_passesOwn hp (thn (hb _ s6 σ6 H6 _ I6 q6) fun f s7 q7=>?_)
  have again:∀{σ7:St} {H7:Hp},Inv X (pins++a3r fp s5.heap) σ7 H7 s7→N σ7 H7→∃m,m<n∧∃i σ' H',Inv X pins σ' H' s7∧tn i s7.heap∧(∀b∈fp,H' b=none)∧W i m σ' H':=fun{σ7 H7} I7 n7=>by
   obtain⟨m',hm,w7⟩:=hN σ7 H7 n7
   refine⟨m',hm,i+1,σ7,H7,I7.unpinned,T.keep _ _ _ st5 fun b hb o e=>(I7.pin (b,o) (List.mem_append_right _ (List.mem_append_right _ (a0b hb e)))).1,fun b hb=>?_,w7⟩
   obtain⟨o,e,d⟩:=T.obj _ _ st5 b hb
   exact(I7.pin (b,o) (List.mem_append_right _ (List.mem_append_right _ (a0b hb e)))).2.1
  cases f with
  |next=>obtain⟨σ7,H7,I7,n7⟩:=q7;exact again I7 n7
  |cont=>obtain⟨σ7,H7,I7,n7⟩:=q7;exact again I7 n7
  |brk=>obtain⟨σ7,H7,I7,q7⟩:=q7;exact⟨σ7,th H7,hth _ _ _ _ I7.unpinned,q7⟩
  |ret v=>obtain⟨x7,σ7,H7,I7,r7,q7⟩:=q7;exact⟨x7,σ7,th H7,hth _ _ _ _ I7.unpinned,r7,q7⟩
def a9Y (own:List Str)(js:List Nat)(J:It)(th:Hp→Hp)(g:TG)(ti:TT)(te:TE)(Q:VK)(σ:St)(H1:Hp):Prop:=∃W:Nat→Nat→List V→Hp→Prop,(∃m,W 0 m [] H1)∧∀i m out H,W i m out H→
 (J.stop i H∧∀D,H D=none→out.length≤sizeLine∧Q (.ref D) (th (upd H D (.lst out))))∨
 (J.go i H∧∀x H',J.yld i H x H'→g x (stB own js σ) H' fun σ2 H2=>σ2.drop own.length=js.map (fun j=>(σ[j]?).join)∧ti σ2 H2 fun b H3=>
  if b=true then te σ2 H3 fun v H4=>out.length≤sizeLine∧∃m',m'<m∧W (i+1) m' (out++[v]) H4 else ∃m',m'<m∧W (i+1) m' out H3)
def a3c (own:List Str)(js:List Nat)(wi:TI2)(g:TG)(ti:TT)(te:TE):TE:=fun σ H Q=>wi σ H fun J th H1=>a9Y own js J th g ti te Q σ H1
def b4x:TT:=fun _ H Q=>Q true H
theorem b5o {X:Cx}:a6Q X [] b4x:=b6F
theorem a8l {X:Cx}{own:List Str}{js:List Nat}{scope:Scope}{tg iter elt:Expr}{ifs:List Expr}{pos:Pos}{g:TG}{ti:TT}{te:TE}{wi:TI2}(S:scB X own js scope=true)(hc:X.calm=true)(hit:PI2 X tg iter wi)
  (hg:∀C s H fp,PG (cxB X own js scope C s H fp) tg g) (hi:∀C s H fp,a6Q (cxB X own js scope C s H fp) ifs ti) (he:∀C s H fp,PE (cxB X own js scope C s H fp) elt te)
  (hs:∀x,foldedSetIterable iter X.env x=pure x:=by intro _;rfl):
  PE X (.ListComp elt [⟨tg,iter,ifs,0⟩] scope pos) (a3c own js wi g ti te):=by
 have SB:=a9p S
 intro pins s σ H Q I h
 rw[eval_ListComp]
 refine wpAny_comprehension_free (use:=none) rfl hs (a3j (SB.cells I)) SB.kind SB.names (thn (hit pins s σ H _ I h) fun v s1 h1=>thn h1 fun itv s2 h2=>?_)
 obtain⟨it,fp,tn,J,H2,e,I2,T,st2,f2,th,hth,W,⟨m0,w0⟩,turn⟩:=h2
 subst e
 refine wpAny_newObj_type (wpAny_newFunctionEnv SB.nocell (by intro y hy;simp at hy) (fun h₁ hns₁ hsb₁=>?_) SB.kind)
 dsimp only at hns₁ hsb₁⊢
 generalize hH2:s2.heap.push {cls:= .type "list",dict:=none,data:= .seq ([]:List Value).toArray}=G2 at hns₁ hsb₁⊢
 have hCs:G2.objs.size=s2.heap.objs.size+1:=by rw[←hH2,Heap.size_push]
 have hDC:s2.heap.objs.size≠G2.objs.size:=by rw[hCs];exact Nat.ne_of_lt (Nat.lt_succ_self _)
 have hC:s2.heap.objs.size≤G2.objs.size:=by rw[hCs];exact Nat.le_succ _
 have old:∀b o,s2.heap.get? b=some o→h₁.get? b=some o:=fun b o e=>
  hsb₁.extBut b o (Nat.ne_of_lt (Nat.lt_of_lt_of_le (Heap.lt_size e) hC)) (Heap.get?_push_of_some _ (hH2▸Heap.get?_push_of_some _ e))
 have hob:∀b∈fp,∃o,s2.heap.get? b=some o:=fun b hb=>let ⟨o,e,_⟩:=T.obj _ _ st2 b hb;⟨o,e⟩
 have hacc:h₁.get? s2.heap.objs.size=some {cls:= .type "list",data:= .seq ([]:List Value).toArray}:=
  hsb₁.extBut _ _ hDC (Heap.get?_push_of_some _ (hH2▸Heap.get?_push_size _ rfl))
 have loop:∀s3:Shared,s3={s2 with heap:=h₁,toks:=s2.toks+([]:List (Str×Value)).length}→
   codeAny (model X.prog X.w) X.A (.compLoop (.ListComp elt [⟨tg,iter,ifs,0⟩] scope pos) 0 (.ref it) (.ref s2.heap.objs.size) (compEnvC scope (a2x scope X.env) G2.objs.size X.env))
    (compPost (model X.prog X.w) X.A X.xe none (EP X pins σ Q) (.ref s2.heap.objs.size) G2.objs.size) s3:=by
  rintro s3 rfl
  refine a4r (K:=fun out H'=>Q (.ref s2.heap.objs.size) (th (upd H' s2.heap.objs.size (.lst out)))) SB hc T I2 f2 (Nat.le_refl _) hC hDC hob (hg _ _ _ _) (hi _ _ _ _) (he _ _ _ _) W (fun i m out H' w=>?_) (fun out H' s' B hl k=>?_) w0
   ⟨Inv.block SB I2 f2 hob hC hns₁ old,I2.hok.fresh (Nat.le_refl _),[],_,.nil,hacc⟩ (T.keep _ _ _ st2 fun b _ o e=>old b o e) (fun b hb=>(f2 b hb).1)
  ·rcases turn i m out H' w with⟨a,b⟩|c
   ·exact .inl ⟨a,fun n=>b _ n⟩
   ·exact .inr c
  ·obtain⟨mm,hn,_⟩:=B.inv.loc
   exact⟨mm,hn,fun h' sb=>⟨.ref s2.heap.objs.size,_,hth _ _ _ _ (B.out I2 f2 (Nat.le_refl _) hC hDC hl sb),rfl,k⟩⟩
 exact codeAny_compStart_list (loop _ rfl) (T.self _ 0 _ _ _ (T.keep _ _ _ st2 fun b _ o e=>old b o e) (loop _ rfl))
theorem N8 {α β:Type}{F:α→β→Prop}:∀{l₁:List α} {l₂:List β} {i:Nat} {a:α},Paired F l₁ l₂→l₁[i]?=some a→∃b,l₂[i]?=some b∧F a b
 |_,_,_,_,.nil,e=>by simp at e
 |_,_,0,_,.cons r _,e=>by simp at e;subst e;exact⟨_,rfl,r⟩
 |_,_,i+1,a,.cons _ t,e=>by
  obtain⟨u,h1,h2⟩:=N8 (i:=i) (a:=a) t (by simpa using e)
  exact⟨u,by simpa using h1,h2⟩
section
variable {P:Program} {w:World}
theorem a1M {k:Key}{v:Value}(h:(j8 P w).is k v=true):RelV (kV k) v:=by
 rcases u6 (show a0Z k v=true from h) with⟨i,t,rfl,rfl⟩|⟨x,t,rfl,rfl⟩
 ·exact⟨t,rfl⟩
 ·exact⟨t,rfl⟩
theorem b0I {k:Key}{v:Value}(h:(j8 P w).is k v=true):∀a,v≠ .ref a:=by
 rcases u6 (show a0Z k v=true from h) with⟨i,t,rfl,rfl⟩|⟨x,t,rfl,rfl⟩<;>exact fun a z=>by cases z
structure a8V (P:Program) (w:World) (d:Addr) (o:Obj) (kvs:List (Key×V)) (vs:List (Key×Value)) (ep:Nat):Prop where
 kv:KV kvs vs
 at_:∀h:Heap,h.get? d=some o→h.DictAt (j8 P w) d vs ep
 nd:(kvs.map (·.1)).Nodup
theorem a1P {H:Hp}{h:Heap}{d:Addr}{kvs:List (Key×V)}(ok:HOk P w H h)(e:Rd H d (.dK kvs)):(d==sysModules)=false∧∃o vs ep,h.get? d=some o∧a8V P w d o kvs vs ep:=by
 obtain⟨z,hd,vs,rel,o,es,ep,h1,r⟩:=J0 ok e
 refine⟨hd,o,vs,ep,h1,rel,fun h' e'=>⟨o,es,e',r⟩,?_⟩
 rw[KV.keys rel]
 exact r.2.2.2.2
def Itd (d:Addr)(o:Obj)(kvs:List (Key×V))(f:Key×V→V):It:=
 ⟨fun i H=>H d=some (.frz o (.dK kvs))∧i<kvs.length,fun i H x H'=>H'=H∧∃kv,kvs[i]?=some kv∧x=f kv,fun i H=>H d=some (.frz o (.dK kvs))∧kvs.length≤i⟩
def Iti (d:Addr)(o:Obj)(kvs:List (Key×V)):It:=
 ⟨fun i H=>H d=some (.frz o (.dK kvs))∧i<kvs.length,fun i H x H'=>∃t kv,kvs[i]?=some kv∧H t=none∧x= .ref t∧H'=upd H t (.tup [kV kv.1,kv.2]),fun i H=>H d=some (.frz o (.dK kvs))∧kvs.length≤i⟩
theorem a7X {K:PySem.W.Frag}{tg:Expr}{d:Addr}{o:Obj}{kvs:List (Key×V)}{vs:List (Key×Value)}{ep:Nat}(D:a8V P w d o kvs vs ep)(it:Addr):
  a2q P w K tg (Itd d o kvs fun kv=>kV kv.1) [it] it (fun i h=>h.IsKeyIter it d i vs.length ep) where
 mem:=by simp
 obj:=fun i h st b hb=>by
  have e:b=it:=by simpa using hb
  subst e
  obtain⟨o,e,c,dd⟩:=st
  exact⟨o,e,fun v z=>by rw[dd] at z;cases z⟩
 keep:=fun i h h' st k=>st.at fun o e=>k it (by simp) o e
 item:=by
  intro X hP hw hK hc i pins s σ H E I hf st hg
  subst hP hw hK
  obtain⟨hfz,hi⟩:=hg
  obtain⟨f0,f1,f2,f3,f4,f5⟩:=hf it (by simp)
  have dat:=D.at_ s.heap (I.hok d _ hfz).1
  have hl:=KV.length D.kv
  obtain⟨kv,hkv⟩:∃kv,kvs[i]?=some kv:=⟨kvs[i],by simp [hi]⟩
  obtain⟨⟨k,x⟩,hx⟩:∃p,vs[i]?=some p:=⟨vs[i]'(by omega),by simp [show i<vs.length by omega]⟩
  have hkk:kv.1=k:=by
   have e1:(kvs.map (·.1))[i]?=some kv.1:=by rw[List.getElem?_map,hkv];rfl
   rw[KV.keys D.kv,List.getElem?_map,hx] at e1
   exact(Option.some.inj e1).symm
  refine wpAny_pyNext_dict_item st dat hx fun key h' hkey hit' hs'=>?_
  have I1:Inv X pins σ H {s with heap:=h'}:=I.turned (t':=s.toks) (fun b o hb e=>hs'.extBut b o hb e) f0 f1 f3 f4 f5
  exact⟨key,rfl,a7x (b0I hkey) ⟨kV kv.1,H,I1,by rw[hkk];exact a1M hkey,⟨rfl,kv,hkv,rfl⟩,hit',fun b hb=>(hf b hb).1⟩⟩
 done:=by
  intro X hP hw hK hc i pins s σ H E I hf st hg
  subst hP hw hK
  obtain⟨hfz,hi⟩:=hg
  obtain⟨f0,f1,f2,f3,f4,f5⟩:=hf it (by simp)
  have dat:=D.at_ s.heap (I.hok d _ hfz).1
  have hl:=KV.length D.kv
  exact wpAny_pyNext_dict_end (I.ok.hd hc) st dat (by simp;omega) fun h' eb=>⟨rfl,I.turned (t':=s.toks) (fun b o hb e=>eb b o hb e) f0 f1 f3 f4 f5⟩
 self:=fun _ _ _ _ _ st h=>wpAny_pyIter_keyiter st h
theorem a7i {K:PySem.W.Frag}{elts:List Expr}{x1}{tpos:Pos}{d:Addr}{o:Obj}{kvs:List (Key×V)}{vs:List (Key×Value)}{ep:Nat}(D:a8V P w d o kvs vs ep)(it:Addr):
  a2q P w K (.Tuple elts x1 tpos) (Iti d o kvs) [it] it (fun i h=>∃ok ov,IsItemIter h it d i vs.length ep ok ov) where
 mem:=by simp
 obj:=fun i h st b hb=>by
  have e:b=it:=by simpa using hb
  subst e
  obtain⟨ok,ov,e⟩:=st
  exact⟨_,e,fun v z=>by
   have z':Data.fields _=Data.cell v:=z
   cases z'⟩
 keep:=fun i h h' st k=>let ⟨ok,ov,e⟩:=st;⟨ok,ov,k it (by simp) _ e⟩
 item:=by
  intro X hP hw hK hc i pins s σ H E I hf st hg
  subst hP hw hK
  obtain⟨hfz,hi⟩:=hg
  obtain⟨ok,ov,st⟩:=st
  obtain⟨f0,f1,f2,f3,f4,f5⟩:=hf it (by simp)
  have dat:=D.at_ s.heap (I.hok d _ hfz).1
  have hl:=KV.length D.kv
  obtain⟨kv,hkv⟩:∃kv,kvs[i]?=some kv:=⟨kvs[i],by simp [hi]⟩
  obtain⟨⟨k,x⟩,hx⟩:∃p,vs[i]?=some p:=⟨vs[i]'(by omega),by simp [show i<vs.length by omega]⟩
  obtain⟨hkk,rx⟩:kv.1=k∧RelV kv.2 x:=by
   have q:=N8 D.kv hkv
   obtain⟨p,hp,r⟩:=q
   rw[hx] at hp;cases hp
   exact r
  refine wpAny_pyNext_items_item st dat hx fun key h' hkey hout htup hsz hk=>?_
  have hitlt:it<s.heap.objs.size:=Heap.lt_size st
  refine⟨.ref s.heap.objs.size,rfl,wpAny_letOwnedTupleGo_items (s:={s with heap:=h'}) hout fun h'' hit'' hs''=>?_⟩
  have hs2:Heap.SameBut it h' h'':=hs''
  have kp:∀b o,b≠it→s.heap.get? b=some o→h''.get? b=some o:=fun b o hb e=>hs2.extBut b o hb (hk b o hb e)
  have tupAt:h''.get? s.heap.objs.size=some {cls:= .type "tuple",data:= .seq #[key,x]}:=hs2.extBut _ _ (Nat.ne_of_gt hitlt) htup
  have fresh:H s.heap.objs.size=none:=I.hok.fresh (Nat.le_refl _)
  have nsz:∀b o,s.heap.get? b=some o→b≠s.heap.objs.size:=fun b o e=>Nat.ne_of_lt (Heap.lt_size e)
  have hH:∀b u,H b=some u→b≠s.heap.objs.size∧b≠it:=fun b u e=>⟨g0 e fresh,g0 e f0⟩
  have hok:HOk X.prog X.w (upd H s.heap.objs.size (.tup [kV kv.1,kv.2])) h'':=fun b u e=>by
   by_cases hb:b=s.heap.objs.size
   ·subst hb
    rw[i7] at e;cases e
    refine⟨by show 2≤sizeLine;decide,[key,x],.cons (by rw[hkk];exact a1M hkey) (.cons rx .nil),⟨_,tupAt,rfl,_,rfl⟩⟩
   ·rw[d0 hb] at e
    refine(I.hok b u e).stay (fun c v hc q=>kp c v ?_ q) (fun c q=>by rw[d0 (hH c _ q).1];exact q) fun c xs q=>by rw[d0 (hH c _ q).1];exact q
    rcases hc with z|z
    ·rw[z];exact(hH b _ e).2
    ·exact(hH c _ z).2
  have I1:Inv X pins σ (upd H s.heap.objs.size (.tup [kV kv.1,kv.2])) {s with heap:=h''}:=by
   refine I.call' (s':={s with heap:=h''}) (ch:=[it]) rfl ⟨fun b o e n hb hx=>kp b o (by simpa using hx) e,fun b o e n hb hx=>⟨o.slots,kp b o (by simpa using hx) e⟩,fun b o e n hx=>by rw[d0 (nsz b o e)];exact n,
    fun b o e hx=>⟨o,kp b o (by simpa using hx) e⟩,fun b xs e=>by rw[d0 (hH b _ e).1];exact e,fun b ob v e=>by rw[d0 (hH b _ e).1];exact e,fun b ps e=>⟨#[],by rw[d0 (hH b _ e).1];simpa using e⟩⟩ hok I.bare fun b hb=>?_
   have e:b=it:=by simpa using hb
   subst e
   exact⟨f3,f1,f4,f5⟩
  refine⟨.ref s.heap.objs.size,_,I1,rfl,⟨_,kv,hkv,fresh,rfl,rfl⟩,⟨_,_,hit''⟩,fun b hb=>?_⟩
  have e:b=it:=by simpa using hb
  subst e
  rw[d0 (Nat.ne_of_lt hitlt)];exact f0
 done:=by
  intro X hP hw hK hc i pins s σ H E I hf st hg
  subst hP hw hK
  obtain⟨hfz,hi⟩:=hg
  obtain⟨ok,ov,st⟩:=st
  obtain⟨f0,f1,f2,f3,f4,f5⟩:=hf it (by simp)
  have dat:=D.at_ s.heap (I.hok d _ hfz).1
  have hl:=KV.length D.kv
  exact wpAny_pyNext_items_end (I.ok.hd hc) st dat (by simp;omega) fun h' eb=>⟨rfl,I.turned (t':=s.toks) (fun b o hb e=>eb b o hb e) f0 f1 f3 f4 f5⟩
 self:=fun _ _ _ _ _ st h=>by
  obtain⟨ok,ov,st⟩:=st
  exact PySem.W.kcp_self st h
end
section
variable {X:Cx} {tg:Expr}
def rIterD (mk:Addr→Obj→List (Key×V)→It)(v:V)(H:Hp)(R:It→(Hp→Hp)→Hp→Prop):Prop:=
 ∃d kvs,v= .ref d∧((H d=some (.dK kvs)∧((kvs.map (·.1)).Nodup→∀o,R (mk d o kvs) (thaw d) (B6 d o kvs H)))∨(∃o,H d=some (.frz o (.dK kvs))∧((kvs.map (·.1)).Nodup→R (mk d o kvs) id H)))
theorem rIterD.rd {mk:Addr→Obj→List (Key×V)→It}{v:V}{H:Hp}{R:It→(Hp→Hp)→Hp→Prop}(h:rIterD mk v H R):∃d kvs,v= .ref d∧Rd H d (.dK kvs):=by
 obtain⟨d,kvs,e,h⟩:=h
 rcases h with⟨h,_⟩|⟨o,h,_⟩
 ·exact⟨d,kvs,e,.inl h⟩
 ·exact⟨d,kvs,e,.inr ⟨o,h⟩⟩
theorem rIterD.go {mk:Addr→Obj→List (Key×V)→It}{x:V}{u:Value}{pins:List (Addr×Obj)}{σ:St}{H:Hp}{s:Shared}{R:It→(Hp→Hp)→Hp→Prop}(I:Inv X pins σ H s)(r:RelV x u)(h:rIterD mk x H R):
  ∃d kvs o vs ep th H',u= .ref d∧(d==sysModules)=false∧s.heap.get? d=some o∧a8V X.prog X.w d o kvs vs ep∧Inv X pins σ H' s∧b1F X th∧R (mk d o kvs) th H':=by
 obtain⟨d,kvs,e,h⟩:=h
 subst e
 cases r
 rcases h with⟨h,q⟩|⟨o,h,q⟩
 ·obtain⟨hd,o,vs,ep,ho,D⟩:=a1P I.hok (.inl h)
  refine⟨d,kvs,o,vs,ep,thaw d,_,rfl,hd,ho,D,I.freeze h ho,a8o fun ob v z=>?_,q D.nd o⟩
  have z':=I.base.frzs d ob v z
  rw[h] at z';cases z'
 ·obtain⟨hd,o',vs,ep,ho,D⟩:=a1P I.hok (.inr ⟨o,h⟩)
  have e:=(I.hok d _ h).1
  rw[ho] at e;cases e
  exact⟨d,kvs,_,vs,ep,id,H,rfl,hd,ho,D,I,a2H,q D.nd⟩
theorem rIter.mono {K:PySem.W.Frag}{v:V}{H:Hp}{R R':It→Hp→Prop}(h:rIter K v H R)(k:∀J H,R J H→R' J H):rIter K v H R':=by
 rcases h with⟨a,e,hq,q⟩|⟨a,e,hq,q⟩|⟨x,e,q⟩
 ·exact .inl ⟨a,e,hq,k _ _ q⟩
 ·exact .inr (.inl ⟨a,e,hq,k _ _ q⟩)
 ·exact .inr (.inr ⟨x,e,k _ _ q⟩)
abbrev ItK (d:Addr)(o:Obj)(kvs:List (Key×V)):It:=Itd d o kvs fun kv=>kV kv.1
def b0O (K:PySem.W.Frag)(v:V)(H:Hp)(R:It→(Hp→Hp)→Hp→Prop):Prop:=rIter K v H (fun J H'=>R J id H')∨rIterD ItK v H R
def iIt (K:PySem.W.Frag)(tl:TE):TI2:=fun σ H R=>tl σ H fun v H1=>b0O K v H1 R
theorem b5B {l:Expr}{tl:TE}(hl:PE X l tl):PI2 X tg l (iIt X.K tl):=by
 intro pins s σ H R I h
 refine thn (hl pins s σ H _ I h) fun v s1 ⟨x,H1,I1,r1,q1⟩=>?_
 rcases q1 with q1|q1
 ·exact a9w I1 r1 (q1.mono fun J H' q=>⟨id,a2H,q⟩)
 ·obtain⟨d,kvs,o,vs,ep,th,H',rfl,hd,ho,D,I2,hth,q⟩:=rIterD.go I1 r1 q1
  refine wpAny_pyIter_dict hd (D.at_ _ ho) ?_
  refine⟨s1.heap.objs.size,[s1.heap.objs.size],_,_,H',rfl,I2.kept (t':=s1.toks) fun b o e=>Heap.get?_push_of_some _ e,a7X D _,⟨_,Heap.get?_push_size _ rfl,rfl,rfl⟩,fun b hb=>?_,th,hth,q⟩
  have e:b=s1.heap.objs.size:=by simpa using hb
  subst e
  exact I2.fpOk (Nat.le_refl _) (I2.hok.fresh (Nat.le_refl _))
def a7b (tl:TE):TI2:=fun σ H R=>tl σ H fun v H1=>rIterD Iti v H1 R
theorem b0A {elts:List Expr}{x1}{tpos:Pos}{o:Expr}{tl:TE}{apos cpos:Pos}(ho:PE X o tl)
  (hbase:attributeBase o "items" X.env (eval o X.env)=eval o X.env:=by rfl) (hline:(apos.endLine==cpos.line)=true:=by rfl):
  PI2 X (.Tuple elts x1 tpos) (.Call (.Attribute o "items" apos) [] [] cpos) (a7b tl):=by
 intro pins s σ H R I h
 refine wpAny_Call_method0_late hbase hline (thn (ho pins s σ H _ I h) fun v s1 ⟨x,H1,I1,r1,q1⟩=>?_)
 obtain⟨d,kvs,ob,vs,ep,th,H',rfl,hd,hob,D,I2,hth,q⟩:=rIterD.go I1 r1 q1
 have dof:=(D.at_ _ hob).dictOf
 refine⟨"dict","dict.items",F.plainAttrs_dict,F.slot_dict_items,F.type_dict_items,dof.typeIs,dof.mapOf.noDict,Calls.callWith_builtin rfl (PySem.evalArgs_none ?_)⟩
 refine call_meetsIn F.slot_dict_items dof.typeIs F.entry_dict_items (F.args_dict_items_1 _) (meets_dict_items (j8 X.prog X.w) d hd) ⟨⟨vs,dof⟩,?_⟩
 have I3:Inv X pins σ H' {s1 with heap:=s1.heap.push {cls:= .type "dict_items",data:= .fields #[.ref d]}}:=I2.kept (t':=s1.toks) fun b o e=>Heap.get?_push_of_some _ e
 refine wpAny_pyIter_items (s:={s1 with heap:=s1.heap.push {cls:= .type "dict_items",data:= .fields #[.ref d]}}) (knd:=j8 X.prog X.w) ⟨_,Heap.get?_push_size _ rfl,rfl,rfl⟩ (D.at_ _ (Heap.get?_push_of_some _ hob)) ?_
 generalize hG:s1.heap.push {cls:= .type "dict_items",data:= .fields #[.ref d]}=G at I3⊢
 refine⟨G.objs.size,[G.objs.size],_,_,H',rfl,I3.kept (t':=s1.toks) fun b o e=>Heap.get?_push_of_some _ e,a7i D _,⟨.none,.none,Heap.get?_push_size _ rfl⟩,fun b hb=>?_,th,hth,q⟩
 have e:b=G.objs.size:=by simpa using hb
 subst e
 exact I3.fpOk (Nat.le_refl _) (I3.hok.fresh (Nat.le_refl _))
end
end L2
set_option Elab.async false
set_option linter.all false
set_option maxRecDepth 100000
set_option maxHeartbeats 4000000
namespace L2
open PySem PySem.Spec PyProof.Rows
section
variable {J:It} {th:Hp→Hp} {n:Nat} {g:TG} {tb:TS} {nx bk ct:St→Hp→Prop} {rt:VK} {σ:St} {H:Hp} {own:List Str} {js:List Nat} {ti:TT} {te:TE} {Q:VK} {K:PySem.W.Frag}
theorem E1 (Pv:Nat→St→Hp→Prop)(h0:Pv 0 σ H)(hgo:∀i σ H,i<n→Pv i σ H→J.go i H)
  (hs:∀i x σ H H',i<n→Pv i σ H→J.yld i H x H'→g x σ H' fun σ2 H2=>tb ⟨Pv (i+1),fun v H=>rt v (th H),fun σ H=>nx σ (th H),Pv (i+1)⟩ σ2 H2)
  (hd:∀σ H,Pv n σ H→J.stop n H∧nx σ (th H)):
  b1A J th g tb nx rt σ H:=by
 refine⟨fun i m σ H=>m=n -i∧i≤n∧Pv i σ H,⟨n,by simp,Nat.zero_le _,h0⟩,?_⟩
 rintro i m σ H ⟨rfl,hi,p⟩
 by_cases hlt:i<n
 ·exact .inr ⟨hgo i σ H hlt p,Pv (i+1),fun σ' H' p'=>⟨n -(i+1),by omega,rfl,hlt,p'⟩,fun x H' y=>hs i x σ H H' hlt p y⟩
 ·have e:i=n:=by omega
  subst e
  exact .inl (hd σ H p)
theorem z5 (Pv:Nat→List V→Hp→Prop)(h0:Pv 0 [] H)(hgo:∀i out H,i<n→Pv i out H→J.go i H)
  (hs:∀(N:List V→Hp→Prop) i x out H H',i<n→Pv i out H→J.yld i H x H'→(∀out' H',Pv (i+1) out' H'→N out' H')→g x (stB own js σ) H' fun σ2 H2=>σ2.drop own.length=js.map (fun j=>(σ[j]?).join)∧ti σ2 H2 fun b H3=>
   if b=true then te σ2 H3 fun v H4=>out.length≤sizeLine∧N (out++[v]) H4 else N out H3)
  (hd:∀out H,Pv n out H→J.stop n H∧∀D,H D=none→out.length≤sizeLine∧Q (.ref D) (th (upd H D (.lst out)))):
  a9Y own js J th g ti te Q σ H:=by
 refine⟨fun i m out H=>m=n -i∧i≤n∧Pv i out H,⟨n,by simp,Nat.zero_le _,h0⟩,?_⟩
 rintro i m out H ⟨rfl,hi,p⟩
 by_cases hlt:i<n
 ·exact .inr ⟨hgo i out H hlt p,fun x H' y=>hs (fun out' H'=>∃m',m'<n -i∧m'=n -(i+1)∧i+1≤n∧Pv (i+1) out' H') i x out H H' hlt p y fun out' H' q=>⟨n -(i+1),by omega,rfl,hlt,q⟩⟩
 ·have e:i=n:=by omega
  subst e
  exact .inl (hd out H p)
theorem b5q {wi:TI2}(q:wi σ H fun J th H1=>b1A J th g tb nx rt σ H1):b0b wi g tb ⟨nx,rt,bk,ct⟩ σ H:=q
theorem b4D {wi:TI2}(q:wi σ H fun J th H1=>a9Y own js J th g ti te Q σ H1):a3c own js wi g ti te σ H Q:=q
theorem b5m {Qb:Bool→Hp→Prop}(q:Qb true H):b4x σ H Qb:=q
theorem b6y {tl:TE}{R:It→(Hp→Hp)→Hp→Prop}(q:tl σ H fun v H1=>b0O K v H1 R):iIt K tl σ H R:=q
theorem a9B {x:Str}{R:It→(Hp→Hp)→Hp→Prop}(q:R (Its x) id H):b0O K (.str x) H R:= .inl (.inr (.inr ⟨x,rfl,q⟩))
theorem B4 {a:Addr}{xs:List V}{R:It→(Hp→Hp)→Hp→Prop}(h:SqL K H a xs)(q:R (Itl K a) id H):b0O K (.ref a) H R:= .inl (.inl ⟨a,rfl,⟨xs,h⟩,q⟩)
theorem a1w {d:Addr}{kvs:List (Key×V)}{R:It→(Hp→Hp)→Hp→Prop}(h:H d=some (.dK kvs))(q:(kvs.map (·.1)).Nodup→∀o,R (ItK d o kvs) (thaw d) (B6 d o kvs H)):b0O K (.ref d) H R:=
 .inr ⟨d,kvs,rfl,.inl ⟨h,q⟩⟩
theorem b1D {tl:TE}{R:It→(Hp→Hp)→Hp→Prop}(q:tl σ H fun v H1=>rIterD Iti v H1 R):a7b tl σ H R:=q
theorem E4 {d:Addr}{kvs:List (Key×V)}{R:It→(Hp→Hp)→Hp→Prop}(h:H d=some (.dK kvs))(q:(kvs.map (·.1)).Nodup→∀o,R (Iti d o kvs) (thaw d) (B6 d o kvs H)):rIterD Iti (.ref d) H R:=⟨d,kvs,rfl,.inl ⟨h,q⟩⟩
theorem b2X {ta:TA}{R:It→Hp→Prop}(q:ta σ H fun vs H1=>∃j:Int,vs=[.int j]∧-(2 ^ 62)≤j∧j<2 ^ 62∧R (Itr 0 j.toNat) H1):a9X ta σ H R:=q
theorem Q0 {i:Int}{R:Int→Prop}(h0:0≤i)(h1:i<1000000)(q:R i):∃j:Int,[V.int i]=[.int j]∧-(2 ^ 62)≤j∧j<2 ^ 62∧R j:=⟨i,rfl,by omega,by omega,q⟩
theorem P6 {p:Prop}[Decidable p]{A B:Prop}(h1:p→A)(h2:¬p→B):if decide p=true then A else B:=by
 by_cases h:p
 ·rw[if_pos (decide_eq_true h)];exact h1 h
 ·rw[if_neg (by simp [h])];exact h2 h
theorem P2 {p:Prop}[Decidable p]{A B:Prop}(h1:¬p→A)(h2:p→B):if(!decide p)=true then A else B:=by
 by_cases h:p
 ·rw[if_neg (by simp [h])];exact h2 h
 ·rw[if_pos (by simp [h])];exact h1 h
theorem a4P {b:Bool}{A B:Prop}(h1:b=true→A)(h2:b=false→B):if b=true then A else B:=by
 cases b with
 |true=>rw[if_pos rfl];exact h1 rfl
 |false=>rw[if_neg Bool.false_ne_true];exact h2 rfl
theorem a2I {b:Bool}{A B:Prop}(h1:b=false→A)(h2:b=true→B):if(!b)=true then A else B:=by
 cases b with
 |true=>rw[if_neg (by simp)];exact h2 rfl
 |false=>rw[if_pos (by simp)];exact h1 rfl
theorem b6a {A B:Prop}(h:A):if(!false)=true then A else B:=by rw[if_pos (by rfl)];exact h
theorem b5y {A B:Prop}(h:B):if(!true)=true then A else B:=by rw[if_neg (by decide)];exact h
theorem d9 {o:HO}{p:Addr}(hp:H p=none):∃H',upd H p o=H'∧H' p=some o∧Same H H'∧∀b,b≠p→H' b=H b:=⟨_,rfl,i7,fun b u e=>by rw[d0 (g0 e hp)];exact e,fun b hb=>d0 hb⟩
theorem a2h {α:Type}{xs:List α}{i:Int}(h0:0≤i)(h1:i<xs.length):∃v,atI xs i=some v∧xs[i.toNat]?=some v:=by
 obtain⟨j,rfl⟩:=Int.eq_ofNat_of_zero_le h0
 have hj:j<xs.length:=by omega
 exact⟨xs[j],b8 (by simp [hj]),by simp [hj]⟩
theorem a1z (x y:Str):(x++y).length=x.length+y.length:=by
 show(x.cps++y.cps).size=_
 simp [Str.length]
theorem U5 (c:Nat):(⟨#[c]⟩:Str).length=1:=rfl
theorem a1u (x:Str):x.length=x.cps.toList.length:=by simp [Str.length]
theorem i8 {n:Nat}(h:n≤1000):n≤sizeLine:=Nat.le_trans h (by decide)
theorem Same.rd {H H':Hp}{a:Addr}{u:HO}(s:Same H H')(h:Rd H a u):Rd H' a u:=by
 rcases h with h|⟨o,h⟩
 ·exact .inl (s _ _ h)
 ·exact .inr ⟨o,s _ _ h⟩
theorem Same.tup {H H':Hp}{a:Addr}{xs:List V}(s:Same H H')(h:SqT K H a xs):SqT K H' a xs:=by
 rcases h with h|h
 ·exact .inl (s.rd h)
 ·exact .inr h
theorem TyB.mono {H H':Hp}{v:V}{t:String}(h:TyB K H v t)(s:Same H H'):TyB K H' v t:=by
 cases v with
 |ref a=>
  rcases h with⟨e,xs,h⟩|⟨e,xs,h⟩|⟨e,kvs,h⟩
  ·exact .inl ⟨e,xs,s.seq h⟩
  ·exact .inr (.inl ⟨e,xs,s.tup h⟩)
  ·exact .inr (.inr ⟨e,kvs,s.rd h⟩)
 |_=>exact h
theorem Its.lt {x:Str}{i:Nat}{H H':Hp}{v:V}(h:(Its x).yld i H v H'):H'=H∧∃c,x.cps.toList[i]?=some c∧v=sgn c:=by
 obtain⟨e,c,hc,hv⟩:=h
 exact⟨e,c,by simpa using hc,hv⟩
theorem Itl.get {a:Addr}{xs:List V}{i:Nat}{H H':Hp}{v:V}(h:(Itl K a).yld i H v H')(hx:SqL K H a xs):H'=H∧xs[i]?=some v:=⟨h.1,h.2 xs hx⟩
theorem C7 {α β:Type}{l:List α}{i:Nat}{a:α}(f:α→β)(h:l[i]?=some a):(l.take i).map f++[f a]=(l.take (i+1)).map f:=by
 rw[List.take_succ,h];simp
end
end L2
set_option Elab.async false
set_option linter.all false
set_option maxRecDepth 100000
set_option maxHeartbeats 4000000
namespace L2
open PySem PySem.Spec PyProof.Rows
section
variable {X:Cx} (K:PySem.W.Frag) {a e:Expr} {ta te:TE} {tg:Expr} {pos:Pos}
theorem A5 (h:X.K=K:=by rfl):OpR X (binaryOp .Add) (a5Z K):=h▸b2m
theorem kIn (hu:X.A.units+1<cLine)(h:X.K=K:=by rfl):OpR X (compareOp .In) (a8C K):=h▸b4v hu
theorem Q8 (hu:X.A.units+1<cLine)(h:X.K=K:=by rfl):OpR X (compareOp .NotIn) (a1L K):=h▸a8e hu
theorem kIx (hu:X.A.units+1<cLine)(h:X.K=K:=by rfl):IxR X (a6o K):=h▸b2Q hu
theorem kSl (h:X.K=K:=by rfl):SlR X (rSl K):=h▸b3e
theorem b0n (hc:X.calm=true)(h:X.K=K:=by rfl):CallR X (.builtin "all") (a9g K):=h▸a8E hc
theorem b6R (hc:X.calm=true)(h:X.K=K:=by rfl):CallR X (.builtin "any") (b5M K):=h▸a8u hc
def b3U (ta:TE):TT:=fun σ H Q=>ta σ H fun x H'=>∃k,a9P K x H' k∧Q k H'
theorem b6u (ha:PE X a ta)(h:X.K=K:=by rfl)(he:∀whole,isTrue a X.env whole=(do let v←whole;standAt a.pos;holding [v] (truthy v)):=by intro _;rfl):PT X a (b3U K ta):=h▸b0j ha he
theorem b3M {σ:St}{H:Hp}{Qb:Bool→Hp→Prop}(q:ta σ H fun x H'=>∃k,a9P K x H' k∧Qb k H'):b3U K ta σ H Qb:=q
theorem kIt (hl:PE X a ta)(h:X.K=K:=by rfl):PI2 X tg a (iIt K ta):=h▸b5B hl
theorem b6K {es:List Expr}{k:Nat}{t:TGs}{n:Nat}(hc:X.calm=true)(hg:PGs X es t)(h:X.K=K:=by rfl)
  (hn:(assignEach es X.env).length=n:=by rfl) (hst:(assignEach es X.env).findIdx? (·.1)=none:=by rfl):PG X (.Tuple es k pos) (a9e K n t):=h▸b4h hc hg hn hst
end
end L2
set_option Elab.async false
set_option linter.all false
set_option maxRecDepth 100000
set_option maxHeartbeats 4000000
namespace L2
open PySem PySem.Spec PyProof.Rows
def z0:Expr→Bool
 | .Starred _ _=>false
 |_=>true
def t8 (es:List Expr):Bool:=es.all z0
theorem a1b {e:Expr}{es:List Expr}{env:Env}(h:z0 e=true):starEach (e::es) env=(false,eval e env)::starEach es env:=by
 cases e<;>first|rfl|cases h
theorem a1m {env:Env}{pos:Pos}:∀{es:List Expr},t8 es=true→(backTo pos (starEach es env)).any (·.1)=false
 |[],_=>rfl
 |e::es,h=>by
  have h':(z0 e&&t8 es)=true:=h
  rw[Bool.and_eq_true] at h'
  rw[a1b h'.1]
  show(false||(backTo pos (starEach es env)).any (·.1))=false
  rw[a1m h'.2];rfl
theorem a7r {e:Expr}{es:List Expr}{env:Env}(h:z0 e=true):assignEach (e::es) env=(false,assign e env)::assignEach es env:=by
 cases e<;>first|rfl|cases h
theorem b0X {env:Env}:∀{es:List Expr},t8 es=true→(assignEach es env).length=es.length
 |[],_=>rfl
 |e::es,h=>by
  have h':(z0 e&&t8 es)=true:=h
  rw[Bool.and_eq_true] at h'
  rw[a7r h'.1,List.length_cons,b0X h'.2,List.length_cons]
theorem b0Q {env:Env}:∀{es:List Expr},t8 es=true→(assignEach es env).findIdx? (·.1)=none
 |[],_=>rfl
 |e::es,h=>by
  have h':(z0 e&&t8 es)=true:=h
  rw[Bool.and_eq_true] at h'
  rw[a7r h'.1,List.findIdx?_cons]
  simp [b0Q h'.2]
section
variable {X:Cx} {K:PySem.W.Frag} {e:Expr} {es:List Expr} {te:TE} {t:TA} {x:Str} {p pos:Pos} {id T:String} {r:List V→Hp→VK→Prop}
theorem paC (ha:PE X e te)(hr:PA X es t)(h:z0 e=true:=by rfl):PA X (e::es) (a7y te t):=b1X ha hr (a1b h)
theorem cB (hc:CallR X (.builtin id) r)(hm:X.mg x=none)(hv:bootBuiltins x=some (.builtin id))(ha:PA X (e::es) t)(hg:Gl X x:=by rfl)(hn:x≠"__name__":=by decide)(hdb:(x==("__debug__":Str))=false:=by decide)
  (h:t8 (e::es)=true:=by rfl):PE X (.Call (.Name x p) (e::es) [] pos) (tCB r t):=by
 have h':(z0 e&&t8 es)=true:=h
 rw[Bool.and_eq_true] at h'
 exact a9E hc hg hm hv ha hn hdb (a1b h'.1) (a1m h'.2)
theorem cTy (hc:CallR X (.type T) r)(hm:X.mg x=none)(hv:bootBuiltins x=some (.type T))(ha:PA X (e::es) t)(hg:Gl X x:=by rfl)(hn:x≠"__name__":=by decide)(hdb:(x==("__debug__":Str))=false:=by decide)
  (h:t8 (e::es)=true:=by rfl):PE X (.Call (.Name x p) (e::es) [] pos) (tCB r t):=by
 have h':(z0 e&&t8 es)=true:=h
 rw[Bool.and_eq_true] at h'
 exact a8N hc hg hm hv ha hn hdb (a1b h'.1) (a1m h'.2)
theorem cC {CX:CXT}{k:Nat}{ps:List Str}{dvs:List V}{sp:Sp}{E:XK}(C:Cal X.prog X.w X.K X.mg X.base CX k x ps dvs sp)(hr:Room k X.A)(hx:a0E CX X E)(ha:PA X (e::es) t)(hg:Gl X x:=by rfl)
  (hdb:(x==("__debug__":Str))=false:=by decide) (h:t8 (e::es)=true:=by rfl):PE X (.Call (.Name x p) (e::es) [] pos) (a5U sp dvs E t):=by
 have h':(z0 e&&t8 es)=true:=h
 rw[Bool.and_eq_true] at h'
 exact a9j C hr hx ha hg hdb (a1b h'.1) (a1m h'.2)
theorem gT {tg:Expr}{k:Nat}{u:TGs}(hc:X.calm=true)(hg:PGs X es u)(hK:X.K=K:=by rfl)(h:t8 es=true:=by rfl):PG X (.Tuple es k pos) (a9e K es.length u):=b6K K hc hg hK (b0X h) (b0Q h)
theorem gC {g:TG}{u:TGs}(h1:PG X e g)(h2:PGs X es u)(h:z0 e=true:=by rfl):PGs X (e::es) (a2W g u):=a9J h1 h2 (by rw[a7r h];rfl)
end
end L2
set_option Elab.async false
set_option linter.all false
set_option maxRecDepth 100000
set_option maxHeartbeats 4000000
namespace L2
open PySem PySem.Spec PyProof.Rows
structure QE (X:Cx) (e:Expr) (t:TE):Prop where
 r:PE X e t
structure QT (X:Cx) (e:Expr) (t:TT):Prop where
 r:PT X e t
structure QW (X:Cx) (e:Expr) (t:TT):Prop where
 r:PW X e t
structure QA (X:Cx) (es:List Expr) (t:TA):Prop where
 r:PA X es t
structure QS (X:Cx) (st:Stmt) (t:TS):Prop where
 r:PS X st t
structure QSs (X:Cx) (st:List Stmt) (t:TS):Prop where
 r:PSs X st t
structure QG (X:Cx) (tg:Expr) (t:TG):Prop where
 r:PG X tg t
structure QGs (X:Cx) (tg:List Expr) (t:TGs):Prop where
 r:PGs X tg t
structure QI (X:Cx) (tg iter:Expr) (t:TI2):Prop where
 r:PI2 X tg iter t
structure QIf (X:Cx) (ifs:List Expr) (t:TT):Prop where
 r:a6Q X ifs t
structure QO (X:Cx) (e:Option Expr) (t:TO):Prop where
 r:PO X e t
structure QP (X:Cx) (pos:Pos) (keys:List (Option Expr)) (values:List Expr) (trs:List (TE×TE)):Prop where
 r:PPs X pos keys values trs
section
variable {X:Cx} {a b c e o:Expr} {es:List Expr} {ta tb tc te to:TE} {tA tB':TT} {t:TA} {U0:List Expr} {pos apos cpos p2:Pos} {x:Str} {p:Pos} {bid T:String}
theorem b3n {j}:QE X (.Constant .none j pos) (tC .non):=⟨b3u⟩
theorem qBl {b:Bool}{j}:QE X (.Constant (.bool b) j pos) (tC (.bl b)):=⟨b4N⟩
theorem i6 {i:Int}{j}:QE X (.Constant (.int i) j pos) (tC (.int i)):=⟨b2O⟩
theorem a3L {x:Str}{j}:QE X (.Constant (.str x) j pos) (tC (.str x)):=⟨b2W⟩
theorem qV (i:Nat)(hN:X.N[i]?=some x:=by rfl)(hv:Vis X.env.scope x:=by first|exact Or.inl rfl|exact Or.inr (Or.inl rfl)|exact Or.inr (Or.inr rfl))(hd:(x==("__debug__":Str))=false:=by decide)
  (hcd:(x==("__classdict__":Str))=false:=by decide):QE X (.Name x pos) (b3G i):=⟨b4C hN hv hd hcd⟩
theorem qGl {v:V}(h:GlV X.mg x v)(hg:Gl X x:=by rfl)(hd:(x==("__debug__":Str))=false:=by decide):QE X (.Name x pos) (tC v):=⟨b3j h hg hd⟩
theorem qTy (n:String)(hm:X.mg x=none)(hv:bootBuiltins x=some (.type n))(hg:Gl X x:=by rfl)(hn:x≠"__name__":=by decide)(hd:(x==("__debug__":Str))=false:=by decide):QE X (.Name x pos) (tC (.ty n)):=⟨b2g hg hm hv rfl hn hd⟩
theorem qOp {op:Operator}{r:R2}(ho:OpR X (binaryOp op) r)(ha:QE X a ta)(hb:QE X b tb):QE X (.BinOp a op b pos) (tOp r ta tb):=⟨b6i ho ha.r hb.r⟩
theorem b6C (ha:QE X a ta):QE X (.UnaryOp .Not a pos) (b1b ta):=⟨b3x ha.r⟩
theorem b5i {op}(h:QE X a ta):QE X (.BoolOp op [a] pos) ta:=⟨b3Y h.r⟩
theorem b6N (ha:QE X a ta)(hb:QE X (.BoolOp .And (b::U0) pos) tb):QE X (.BoolOp .And (a::b::U0) pos) (b0D ta tb):=⟨b3X ha.r hb.r⟩
theorem qOr (ha:QE X a ta)(hb:QE X (.BoolOp .Or (b::U0) pos) tb):QE X (.BoolOp .Or (a::b::U0) pos) (b3h ta tb):=⟨b5V ha.r hb.r⟩
theorem a5b {op:CmpOp}{r:R2}(ho:OpR X (compareOp op) r)(ha:QE X a ta)(hb:QE X b tb)(hm:behindInMarks op b=false):QE X (.Compare a [op] [b] pos) (tOp r ta tb):=⟨b1o ho ha.r hb.r hm⟩
theorem p8 {op:CmpOp}{r:R2}(ho:OpR X (compareOp op) r)(ha:QE X a ta)(hb:QE X b tb)(hm:behindInMarks op b=false):QT X (.Compare a [op] [b] pos) (b0C (tOp r ta tb)):=⟨b1K ho ha.r hb.r hm⟩
theorem qoN:QO X none a4F:=⟨b2k⟩
theorem qoS (h:QE X e te):QO X (some e) (a9d te):=⟨b2j h.r⟩
theorem qSl {lo hi:Option Expr}{tl th:TO}{r:V→Option Int→Option Int→Hp→VK→Prop}(hr:SlR X r)(he:QE X e te)(hl:QO X lo tl)(hu:QO X hi th):QE X (.Subscript e (.Slice lo hi none p2) pos) (tSl r te tl th):=⟨b1e hr he.r hl.r hu.r⟩
theorem qIx {r:R2}(hr:IxR X r)(ha:QE X a ta)(hb:QE X b tb)(hs:a7M b):QE X (.Subscript a b pos) (tOp r ta tb):=⟨b6f hr ha.r hb.r hs⟩
theorem a1p (h:QA X es t):QE X (.List es pos) (b3H t):=⟨b2Z h.r⟩
theorem L5 {x1}(h:QA X es t):QE X (.Tuple es x1 pos) (b4k t):=⟨b2T h.r⟩
theorem qD0:QE X (.Dict [] [] pos) b0R:=⟨a9m⟩
theorem qa0:QA X [] b1m:=⟨b2V⟩
theorem qa1 (ha:QE X e te)(hr:QA X es t)(h:z0 e=true:=by rfl):QA X (e::es) (a7y te t):=⟨paC ha.r hr.r h⟩
theorem qB {r:List V→Hp→VK→Prop}(hc:CallR X (.builtin bid) r)(hm:X.mg x=none)(hv:bootBuiltins x=some (.builtin bid))(ha:QA X (e::es) t)(hg:Gl X x:=by rfl)(hn:x≠"__name__":=by decide)(hdb:(x==("__debug__":Str))=false:=by decide)
  (h:t8 (e::es)=true:=by rfl):QE X (.Call (.Name x p) (e::es) [] pos) (tCB r t):=⟨cB hc hm hv ha.r hg hn hdb h⟩
theorem qBT {r:List V→Hp→VK→Prop}(hc:CallR X (.type T) r)(hm:X.mg x=none)(hv:bootBuiltins x=some (.type T))(ha:QA X (e::es) t)(hg:Gl X x:=by rfl)(hn:x≠"__name__":=by decide)(hdb:(x==("__debug__":Str))=false:=by decide)
  (h:t8 (e::es)=true:=by rfl):QE X (.Call (.Name x p) (e::es) [] pos) (tCB r t):=⟨cTy hc hm hv ha.r hg hn hdb h⟩
theorem qC {CX:CXT}{k:Nat}{ps:List Str}{dvs:List V}{sp:Sp}{E:XK}(C:Cal X.prog X.w X.K X.mg X.base CX k x ps dvs sp)(hr:Room k X.A)(hx:a0E CX X E)(ha:QA X (e::es) t)(hg:Gl X x:=by rfl)
  (hdb:(x==("__debug__":Str))=false:=by decide) (h:t8 (e::es)=true:=by rfl):QE X (.Call (.Name x p) (e::es) [] pos) (a5U sp dvs E t):=⟨cC C hr hx ha.r hg hdb h⟩
theorem qM {name:Str}{r:V→List V→Hp→VK→Prop}(pa:PlainAttrs T)(slot:Slot T name bid)(hty:typeOf (.builtin bid)=pure (.type "method_descriptor"))(hm:MtR X bid r)(K:PySem.W.Frag)(ho:QE X o to)(ha:QA X (e::es) t)(hK:X.K=K:=by rfl)
  (hbase:attributeBase o name X.env (eval o X.env)=eval o X.env:=by rfl)
  (h:t8 (e::es)=true:=by rfl) (h2:decide ((e::es).length<30)=true:=by rfl) (hline:(apos.endLine==cpos.line)=true:=by rfl):QE X (.Call (.Attribute o name apos) (e::es) [] cpos) (tBM K T r to t):=by
 have h':(z0 e&&t8 es)=true:=h
 rw[Bool.and_eq_true] at h'
 have hall:∀{l:List Expr},t8 l=true→(backTo cpos (starEach l X.env)).all (fun x=>!x.1)=true:=fun{l} hl=>by
  have q:=a1m (env:=X.env) (pos:=cpos) hl
  rw[List.all_eq_true]
  intro y hy
  rw[List.any_eq_false] at q
  simpa using q y hy
 subst hK
 refine⟨b5j pa slot hty hm ho.r ha.r hbase ?_ hline (a1b h'.1) (a1m h'.2)⟩
 rw[hall h]
 show(true&&true&&decide ((e::es).length+0+0<30))=true
 simpa using h2
theorem qM0 {name:Str}{r:V→List V→Hp→VK→Prop}(pa:PlainAttrs T)(slot:Slot T name bid)(hty:typeOf (.builtin bid)=pure (.type "method_descriptor"))(hm:MtR X bid r)(K:PySem.W.Frag)(ho:QE X o to)(hK:X.K=K:=by rfl)
  (hbase:attributeBase o name X.env (eval o X.env)=eval o X.env:=by rfl) (hline:(apos.endLine==cpos.line)=true:=by rfl):QE X (.Call (.Attribute o name apos) [] [] cpos) (b2P K T r to):=⟨hK▸b3V pa slot hty hm ho.r hbase hline⟩
theorem O6 {own:List Str}{js:List Nat}{scope:Scope}{tg iter elt:Expr}{ifs:List Expr}{g:TG}{ti:TT}{wi:TI2}(S:scB X own js scope=true)(hc:X.calm=true)(hit:QI X tg iter wi)
  (hg:∀C s H fp,QG (cxB X own js scope C s H fp) tg g) (hi:∀C s H fp,QIf (cxB X own js scope C s H fp) ifs ti) (he:∀C s H fp,QE (cxB X own js scope C s H fp) elt te)
  (hs:∀x,foldedSetIterable iter X.env x=pure x:=by intro _;rfl):QE X (.ListComp elt [⟨tg,iter,ifs,0⟩] scope pos) (a3c own js wi g ti te):=
 ⟨a8l S hc hit.r (fun C s H fp=>(hg C s H fp).r) (fun C s H fp=>(hi C s H fp).r) (fun C s H fp=>(he C s H fp).r) hs⟩
theorem a1l:QIf X [] b4x:=⟨b5o⟩
theorem b0v (h:QT X c tA):QIf X [c] tA:=⟨b6n h.r⟩
theorem a0k (ha:QT X a tA):QT X (.UnaryOp .Not a pos) (b4t tA):=⟨b4u ha.r⟩
theorem a0h (K:PySem.W.Frag)(ha:QE X a ta)(h:X.K=K:=by rfl)(he:∀whole,isTrue a X.env whole=(do let v←whole;standAt a.pos;holding [v] (truthy v)):=by intro _;rfl):QT X a (b3U K ta):=⟨b6u K ha.r h he⟩
theorem qtW (h:QW X a tA):QT X a tA:=⟨h.r.pt⟩
theorem a1i (ha:QT X a tA):QW X (.BoolOp .And [a] pos) tA:=⟨b2d ha.r⟩
theorem a0i (ha:QT X a tA):QW X (.BoolOp .Or [a] pos) tA:=⟨b4f ha.r⟩
theorem a1O (ha:QT X a tA)(hb:QW X (.BoolOp .And (b::U0) pos) tB'):QW X (.BoolOp .And (a::b::U0) pos) (b4r tA tB'):=⟨b4A ha.r hb.r⟩
theorem a1q (ha:QT X a tA)(hb:QW X (.BoolOp .Or (b::U0) pos) tB'):QW X (.BoolOp .Or (a::b::U0) pos) (tOr tA tB'):=⟨b5G ha.r hb.r⟩
theorem qgN {i:Nat}(hN:X.N.Nodup)(hi:X.N[i]?=some x)(hx:Loc X.env.scope x)(hf:X.fn x=true∨X.env.scope.names.lookup x=some .local:=by first|exact .inl rfl|exact .inr rfl|assumption):QG X (.Name x pos) (M0 i):=⟨b1t hN hi hx hf⟩
theorem qg0:QGs X [] b1x:=⟨b1R⟩
theorem qg1 {g:TG}{u:TGs}(h1:QG X e g)(h2:QGs X es u)(h:z0 e=true:=by rfl):QGs X (e::es) (a2W g u):=⟨gC h1.r h2.r h⟩
theorem qgT (K:PySem.W.Frag){k:Nat}{u:TGs}(hc:X.calm=true)(hg:QGs X es u)(hK:X.K=K:=by rfl)(h:t8 es=true:=by rfl):QG X (.Tuple es k pos) (a9e K es.length u):=⟨gT (tg:= .Name Str.empty pos) hc hg.r hK h⟩
theorem qgS {i:Expr}{ti:TE}{u:a7l}(ho:QE X o to)(hi:QE X i ti)(hs:a8A X u)
  (ha:∀v,assign (.Subscript o i pos) X.env v=(do
   let ov←holding [v] (eval o X.env)
   let iv←holding [v,ov] (eval i X.env)
   standAt pos
   holding [v,ov,iv] (setItem ov iv v)
   release [v,ov,iv] []):=by intro _;rfl):QG X (.Subscript o i pos) (b3S to ti u):=⟨b4w ho.r hi.r hs ha⟩
theorem a0m (K:PySem.W.Frag){tg:Expr}(hl:QE X a ta)(h:X.K=K:=by rfl):QI X tg a (iIt K ta):=⟨kIt K hl.r h⟩
def b4K (wi:TI):TI2:=fun σ H R=>wi σ H fun J H'=>R J id H'
theorem b6c {wi:TI}{σ:St}{H:Hp}{R:It→(Hp→Hp)→Hp→Prop}(q:wi σ H fun J H'=>R J id H'):b4K wi σ H R:=q
theorem a4w {tg:Expr}(hm:X.mg "range"=none)(ha:QA X [a] t)(hg:Gl X "range":=by rfl)(h:z0 a=true:=by rfl):QI X tg (.Call (.Name "range" p) [a] [] pos) (b4K (a9X t)):=⟨(a8X hg hm ha.r (a1b h)).two⟩
theorem Z1 {elts:List Expr}{x1}{tpos:Pos}(ho:QE X o to)
  (hbase:attributeBase o "items" X.env (eval o X.env)=eval o X.env:=by rfl) (hline:(apos.endLine==cpos.line)=true:=by rfl):QI X (.Tuple elts x1 tpos) (.Call (.Attribute o "items" apos) [] [] cpos) (a7b to):=⟨b0A ho.r hbase hline⟩
variable {st:Stmt} {sts body orelse:List Stmt} {u u':TS} {g:TG}
theorem qs0:QSs X [] a9q:=⟨b2c⟩
theorem qs1 (h:QS X st u):QSs X [st] u:=⟨b1s h.r⟩
theorem qsC (h1:QS X st u)(h2:QSs X sts u'):QSs X (st::sts) (a6f u u'):=⟨a9Z h1.r h2.r⟩
theorem u4 {i:Nat}{pos':Pos}(hN:X.N.Nodup)(hi:X.N[i]?=some x)(hx:Loc X.env.scope x)(he:QE X e te)(hs:swapsWith e (some (.Name x pos')) pos.line X.env=pure false:=by rfl)(hf:X.fn x=true∨X.env.scope.names.lookup x=some .local:=by first|exact .inl rfl|exact .inr rfl):
  QS X (.Assign [.Name x pos'] e pos) (a6F te (M0 i)):=⟨b4y hN hi hx he.r hs hf⟩
theorem a0n {tg:Expr}(he:QE X e te)(hg:QG X tg g)(hs:swapsWithSole [tg] e pos.line X.env=pure false:=by rfl)(hw:swappedStores [tg] e X.env=pure none:=by rfl)(h:z0 tg=true:=by rfl):QS X (.Assign [tg] e pos) (a6F te g):=
 ⟨b3P he.r hg.r hs hw (by rw[a7r h];rfl)⟩
theorem qIf (hc:QT X c tA)(ht:QSs X body u)(he:QSs X orelse u'):QS X (.If c body orelse pos) (b4q tA u u'):=⟨b5H hc.r ht.r he.r⟩
theorem v0 (he:QE X e te):QS X (.Return (some e) pos) (b2e te):=⟨b3L he.r⟩
theorem qEx (he:QE X e te)(hs:swapsWith e none pos.line X.env=pure false:=by rfl):QS X (.Expr e pos) (a9W te):=⟨b2f he.r hs⟩
theorem V6 {tg iter:Expr}{wi:TI2}(hp:PassesOwn (model X.prog X.w) X.A X.env X.xe)(hc:X.calm=true)(hi:QI X tg iter wi)(hg:QG X tg g)(hb:QSs X body u)(hs:∀x,foldedSetIterable iter X.env x=pure x:=by intro _;rfl):QS X (.For tg iter body [] pos) (b0b wi g u):=
 ⟨b1E hp hc hi.r hg.r hb.r hs⟩
end
end L2
set_option Elab.async false
set_option linter.all false
set_option maxRecDepth 100000
set_option maxHeartbeats 4000000
namespace L2
open PySem PySem.Spec PyProof.Rows
theorem Z9:∀{ss:List Str} {us:List Value},Vals (ss.map V.str) us→StrsAre us ss
 |[],_,.nil=> .nil
 |x::ss,_,.cons r t=>by
  obtain⟨k,rfl⟩:=r
  exact .cons x k (Z9 t)
theorem a0a:∀{us:List Value} {ss:List Str},StrsAre us ss→Vals (ss.map V.str) us
 |_,_,.nil=> .nil
 |_,_,.cons y t r=> .cons ⟨t,rfl⟩ (a0a r)
theorem U7:∀{xs:List V} {us:List Value},xs.length=us.length→(∀(i:Nat) x u,xs[i]?=some x→us[i]?=some u→RelV x u)→Vals xs us
 |[],[],_,_=> .nil
 |[],_::_,h,_=>by simp at h
 |_::_,[],h,_=>by simp at h
 |x::xs,u::us,h,k=> .cons (k 0 x u rfl rfl) (U7 (by simpa using h) fun i y v e1 e2=>k (i+1) y v (by simpa using e1) (by simpa using e2))
section
variable {X:Cx}
theorem Inv.newL {pins:List (Addr×Obj)}{σ:St}{H:Hp}{s:Shared}{h':Heap}{tk:Nat}{a:Addr}{xs:List V}{out:Array Value}{e:Nat}(I:Inv X pins σ H s)(k:∀b u,s.heap.get? b=some u→h'.get? b=some u)(ha:s.heap.objs.size≤a)
  (ho:h'.get? a=some {cls:= .type "list",data:= .seq out e}) (rv:Vals xs out.toList) (hz:xs.length≤sizeLine):Inv X pins σ (upd H a (.lst xs)) {s with heap:=h',toks:=tk}:=
 I.laid k ha ⟨hz,out.toList,e,rv,by rw[ho]⟩
theorem ObjOk.live {P:Program}{w:World}{H:Hp}{h:Heap}{a:Addr}{o:HO}(x:ObjOk P w H h a o):∃ob,h.get? a=some ob:=by
 cases o with
 |lst xs=>obtain⟨_,_,_,_,e⟩:=x;exact⟨_,e⟩
 |tup xs=>obtain⟨_,_,_,o,e,_⟩:=x;exact⟨_,e⟩
 |dK kvs=>obtain⟨_,_,_,_,o,_,_,e,_⟩:=x;exact⟨_,e⟩
 |dT kvs=>obtain⟨_,_,_,_,o,_,_,e,_⟩:=x;exact⟨_,e⟩
 |set S n=>obtain⟨o,_,_,_,e,_⟩:=x;exact⟨_,e⟩
 |ins C dx fs=>obtain⟨_,_,_,e,_⟩:=x;exact⟨_,e⟩
 |own y=>exact x
 |xd fs=>obtain⟨_,⟨_,_,_,e,_⟩,_⟩:=x;exact⟨_,e⟩
 |rng lo hi=>obtain⟨_,_,_,e⟩:=x;exact⟨_,e⟩
 |frz ob u=>obtain⟨e,_⟩:=x;exact⟨_,e⟩
 |tbl ps=>exact⟨_,(show h.get? a=some _ from x)⟩
 |met f y=>exact⟨_,(show h.get? a=some _ from x)⟩
 |ext φ=>obtain⟨_,e,_⟩:=x;exact e
theorem Inv.newN {pins:List (Addr×Obj)}{σ:St}{H:Hp}{s:Shared}{h':Heap}{tk:Nat}{a:Addr}{xs:List V}{out:Array Value}{e:Nat}(I:Inv X pins σ H s)(k:∀b u,s.heap.get? b=some u→h'.get? b=some u)(hn:s.heap.get? a=none)
  (ho:h'.get? a=some {cls:= .type "list",data:= .seq out e}) (rv:Vals xs out.toList) (hz:xs.length≤sizeLine):H a=none∧Inv X pins σ (upd H a (.lst xs)) {s with heap:=h',toks:=tk}:=by
 have hH:H a=none:=by
  cases q:H a with
  |none=>rfl
  |some u=>
   obtain⟨ob,z⟩:=(I.hok a u q).live
   rw[hn] at z;cases z
 have na:∀b o,s.heap.get? b=some o→b≠a:=fun b o z w=>by rw[w,hn] at z;cases z
 have nh:∀b u,H b=some u→b≠a:=fun b u z=>g0 z hH
 refine⟨hH,I.un ⟨fun b o z n _ _=>k b o z,fun b o z n _ _=>⟨o.slots,k b o z⟩,fun b o z n _=>by rw[d0 (na b o z)];exact n,fun b o z _=>⟨o,k b o z⟩,fun b ys z=>by rw[d0 (nh b _ z)];exact z,
  fun b ob u z=>by rw[d0 (nh b _ z)];exact z,fun b ps z=>⟨#[],by rw[d0 (nh b _ z)];simpa using z⟩⟩ fun b u z=>?_⟩
 by_cases hb:b=a
 ·subst hb
  rw[i7] at z;cases z
  exact⟨hz,out.toList,e,rv,by rw[ho]⟩
 ·rw[d0 hb] at z
  exact(I.hok b u z).stay (fun c v _ y=>k c v y) (fun c y=>by rw[d0 (nh c _ y)];exact y) fun c ys y=>by rw[d0 (nh c _ y)];exact y
def a4D (K:PySem.W.Frag):List V→Hp→VK→Prop:=fun xs H Q=>∃(p:Addr) (ss:List Str),xs=[.ref p]∧(SqL K H p (ss.map V.str)∨∃kvs:List (Key×V),Rd H p (.dK kvs)∧kvs.map (·.1)=ss.map Sum.inr)∧ss.length<64∧
 ∀ss':List Str,ss'.Perm ss→sortedS ss'=true→∀l,H l=none→Q (.ref l) (upd H l (.lst (ss'.map V.str)))
theorem a8s {M:Program}{w:World}{A:Around}{E:Value→Shared→Prop}{s:Shared}{a:Addr}{vs:List Value}{ss:List Str}{n:Nat}{Q:Value→Shared→Prop}(ho:s.heap.get? a=some (seqObj "list" vs.toArray n))(hS:StrsAre vs ss)(h64:vs.length<64)
  (h:∀(out:Array Value) (ss':List Str),StrsAre out.toList ss'→ss'.Perm ss→sortedS ss'=true→Q .none {s with heap:=sortedHeap s.heap a vs out}):
  wpAny (model M w) A (call (.builtin "list.sort") [.ref a]) Q E s:=by
 refine wpAny_call_entry PySem.F.slot_list_sort ⟨_,ho,rfl⟩ PySem.F.entry_list_sort ?_ (PySem.F.args_list_sort_1 _)
 refine list_sort_treeK strKind_oneLt ho hS.keysOf (fun v₁ v₂ U0 e=>keyKind_strs (by rw[←e];exact hS)) h64 fun st' hp hs=>?_
 obtain⟨ss',h1,h2,h3⟩:=sorted_out_str hS hp hs
 exact⟨_,rfl,h _ ss' h1 h2 h3⟩
theorem a4A (hc:X.calm=true):CallR X (.builtin "sorted") (a4D X.K):=by
 intro pins s σ H xs us Q I r h
 obtain⟨p,ss,rfl,hx,h64,q⟩:=h
 obtain⟨u,rfl,ru⟩:=O8 r
 cases ru
 have hsl:(64:Nat)≤sizeLine:=by decide
 rcases hx with hx|⟨kvs,hx,hk⟩
 ·obtain⟨its,rv,ht,hz⟩:=I.list hx
  have hS:=Z9 rv
  have hl:its.length=ss.length:=by have:=rv.length;simpa using this.symm
  refine sorted_strs ht.isList hS (by omega) fun out ss' a1 a2 a3=>?_
  obtain⟨e,he⟩:=sortedAll_at s.heap its out
  have hl':=a2.length_eq
  exact⟨.ref (s.heap.objs.size+1),_,I.newL (tk:=s.toks) (fun _ _=>sortedAll_old) (Nat.le_succ _) he (a0a a1) (by rw[List.length_map];omega),rfl,q ss' a2 a3 _ (I.hok.fresh (Nat.le_succ _))⟩
 ·obtain⟨hd,o,vs,ep,ho,D⟩:=a1P I.hok hx
  have dat:=D.at_ _ ho
  have hlen:kvs.length=ss.length:=by have:=congrArg List.length hk;simpa using this
  have hlv:=KV.length D.kv
  refine Calls.call_function_entry kind_sorted plain_sorted entry_sorted (args_sorted1 _) ?_
  unfold Builtin.«sorted»
  refine wpAny_bind (m:=checkCount "sorted" 1 1 _) (wpAny_pure ?_)
  refine wpAny_bind (PySem.W.kdu_collect (A:=X.A.in1) (PySem.W.kdl_dict (knd:=j8 X.prog X.w) (kvs:=vs) (ep:=ep) hd) (I.ok.hd hc) dat (by omega) fun h' tk acc hkp hacc=>?_)
  have hl:acc.toList.length=vs.length:=by rw[Array.length_toList];exact hacc.1
  have hS:StrsAre acc.toList ss:=by
   refine Z9 (U7 (by rw[List.length_map];omega) fun i x u e1 e2=>?_)
   obtain⟨k,y,hy,hky⟩:=hacc.2 i u (by rw[←Array.getElem?_toList];exact e2)
   have e3:(kvs.map (·.1))[i]?=some k:=by rw[KV.keys D.kv,List.getElem?_map,hy];rfl
   rw[hk,List.getElem?_map] at e3
   rw[List.getElem?_map] at e1
   cases e4:ss[i]? with
   |none=>rw[e4] at e1;cases e1
   |some z=>
    rw[e4] at e1 e3
    cases e1
    cases e3
    exact a1M hky
  refine wpAny_bind (wpAny_newList ?_ (by rw[hl];omega))
  refine wpAny_bind (wpAny_holding (a8s (s:={s with heap:=h'.push {cls:= .type "list",data:= .seq acc.toList.toArray},toks:=tk}) (n:=0) (Heap.get?_push_size _ rfl) hS (by omega) fun out ss' a1 a2 a3=>?_))
  obtain⟨e,he⟩:=sortedHeap_at (h:=h'.push {cls:= .type "list",data:= .seq acc.toList.toArray}) (a:=h'.objs.size) (vs:=acc.toList) (n:=0) (out:=out) (Heap.get?_push_size _ rfl)
  have hno:s.heap.get? h'.objs.size=none:=by
   cases z:s.heap.get? h'.objs.size with
   |none=>rfl
   |some ob=>exact absurd (Heap.lt_size (hkp _ _ z)) (Nat.lt_irrefl _)
  have hl':=a2.length_eq
  obtain⟨hH,I2⟩:=I.newN (tk:=tk) (h':=sortedHeap (h'.push {cls:= .type "list",data:= .seq acc.toList.toArray}) h'.objs.size acc.toList out) (xs:=ss'.map V.str) (fun b u eb=>by
   have hb:=Heap.lt_size (hkp b u eb)
   rw[sortedHeap_old (b:=b) (Nat.ne_of_lt hb) (by rw[Heap.size_push];exact Nat.lt_succ_of_lt hb)]
   exact Heap.get?_push_of_some _ (hkp b u eb)) hno he (a0a a1) (by rw[List.length_map];omega)
  exact wpAny_pure ⟨_,rfl,.ref h'.objs.size,_,I2,rfl,q ss' a2 a3 _ hH⟩
def a7s (K:PySem.W.Frag):List V→Hp→VK→Prop:=fun xs H Q=>(∃p ys,xs=[.ref p]∧(SqL K H p ys∨SqT K H p ys)∧∀l,H l=none→Q (.ref l) (upd H l (.lst ys)))∨
 (∃(p:Addr) (kvs:List (Key×V)),xs=[.ref p]∧Rd H p (.dK kvs)∧∀l,H l=none→Q (.ref l) (upd H l (.lst (kvs.map fun kv=>kV kv.1))))
theorem a6t (hc:X.calm=true):CallR X (.type "list") (a7s X.K):=by
 refine call_list_of.or ?_
 intro pins s σ H xs us Q I r h
 obtain⟨p,kvs,rfl,hx,q⟩:=h
 obtain⟨u,rfl,ru⟩:=O8 r
 cases ru
 obtain⟨hd,o,vs,ep,ho,D⟩:=a1P I.hok hx
 have hlv:=KV.length D.kv
 have hz:kvs.length≤sizeLine:=(J0 I.hok hx).1
 refine PySem.W.kdl_call (PySem.W.kdl_dict (knd:=j8 X.prog X.w) (kvs:=vs) (ep:=ep) hd) (I.ok.hd hc) (D.at_ _ ho) (by omega) fun h' tk acc c hkp hS hacc=>?_
 refine⟨.ref s.heap.objs.size,_,I.newL (tk:=tk) hkp (Nat.le_refl _) hS (U7 (by have:=hacc.1;simp;omega) fun i x u e1 e2=>?_) (by rw[List.length_map];exact hz),rfl,q _ (I.hok.fresh (Nat.le_refl _))⟩
 obtain⟨k,y,hy,hky⟩:=hacc.2 i u (by rw[←Array.getElem?_toList];exact e2)
 rw[List.getElem?_map] at e1
 cases e4:kvs[i]? with
 |none=>rw[e4] at e1;cases e1
 |some kv=>
  rw[e4] at e1
  cases e1
  have e3:(kvs.map (·.1))[i]?=some kv.1:=by rw[List.getElem?_map,e4];rfl
  rw[KV.keys D.kv,List.getElem?_map,hy] at e3
  cases e3
  exact a1M hky
def b2K:List V→Hp→VK→Prop:=fun xs H Q=>∃(p:Addr) (kvs:List (Key×V)),xs=[.ref p]∧Rd H p (.dK kvs)∧∀l,H l=none→Q (.ref l) (upd H l (.dK kvs))
theorem a6A:CallR X (.type "dict") b2K:=by
 intro pins s σ H xs us Q I r h
 obtain⟨p,kvs,rfl,hx,q⟩:=h
 obtain⟨u,rfl,ru⟩:=O8 r
 cases ru
 exact b0g I hx fun l s' hl I'=>⟨.ref l,_,I',rfl,q l hl⟩
def b2G:R2:=fun x y H Q=>rI CMul (fun i j=> .int (i*j)) x y H Q∨(∃z n,x= .str z∧y= .int n∧z.length≤1000∧-1000≤n∧n≤1000∧Q (.str (Txt.mul z n)) H)
theorem P8:OpR X (binaryOp .Mult) b2G:=by
 refine op_mul.or ?_
 intro pins s σ H x y v u Q I rx ry h
 obtain⟨z,n,rfl,rfl,h1,h2,h3,q⟩:=h
 obtain⟨t,rfl⟩:=rx
 obtain⟨t',rfl⟩:=ry
 exact SB.mul (mulOk_of 1000 1000 h1 h3 (by omega) (by decide) (by decide)) fun t2 k=>⟨.str _,H,I.tok _,⟨t2,rfl⟩,q⟩
def a7I:a7l:=fun o i v H Q=>b2z o i v H Q∨(∃a H',o= .ref a∧DPut H a i v H'∧Q H')
theorem b1Y (hu:X.A.units+1<cLine):a8A X a7I:=by
 intro pins s σ H o i v ov iv u Q I ro ri rv h
 rcases h with h|⟨a,H',rfl,g,q⟩
 ·exact b0G pins s σ H o i v ov iv u Q I ro ri rv h
 ·cases ro
  exact a8q hu I g ri rv fun s' I'=>⟨H',I',q⟩
end
end L2
set_option Elab.async false
set_option linter.all false
set_option maxRecDepth 100000
set_option maxHeartbeats 4000000
namespace L2
open PySem PySem.Spec PyProof.Rows
section
variable {X:Cx}
theorem Inv.pairNew {pins:List (Addr×Obj)}{σ:St}{H:Hp}{s:Shared}{fp:List Addr}{h':Heap}{tk:Nat}{x y:V}{u v:Value}{e:Nat}(I:Inv X pins σ H s)(hf:∀b∈fp,a1H X pins H b)
  (kp:∀b o,b∉fp→s.heap.get? b=some o→h'.get? b=some o) (there:∀b∈fp,b<s.heap.objs.size) (tup:h'.get? s.heap.objs.size=some {cls:= .type "tuple",data:= .seq #[u,v] e}) (rx:RelV x u) (ry:RelV y v):
  H s.heap.objs.size=none∧Inv X pins σ (upd H s.heap.objs.size (.tup [x,y])) {s with heap:=h',toks:=tk}∧∀b∈fp,upd H s.heap.objs.size (.tup [x,y]) b=none:=by
 have fresh:H s.heap.objs.size=none:=I.hok.fresh (Nat.le_refl _)
 have nsz:∀b o,s.heap.get? b=some o→b≠s.heap.objs.size:=fun b o z=>Nat.ne_of_lt (Heap.lt_size z)
 have hH:∀b w,H b=some w→b≠s.heap.objs.size∧b∉fp:=fun b w z=>⟨g0 z fresh,fun m=>by rw[(hf b m).1] at z;cases z⟩
 have hok:HOk X.prog X.w (upd H s.heap.objs.size (.tup [x,y])) h':=fun b w z=>by
  by_cases hb:b=s.heap.objs.size
  ·subst hb
   rw[i7] at z;cases z
   exact⟨by show 2≤sizeLine;decide,[u,v],.cons rx (.cons ry .nil),⟨_,tup,rfl,_,rfl⟩⟩
  ·rw[d0 hb] at z
   refine(I.hok b w z).stay (fun c ob hc q=>kp c ob ?_ q) (fun c q=>by rw[d0 (hH c _ q).1];exact q) fun c ys q=>by rw[d0 (hH c _ q).1];exact q
   rcases hc with m|m
   ·rw[m];exact(hH b _ z).2
   ·exact(hH c _ m).2
 refine⟨fresh,I.call' (s':={s with heap:=h',toks:=tk}) (ch:=fp) rfl ⟨fun b o z n _ hx=>kp b o hx z,fun b o z n _ hx=>⟨o.slots,kp b o hx z⟩,fun b o z n _=>by rw[d0 (nsz b o z)];exact n,
  fun b o z hx=>⟨o,kp b o hx z⟩,fun b ys z=>by rw[d0 (hH b _ z).1];exact z,fun b ob w z=>by rw[d0 (hH b _ z).1];exact z,fun b ps z=>⟨#[],by rw[d0 (hH b _ z).1];simpa using z⟩⟩ hok I.bare fun b hb=>?_,fun b hb=>?_⟩
 ·obtain⟨f0,f1,f2,f3,f4,f5⟩:=hf b hb
  exact⟨f3,f1,f4,f5⟩
 ·rw[d0 (Nat.ne_of_lt (there b hb))];exact(hf b hb).1
theorem Inv.turnedAll {pins:List (Addr×Obj)}{σ:St}{H:Hp}{s:Shared}{fp:List Addr}{h':Heap}{tk:Nat}(I:Inv X pins σ H s)(hf:∀b∈fp,a1H X pins H b)
  (kp:∀b o,b∉fp→s.heap.get? b=some o→h'.get? b=some o):Inv X pins σ H {s with heap:=h',toks:=tk}:=by
 have hH:∀b w,H b=some w→b∉fp:=fun b w z m=>by rw[(hf b m).1] at z;cases z
 refine I.call' (s':={s with heap:=h',toks:=tk}) (ch:=fp) rfl ⟨fun b o z n _ hx=>kp b o hx z,fun b o z n _ hx=>⟨o.slots,kp b o hx z⟩,fun b o z n _=>n,
  fun b o z hx=>⟨o,kp b o hx z⟩,fun b ys z=>z,fun b ob w z=>z,fun b ps z=>⟨#[],by simpa using z⟩⟩ (fun b w z=>?_) I.bare fun b hb=>?_
 ·refine(I.hok b w z).stay (fun c ob hc q=>kp c ob ?_ q) (fun c q=>q) fun c ys q=>q
  rcases hc with m|m
  ·rw[m];exact hH b _ z
  ·exact hH c _ m
 ·obtain⟨f0,f1,f2,f3,f4,f5⟩:=hf b hb
  exact⟨f3,f1,f4,f5⟩
end
def Ite (K:PySem.W.Frag)(l:Addr):It:=
 ⟨fun i H=>∃xs x,SqL K H l xs∧xs[i]?=some x,fun i H x H'=>∃t v,(∀xs,SqL K H l xs→xs[i]?=some v)∧H t=none∧x= .ref t∧H'=upd H t (.tup [.int i,v]),fun i H=>∃xs,SqL K H l xs∧xs.length≤i⟩
theorem a7R {P:Program}{w:World}{K:PySem.W.Frag}{elts:List Expr}{x1}{tpos:Pos}{en it l:Addr}(hne:en≠it):a2q P w K (.Tuple elts x1 tpos) (Ite K l) [en,it] en (fun i h=>∃old,IsEnum h en it i old∧h.IsListIter it l i) where
 mem:=by simp
 obj:=fun i h st b hb=>by
  obtain⟨old,h1,o,e,c,d⟩:=st
  have hb':b=en∨b=it:=by simpa using hb
  rcases hb' with rfl|rfl
  ·exact⟨_,h1,fun v z=>by
    have z':Data.fields _=Data.cell v:=z
    cases z'⟩
  ·exact⟨o,e,fun v z=>by rw[d] at z;cases z⟩
 keep:=fun i h h' st k=>by
  obtain⟨old,h1,h2⟩:=st
  exact⟨old,k en (by simp) _ h1,h2.at fun o e=>k it (by simp) o e⟩
 item:=by
  intro X hP hw hK hc i pins s σ H E I hf st hg
  subst hP hw hK
  obtain⟨old,st1,st2⟩:=st
  obtain⟨xs,x,hq,hx⟩:=hg
  obtain⟨its,rv,p,hz⟩:=I.list hq
  obtain⟨u,hu,ru⟩:=rv.get hx
  have hen:en<s.heap.objs.size:=Heap.lt_size st1
  have hit:it<s.heap.objs.size:=by obtain⟨o,e,_⟩:=st2;exact Heap.lt_size e
  refine wpAny_pyNext_enum_item st1 st2 p.isList (x:=u) (by simpa using hu) hne fun h' heo hit1 ht1 hz1 hk1=>?_
  refine⟨.ref s.heap.objs.size,rfl,wpAny_letOwnedTupleGo_enum (s:={s with heap:=h',toks:=s.toks+1}) heo fun h'' he'' hs''=>?_⟩
  have hs2:Heap.SameBut en h' h'':=hs''
  have tupAt:h''.get? s.heap.objs.size=some {cls:= .type "tuple",data:= .seq #[.int i s.toks,u]}:=hs2.extBut _ _ (Nat.ne_of_gt hen) ht1
  obtain⟨fr,I1,fr2⟩:=I.pairNew (fp:=[en,it]) (h':=h'') (tk:=s.toks+1) (x:= .int i) (y:=x) hf (fun b o hb e=>by
   have hb':b≠en∧b≠it:=by simpa using hb
   exact hs2.extBut b o hb'.1 (hk1 b o hb'.1 hb'.2 e)) (fun b hb=>by
   have hb':b=en∨b=it:=by simpa using hb
   rcases hb' with rfl|rfl
   ·exact hen
   ·exact hit) tupAt ⟨_,rfl⟩ ru
  refine⟨.ref s.heap.objs.size,_,I1,rfl,⟨_,x,fun ys hy=>by rw[I.list_inj hy hq];exact hx,fr,rfl,rfl⟩,⟨_,he'',?_⟩,fr2⟩
  exact hit1.at fun o e=>hs2.extBut it o (Ne.symm hne) e
 done:=by
  intro X hP hw hK hc i pins s σ H E I hf st hg
  subst hP hw hK
  obtain⟨old,st1,st2⟩:=st
  obtain⟨xs,hq,hx⟩:=hg
  obtain⟨its,rv,p,hz⟩:=I.list hq
  have hl:=rv.length
  exact wpAny_pyNext_enum_end (I.ok.hd hc) st1 st2 p.isList (by simp;omega) fun h' eb=>⟨rfl,I.turnedAll (fp:=[en,it]) (tk:=s.toks) hf fun b o hb e=>eb b o (by
   have hb':b≠en∧b≠it:=by simpa using hb
   exact hb'.2) e⟩
 self:=fun _ _ _ _ _ st h=>by
  obtain⟨old,st1,st2⟩:=st
  exact wpAny_pyIter_enum st1 h
section
variable {X:Cx} {a b:Expr} {t:TA} {p pos:Pos}
def b6j (K:PySem.W.Frag)(ta:TA):TI:=fun σ H R=>ta σ H fun vs H1=>∃l xs,vs=[.ref l]∧SqL K H1 l xs∧R (Ite K l) H1
end
def Itz (K : PySem.W.Frag) (l m : Addr) : It :=
  ⟨fun i H => ∃ xs ys x y, SqL K H l xs ∧ SqL K H m ys ∧ xs[i]? = some x ∧ ys[i]? = some y,
   fun i H v H' => ∃ t x y, (∀ xs, SqL K H l xs → xs[i]? = some x) ∧ (∀ ys, SqL K H m ys → ys[i]? = some y) ∧ H t = none ∧ v = .ref t ∧ H' = upd H t (.tup [x, y]),
   fun i H => ∃ xs ys, SqL K H l xs ∧ SqL K H m ys ∧ (xs.length ≤ i ∨ ys.length ≤ i)⟩
section
variable {X:Cx} {a b:Expr} {t:TA} {p pos:Pos}
def b6o (K:PySem.W.Frag)(ta:TA):TI:=fun σ H R=>ta σ H fun vs H1=>∃l m xs ys,vs=[.ref l,.ref m]∧SqL K H1 l xs∧SqL K H1 m ys∧R (Itz K l m) H1
end
section
variable {X:Cx} (K:PySem.W.Frag) {a b:Expr} {t:TA} {p pos:Pos}
theorem O1 (hc:X.calm=true)(h:X.K=K:=by rfl):CallR X (.builtin "sorted") (a4D K):=h▸a4A hc
end
theorem A8 {X:Cx}:MtR X "list.append" a7F:=a7U
section
variable {K:PySem.W.Frag} {σ:St} {H:Hp} {Q:VK}
theorem w4 {p:Addr}{kvs:List (Key×V)}{ss:List Str}(h:Rd H p (.dK kvs))(hk:kvs.map (·.1)=ss.map Sum.inr)(h64:ss.length<64)(q:∀ss':List Str,ss'.Perm ss→sortedS ss'=true→∀l,H l=none→Q (.ref l) (upd H l (.lst (ss'.map V.str)))):a4D K [.ref p] H Q:=⟨p,ss,rfl,.inr ⟨kvs,h,hk⟩,h64,q⟩
theorem a3D {p:Addr}{kvs:List (Key×V)}(h:Rd H p (.dK kvs))(q:∀l,H l=none→Q (.ref l) (upd H l (.lst (kvs.map fun kv=>kV kv.1)))):a7s K [.ref p] H Q:= .inr ⟨p,kvs,rfl,h,q⟩
theorem a8T {i j:Int}(h:CMul i j)(q:Q (.int (i*j)) H):b2G (.int i) (.int j) H Q:= .inl ⟨i,j,rfl,rfl,h,q⟩
theorem b3v {to ti:TE}{t:a7l}{v:V}{Qs:St→Hp→Prop}(q:to σ H fun o H1=>ti σ H1 fun i H2=>t o i v H2 fun H3=>Qs σ H3):b3S to ti t v σ H Qs:=q
theorem z9 {a:Addr}{kvs:List (Key×V)}{k:Key}{v:V}{Qh:Hp→Prop}(h:H a=some (.dK kvs))(hl:kvs.length<sizeLine)(q:Qh (upd H a (.dK (z6 kvs k v)))):a7I (.ref a) (kV k) v H Qh:= .inr ⟨a,_,rfl,DPut.k h hl,q⟩
theorem b3m {ta:TA}{R:It→Hp→Prop}(q:ta σ H fun vs H1=>∃l xs,vs=[.ref l]∧SqL K H1 l xs∧R (Ite K l) H1):b6j K ta σ H R:=q
theorem b5d {ta:TA}{R:It→Hp→Prop}(q:ta σ H fun vs H1=>∃l m xs ys,vs=[.ref l,.ref m]∧SqL K H1 l xs∧SqL K H1 m ys∧R (Itz K l m) H1):b6o K ta σ H R:=q
theorem D2 {n:Nat}{t:TGs}{a:Addr}{xs:List V}{Qs:St→Hp→Prop}(h:SqT K H a xs)(hl:xs.length=n)(q:t xs σ H Qs):a9e K n t (.ref a) σ H Qs:=⟨a,xs,rfl,h,hl,q⟩
theorem b2l {t:TG}{u:TGs}{v:V}{r:List V}{Qs:St→Hp→Prop}(q:t v σ H fun σ' H'=>u r σ' H' Qs):a2W t u (v::r) σ H Qs:=⟨v,r,rfl,q⟩
theorem b2U {Qs:St→Hp→Prop}(q:Qs σ H):b1x [] σ H Qs:=⟨rfl,q⟩
theorem b6x {T:String}{r:V→List V→Hp→VK→Prop}{to:TE}{t:TA}(q:to σ H fun x H1=>tyV K T x H1∧t σ H1 fun xs H2=>r x xs H2 Q):tBM K T r to t σ H Q:=q
theorem b5u {T:String}{r:V→List V→Hp→VK→Prop}{to:TE}(q:to σ H fun x H1=>tyV K T x H1∧r x [] H1 Q):b2P K T r to σ H Q:=q
theorem R8 {p:Addr}{x:V}{o:Option V}(g:DGet H p x o)(q:Q (.bl o.isSome) H):a8C K x (.ref p) H Q:= .inr (.inr ⟨p,o,rfl,g,q⟩)
theorem P1 {p:Addr}{x:V}{o:Option V}(g:DGet H p x o)(q:Q (.bl (!o.isSome)) H):a1L K x (.ref p) H Q:= .inr (.inr ⟨p,o,rfl,g,q⟩)
theorem a6c {p:Addr}{x:V}{xs:List V}(h:SqL K H p xs∨SqT K H p xs)(h1:w9 x=true)(h2:xs.all w9=true)(q:Q (.bl (inV x xs)) H):a8C K x (.ref p) H Q:= .inr (.inl ⟨p,xs,rfl,h,h1,h2,q⟩)
theorem a9u {p:Addr}{xs:List V}{lo hi:Option Int}(h:SqT K H p xs)(hw:¬(HT.sIx xs.length 0 lo=0∧HT.sIx xs.length xs.length hi=xs.length))(q:∀p,H p=none→Q (.ref p) (upd H p (.tup (a2y xs lo hi)))):rSl K (.ref p) lo hi H Q:= .inr (.inl ⟨p,xs,rfl,h,hw,q⟩)
theorem D4 {a:Addr}{kvs:List (Key×V)}{k:Key}(e:Rd H a (.dK kvs)):DGet H a (kV k) (q8 kvs k):= .inl ⟨kvs,k,e,rfl,rfl⟩
end
end L2
set_option Elab.async false
set_option linter.all false
set_option maxRecDepth 100000
set_option maxHeartbeats 4000000
namespace L2
open PySem PySem.Spec PyProof.Rows
open PySem.AutoSeq1 (wpAny_loadPart')
def EqP (P:Program)(w:World)(A:Around)(s:Shared)(y x:Value)(b:Bool):Prop:=∀(E:Value→Shared→Prop) (Q:Bool→Shared→Prop),Q b s→wpAny (model P w) A (eqBool y x) Q E s
def RcP (P:Program)(w:World)(A:Around)(s:Shared)(y x:Value)(b:Bool):Prop:=∀(E:Value→Shared→Prop) (Q:Value→Shared→Prop),Q (.bool b) s→wpAny (model P w) A (richCompare .Eq y x) Q E s
theorem EqP.of {P:Program}{w:World}{A:Around}{s:Shared}{y x:Value}{b:Bool}(h:SeqAt.EqAt A s y x b):EqP P w A s y x b:=fun E Q q=>h P w E Q q
theorem EqP.refs {P:Program}{w:World}{A:Around}{s:Shared}{l m:Addr}{k:Bool}(hne:l≠m)(h:RcP P w A s (.ref l) (.ref m) k):EqP P w A s (.ref l) (.ref m) k:=fun E Q q=>by
 unfold eqBool
 refine wpAny_holding (wpAny_ite_split (fun z=>absurd (Value.ref.inj (eq_of_beq z)) hne) fun _=>wpAny_bind (h E _ (wpAny_truthy_bool q)))
theorem b3T {P:Program}{w:World}(l m:Addr)(xs ys:Array Value)(n1 n2:Nat)(d1 d2:Option Addr)(s1 s2:Array (Option Value))(f:Nat→Bool):
  MeetsIn P w (Builtin.«tuple.__eq__» ⟨[.ref l,.ref m],[]⟩) (fun A R s=>
   s.heap.get? l=some {cls:= .type "tuple",dict:=d1,data:= .seq xs n1,slots:=s1}∧s.heap.get? m=some {cls:= .type "tuple",dict:=d2,data:= .seq ys n2,slots:=s2}∧
   (∀j (g1:j<xs.size) (g2:j<ys.size),EqP P w A.in1 s xs[j] ys[j] (f j))∧
   R (.ok (.ret (.bool ((List.range (min xs.size ys.size)).all f&&xs.size==ys.size)))) s):=
 .of_wp fun A R s hyp=>by
  obtain⟨hp,gg,dr,tk,os⟩:=s
  obtain⟨e1,e2,he,fin⟩:=hyp
  have sub:=AutoSeq1.sub_tuple_tuple
  have len:(xs.toList.zip ys.toList).length=min xs.size ys.size:=by simp
  wp_walk using wpAny_loadPart' e1,wpAny_loadPart' e2,wpAny_forIn_list _ (fun more acc st=>acc.1=none∧st=⟨hp,gg,dr,tk,os⟩∧∃i,more=(xs.toList.zip ys.toList).drop i∧
   R (.ok (.ret (.bool (((List.range (min xs.size ys.size)).drop i).all f&&xs.size==ys.size)))) ⟨hp,gg,dr,tk,os⟩) _
  case turn=>
   rintro⟨y,x⟩ more acc st ⟨ha,rfl,i,hi,hR⟩
   have lt:i<(xs.toList.zip ys.toList).length:=by
    rcases Nat.lt_or_ge i (xs.toList.zip ys.toList).length with z|z
    ·exact z
    ·rw[List.drop_of_length_le z] at hi
     cases hi
   have lm:i<min xs.size ys.size:=len▸lt
   have lx:i<xs.size:=Nat.lt_of_lt_of_le lm (Nat.min_le_left _ _)
   have ly:i<ys.size:=Nat.lt_of_lt_of_le lm (Nat.min_le_right _ _)
   rw[List.drop_eq_getElem_cons lt] at hi
   injection hi with h1 h2
   have q1:y=xs[i]:=by simpa using congrArg Prod.fst h1
   have q2:x=ys[i]:=by simpa using congrArg Prod.snd h1
   subst q1 q2
   have dr1:(List.range (min xs.size ys.size)).drop i=i::(List.range (min xs.size ys.size)).drop (i+1):=by simp [List.drop_eq_getElem_cons,lm]
   rw[dr1,List.all_cons] at hR
   refine wpAny_bind (he i lx ly _ _ ?_)
   cases hf:f i with
   |true=>
    rw[hf] at hR
    wp_walk
    exact⟨rfl,rfl,i+1,h2,by simpa using hR⟩
   |false=>
    rw[hf] at hR
    wp_walk
    exact⟨_,rfl,by simpa using hR⟩
  case fin=>
   rintro⟨c1,c2⟩ st ⟨ha,rfl,i,hi,hR⟩
   simp only at ha
   subst ha
   have ge:min xs.size ys.size≤i:=by
    rcases Nat.lt_or_ge i (xs.toList.zip ys.toList).length with z|z
    ·rw[List.drop_eq_getElem_cons z] at hi
     cases hi
    ·exact len▸z
   rw[List.drop_of_length_le (by simpa using ge)] at hR
   wp_walk
   exact⟨_,rfl,by simpa [Builtin.Tuple.tupleCompareSizes] using hR⟩
  case h=>
   exact⟨rfl,rfl,0,rfl,by simpa using fin⟩
theorem RcP.tup {P:Program}{w:World}{A:Around}{s:Shared}{l m:Addr}{xs ys:Array Value}{f:Nat→Bool}(hl:s.heap.IsTuple l xs)(hm:s.heap.IsTuple m ys)(hu:A.units<cLine)
  (he:∀j (g1:j<xs.size) (g2:j<ys.size),EqP P w A.in1 s xs[j] ys[j] (f j)):RcP P w A s (.ref l) (.ref m) ((List.range (min xs.size ys.size)).all f&&xs.size==ys.size):=fun E Q q=>by
 obtain⟨⟨c1,d1,a1,s1⟩,o1,k1,n1,t1⟩:=id hl
 obtain⟨⟨c2,d2,a2,s2⟩,o2,k2,n2,t2⟩:=id hm
 simp only at k1 t1 k2 t2
 subst k1 t1 k2 t2
 refine wpAny_richCompare_same_room (op:= .Eq) ⟨_,o1,rfl⟩ ⟨_,o2,rfl⟩ PySem.F.slot_tuple_eq (call_meetsIn PySem.F.slot_tuple_eq ⟨_,o1,rfl⟩ PySem.F.entry_tuple_eq (PySem.F.args_tuple_eq_2 _ _) (b3T l m xs ys n1 n2 d1 d2 s1 s2 f) ⟨o1,o2,he,?_⟩) hu
 exact⟨(fun z=>nomatch z),q⟩
def T0:List V→List V→Bool
 |[],[]=>true
 |x::xs,y::ys=>eqV x y&&T0 xs ys
 |_,_=>false
inductive Eq1 (K:PySem.W.Frag) (H:Hp):V→V→Bool→Prop
 |flat {x y:V}:w9 x=true→w9 y=true→Eq1 K H x y (eqV x y)
 |tup {a b:Addr} {xs ys:List V}:SqT K H a xs→SqT K H b ys→xs.all w9=true→ys.all w9=true→Eq1 K H (.ref a) (.ref b) (T0 xs ys)
 |nt {a:Addr} {xs:List V}:SqT K H a xs→Eq1 K H .non (.ref a) false
 |tn {a:Addr} {xs:List V}:SqT K H a xs→Eq1 K H (.ref a) .non false
theorem a1A:∀{x:V},w9 x=true→eqV x x=true
 | .non,_=>rfl
 | .bl b,_=>by simp [eqV]
 | .int i,_=>by simp [eqV]
 | .str x,_=>by simp [eqV]
theorem a0L:∀{xs:List V},xs.all w9=true→T0 xs xs=true
 |[],_=>rfl
 |x::xs,h=>by
  rw[List.all_cons,Bool.and_eq_true] at h
  show(eqV x x&&T0 xs xs)=true
  rw[a1A h.1,a0L h.2];rfl
theorem O0:∀(xs ys:List V),((List.range (min xs.length ys.length)).all (fun j=>eqV (xs.getD j .non) (ys.getD j .non))&&xs.length==ys.length)=T0 xs ys
 |[],[]=>rfl
 |[],_::_=>by simp [T0]
 |_::_,[]=>by simp [T0]
 |x::xs,y::ys=>by
  have ih:=O0 xs ys
  have e:min (x::xs).length (y::ys).length=min xs.length ys.length+1:=by simp
  rw[e,List.range_succ_eq_map,List.all_cons,List.all_map]
  show((eqV x y&&(List.range (min xs.length ys.length)).all _)&&(xs.length+1==ys.length+1))=(eqV x y&&T0 xs ys)
  rw[←ih,Bool.and_assoc]
  congr 1
  congr 1
  simp
section
variable {X:Cx} {pins:List (Addr×Obj)} {σ:St} {H:Hp} {s:Shared} {A:Around}
theorem Eq1.at_ {x y:V}{u v:Value}{b:Bool}(I:Inv X pins σ H s)(h:Eq1 X.K H x y b)(rx:RelV x u)(ry:RelV y v)(hu:A.units+8<cLine):SeqAt.EqAt A s u v b:=by
 cases h with
 |flat fx fy=>exact a1t rx ry fx fy
 | @tup a c xs ys ha hc fx fy=>
  cases rx
  cases ry
  obtain⟨its,r1,p1,z1⟩:=I.tuple ha
  obtain⟨its',r2,p2,z2⟩:=I.tuple hc
  by_cases hac:a=c
  ·subst hac
   have e:=I.tuple_inj ha hc
   subst e
   rw[a0L fx]
   exact SeqAt.EqAt.same _
  ·have l1:=r1.length
   have l2:=r2.length
   have q:=SeqAt.RcAt.tuples (A:=A) (e:=fun j=>eqV (xs.getD j .non) (ys.getD j .non)) (show s.heap.IsTuple a its.toArray from p1) (show s.heap.IsTuple c its'.toArray from p2) (by omega) fun j g1 g2=>by
    have g1':j<its.length:=by simpa using g1
    have g2':j<its'.length:=by simpa using g2
    have x1:xs[j]?=some (xs[j]'(by omega)):=by simp [show j<xs.length by omega]
    have y1:ys[j]?=some (ys[j]'(by omega)):=by simp [show j<ys.length by omega]
    obtain⟨u1,hu1,ru1⟩:=r1.get x1
    obtain⟨u2,hu2,ru2⟩:=r2.get y1
    have e1:its.toArray[j]=u1:=by
     have:=List.getElem?_eq_getElem g1'
     rw[hu1] at this
     simpa using(Option.some.inj this).symm
    have e2:its'.toArray[j]=u2:=by
     have:=List.getElem?_eq_getElem g2'
     rw[hu2] at this
     simpa using(Option.some.inj this).symm
    rw[e1,e2]
    have d1:xs.getD j .non=xs[j]'(by omega):=by rw[List.getD_eq_getElem?_getD,x1];rfl
    have d2:ys.getD j .non=ys[j]'(by omega):=by rw[List.getD_eq_getElem?_getD,y1];rfl
    rw[d1,d2]
    exact a1t ru1 ru2 (List.all_eq_true.mp fx _ (List.getElem_mem _)) (List.all_eq_true.mp fy _ (List.getElem_mem _))
   have e3:its.toArray.size=xs.length:=by simp [l1]
   have e4:its'.toArray.size=ys.length:=by simp [l2]
   rw[e3,e4,O0] at q
   exact .of_refs hac q
 | @nt a xs ha=>
  cases rx
  cases ry
  obtain⟨its,r1,p1,z1⟩:=I.tuple ha
  exact SeqAt.EqAt.none_tuple (show s.heap.IsTuple a its.toArray from p1) (by omega)
 | @tn a xs ha=>
  cases rx
  cases ry
  obtain⟨its,r1,p1,z1⟩:=I.tuple ha
  exact SeqAt.EqAt.tuple_none (show s.heap.IsTuple a its.toArray from p1) (by omega)
end
inductive EqH (K:PySem.W.Frag) (H:Hp) (kb:List (Key×V)):List (Key×V)→Bool→Prop
 |nil:EqH K H kb [] true
 |miss {k:Key} {v:V} {r:List (Key×V)}:q8 kb k=none→EqH K H kb ((k,v)::r) false
 |hit {k:Key} {v y:V} {r:List (Key×V)} {e b:Bool}:q8 kb k=some y→Eq1 K H v y e→EqH K H kb r b→EqH K H kb ((k,v)::r) (e&&b)
def EqD (K:PySem.W.Frag)(H:Hp)(a b:Addr)(r:Bool):Prop:=(a=b∧r=true)∨(a≠b∧∃ka kb r0,Rd H a (.dK ka)∧Rd H b (.dK kb)∧EqH K H kb ka r0∧r=(ka.length==kb.length&&r0))
section
variable {X:Cx} {pins:List (Addr×Obj)} {σ:St} {H:Hp} {s:Shared} {A:Around}
theorem EqH.hits {kb:List (Key×V)}{vb:List (Key×Value)}(I:Inv X pins σ H s)(hu:A.units+8<cLine)(rb:KV kb vb){ka:List (Key×V)}{r:Bool}(h:EqH X.K H kb ka r):∀{va:List (Key×Value)},KV ka va→PySem.W.KeqHits A s vb va r:=by
 induction h with
 |nil=>
  intro va t
  cases t
  exact .nil
 | @miss k v r hn=>
  intro va t
  cases t with
  | @cons _ q _ l e t=>
   obtain⟨k',u⟩:=q
   have ek':k=k':=e.1
   subst ek'
   refine .miss ?_
   have z:=KV.val rb k
   rw[hn] at z
   cases e:valueAt vb k with
   |none=>rfl
   |some y=>rw[e] at z;exact False.elim z
 | @hit k v y r e b hy h1 hr ih=>
  intro va t
  cases t with
  | @cons _ q _ l e t=>
   obtain⟨k',u⟩:=q
   have ek':k=k':=e.1
   subst ek'
   have z:=KV.val rb k
   rw[hy] at z
   cases e5:valueAt vb k with
   |none=>rw[e5] at z;exact False.elim z
   |some y'=>
    rw[e5] at z
    exact .hit e5 (h1.at_ I e.2 z hu) (ih t)
theorem EqD.at_ {a b:Addr}{r:Bool}(I:Inv X pins σ H s)(h:EqD X.K H a b r)(hu:A.units+16<cLine):EqP X.prog X.w A s (.ref a) (.ref b) r:=by
 rcases h with⟨rfl,rfl⟩|⟨hne,ka,kb,r0,h1,h2,h3,rfl⟩
 ·exact .of (SeqAt.EqAt.same _)
 ·obtain⟨z1,d1,va,ra,da⟩:=J0 I.hok h1
  obtain⟨z2,d2,vb,rb,db⟩:=J0 I.hok h2
  refine .refs hne fun E Q q=>?_
  have l1:=KV.length ra
  have l2:=KV.length rb
  exact PySem.W.keq_eq (knd:=j8 X.prog X.w) d1 d2 da db (by omega) (fun _=>h3.hits (A:=A.in1) I (by show A.units+1+8<_;omega) rb ra) (by rw[←l1,←l2];exact q)
def b4R (K:PySem.W.Frag):R2:=fun x y H Q=>∃a b p q p' q' r r',x= .ref a∧y= .ref b∧SqT K H a [.ref p,.ref q]∧SqT K H b [.ref p',.ref q']∧EqD K H p p' r∧EqD K H q q' r'∧Q (.bl (r&&r')) H
theorem b3z (hu:X.A.units+64<cLine):OpR X (compareOp .Eq) (b4R X.K):=by
 intro pins s σ H x y v u Q I rx ry h
 obtain⟨a,b,p,q,p',q',r,r',rfl,rfl,ha,hb,h1,h2,k⟩:=h
 cases rx
 cases ry
 obtain⟨its,v1,t1,_⟩:=I.tuple ha
 obtain⟨its',v2,t2,_⟩:=I.tuple hb
 obtain⟨_,_,rfl,e1,e2⟩:=a2t v1
 obtain⟨_,_,rfl,e3,e4⟩:=a2t v2
 cases e1
 cases e2
 cases e3
 cases e4
 refine RcP.tup (P:=X.prog) (w:=X.w) (f:=fun j=>if j=0 then r else r') (show s.heap.IsTuple a _ from t1) (show s.heap.IsTuple b _ from t2) (by omega) (fun j g1 g2=>?_) _ _ ⟨.bl (r&&r'),H,I,by show Value.bool _=Value.bool _;simp [List.range_succ],k⟩
 have g:j<2:=by simpa using g1
 match j,g with
 |0,_=>exact h1.at_ I (by show X.A.units+1+16<_;omega)
 |1,_=>exact h2.at_ I (by show X.A.units+1+16<_;omega)
def b5D (K:PySem.W.Frag):R2:=fun x y H Q=>∃a b xs ys,x= .ref a∧y= .ref b∧SqL K H a xs∧SqL K H b ys∧xs.all w9=true∧ys.all w9=true∧Q (.bl (T0 xs ys)) H
theorem a3p:∀{xs ys:List V},xs.length≠ys.length→T0 xs ys=false
 |[],[],h=>absurd rfl h
 |[],_::_,_=>rfl
 |_::_,[],_=>rfl
 |x::xs,y::ys,h=>by
  show(eqV x y&&T0 xs ys)=false
  rw[a3p (by simpa using h),Bool.and_false]
theorem b4m (hu:X.A.units+64<cLine):OpR X (compareOp .Eq) (b5D X.K):=by
 intro pins s σ H x y v u Q I rx ry h
 obtain⟨a,b,xs,ys,rfl,rfl,ha,hb,fx,fy,k⟩:=h
 cases rx
 cases ry
 obtain⟨its,r1,p1,z1⟩:=I.list ha
 obtain⟨its',r2,p2,z2⟩:=I.list hb
 have l1:=r1.length
 have l2:=r2.length
 have e3:its.toArray.size=xs.length:=by simp [l1]
 have e4:its'.toArray.size=ys.length:=by simp [l2]
 by_cases hl:xs.length=ys.length
 ·have q:=SeqAt.RcAt.lists (A:=X.A) (e:=fun j=>eqV (xs.getD j .non) (ys.getD j .non)) p1.isList p2.isList (by rw[e3,e4];exact hl) (by omega) fun j g1 g2=>by
   have g1':j<its.length:=by simpa using g1
   have g2':j<its'.length:=by simpa using g2
   have x1:xs[j]?=some (xs[j]'(by omega)):=by simp [show j<xs.length by omega]
   have y1:ys[j]?=some (ys[j]'(by omega)):=by simp [show j<ys.length by omega]
   obtain⟨u1,hu1,ru1⟩:=r1.get x1
   obtain⟨u2,hu2,ru2⟩:=r2.get y1
   have e1:its.toArray[j]=u1:=by
    have:=List.getElem?_eq_getElem g1'
    rw[hu1] at this
    simpa using(Option.some.inj this).symm
   have e2:its'.toArray[j]=u2:=by
    have:=List.getElem?_eq_getElem g2'
    rw[hu2] at this
    simpa using(Option.some.inj this).symm
   rw[e1,e2]
   have d1:xs.getD j .non=xs[j]'(by omega):=by rw[List.getD_eq_getElem?_getD,x1];rfl
   have d2:ys.getD j .non=ys[j]'(by omega):=by rw[List.getD_eq_getElem?_getD,y1];rfl
   rw[d1,d2]
   exact a1t ru1 ru2 (List.all_eq_true.mp fx _ (List.getElem_mem _)) (List.all_eq_true.mp fy _ (List.getElem_mem _))
  have e5:=O0 xs ys
  rw[hl,Nat.min_self,beq_self_eq_true,Bool.and_true] at e5
  rw[e3,hl,e5] at q
  exact q X.prog X.w _ _ ⟨.bl _,H,I,rfl,k⟩
 ·refine SeqAt.RcAt.lists_lengths (A:=X.A) p1.isList p2.isList (by rw[e3,e4];simpa using hl) (by omega) X.prog X.w _ _ ⟨.bl _,H,I,?_,k⟩
  rw[a3p hl];rfl
def b5Q (K:PySem.W.Frag):R2:=fun x y H Q=>(∃a b xs ys,x= .ref a∧y= .ref b∧SqT K H a xs∧SqT K H b ys∧xs.all w9=true∧ys.all w9=true∧Q (.bl (T0 xs ys)) H)∨(∃a xs,x= .non∧y= .ref a∧SqT K H a xs∧Q (.bl false) H)
theorem b3N (hu:X.A.units+64<cLine):OpR X (compareOp .Eq) (b5Q X.K):=by
 intro pins s σ H x y v u Q I rx ry h
 rcases h with⟨a,b,xs,ys,rfl,rfl,ha,hb,fx,fy,k⟩|⟨a,xs,rfl,rfl,ha,k⟩
 ·cases rx
  cases ry
  obtain⟨its,r1,p1,z1⟩:=I.tuple ha
  obtain⟨its',r2,p2,z2⟩:=I.tuple hb
  have l1:=r1.length
  have l2:=r2.length
  have q:=SeqAt.RcAt.tuples (A:=X.A) (e:=fun j=>eqV (xs.getD j .non) (ys.getD j .non)) (show s.heap.IsTuple a its.toArray from p1) (show s.heap.IsTuple b its'.toArray from p2) (by omega) fun j g1 g2=>by
   have g1':j<its.length:=by simpa using g1
   have g2':j<its'.length:=by simpa using g2
   have x1:xs[j]?=some (xs[j]'(by omega)):=by simp [show j<xs.length by omega]
   have y1:ys[j]?=some (ys[j]'(by omega)):=by simp [show j<ys.length by omega]
   obtain⟨u1,hu1,ru1⟩:=r1.get x1
   obtain⟨u2,hu2,ru2⟩:=r2.get y1
   have e1:its.toArray[j]=u1:=by
    have:=List.getElem?_eq_getElem g1'
    rw[hu1] at this
    simpa using(Option.some.inj this).symm
   have e2:its'.toArray[j]=u2:=by
    have:=List.getElem?_eq_getElem g2'
    rw[hu2] at this
    simpa using(Option.some.inj this).symm
   rw[e1,e2]
   have d1:xs.getD j .non=xs[j]'(by omega):=by rw[List.getD_eq_getElem?_getD,x1];rfl
   have d2:ys.getD j .non=ys[j]'(by omega):=by rw[List.getD_eq_getElem?_getD,y1];rfl
   rw[d1,d2]
   exact a1t ru1 ru2 (List.all_eq_true.mp fx _ (List.getElem_mem _)) (List.all_eq_true.mp fy _ (List.getElem_mem _))
  have e3:its.toArray.size=xs.length:=by simp [l1]
  have e4:its'.toArray.size=ys.length:=by simp [l2]
  rw[e3,e4,O0] at q
  exact q X.prog X.w _ _ ⟨.bl _,H,I,rfl,k⟩
 ·cases rx
  cases ry
  obtain⟨its,r1,p1,z1⟩:=I.tuple ha
  exact SeqAt.RcAt.none_tuple (A:=X.A) (show s.heap.IsTuple a its.toArray from p1) (by omega) X.prog X.w _ _ ⟨.bl false,H,I,rfl,k⟩
def a2S (K:PySem.W.Frag):R2:=fun x y H Q=>rEq x y H Q∨b5D K x y H Q∨b5Q K x y H Q∨b4R K x y H Q
theorem kEq (K:PySem.W.Frag){k:Nat}(hr:Room k X.A)(h:X.K=K:=by rfl):OpR X (compareOp .Eq) (a2S K):=h▸op_eq.or ((b4m hr.units).or ((b3N hr.units).or (b3z hr.units)))
end
section
variable {K:PySem.W.Frag} {H:Hp} {Q:VK}
theorem b0p {i j:Int}(q:Q (.bl (decide (i=j))) H):a2S K (.int i) (.int j) H Q:= .inl (a6r q)
theorem b1W {i j:Bool}(q:Q (.bl (decide (i=j))) H):a2S K (.bl i) (.bl j) H Q:= .inl (a7H q)
theorem a9h {i j:Str}(q:Q (.bl (decide (i=j))) H):a2S K (.str i) (.str j) H Q:= .inl (a5Q q)
theorem a5R {a b:Addr}{xs ys:List V}(ha:SqL K H a xs)(hb:SqL K H b ys)(fx:xs.all w9=true)(fy:ys.all w9=true)(q:Q (.bl (T0 xs ys)) H):a2S K (.ref a) (.ref b) H Q:= .inr (.inl ⟨a,b,xs,ys,rfl,rfl,ha,hb,fx,fy,q⟩)
theorem a9H {a b:Addr}{xs ys:List V}(ha:SqT K H a xs)(hb:SqT K H b ys)(fx:xs.all w9=true)(fy:ys.all w9=true)(q:Q (.bl (T0 xs ys)) H):a2S K (.ref a) (.ref b) H Q:= .inr (.inr (.inl (.inl ⟨a,b,xs,ys,rfl,rfl,ha,hb,fx,fy,q⟩)))
end
end L2
set_option Elab.async false
set_option linter.all false
set_option maxRecDepth 100000
set_option maxHeartbeats 4000000
namespace L2
open PySem PySem.Spec PyProof.Rows
section
variable {K:PySem.W.Frag} {σ:St} {H H' H1:Hp} {Q:VK} {d:Addr} {kvs:List (Key×V)} {o:Obj}
theorem a6n {i j:Int}(q:Q (.bl (!decide (i=j))) H):rNe (.int i) (.int j) H Q:=⟨rfl,by rw[a2L];rw[show(i==j)=decide (i=j) from Bool.beq_eq_decide_eq i j];exact q⟩
theorem b6V {r:V→Hp→VK→Prop}{ta:TE}(q:ta σ H fun x H1=>r x H1 Q):tUn r ta σ H Q:=q
theorem b6g {i:Int}(q:Q (.int (-i)) H):rU (fun i=> .int (-i)) (.int i) H Q:=⟨i,rfl,q⟩
def nf:HO→Bool
 | .frz _ _=>false
 |_=>true
def Le (H H':Hp):Prop:=∀a u,nf u=true→Rd H a u→Rd H' a u
theorem Le.refl (H:Hp):Le H H:=fun _ _ _ h=>h
theorem Le.trans (a:Le H H1)(b:Le H1 H'):Le H H':=fun x u n h=>b x u n (a x u n h)
theorem Same.le (s:Same H H'):Le H H':=fun a u _ h=>s.rd h
theorem Q6 (h:H d=some (.dK kvs)):Le H (B6 d o kvs H):=fun a u n r=>by
 by_cases e:a=d
 ·subst e
  rcases r with r|⟨o',r⟩
  ·rw[h] at r;cases r
   exact .inr ⟨o,i7⟩
  ·rw[h] at r;cases r
 ·unfold B6 Rd
  rw[d0 e];exact r
theorem b2v:Le H (thaw d H):=fun a u n r=>by
 by_cases e:a=d
 ·subst e
  rcases r with r|⟨o',r⟩
  ·rw[a7m fun o v z=>by rw[r] at z;cases z;cases n];exact .inl r
  ·exact .inl (a5m r)
 ·unfold Rd
  rw[a0U e];exact r
theorem Le.tup {a:Addr}{xs:List V}(l:Le H H')(h:SqT K H a xs):SqT K H' a xs:=by
 rcases h with h|h
 ·exact .inl (l _ _ rfl h)
 ·exact .inr h
theorem Le.lst {a:Addr}{xs:List V}(l:Le H H')(h:SqL K H a xs):SqL K H' a xs:=by
 rcases h with h|h
 ·exact .inl (l _ _ rfl h)
 ·exact .inr h
theorem Le.dic {a:Addr}(l:Le H H')(h:Rd H a (.dK kvs)):Rd H' a (.dK kvs):=l _ _ rfl h
abbrev Tie:=Str×Str×Str
structure Web where
 pts:List (Str×Str)
 ts:List (Str×Tie)
def pKV (pts:List (Str×Str)):List (Key×V):=pts.map fun x=>(Sum.inr x.1,.str x.2)
def Y8 (t:Tie):List V:=[.str t.1,.str t.2.1,.str t.2.2]
def TieAt (K:PySem.W.Frag)(H:Hp)(kv:Key×V)(x:Str×Tie):Prop:=kv.1=Sum.inr x.1∧∃a,kv.2= .ref a∧SqT K H a (Y8 x.2)
def TiesIs (K:PySem.W.Frag)(H:Hp)(kvs:List (Key×V))(ts:List (Str×Tie)):Prop:=Paired (TieAt K H) kvs ts
structure WebAt (K:PySem.W.Frag) (H:Hp) (a p q:Addr) (kvs:List (Key×V)) (W:Web):Prop where
 tup:SqT K H a [.ref p,.ref q]
 pts:Rd H p (.dK (pKV W.pts))
 ties:Rd H q (.dK kvs)
 ts:TiesIs K H kvs W.ts
theorem TieAt.mono {kv:Key×V}{x:Str×Tie}(l:Le H H')(h:TieAt K H kv x):TieAt K H' kv x:=let ⟨e,a,ea,s⟩:=h;⟨e,a,ea,l.tup s⟩
theorem TiesIs.mono {ts:List (Str×Tie)}(l:Le H H')(h:TiesIs K H kvs ts):TiesIs K H' kvs ts:=Paired.imp' (fun _ _ z=>z.mono l) h
theorem WebAt.mono {a p q:Addr}{W:Web}(l:Le H H')(h:WebAt K H a p q kvs W):WebAt K H' a p q kvs W:=⟨l.tup h.tup,l.dic h.pts,l.dic h.ties,h.ts.mono l⟩
theorem TiesIs.length {ts:List (Str×Tie)}(h:TiesIs K H kvs ts):kvs.length=ts.length:=Paired.length h
theorem TiesIs.keys {ts:List (Str×Tie)}(h:TiesIs K H kvs ts):kvs.map (·.1)=ts.map fun x=>Sum.inr x.1:=by
 unfold TiesIs at h
 induction h with
 |nil=>rfl
 |cons r _ ih=>rw[List.map_cons,List.map_cons,ih,r.1]
theorem TiesIs.get {ts:List (Str×Tie)}{i:Nat}{kv:Key×V}(h:TiesIs K H kvs ts)(e:kvs[i]?=some kv):∃x,ts[i]?=some x∧TieAt K H kv x:=N8 h e
theorem TiesIs.val {ts:List (Str×Tie)}{n:Str}:∀{kvs:List (Key×V)} {ts:List (Str×Tie)},TiesIs K H kvs ts→n∈ts.map (·.1)→∃a x,q8 kvs (Sum.inr n:Key)=some (.ref a)∧(n,x)∈ts∧SqT K H a (Y8 x)
 |_,_,.nil,h=>by simp at h
 |kv::r,x::ts,.cons t u,h=>by
  obtain⟨e,a,ea,s⟩:=t
  by_cases hn:x.1=n
  ·subst hn
   refine⟨a,x.2,?_,List.mem_cons_self,s⟩
   rw[B0 e,ea]
  ·have h':n∈ts.map (·.1):=by
    rcases List.mem_cons.mp h with z|z
    ·exact absurd z.symm hn
    ·exact z
   obtain⟨b,y,h1,h2,h3⟩:=TiesIs.val (ts:=ts) u h'
   refine⟨b,y,?_,List.mem_cons_of_mem _ h2,h3⟩
   rw[A9 (by rw[e];intro z;exact hn (Sum.inr.inj z))]
   exact h1
theorem E2 (pts:List (Str×Str)):(pKV pts).map (·.1)=pts.map fun x=>Sum.inr x.1:=by
 unfold pKV
 rw[List.map_map];rfl
def lt (a b:Str):Bool:=decide (a.cps.toList<b.cps.toList)
def a9K (ss:List Str):Bool:=(ss.dropLast.zip ss.tail).all fun p=>lt p.1 p.2
theorem a7q:∀a b:List Nat,ltCps a b=true∨a=b∨ltCps b a=true
 |[],[]=> .inr (.inl rfl)
 |[],_::_=> .inl rfl
 |_::_,[]=> .inr (.inr rfl)
 |x::r,y::t=>by
  rcases Nat.lt_trichotomy x y with h|h|h
  ·exact .inl (by simp [ltCps,h])
  ·subst h
   rcases a7q r t with z|z|z
   ·exact .inl (by simp [ltCps,z])
   ·exact .inr (.inl (by rw[z]))
   ·exact .inr (.inr (by simp [ltCps,z]))
  ·exact .inr (.inr (by simp [ltCps,h]))
theorem b5k {a b:Str}(h:ltCps b.cps.toList a.cps.toList=false)(hne:a≠b):lt a b=true:=by
 unfold lt
 rw[←ltCps_eq]
 rcases a7q a.cps.toList b.cps.toList with z|z|z
 ·exact z
 ·exfalso
  apply hne
  obtain⟨⟨l⟩⟩:=a
  obtain⟨⟨m⟩⟩:=b
  have z':l=m:=z
  rw[z']
 ·rw[z] at h;cases h
theorem a4g (x y:Str)(r:List Str):a9K (x::y::r)=(lt x y&&a9K (y::r)):=by
 unfold a9K
 simp [List.dropLast]
theorem a4N:∀{ss:List Str},sortedS ss=true→ss.Nodup→a9K ss=true
 |[],_,_=>rfl
 |[_],_,_=>rfl
 |x::y::r,h,n=>by
  have h':(!ltCps y.cps.toList x.cps.toList&&risingS y r)=true:=h
  rw[Bool.and_eq_true] at h'
  have n':=List.nodup_cons.mp n
  rw[a4g,b5k (by simpa using h'.1) (fun z=>n'.1 (by rw[z];exact List.mem_cons_self)),a4N (ss:=y::r) h'.2 n'.2];rfl
end
end L2
set_option Elab.async false
set_option linter.all false
set_option maxRecDepth 100000
set_option maxHeartbeats 4000000
namespace L2
open PySem PySem.Spec PyProof.Rows
theorem Inv.off {X:Cx}{pins:List (Addr×Obj)}{σ:St}{H:Hp}{s:Shared}{C:Addr}{h':Heap}(I:Inv X pins σ H s)(hH:H C=none)(h0:X.s₀.heap.objs.size≤C)(h1:C≠X.env.locals)(h2:∀x c,X.env.cells.lookup x=some c→c≠C)(h3:∀p∈X.pn++pins,p.1≠C)(sb:Heap.SameBut C s.heap h'):Inv X pins σ H {s with heap:=h'}:=by
 refine I.call' (s':={s with heap:=h'}) (ch:=[C]) rfl ?_ ?_ I.bare fun b hb=>?_
 ·have same:∀b,b∉[C]→h'.get? b=s.heap.get? b:=fun b hb=>sb.2 b fun z=>hb (by rw[z];exact List.mem_cons_self)
  refine⟨fun b o q n hb hx=>?_,fun b o q n hb hx=>?_,fun b o q n hx=>n,fun b o q hx=>?_,fun b xs q=>q,fun b o u q=>q,fun b ps q=>⟨#[],by rw[Array.append_empty];exact q⟩⟩
  ·show h'.get? b=_
   rw[same b hx];exact q
  ·exact⟨o.slots,(same b hx).trans q⟩
  ·exact⟨o,(same b hx).trans q⟩
 ·refine fun b ob e=>(I.hok b ob e).stay (fun c w' hc q=>(sb.2 c ?_).trans q) (fun _ q=>q) fun _ _ q=>q
  rintro rfl
  rcases hc with rfl|hc
  ·rw[hH] at e;cases e
  ·rw[hH] at hc;cases hc
 ·rw[List.mem_singleton.mp hb]
  exact⟨.inr h0,h1,h2,h3⟩
theorem a7a {X:Cx}{own:List Str}{js:List Nat}{scope:Scope}{tg iter elt:Expr}{ifs:List Expr}{pos spos py:Pos}{g:TG}{ti:TT}{te:TE}{wi:TI2}{i:Nat}{y:Str}(hN:X.N.Nodup)(hy:X.N[i]?=some y)(hl:Loc X.env.scope y)(S:scB X own js scope=true)(hc:X.calm=true)(hit:PI2 X tg iter wi)
  (hg:∀C s H fp,PG (cxB X own js scope C s H fp) tg g) (hi:∀C s H fp,a6Q (cxB X own js scope C s H fp) ifs ti) (he:∀C s H fp,PE (cxB X own js scope C s H fp) elt te)
  (hsw:swapsWith (.ListComp elt [⟨tg,iter,ifs,0⟩] scope pos) (some (.Name y py)) spos.line X.env=pure true)
  (hf:X.fn y=true∨X.env.scope.names.lookup y=some .local)
  (hs:∀x,foldedSetIterable iter X.env x=pure x):
  PS X (.Assign [.Name y py] (.ListComp elt [⟨tg,iter,ifs,0⟩] scope pos) spos) (a6F (a3c own js wi g ti te) (M0 i)):=by
 have SB:=a9p S
 intro pins s σ H D I h
 rw[exec_Assign_Name_used _ _ _ _ hsw]
 refine wpAny_bind (wpAny_standAt (wpAny_bind ?_))
 show wpAny _ X.A (do let _←comprehension (.ListComp elt [⟨tg,iter,ifs,0⟩] scope pos) scope X.env _ (newList []) false (eval iter X.env) (some (assign (.Name y py) X.env))) _ _ s
 refine wpAny_bind (wpAny_mono (wpAny_comprehension_free (use:=some (assign (.Name y py) X.env)) (Q:=fun _ s'=>SP X pins D .next s') rfl hs (a3j (SB.cells I)) SB.kind SB.names (thn (hit pins s σ H _ I h) fun v s1 h1=>thn h1 fun itv s2 h2=>?_)) (fun _ s' hq=>wpAny_pure (wpAny_pure hq)) fun _ _ e=>e)
 obtain⟨it,fp,tn,J,H2,e,I2,T,st2,f2,th,hth,W,⟨m0,w0⟩,turn⟩:=h2
 subst e
 refine wpAny_newObj_type (wpAny_newFunctionEnv SB.nocell (by intro y hy;simp at hy) (fun h₁ hns₁ hsb₁=>?_) SB.kind)
 dsimp only at hns₁ hsb₁⊢
 generalize hH2:s2.heap.push {cls:= .type "list",dict:=none,data:= .seq ([]:List Value).toArray}=G2 at hns₁ hsb₁⊢
 have hCs:G2.objs.size=s2.heap.objs.size+1:=by rw[←hH2,Heap.size_push]
 have hDC:s2.heap.objs.size≠G2.objs.size:=by rw[hCs];exact Nat.ne_of_lt (Nat.lt_succ_self _)
 have hC:s2.heap.objs.size≤G2.objs.size:=by rw[hCs];exact Nat.le_succ _
 have old:∀b o,s2.heap.get? b=some o→h₁.get? b=some o:=fun b o e=>
  hsb₁.extBut b o (Nat.ne_of_lt (Nat.lt_of_lt_of_le (Heap.lt_size e) hC)) (Heap.get?_push_of_some _ (hH2▸Heap.get?_push_of_some _ e))
 have off:∀b o,s2.heap.get? b=some o→b≠G2.objs.size:=fun b o e=>Nat.ne_of_lt (Nat.lt_of_lt_of_le (Heap.lt_size e) hC)
 have hob:∀b∈fp,∃o,s2.heap.get? b=some o:=fun b hb=>let ⟨o,e,_⟩:=T.obj _ _ st2 b hb;⟨o,e⟩
 have hacc:h₁.get? s2.heap.objs.size=some {cls:= .type "list",data:= .seq ([]:List Value).toArray}:=
  hsb₁.extBut _ _ hDC (Heap.get?_push_of_some _ (hH2▸Heap.get?_push_size _ rfl))
 have loop:∀s3:Shared,s3={s2 with heap:=h₁,toks:=s2.toks+([]:List (Str×Value)).length}→
   codeAny (model X.prog X.w) X.A (.compLoop (.ListComp elt [⟨tg,iter,ifs,0⟩] scope pos) 0 (.ref it) (.ref s2.heap.objs.size) (compEnvC scope (a2x scope X.env) G2.objs.size X.env))
    (compPost (model X.prog X.w) X.A X.xe (some (assign (.Name y py) X.env)) (fun _ s'=>SP X pins D .next s') (.ref s2.heap.objs.size) G2.objs.size) s3:=by
  rintro s3 rfl
  refine a4r (K:=fun out H'=>M0 i (.ref s2.heap.objs.size) σ (th (upd H' s2.heap.objs.size (.lst out))) D.nx) SB hc T I2 f2 (Nat.le_refl _) hC hDC hob (hg _ _ _ _) (hi _ _ _ _) (he _ _ _ _) W (fun i m out H' w=>?_) (fun out H' s' B hl' k=>?_) w0
   ⟨Inv.block SB I2 f2 hob hC hns₁ old,I2.hok.fresh (Nat.le_refl _),[],_,.nil,hacc⟩ (T.keep _ _ _ st2 fun b _ o e=>old b o e) (fun b hb=>(f2 b hb).1)
  ·rcases turn i m out H' w with⟨a,b⟩|c
   ·exact .inl ⟨a,fun n=>b _ n⟩
   ·exact .inr c
  ·obtain⟨mm,hn,_⟩:=B.inv.loc
   have hHC:H' G2.objs.size=none:=B.inv.free
   have IJ:=B.out I2 f2 (Nat.le_refl _) hC hDC hl' (h':=s'.heap) (Heap.SameBut.refl _ _)
   show wpAny _ X.A (assign (.Name y py) X.env (.ref s2.heap.objs.size)) _ _ s'
   refine wpAny_assign_Name (a4a IJ hN hy hl (v:= .ref s2.heap.objs.size) rfl (fun s'' I'' hx=>?_) hf)
   obtain⟨a,sa,ha⟩:=hx
   have haC:G2.objs.size≠a:=by
    rcases ha with rfl|ha
    ·exact Ne.symm (Nat.ne_of_lt (Nat.lt_of_lt_of_le I2.lt hC))
    ·obtain⟨_,o,ho,_⟩:=I2.cell _ _ ha
     exact Ne.symm (off _ _ ho)
   refine⟨mm,hn.sameBut sa haC,fun h' sb=>⟨_,_,hth _ _ _ _ (I''.off (by rw[d0 (Ne.symm hDC)];exact hHC) (Nat.le_trans I2.sz hC) (Ne.symm (Nat.ne_of_lt (Nat.lt_of_lt_of_le I2.lt hC))) (fun x c e=>?_) (fun p hp=>off _ _ (I2.pin p hp).1) sb),k⟩⟩
   obtain⟨_,o,ho,_⟩:=I2.cell _ _ e
   exact off _ _ ho
 exact codeAny_compStart_list (loop _ rfl) (T.self _ 0 _ _ _ (T.keep _ _ _ st2 fun b _ o e=>old b o e) (loop _ rfl))
theorem a3a {X:Cx}{own:List Str}{js:List Nat}{scope:Scope}{tg iter elt:Expr}{ifs:List Expr}{pos spos py:Pos}{g:TG}{ti:TT}{te:TE}{wi:TI2}{i:Nat}{y:Str}(hN:X.N.Nodup)(hy:X.N[i]?=some y)(hl:Loc X.env.scope y)(S:scB X own js scope=true)(hc:X.calm=true)(hit:QI X tg iter wi)
  (hg:∀C s H fp,QG (cxB X own js scope C s H fp) tg g) (hi:∀C s H fp,QIf (cxB X own js scope C s H fp) ifs ti) (he:∀C s H fp,QE (cxB X own js scope C s H fp) elt te)
  (hsw:swapsWith (.ListComp elt [⟨tg,iter,ifs,0⟩] scope pos) (some (.Name y py)) spos.line X.env=pure true:=by rfl)
  (hf:X.fn y=true∨X.env.scope.names.lookup y=some .local:=by first|exact .inl rfl|exact .inr rfl)
  (hs:∀x,foldedSetIterable iter X.env x=pure x:=by intro _;rfl):QS X (.Assign [.Name y py] (.ListComp elt [⟨tg,iter,ifs,0⟩] scope pos) spos) (a6F (a3c own js wi g ti te) (M0 i)):=
 ⟨a7a hN hy hl S hc hit.r (fun C s H fp=>(hg C s H fp).r) (fun C s H fp=>(hi C s H fp).r) (fun C s H fp=>(he C s H fp).r) hsw hf hs⟩
end L2
set_option Elab.async false
set_option linter.all false
set_option maxRecDepth 100000
set_option maxHeartbeats 4000000
namespace L2
open PySem PySem.Spec PyProof.Rows
open PySem.AutoSeq1 (wpAny_loadPart')
def NcP (P:Program)(w:World)(A:Around)(s:Shared)(y x:Value)(b:Bool):Prop:=∀(E:Value→Shared→Prop) (Q:Value→Shared→Prop),Q (.bool b) s→wpAny (model P w) A (richCompare .NotEq y x) Q E s
theorem b4b {P:Program}{w:World}(l m:Addr)(xs ys:Array Value)(n1 n2:Nat)(d1 d2:Option Addr)(s1 s2:Array (Option Value))(f:Nat→Bool):
  MeetsIn P w (Builtin.«tuple.__ne__» ⟨[.ref l,.ref m],[]⟩) (fun A R s=>
   s.heap.get? l=some {cls:= .type "tuple",dict:=d1,data:= .seq xs n1,slots:=s1}∧s.heap.get? m=some {cls:= .type "tuple",dict:=d2,data:= .seq ys n2,slots:=s2}∧
   (∀j (g1:j<xs.size) (g2:j<ys.size),EqP P w A.in1 s xs[j] ys[j] (f j))∧
   R (.ok (.ret (.bool (!((List.range (min xs.size ys.size)).all f&&xs.size==ys.size))))) s):=
 .of_wp fun A R s hyp=>by
  obtain⟨hp,gg,dr,tk,os⟩:=s
  obtain⟨e1,e2,he,fin⟩:=hyp
  have sub:=AutoSeq1.sub_tuple_tuple
  have len:(xs.toList.zip ys.toList).length=min xs.size ys.size:=by simp
  wp_walk using wpAny_loadPart' e1,wpAny_loadPart' e2,wpAny_forIn_list _ (fun more acc st=>acc.1=none∧st=⟨hp,gg,dr,tk,os⟩∧∃i,more=(xs.toList.zip ys.toList).drop i∧
   R (.ok (.ret (.bool (!(((List.range (min xs.size ys.size)).drop i).all f&&xs.size==ys.size))))) ⟨hp,gg,dr,tk,os⟩) _
  case turn=>
   rintro⟨y,x⟩ more acc st ⟨ha,rfl,i,hi,hR⟩
   have lt:i<(xs.toList.zip ys.toList).length:=by
    rcases Nat.lt_or_ge i (xs.toList.zip ys.toList).length with z|z
    ·exact z
    ·rw[List.drop_of_length_le z] at hi
     cases hi
   have lm:i<min xs.size ys.size:=len▸lt
   have lx:i<xs.size:=Nat.lt_of_lt_of_le lm (Nat.min_le_left _ _)
   have ly:i<ys.size:=Nat.lt_of_lt_of_le lm (Nat.min_le_right _ _)
   rw[List.drop_eq_getElem_cons lt] at hi
   injection hi with h1 h2
   have q1:y=xs[i]:=by simpa using congrArg Prod.fst h1
   have q2:x=ys[i]:=by simpa using congrArg Prod.snd h1
   subst q1 q2
   have dr1:(List.range (min xs.size ys.size)).drop i=i::(List.range (min xs.size ys.size)).drop (i+1):=by simp [List.drop_eq_getElem_cons,lm]
   rw[dr1,List.all_cons] at hR
   refine wpAny_bind (he i lx ly _ _ ?_)
   cases hf:f i with
   |true=>
    rw[hf] at hR
    wp_walk
    exact⟨rfl,rfl,i+1,h2,by simpa using hR⟩
   |false=>
    rw[hf] at hR
    wp_walk
    exact⟨_,rfl,by simpa using hR⟩
  case fin=>
   rintro⟨c1,c2⟩ st ⟨ha,rfl,i,hi,hR⟩
   simp only at ha
   subst ha
   have ge:min xs.size ys.size≤i:=by
    rcases Nat.lt_or_ge i (xs.toList.zip ys.toList).length with z|z
    ·rw[List.drop_eq_getElem_cons z] at hi
     cases hi
    ·exact len▸z
   rw[List.drop_of_length_le (by simpa using ge)] at hR
   wp_walk
   exact⟨_,rfl,by simpa [Builtin.Tuple.tupleCompareSizes,bne] using hR⟩
  case h=>
   exact⟨rfl,rfl,0,rfl,by simpa using fin⟩
theorem NcP.tup {P:Program}{w:World}{A:Around}{s:Shared}{l m:Addr}{xs ys:Array Value}{f:Nat→Bool}(hl:s.heap.IsTuple l xs)(hm:s.heap.IsTuple m ys)(hu:A.units<cLine)
  (he:∀j (g1:j<xs.size) (g2:j<ys.size),EqP P w A.in1 s xs[j] ys[j] (f j)):NcP P w A s (.ref l) (.ref m) (!((List.range (min xs.size ys.size)).all f&&xs.size==ys.size)):=fun E Q q=>by
 obtain⟨⟨c1,d1,a1,s1⟩,o1,k1,n1,t1⟩:=id hl
 obtain⟨⟨c2,d2,a2,s2⟩,o2,k2,n2,t2⟩:=id hm
 simp only at k1 t1 k2 t2
 subst k1 t1 k2 t2
 refine wpAny_richCompare_same_room (op:= .NotEq) ⟨_,o1,rfl⟩ ⟨_,o2,rfl⟩ PySem.F.slot_tuple_ne (call_meetsIn PySem.F.slot_tuple_ne ⟨_,o1,rfl⟩ PySem.F.entry_tuple_ne (PySem.F.args_tuple_ne_2 _ _) (b4b l m xs ys n1 n2 d1 d2 s1 s2 f) ⟨o1,o2,he,?_⟩) hu
 exact⟨(fun z=>nomatch z),q⟩
section
variable {X:Cx} {pins:List (Addr×Obj)} {σ:St} {H:Hp} {s:Shared} {A:Around}
def b4L (K:PySem.W.Frag):R2:=fun x y H Q=>∃a b p q p' q' r r',x= .ref a∧y= .ref b∧SqT K H a [.ref p,.ref q]∧SqT K H b [.ref p',.ref q']∧EqD K H p p' r∧EqD K H q q' r'∧Q (.bl (!(r&&r'))) H
theorem b4j (hu:X.A.units+64<cLine):OpR X (compareOp .NotEq) (b4L X.K):=by
 intro pins s σ H x y v u Q I rx ry h
 obtain⟨a,b,p,q,p',q',r,r',rfl,rfl,ha,hb,h1,h2,k⟩:=h
 cases rx
 cases ry
 obtain⟨its,v1,t1,_⟩:=I.tuple ha
 obtain⟨its',v2,t2,_⟩:=I.tuple hb
 obtain⟨_,_,rfl,e1,e2⟩:=a2t v1
 obtain⟨_,_,rfl,e3,e4⟩:=a2t v2
 cases e1
 cases e2
 cases e3
 cases e4
 refine NcP.tup (P:=X.prog) (w:=X.w) (f:=fun j=>if j=0 then r else r') (show s.heap.IsTuple a _ from t1) (show s.heap.IsTuple b _ from t2) (by omega) (fun j g1 g2=>?_) _ _ ⟨.bl (!(r&&r')),H,I,by show Value.bool _=Value.bool _;simp [List.range_succ],k⟩
 have g:j<2:=by simpa using g1
 match j,g with
 |0,_=>exact h1.at_ I (by show X.A.units+1+16<_;omega)
 |1,_=>exact h2.at_ I (by show X.A.units+1+16<_;omega)
def b4P (K:PySem.W.Frag):R2:=fun x y H Q=>∃a b xs ys,x= .ref a∧y= .ref b∧SqL K H a xs∧SqL K H b ys∧xs.all w9=true∧ys.all w9=true∧Q (.bl (!T0 xs ys)) H
theorem b4c (hu:X.A.units+64<cLine):OpR X (compareOp .NotEq) (b4P X.K):=by
 intro pins s σ H x y v u Q I rx ry h
 obtain⟨a,b,xs,ys,rfl,rfl,ha,hb,fx,fy,k⟩:=h
 cases rx
 cases ry
 obtain⟨its,r1,p1,z1⟩:=I.list ha
 obtain⟨its',r2,p2,z2⟩:=I.list hb
 have l1:=r1.length
 have l2:=r2.length
 have e3:its.toArray.size=xs.length:=by simp [l1]
 have e4:its'.toArray.size=ys.length:=by simp [l2]
 by_cases hl:xs.length=ys.length
 ·have q:=SeqAt.RcNeAt.lists (A:=X.A) (e:=fun j=>eqV (xs.getD j .non) (ys.getD j .non)) p1.isList p2.isList (by rw[e3,e4];exact hl) (by omega) fun j g1 g2=>by
   have g1':j<its.length:=by simpa using g1
   have g2':j<its'.length:=by simpa using g2
   have x1:xs[j]?=some (xs[j]'(by omega)):=by simp [show j<xs.length by omega]
   have y1:ys[j]?=some (ys[j]'(by omega)):=by simp [show j<ys.length by omega]
   obtain⟨u1,hu1,ru1⟩:=r1.get x1
   obtain⟨u2,hu2,ru2⟩:=r2.get y1
   have e1:its.toArray[j]=u1:=by
    have:=List.getElem?_eq_getElem g1'
    rw[hu1] at this
    simpa using(Option.some.inj this).symm
   have e2:its'.toArray[j]=u2:=by
    have:=List.getElem?_eq_getElem g2'
    rw[hu2] at this
    simpa using(Option.some.inj this).symm
   rw[e1,e2]
   have d1:xs.getD j .non=xs[j]'(by omega):=by rw[List.getD_eq_getElem?_getD,x1];rfl
   have d2:ys.getD j .non=ys[j]'(by omega):=by rw[List.getD_eq_getElem?_getD,y1];rfl
   rw[d1,d2]
   exact a1t ru1 ru2 (List.all_eq_true.mp fx _ (List.getElem_mem _)) (List.all_eq_true.mp fy _ (List.getElem_mem _))
  have e5:=O0 xs ys
  rw[hl,Nat.min_self,beq_self_eq_true,Bool.and_true] at e5
  rw[e3,hl,e5] at q
  exact q X.prog X.w _ _ ⟨.bl _,H,I,rfl,k⟩
 ·refine SeqAt.RcNeAt.lists_lengths (A:=X.A) p1.isList p2.isList (by rw[e3,e4];simpa using hl) (by omega) X.prog X.w _ _ ⟨.bl _,H,I,?_,k⟩
  rw[a3p hl];rfl
def b5z (K:PySem.W.Frag):R2:=fun x y H Q=>(∃a b xs ys,x= .ref a∧y= .ref b∧SqT K H a xs∧SqT K H b ys∧xs.all w9=true∧ys.all w9=true∧Q (.bl (!T0 xs ys)) H)∨(∃a xs,x= .non∧y= .ref a∧SqT K H a xs∧Q (.bl true) H)
theorem b4l (hu:X.A.units+64<cLine):OpR X (compareOp .NotEq) (b5z X.K):=by
 intro pins s σ H x y v u Q I rx ry h
 rcases h with⟨a,b,xs,ys,rfl,rfl,ha,hb,fx,fy,k⟩|⟨a,xs,rfl,rfl,ha,k⟩
 ·cases rx
  cases ry
  obtain⟨its,r1,p1,z1⟩:=I.tuple ha
  obtain⟨its',r2,p2,z2⟩:=I.tuple hb
  have l1:=r1.length
  have l2:=r2.length
  have q:=SeqAt.RcNeAt.tuples (A:=X.A) (e:=fun j=>eqV (xs.getD j .non) (ys.getD j .non)) (show s.heap.IsTuple a its.toArray from p1) (show s.heap.IsTuple b its'.toArray from p2) (by omega) fun j g1 g2=>by
   have g1':j<its.length:=by simpa using g1
   have g2':j<its'.length:=by simpa using g2
   have x1:xs[j]?=some (xs[j]'(by omega)):=by simp [show j<xs.length by omega]
   have y1:ys[j]?=some (ys[j]'(by omega)):=by simp [show j<ys.length by omega]
   obtain⟨u1,hu1,ru1⟩:=r1.get x1
   obtain⟨u2,hu2,ru2⟩:=r2.get y1
   have e1:its.toArray[j]=u1:=by
    have:=List.getElem?_eq_getElem g1'
    rw[hu1] at this
    simpa using(Option.some.inj this).symm
   have e2:its'.toArray[j]=u2:=by
    have:=List.getElem?_eq_getElem g2'
    rw[hu2] at this
    simpa using(Option.some.inj this).symm
   rw[e1,e2]
   have d1:xs.getD j .non=xs[j]'(by omega):=by rw[List.getD_eq_getElem?_getD,x1];rfl
   have d2:ys.getD j .non=ys[j]'(by omega):=by rw[List.getD_eq_getElem?_getD,y1];rfl
   rw[d1,d2]
   exact a1t ru1 ru2 (List.all_eq_true.mp fx _ (List.getElem_mem _)) (List.all_eq_true.mp fy _ (List.getElem_mem _))
  have e3:its.toArray.size=xs.length:=by simp [l1]
  have e4:its'.toArray.size=ys.length:=by simp [l2]
  rw[e3,e4,O0] at q
  exact q X.prog X.w _ _ ⟨.bl _,H,I,rfl,k⟩
 ·cases rx
  cases ry
  obtain⟨its,r1,p1,z1⟩:=I.tuple ha
  exact SeqAt.RcNeAt.none_tuple (A:=X.A) (show s.heap.IsTuple a its.toArray from p1) (by omega) X.prog X.w _ _ ⟨.bl true,H,I,rfl,k⟩
def b2y (K:PySem.W.Frag):R2:=fun x y H Q=>∃a b ka kb r0,x= .ref a∧y= .ref b∧Rd H a (.dK ka)∧Rd H b (.dK kb)∧EqH K H kb ka r0∧Q (.bl (ka.length==kb.length&&r0)) H
def b2C (K:PySem.W.Frag):R2:=fun x y H Q=>∃a b ka kb r0,x= .ref a∧y= .ref b∧Rd H a (.dK ka)∧Rd H b (.dK kb)∧EqH K H kb ka r0∧Q (.bl (!(ka.length==kb.length&&r0))) H
theorem b1L (hu:X.A.units+64<cLine):OpR X (compareOp .Eq) (b2y X.K):=by
 intro pins s σ H x y v u Q I rx ry h
 obtain⟨a,b,ka,kb,r0,rfl,rfl,h1,h2,h3,k⟩:=h
 cases rx
 cases ry
 obtain⟨z1,d1,va,ra,da⟩:=J0 I.hok h1
 obtain⟨z2,d2,vb,rb,db⟩:=J0 I.hok h2
 have l1:=KV.length ra
 have l2:=KV.length rb
 exact PySem.W.keq_eq (knd:=j8 X.prog X.w) d1 d2 da db (by omega) (fun _=>h3.hits (A:=X.A.in1) I (by show X.A.units+1+8<_;omega) rb ra) ⟨.bl _,H,I,rfl,by rw[←l1,←l2];exact k⟩
theorem b1S (hu:X.A.units+64<cLine):OpR X (compareOp .NotEq) (b2C X.K):=by
 intro pins s σ H x y v u Q I rx ry h
 obtain⟨a,b,ka,kb,r0,rfl,rfl,h1,h2,h3,k⟩:=h
 cases rx
 cases ry
 obtain⟨z1,d1,va,ra,da⟩:=J0 I.hok h1
 obtain⟨z2,d2,vb,rb,db⟩:=J0 I.hok h2
 have l1:=KV.length ra
 have l2:=KV.length rb
 exact PySem.W.keq_ne (knd:=j8 X.prog X.w) d1 d2 da db (by omega) (fun _=>h3.hits (A:=X.A.in1) I (by show X.A.units+1+8<_;omega) rb ra) ⟨.bl _,H,I,rfl,by rw[←l1,←l2];exact k⟩
def b4g (K:PySem.W.Frag):R2:=fun x y H Q=>a2S K x y H Q∨b2y K x y H Q
theorem b6U (K:PySem.W.Frag){k:Nat}(hr:Room k X.A)(h:X.K=K:=by rfl):OpR X (compareOp .Eq) (b4g K):=(kEq K hr h).or (h▸b1L hr.units)
def a3Q (K:PySem.W.Frag):R2:=fun x y H Q=>rNe x y H Q∨b4P K x y H Q∨b5z K x y H Q∨b4L K x y H Q∨b2C K x y H Q
theorem kNe (K:PySem.W.Frag){k:Nat}(hr:Room k X.A)(h:X.K=K:=by rfl):OpR X (compareOp .NotEq) (a3Q K):=h▸op_ne.or ((b4c hr.units).or ((b4l hr.units).or ((b4j hr.units).or (b1S hr.units))))
end
section
variable {K:PySem.W.Frag} {H:Hp} {Q:VK}
theorem b6z {x y:V}(q:a2S K x y H Q):b4g K x y H Q:= .inl q
theorem a6m {i j:Int}(q:Q (.bl (!decide (i=j))) H):a3Q K (.int i) (.int j) H Q:= .inl (a6n q)
theorem a7u {i j:Bool}(q:Q (.bl (!decide (i=j))) H):a3Q K (.bl i) (.bl j) H Q:= .inl ⟨rfl,by rw[a5a];rw[show(i==j)=decide (i=j) from Bool.beq_eq_decide_eq i j];exact q⟩
theorem a5s {i j:Str}(q:Q (.bl (!decide (i=j))) H):a3Q K (.str i) (.str j) H Q:= .inl ⟨rfl,by rw[show decide (V.str i=V.str j)=decide (i=j) by simp];exact q⟩
theorem a5O {a b:Addr}{xs ys:List V}(ha:SqL K H a xs)(hb:SqL K H b ys)(fx:xs.all w9=true)(fy:ys.all w9=true)(q:Q (.bl (!T0 xs ys)) H):a3Q K (.ref a) (.ref b) H Q:= .inr (.inl ⟨a,b,xs,ys,rfl,rfl,ha,hb,fx,fy,q⟩)
theorem b0q {a b:Addr}{xs ys:List V}(ha:SqT K H a xs)(hb:SqT K H b ys)(fx:xs.all w9=true)(fy:ys.all w9=true)(q:Q (.bl (!T0 xs ys)) H):a3Q K (.ref a) (.ref b) H Q:= .inr (.inr (.inl (.inl ⟨a,b,xs,ys,rfl,rfl,ha,hb,fx,fy,q⟩)))
theorem b0M {a b:Addr}{ka kb:List (Key×V)}{r:Bool}(ha:Rd H a (.dK ka))(hb:Rd H b (.dK kb))(h:EqH K H kb ka r)(q:Q (.bl (!(ka.length==kb.length&&r))) H):a3Q K (.ref a) (.ref b) H Q:= .inr (.inr (.inr (.inr ⟨a,b,ka,kb,r,rfl,rfl,ha,hb,h,q⟩)))
theorem a4E {j:Str}(q:Q (.bl false) H):a2S K .non (.str j) H Q:= .inl ⟨rfl,by rw[show decide (V.non=V.str j)=false by simp];exact q⟩
theorem a4X {a:Addr}{xs:List V}(ha:SqT K H a xs)(q:Q (.bl false) H):a2S K .non (.ref a) H Q:= .inr (.inr (.inl (.inr ⟨a,xs,rfl,rfl,ha,q⟩)))
end
section
variable {X:Cx} {o e f:Expr} {apos cpos:Pos} {td ty tx:TE} {name:Str}
theorem b5S (hb:attributeBase o name X.env (eval o X.env)=eval o X.env)(hl:(apos.endLine==cpos.line)=true)(h:z0 e=true):M1 X o name apos e cpos:=by
 have z:starEach [e] X.env=[(false,eval e X.env)]:=a1b (es:=[]) h
 have z2:backTo cpos (starEach [e] X.env)=[(false,eval e X.env)]:=by rw[z];rfl
 exact⟨hb,by rw[z2];rfl,hl,z2⟩
theorem a4f (hu:X.A.units+1<cLine)(ho:QE X o td)(he:QE X e ty)(hb:attributeBase o "get" X.env (eval o X.env)=eval o X.env:=by rfl)(hl:(apos.endLine==cpos.line)=true:=by rfl)(h:z0 e=true:=by rfl):
  QE X (.Call (.Attribute o "get" apos) [e] [] cpos) (a6D td ty):=⟨a9y hu ho.r he.r (b5S hb hl h)⟩
end
section
variable {σ:St} {H:Hp} {Q:VK} {td ty tx:TE}
theorem b5s (q:td σ H fun x H1=>∃a,x= .ref a∧IsD H1 a∧ty σ H1 fun y H2=>∃o,DGet H2 a y o∧Q (o.getD .non) H2):a6D td ty σ H Q:=q
end
end L2
set_option Elab.async false
set_option linter.all false
set_option maxRecDepth 100000
set_option maxHeartbeats 4000000
namespace L2
open PySem PySem.Spec PyProof.Rows
open Sem (wp)
section
variable {prog:Program} {w:World} {KT:Type} [DecidableEq KT] {knd:KeyKind prog w KT} {A:Around} {E:Value→Shared→Prop} {s:Shared}
theorem a2D {it d:Addr}{i ep:Nat}{kvs:List (KT×Value)}{k:KT}{v:Value}{Q:Value→Shared→Prop}(hit:s.heap.IsKeyIter it d i kvs.length ep)
  (hm:s.heap.DictAt knd d kvs ep) (hx:kvs[i]?=some (k,v))
  (hQ:∀key h',knd.is k key=true→h'.IsKeyIter it d (i+1) kvs.length ep→Heap.SameBut it s.heap h'→Q key {s with heap:=h'}):
  wpAny (model prog w) A (Builtin.SmallTypes.nextOf (.ref it)) Q E s:=by
 obtain⟨o,ho,hc,hd⟩:=id hit
 obtain⟨od,es,hod,hcd,hdd,hk,hp,hn⟩:=id hm
 have hsz:es.size=kvs.length:=by rw[←hp.length];simp
 have hlt:i<kvs.length:=(List.getElem?_eq_some_iff.mp hx).1
 have hlt':i<es.size:=by rw[hsz];exact hlt
 have hkey:knd.is k es[i].key=true:=(hp.get? (e:=es[i]) (by simp [hlt']) hx).1
 have hown:Builtin.Dict_items.ownsTuple "dict_keyiterator"=false:=by decide
 unfold Builtin.SmallTypes.nextOf
 refine wpAny_bind (wpAny_callSpecial?_slot (name:=Str.ofString "__next__") hit.typeIs F.slot_dict_keyiterator_next
  (wpAny_call_entry F.slot_dict_keyiterator_next hit.typeIs F.entry_dict_keyiterator_next ?_ (F.args_dict_keyiterator_next_1 _)))
 refine wpAny_bind (wpAny_pure (wpAny_bind (wpAny_bind ?_)))
 first|refine wpAny_bind (wpAny_typeNameOfWhole_keyiter hit.typeIs (wpAny_pure ?_))|refine wpAny_bind (wpAny_typeNameOf_keyiter hit.typeIs (wpAny_pure ?_))
 refine wpAny_bind (wpAny_fieldsOf ho hd ?_)
 simp only[hown,Bool.false_eq_true,if_false]
 show wpAny _ _ (if(Value.ref d==Value.none)=true then _ else _) _ _ s
 rw[if_neg (show ¬((Value.ref d==Value.none)=true) from Bool.false_ne_true)]
 refine wpAny_bind (wpAny_pure (wpAny_bind (wpAny_dictEntries hod hdd ?_)))
 rw[if_neg (by rw[hsz];simp)]
 refine wpAny_bind (wpAny_pure (wpAny_bind (wpAny_dictEpoch hod hdd ?_)))
 rw[if_neg (by simp)]
 refine wpAny_pure ?_
 simp only[show ¬((i:Int)<0) from by omega,if_false,Int.toNat_natCast,Array.getElem?_eq_getElem hlt']
 refine wpAny_bind ?_
 first|refine wpAny_bind (wpAny_typeNameOfWhole_keyiter hit.typeIs (wpAny_pure ?_))|refine wpAny_bind (wpAny_typeNameOf_keyiter hit.typeIs (wpAny_pure ?_))
 refine wpAny_bind (wpAny_isOneOf_keyiter hit.typeIs ?_)
 show wpAny _ _ (setField (.ref it) 1 (rawInt ((i:Int)+1))>>=_) _ _ s
 refine wpAny_bind (wpAny_setField ho hd (by simp) ?_)
 have hit':(s.heap.update it (Obj.mapFields (·.setIfInBounds 1 (rawInt ((i:Int)+1))))).IsKeyIter it d (i+1) kvs.length ep:=
  ⟨_,Heap.get?_update_self _ ho (Obj.isFreed_of_fields (Obj.data_mapFields hd _)),(Obj.cls_mapFields ..).trans hc,by rw[Obj.data_mapFields hd];simp [rawInt]⟩
 refine wpAny_bind (wpAny_holding ?_)
 refine wpAny_bind (wpAny_isOneOf_keyiter (s:={s with heap:=s.heap.update it (Obj.mapFields (·.setIfInBounds 1 (rawInt ((i:Int)+1))))}) hit'.typeIs ?_)
 show wpAny _ _ (pure es[i].key) _ _ _
 exact wpAny_pure (wpAny_pure ⟨_,rfl,wpAny_pure (hQ _ _ hkey hit' (Heap.SameBut.update ..))⟩)
theorem a3i {it d:Addr}{i ep:Nat}{kvs:List (KT×Value)}{Q:Value→Shared→Prop}(hh:A.handled=none)(hit:s.heap.IsKeyIter it d i kvs.length ep)
  (hm:s.heap.DictAt knd d kvs ep) (hx:kvs[i]?=none)
  (hE:∀h' e,Heap.ExtBut it s.heap h'→(∃o,h'.get? e=some o∧o.cls= .type "StopIteration")→E (.ref e) {s with heap:=h'}):
  wpAny (model prog w) A (Builtin.SmallTypes.nextOf (.ref it)) Q E s:=by
 obtain⟨o,ho,hc,hd⟩:=id hit
 obtain⟨od,es,hod,hcd,hdd,hk,hp,hn⟩:=id hm
 have hsz:es.size=kvs.length:=by rw[←hp.length];simp
 have hge:es.size≤i:=by rw[hsz];simpa using hx
 have hown:Builtin.Dict_items.ownsTuple "dict_keyiterator"=false:=by decide
 unfold Builtin.SmallTypes.nextOf
 refine wpAny_bind (wpAny_callSpecial?_slot (name:=Str.ofString "__next__") hit.typeIs F.slot_dict_keyiterator_next
  (wpAny_call_entry F.slot_dict_keyiterator_next hit.typeIs F.entry_dict_keyiterator_next ?_ (F.args_dict_keyiterator_next_1 _)))
 refine wpAny_bind (wpAny_pure (wpAny_bind (wpAny_bind ?_)))
 first|refine wpAny_bind (wpAny_typeNameOfWhole_keyiter hit.typeIs (wpAny_pure ?_))|refine wpAny_bind (wpAny_typeNameOf_keyiter hit.typeIs (wpAny_pure ?_))
 refine wpAny_bind (wpAny_fieldsOf ho hd ?_)
 simp only[hown,Bool.false_eq_true,if_false]
 show wpAny _ _ (if(Value.ref d==Value.none)=true then _ else _) _ _ s
 rw[if_neg (show ¬((Value.ref d==Value.none)=true) from Bool.false_ne_true)]
 refine wpAny_bind (wpAny_pure (wpAny_bind (wpAny_dictEntries hod hdd ?_)))
 rw[if_neg (by rw[hsz];simp)]
 refine wpAny_bind (wpAny_pure (wpAny_bind (wpAny_dictEpoch hod hdd ?_)))
 rw[if_neg (by simp)]
 refine wpAny_pure ?_
 simp only[show ¬((i:Int)<0) from by omega,if_false,Int.toNat_natCast,Array.getElem?_eq_none hge]
 refine wpAny_bind ?_
 first|refine wpAny_bind (wpAny_typeNameOfWhole_keyiter hit.typeIs (wpAny_pure ?_))|refine wpAny_bind (wpAny_typeNameOf_keyiter hit.typeIs (wpAny_pure ?_))
 show wpAny _ _ (setField (.ref it) 0 .none>>=_) _ _ s
 refine wpAny_bind (wpAny_setField ho hd (by simp) ?_)
 show wpAny _ _ (newExc (.type "StopIteration") []>>=_) _ _ _
 refine wpAny_bind ?_
 simp only[newExc,newTuple]
 refine wpAny_bind (wpAny_newObj_type ?_ (by size_fits))
 refine wpAny_bind (m:=firstArgMember _ _) (wpAny_of_eq (a:=Value.none) (by first|rfl|(simp only[firstArgMember];rfl)) ?_)
 refine wpAny_newObj_type ?_ (by size_fits)
 simp only[raiseNew]
 refine wpAny_bind (wpAny_handled ?_)
 first|rw[show A.in1.handled=none from hh]|rw[hh]
 refine wpAny_bind (wpAny_pure (wpAny_throw ?_))
 exact hE _ _ (((Heap.SameBut.update ..).extBut.push _).push _) ⟨_,Heap.get?_push_size _ rfl,rfl⟩
end
section
variable {prog:Program} {w:World} {KT:Type} [DecidableEq KT] {knd:KeyKind prog w KT} {A:Around} {E:Value→Shared→Prop} {s:Shared}
open PySem.AutoSeq1 (wpAny_loadPart')
abbrev R4 (d:Addr)(n ep:Nat):Obj:={cls:= .type "dict_keyiterator",data:= .fields #[.ref d,.int 0 0,.int n 0,.int ep 0]}
abbrev a4Y (it:Addr):Obj:={cls:= .type "enumerate",data:= .fields #[.none,.bool false,.ref it,rawInt 0,.none,.none]}
theorem a9T (d:Addr)(kvs:List (KT×Value))(ep:Nat)(hd:(d==sysModules)=false):
  MeetsIn prog w (Builtin.«enumerate.__new__» ⟨[.type "enumerate",.ref d],[]⟩) (fun _ R s=>s.heap.DictAt knd d kvs ep∧
   R (.ok (.ret (.ref (s.heap.push (R4 d kvs.length ep)).objs.size))) {s with heap:=(s.heap.push (R4 d kvs.length ep)).push (a4Y s.heap.objs.size)}):=
 .of_wp fun A R s h=>by
  obtain⟨hp,g,dr,tk,os⟩:=s;obtain⟨hm,h⟩:=h
  have hsub:=sub_enumerate
  obtain⟨⟨c,dct,dt,sl⟩,es,hod,hcd,hdd,hk,hp',hn⟩:=id hm
  have hc:c= .type "dict":=hcd.1
  subst hc
  wp_walk using wpAny_loadPart' hod
  refine wpAny_stack_any fun st=>wpAny_pure ?_
  split
  ·rename_i c _ _ _ _ _
   cases (c==Value.type "enumerate")
   ·wp_walk using wpAny_loadPart' hod,wpAny_pyIter_dict hd hm
    exact⟨_,rfl,h⟩
   ·wp_walk using wpAny_loadPart' hod,wpAny_pyIter_dict hd hm
    exact⟨_,rfl,h⟩
  ·wp_walk using wpAny_loadPart' hod,wpAny_pyIter_dict hd hm
   exact⟨_,rfl,h⟩
theorem a6U {d:Addr}{kvs:List (KT×Value)}{ep:Nat}{Q:Value→Shared→Prop}(hd:(d==sysModules)=false)(hm:s.heap.DictAt knd d kvs ep)
  (h:∀h',IsEnum h' (s.heap.objs.size+1) s.heap.objs.size 0 .none→h'.IsKeyIter s.heap.objs.size d 0 kvs.length ep→h'.objs.size=s.heap.objs.size+2→
   (∀b o,s.heap.get? b=some o→h'.get? b=some o)→Q (.ref (s.heap.objs.size+1)) {s with heap:=h'}):
  wpAny (model prog w) A (call (.type "enumerate") [.ref d]) Q E s:=by
 refine callType_newIn F.called_enumerate (by decide) (F.typeCall_enumerate_1 _) (F.newCall_enumerate_1 _) (fun obj=>F.args_object_init_2 obj _) F.entry_enumerate_new
  (a9T (knd:=knd) d kvs ep hd) ⟨hm,?_⟩
 have hz:(s.heap.push (R4 d kvs.length ep)).objs.size=s.heap.objs.size+1:=Heap.size_push ..
 show _∧_
 rw[hz]
 have he:IsEnum ((s.heap.push (R4 d kvs.length ep)).push (a4Y s.heap.objs.size)) (s.heap.objs.size+1) s.heap.objs.size 0 .none:=by
  have:=Heap.get?_push_size (s.heap.push (R4 d kvs.length ep)) (o:=a4Y s.heap.objs.size) rfl
  rw[hz] at this;exact this
 refine⟨⟨_,he,rfl⟩,h _ he ⟨_,Heap.get?_push_of_some _ (Heap.get?_push_size _ rfl),rfl,rfl⟩ (by rw[Heap.size_push,hz]) fun b o x=>Heap.get?_push_of_some _ (Heap.get?_push_of_some _ x)⟩
theorem a4u (hh:A.handled=none){it d:Addr}(hne:d≠it)(kvs:List (KT×Value))(ep:Nat):
  Draws prog w A it [it,d] kvs.length (fun i v=>∃k x,kvs[i]?=some (k,x)∧knd.is k v=true) (fun i h=>h.IsKeyIter it d i kvs.length ep∧h.DictAt knd d kvs ep) where
 live:=fun _ _ st=>let ⟨o,ho,_⟩:=st.1;⟨o,ho⟩
 frame:=fun _ _ _ st hk=>⟨st.1.at fun o e=>hk it (by simp) o e,let ⟨o,es,e,r⟩:=st.2;⟨o,es,hk d (by simp) o e,r⟩⟩
 item:=fun i s Q E hi st hQ=>by
  obtain⟨⟨k,x⟩,hx⟩:∃p,kvs[i]?=some p:=⟨kvs[i],by simp [hi]⟩
  refine a2D st.1 st.2 hx fun key h' hkey hit' hs'=>?_
  exact hQ key h' s.toks ⟨k,x,hx,hkey⟩ ⟨hit',let ⟨o,es,e,r⟩:=st.2;⟨o,es,hs'.extBut _ _ hne e,r⟩⟩ hs'
 done:=fun s Q E st hE=>a3i hh st.1 st.2 (by simp) hE
end
def b2R (d:Addr)(o:Obj)(kvs:List (Key×V)):It:=
 ⟨fun i H=>H d=some (.frz o (.dK kvs))∧i<kvs.length,fun i H x H'=>∃t kv,kvs[i]?=some kv∧H t=none∧x= .ref t∧H'=upd H t (.tup [.int i,kV kv.1]),fun i H=>H d=some (.frz o (.dK kvs))∧kvs.length=i⟩
theorem a6y {P:Program}{w:World}{K:PySem.W.Frag}{elts:List Expr}{x1}{tpos:Pos}{d:Addr}{o:Obj}{kvs:List (Key×V)}{vs:List (Key×Value)}{ep:Nat}(D:a8V P w d o kvs vs ep){en it:Addr}(hne:en≠it):
  a2q P w K (.Tuple elts x1 tpos) (b2R d o kvs) [en,it] en (fun i h=>∃old,IsEnum h en it i old∧h.IsKeyIter it d i vs.length ep) where
 mem:=by simp
 obj:=fun i h st b hb=>by
  obtain⟨old,h1,o,e,c,dd⟩:=st
  have hb':b=en∨b=it:=by simpa using hb
  rcases hb' with rfl|rfl
  ·exact⟨_,h1,fun v z=>by
    have z':Data.fields _=Data.cell v:=z
    cases z'⟩
  ·exact⟨o,e,fun v z=>by rw[dd] at z;cases z⟩
 keep:=fun i h h' st k=>by
  obtain⟨old,h1,h2⟩:=st
  exact⟨old,k en (by simp) _ h1,h2.at fun o e=>k it (by simp) o e⟩
 item:=by
  intro X hP hw hK hc i pins s σ H E I hf st hg
  subst hP hw hK
  obtain⟨old,st1,st2⟩:=st
  obtain⟨hfz,hi⟩:=hg
  have dat:=D.at_ s.heap (I.hok d _ hfz).1
  have hl:=KV.length D.kv
  have hdi:d≠it:=g0 hfz (hf it (by simp)).1
  have hde:d≠en:=g0 hfz (hf en (by simp)).1
  have hen:en<s.heap.objs.size:=Heap.lt_size st1
  have hit:it<s.heap.objs.size:=by obtain⟨o,e,_⟩:=st2;exact Heap.lt_size e
  obtain⟨kv,hkv⟩:∃kv,kvs[i]?=some kv:=⟨kvs[i],by simp [hi]⟩
  refine wpAny_pyNext_enum_itemD (a4u (knd:=j8 X.prog X.w) (A:=X.A.in1) (show X.A.in1.handled=none from I.ok.hd hc) hdi vs ep) st1 ⟨st2,dat⟩ (by omega) hne (by simp;exact⟨hne,Ne.symm hde⟩) fun u h' tk hP heo hst1 ht1 hz1 hk1=>?_
  obtain⟨k,x,hx,hkey⟩:=hP
  have hkk:kv.1=k:=by
   have e1:(kvs.map (·.1))[i]?=some kv.1:=by rw[List.getElem?_map,hkv];rfl
   rw[KV.keys D.kv,List.getElem?_map,hx] at e1
   exact(Option.some.inj e1).symm
  refine⟨.ref s.heap.objs.size,rfl,wpAny_letOwnedTupleGo_enum (s:={s with heap:=h',toks:=tk+1}) heo fun h'' he'' hs''=>?_⟩
  have hs2:Heap.SameBut en h' h'':=hs''
  have tupAt:h''.get? s.heap.objs.size=some {cls:= .type "tuple",data:= .seq #[.int i tk,u]}:=hs2.extBut _ _ (Nat.ne_of_gt hen) ht1
  obtain⟨fr,I1,fr2⟩:=I.pairNew (fp:=[en,it]) (h':=h'') (tk:=tk+1) (x:= .int i) (y:=kV kv.1) hf (fun b o hb e=>by
   have hb':b≠en∧b≠it:=by simpa using hb
   exact hs2.extBut b o hb'.1 (hk1 b o hb'.1 hb'.2 e)) (fun b hb=>by
   have hb':b=en∨b=it:=by simpa using hb
   rcases hb' with rfl|rfl
   ·exact hen
   ·exact hit) tupAt ⟨_,rfl⟩ (by rw[hkk];exact a1M hkey)
  refine⟨.ref s.heap.objs.size,_,I1,rfl,⟨_,kv,hkv,fr,rfl,rfl⟩,⟨_,he'',?_⟩,fr2⟩
  exact hst1.1.at fun o e=>hs2.extBut it o (Ne.symm hne) e
 done:=by
  intro X hP hw hK hc i pins s σ H E I hf st hg
  subst hP hw hK
  obtain⟨old,st1,st2⟩:=st
  obtain⟨hfz,hi⟩:=hg
  have dat:=D.at_ s.heap (I.hok d _ hfz).1
  have hl:=KV.length D.kv
  have hdi:d≠it:=g0 hfz (hf it (by simp)).1
  have e:i=vs.length:=by omega
  subst e
  exact wpAny_pyNext_enum_endD (a4u (knd:=j8 X.prog X.w) (A:=X.A.in1) (show X.A.in1.handled=none from I.ok.hd hc) hdi vs ep) st1 ⟨st2,dat⟩ fun h' eb=>⟨rfl,I.turnedAll (fp:=[en,it]) (tk:=s.toks) hf fun b o hb e=>eb b o (by
   have hb':b≠en∧b≠it:=by simpa using hb
   exact hb'.2) e⟩
 self:=fun _ _ _ _ _ st h=>by
  obtain⟨old,st1,st2⟩:=st
  exact wpAny_pyIter_enum st1 h
section
variable {X:Cx} {a:Expr} {t:TA} {p pos:Pos}
def a6R (K:PySem.W.Frag)(ta:TA):TI2:=fun σ H R=>ta σ H fun vs H1=>∃v,vs=[v]∧((∃l xs,v= .ref l∧SqL K H1 l xs∧R (Ite K l) id H1)∨rIterD b2R v H1 R)
theorem b0c {elts:List Expr}{x1}{tpos:Pos}(hg:Gl X "enumerate")(hm:X.mg "enumerate"=none)(ha:PA X [a] t)(hs:starEach [a] X.env=[(false,eval a X.env)]):PI2 X (.Tuple elts x1 tpos) (.Call (.Name "enumerate" p) [a] [] pos) (a6R X.K t):=by
 intro pins s σ H R I h
 refine Call_ (a2Z I hg hm Boot.«enumerate» (PyProof.Rows.callWith_type1 (thn (ha pos pins s σ H _ I h) fun us s1 ⟨vs,H1,I1,r1,q1⟩=>?_) hs rfl))
 obtain⟨v,e,q⟩:=q1
 subst e
 obtain⟨u,rfl,ru⟩:=O8 r1
 rcases q with⟨l,xs,rfl,hq,q⟩|q
 ·cases ru
  obtain⟨its,rv,pl,hz⟩:=I1.list hq
  refine call_enumerate_list pl.isList fun h' he hit hsz hk=>?_
  have I2:Inv X pins σ H1 {s1 with heap:=h'}:=I1.kept (t':=s1.toks) hk
  refine wpAny_pyIter_enum (s:={s1 with heap:=h'}) he ?_
  refine⟨s1.heap.objs.size+1,[s1.heap.objs.size+1,s1.heap.objs.size],_,_,H1,rfl,I2,a7R (l:=l) (Nat.succ_ne_self _),⟨_,he,hit⟩,fun b hb=>?_,id,a2H,q⟩
  have hb':b=s1.heap.objs.size+1∨b=s1.heap.objs.size:=by simpa using hb
  rcases hb' with rfl|rfl
  ·exact I1.fpOk (Nat.le_succ _) (I1.hok.fresh (Nat.le_succ _))
  ·exact I1.fpOk (Nat.le_refl _) (I1.hok.fresh (Nat.le_refl _))
 ·obtain⟨d,kvs,o,vs,ep,th,H',rfl,hd,ho,D,I2,hth,q⟩:=rIterD.go I1 ru q
  refine a6U (knd:=j8 X.prog X.w) hd (D.at_ _ ho) fun h' he hit hsz hk=>?_
  have I3:Inv X pins σ H' {s1 with heap:=h'}:=I2.kept (t':=s1.toks) hk
  refine wpAny_pyIter_enum (s:={s1 with heap:=h'}) he ?_
  refine⟨s1.heap.objs.size+1,[s1.heap.objs.size+1,s1.heap.objs.size],_,_,H',rfl,I3,a6y D (Nat.succ_ne_self _),⟨_,he,hit⟩,fun b hb=>?_,th,hth,q⟩
  have hb':b=s1.heap.objs.size+1∨b=s1.heap.objs.size:=by simpa using hb
  rcases hb' with rfl|rfl
  ·exact I2.fpOk (Nat.le_succ _) (I2.hok.fresh (Nat.le_succ _))
  ·exact I2.fpOk (Nat.le_refl _) (I2.hok.fresh (Nat.le_refl _))
theorem Y7 (K:PySem.W.Frag){elts:List Expr}{x1}{tpos:Pos}(hm:X.mg "enumerate"=none)(ha:QA X [a] t)(hg:Gl X "enumerate":=by rfl)(h:z0 a=true:=by rfl)(hK:X.K=K:=by rfl):QI X (.Tuple elts x1 tpos) (.Call (.Name "enumerate" p) [a] [] pos) (a6R K t):=
 ⟨hK▸b0c hg hm ha.r (a1b h)⟩
end
section
variable {K:PySem.W.Frag} {σ:St} {H:Hp} {ta:TA} {R:It→(Hp→Hp)→Hp→Prop}
theorem b1p (q:ta σ H fun vs H1=>∃v,vs=[v]∧((∃l xs,v= .ref l∧SqL K H1 l xs∧R (Ite K l) id H1)∨rIterD b2R v H1 R)):a6R K ta σ H R:=q
end
end L2
set_option Elab.async false
set_option linter.all false
set_option maxRecDepth 100000
set_option maxHeartbeats 4000000
namespace L2
open PySem PySem.Spec PyProof.Rows
open Sem (wp)
theorem a5h:typeLookup (.type "list") "keys"=pure none:=by rw[typeLookup_type,builtinLookup_eq_fast];kernel_rfl
section
variable {prog:Program} {w:World} {A:Around} {E:Value→Shared→Prop} {s:Shared}
theorem a7Z {a:Addr}{o:Obj}{xs:Array Value}{k:Nat}{Q:Option Value→Shared→Prop}
  (hx:s.heap.get? a=some o) (hc:o.cls= .type "list") (hdat:o.data= .seq xs k) (hd:o.dict=none) (hA:A.handled=none)
  (h:∀h' tk,(∀b ob,s.heap.get? b=some ob→h'.get? b=some ob)→Q none {s with heap:=h',toks:=tk}):
  wpAny (model prog w) A (getAttr? (.ref a) "keys") Q E s:=by
 obtain⟨c,dct,dat,sl⟩:=o
 simp only at hc hdat hd
 subst hc hdat hd
 obtain⟨hp,g,d,tk,os⟩:=s
 have hT:∀tk',(⟨hp,g,d,tk',os⟩:Shared).TypeIs (.ref a) "list":=fun _=>⟨_,hx,rfl⟩
 have f1:=sub_AttributeError
 have f3:=F.slot_list_getattribute.lookup
 have f4:=F.slot_list_getattribute.bind (.ref a)
 have f5:=am_list_getattr_none
 unfold getAttr? getAttrBy? getAttrBy
 repeat(any_goals (first|assumption|exact hT _|((with_reducible show wpAny _ _ (call (Value.builtin "list.__getattribute__") _ _) _ _ _);refine call_meets F.slot_list_getattribute (hT _) am_entry_list_getattribute (F.args_list_getattribute_2 _ _) (meets_getattribute_miss_list a xs k sl "keys" _ a5h (by decide+kernel) (by decide+kernel)) ⟨hx,hA,fun h' tk' e hx'=>?_⟩)|wp_step))
 obtain⟨t',u',he⟩:=hx'.there
 show wpAny _ _ (getattributeRaised _ _ _ _ _ _ _) _ _ _
 unfold getattributeRaised
 repeat(any_goals (first|assumption|wp_step))
 exact h _ _ hx'.keeps
end
theorem a0t:entryFor table "dict.update.loop"=some Builtin.«dict.update.loop»:=entryFor_of_tree (by kernel_rfl)
theorem L1:plainId "dict.update.loop"=true:=by decide+kernel
section
variable {prog:Program} {w:World} {KT:Type} [DecidableEq KT] {knd:KeyKind prog w KT} {A:Around} {E:Value→Shared→Prop}
def PairAt (knd:KeyKind prog w KT)(h:Heap)(d it:Addr)(u:Value)(kv:KT×Value):Prop:=∃t key,u= .ref t∧h.IsTuple t #[key,kv.2]∧knd.is kv.1 key=true∧t≠d∧t≠it
theorem PairAt.keep {h h':Heap}{d it:Addr}{u:Value}{kv:KT×Value}(p:PairAt knd h d it u kv)(k:∀b o,b≠d→b≠it→h.get? b=some o→h'.get? b=some o):PairAt knd h' d it u kv:=by
 obtain⟨t,key,e,⟨o,ho,r⟩,hk,h1,h2⟩:=p
 exact⟨t,key,e,⟨o,k t o h1 h2 ho,r⟩,hk,h1,h2⟩
theorem a3W {d it l:Addr}{items:List Value}{res:Value}(hh:A.handled=none)(hdi:d≠it)(hli:l≠it)(hld:l≠d):
  ∀(more:List (KT×Value)) (i:Nat) (s:Shared) (kvs:List (KT×Value)) (R:Result→Shared→Prop),
   s.heap.IsListIter it l i→s.heap.IsList l items.toArray→Paired (PairAt knd s.heap d it) (items.drop i) more→s.heap.DictOf knd d kvs→kvs.length+more.length≤sizeLine→
   (∀h' tk,(∀b o,b≠d→b≠it→s.heap.get? b=some o→h'.get? b=some o)→h'.DictOf knd d (more.foldl (fun a x=>stored a x.1 x.2) kvs)→R (.ok (.ret res)) {s with heap:=h',toks:=tk})→
   codeAny (model prog w) A (.builtin "dict.update.loop" ⟨[.ref d,.ref it,rawInt (i:Int),res],[]⟩) R s
 |[],i,s,kvs,R,hit,hl,hp,hd,hz,hR=>by
  have hx:items.toArray[i]?=none:=by
   have hn:items.drop i=[]:=by cases hp':items.drop i with
    |nil=>rfl
    |cons x r=>rw[hp'] at hp;cases hp
   have:=List.drop_eq_nil_iff.mp hn
   simp;omega
  refine codeAny_builtin a0t ?_
  rw[Around.under_plainId L1 _]
  show wpAny _ A.in1 (pyNext (.ref it)>>=_) _ _ s
  refine wpAny_bind (wpAny_pyNext_list_end (A:=A.in1) hh hit hl hx fun h' eb=>?_)
  show wpAny _ A.in1 (Builtin.Dict.addKeywords d []>>=_) _ _ _
  refine wpAny_bind (wpAny_pure (wpAny_pure ?_))
  exact hR h' s.toks (fun b o h1 h2 e=>eb b o h2 e) (hd.extBut eb hdi)
 |kv::more,i,s,kvs,R,hit,hl,hp,hd,hz,hR=>by
  obtain⟨x,hx,hp0,hp1⟩:∃x,items.toArray[i]?=some x∧PairAt knd s.heap d it x kv∧Paired (PairAt knd s.heap d it) (items.drop (i+1)) more:=by
   cases hp':items.drop i with
   |nil=>rw[hp'] at hp;cases hp
   |cons x r=>
    rw[hp'] at hp
    cases hp with
    |cons h1 h2=>
     refine⟨x,?_,h1,?_⟩
     ·have z:=congrArg List.head? hp'
      simpa using z
     ·have z:=congrArg List.tail hp'
      rw[List.tail_drop] at z
      rw[z];exact h2
  obtain⟨t,key,rfl,⟨ot,hot,hct,nt,hdt⟩,hkey,h1,h2⟩:=hp0
  refine codeAny_builtin a0t ?_
  rw[Around.under_plainId L1 _]
  show wpAny _ A.in1 (pyNext (.ref it)>>=_) _ _ s
  refine wpAny_bind (wpAny_pyNext_list_item hit hl hx fun h' hit' hs'=>?_)
  have hot':h'.get? t=some ot:=hs'.extBut _ _ h2 hot
  refine wpAny_bind (wpAny_holding (wpAny_bind (wpAny_tryCatch ?_)))
  unfold Builtin.Dict.pairItems
  refine wpAny_bind (wpAny_typeOf (s:={s with heap:=h'}) ⟨_,hot',hct⟩ ?_)
  rw[if_pos (by decide)]
  refine wpAny_bind (wpAny_seqItems (s:={s with heap:=h'}) hot' hdt ?_)
  refine wpAny_pure ?_
  show wpAny _ A.in1 (holding [key,kv.2] (dictSet d key kv.2)) _ _ _
  refine wpAny_holding (wpAny_dictSet_pairs (s:={s with heap:=h'}) (kvs:=kvs) hkey (hd.extBut hs'.extBut hdi) (fun h'' dd hs''=>?_) (by simp only[List.length_cons] at hz;omega))
  have kp:∀b o,b≠d→b≠it→s.heap.get? b=some o→h''.get? b=some o:=fun b o hb1 hb2 e=>hs''.extBut b o hb1 (hs'.extBut b o hb2 e)
  refine wpAny_pure ⟨plainId_quiet L1 _,?_⟩
  refine a3W hh hdi hli hld more (i+1) _ (stored kvs kv.1 kv.2) R ?_ ?_ (Paired.imp' (fun _ _ z=>z.keep kp) hp1) dd ?_ (fun h3 tk k3 d3=>hR h3 tk (fun b o e1 e2 e=>k3 b o e1 e2 (kp b o e1 e2 e)) d3)
  ·exact hit'.at fun o e=>hs''.extBut it o (Ne.symm hdi) e
  ·obtain⟨ol,hol,r⟩:=hl
   exact⟨ol,kp l ol hld hli hol,r⟩
  ·have z:=stored_length_le kvs kv.1 kv.2
   simp only[List.length_cons] at hz
   omega
theorem a2z {l:Addr}{items:List Value}{o:Obj}{n:Nat}{more:List (KT×Value)}{s:Shared}{Q:Value→Shared→Prop}(hh:A.handled=none)(ho:s.heap.get? l=some o)(hc:o.cls= .type "list")(hdat:o.data= .seq items.toArray n)(hdn:o.dict=none)(hz:more.length≤sizeLine)
  (hp:Paired (fun u kv=>∃t key,u= .ref t∧s.heap.IsTuple t #[key,kv.2]∧knd.is kv.1 key=true) items more)
  (h:∀h' tk,h'.DictOf knd s.heap.objs.size (more.foldl (fun a x=>stored a x.1 x.2) [])→(∀b o,s.heap.get? b=some o→h'.get? b=some o)→Q (.ref s.heap.objs.size) {s with heap:=h',toks:=tk}):
  wpAny (model prog w) A (call (.type "dict") [.ref l]) Q E s:=by
 refine callType_codes (Q₁:=fun obj s₁=>obj= .ref s.heap.objs.size∧s₁={s with heap:=s.heap.push {cls:= .type "dict",data:= .dict #[]}}) F.kt_called_dict (F.kt_typeCall_dict_1 _) F.entry_dict_init (kt_code_dict_new _ ⟨rfl,rfl⟩) ?_
 rintro obj s₁ ⟨rfl,rfl⟩
 have hnew:(s.heap.push {cls:= .type "dict",data:= .dict #[]}).DictOf knd s.heap.objs.size []:=Heap.DictOf.new s.heap
 have hl0:l≠s.heap.objs.size:=Nat.ne_of_lt (Heap.lt_size ho)
 refine⟨hnew.typeIs,F.args_dict_init_2 _ _,?_⟩
 unfold Builtin.«dict.__init__»
 refine wpAny_bind ?_
 unfold Builtin.Dict.selfAndRest
 refine wpAny_bind (wpAny_notOrdered_dict hnew.typeIs ?_)
 show wpAny _ _ (pure (s.heap.objs.size,[Value.ref l])) _ _ _
 refine wpAny_pure ?_
 show wpAny _ _ (Builtin.Dict.updateFrom "dict.__init__" s.heap.objs.size (.ref l) [] .none) _ _ _
 unfold Builtin.Dict.updateFrom
 have ho1:(s.heap.push {cls:= .type "dict",data:= .dict #[]}).get? l=some o:=Heap.get?_push_of_some _ ho
 refine wpAny_bind (wpAny_typeOf (s:={s with heap:=s.heap.push {cls:= .type "dict",data:= .dict #[]}}) ⟨_,ho1,hc⟩ ?_)
 rw[if_pos (by decide)]
 refine wpAny_bind (a7Z (s:={s with heap:=s.heap.push {cls:= .type "dict",data:= .dict #[]}}) ho1 hc hdat hdn hh fun h2 tk2 k2=>?_)
 rw[if_pos (show((none:Option Value).isNone)=true from rfl)]
 have ho2:h2.get? l=some o:=k2 l o ho1
 have hd2:h2.DictOf knd s.heap.objs.size []:=let ⟨od,es,ep,e,r⟩:=hnew;⟨od,es,ep,k2 _ _ e,r⟩
 have hlt:s.heap.objs.size<h2.objs.size:=by obtain⟨od,es,ep,e,r⟩:=hd2;exact Heap.lt_size e
 have up:∀b ob,s.heap.get? b=some ob→(h2.push {cls:= .type "list_iterator",data:= .fields #[.ref l,.int 0 0]}).get? b=some ob:=fun b ob e=>Heap.get?_push_of_some _ (k2 b ob (Heap.get?_push_of_some _ e))
 refine wpAny_bind (wpAny_rule (wpAny_bind (wpAny_pyIter_list (l:=l) (items:=items.toArray) ⟨o,ho2,hc,n,hdat⟩ ?_)))
 refine wpAny_pure ⟨plainId_quiet L1 _,?_⟩
 refine a3W (knd:=knd) (l:=l) (items:=items) (A:=A.in1) hh (Nat.ne_of_lt hlt) (Nat.ne_of_lt (Heap.lt_size ho2)) hl0 more 0 _ [] _ ⟨_,Heap.get?_push_size _ rfl,rfl,rfl⟩ ⟨o,Heap.get?_push_of_some _ ho2,hc,n,hdat⟩ ?_ (hd2.push _) (by simpa using hz) fun h3 tk k3 d3=>⟨rfl,h h3 tk d3 fun b ob e=>k3 b ob (Nat.ne_of_lt (Heap.lt_size e)) (Nat.ne_of_lt (Nat.lt_trans (Heap.lt_size e) hlt)) (up b ob e)⟩
 rw[List.drop_zero]
 refine Paired.imp' (fun u kv z=>?_) hp
 obtain⟨t,key,rfl,⟨ot,hot,r⟩,hk⟩:=z
 exact⟨t,key,rfl,⟨ot,up t ot hot,r⟩,hk,Nat.ne_of_lt (Heap.lt_size hot),Nat.ne_of_lt (Nat.lt_trans (Heap.lt_size hot) hlt)⟩
end
section
variable {X:Cx}
def PrV (K:PySem.W.Frag)(H:Hp)(x:V)(kv:Key×V):Prop:=∃t,x= .ref t∧SqT K H t [kV kv.1,kv.2]
def a2u (kvs:List (Key×V)):List (Key×V):=kvs.foldl (fun a x=>z6 a x.1 x.2) []
theorem KV.puts:∀{ps:List (Key×V)} {qs:List (Key×Value)} {a:List (Key×V)} {b:List (Key×Value)},KV ps qs→KV a b→KV (ps.foldl (fun a x=>z6 a x.1 x.2) a) (qs.foldl (fun a x=>stored a x.1 x.2) b)
 |_,_,_,_,.nil,h=>h
 |_::_,_::_,a,b,.cons r t,h=>by
  obtain⟨e,rv⟩:=r
  rw[List.foldl_cons,List.foldl_cons]
  refine KV.puts t ?_
  rw[←e]
  exact KV.put h _ rv
theorem a2v:∀(ps:List (Key×V)) (a:List (Key×V)),(ps.foldl (fun a x=>z6 a x.1 x.2) a).length≤a.length+ps.length
 |[],a=>Nat.le_refl _
 |p::r,a=>by
  rw[List.foldl_cons,List.length_cons]
  have z:=a2v r (z6 a p.1 p.2)
  have z2:=V0 a p.1 p.2
  omega
theorem b0N {pins:List (Addr×Obj)}{σ:L2.St}{H:Hp}{s:Shared}(I:Inv X pins σ H s):∀{xs:List V} {kvs:List (Key×V)} {us:List Value},Paired (PrV X.K H) xs kvs→Vals xs us→∃more:List (Key×Value),KV kvs more∧Paired (fun u kv=>∃t key,u=Value.ref t∧s.heap.IsTuple t #[key,kv.2]∧(j8 X.prog X.w).is kv.1 key=true) us more
 |_,_,_,.nil,.nil=>⟨[],.nil,.nil⟩
 |_::_,kv::_,_::_,.cons r t,.cons r' t'=>by
  obtain⟨tt,rfl,sq⟩:=r
  cases r'
  obtain⟨its,v1,t1,_⟩:=I.tuple sq
  obtain⟨key,v,rfl,rk,rv⟩:=a2t v1
  obtain⟨more,h1,h2⟩:=b0N I t t'
  exact⟨(kv.1,v)::more,.cons ⟨rfl,rv⟩ h1,.cons ⟨tt,key,rfl,t1,a3t rk⟩ h2⟩
def a9r (K:PySem.W.Frag):List V→Hp→VK→Prop:=fun xs H Q=>∃(p:Addr) (ys:List V) (kvs:List (Key×V)),xs=[.ref p]∧SqL K H p ys∧Paired (PrV K H) ys kvs∧kvs.length≤sizeLine∧∀l,H l=none→Q (.ref l) (upd H l (.dK (a2u kvs)))
theorem a6z (hc:X.calm=true):CallR X (.type "dict") (a9r X.K):=by
 intro pins s σ H xs us Q I r h
 obtain⟨p,ys,kvs,rfl,hq,hp,hz,q⟩:=h
 obtain⟨u,rfl,ru⟩:=O8 r
 cases ru
 obtain⟨its,rv,pl,_⟩:=I.list hq
 obtain⟨more,kv,pr⟩:=b0N I hp rv
 obtain⟨o,n,e,c,hd,dt⟩:=pl
 have hl:more.length=kvs.length:=(KV.length kv).symm
 refine a2z (knd:=j8 X.prog X.w) (I.ok.hd hc) e c dt hd (by omega) pr fun h' tk dd k=>?_
 refine⟨.ref s.heap.objs.size,_,?_,rfl,q _ (I.hok.fresh (Nat.le_refl _))⟩
 refine I.laid (a:=s.heap.objs.size) (o:= .dK (a2u kvs)) (t':=tk) k (Nat.le_refl _) (a3C ?_ (beq_eq_false_iff_ne.mpr (Ne.symm (Nat.ne_of_lt I.big))) (KV.puts kv .nil) dd)
 have z:=a2v kvs []
 unfold a2u
 simp only[List.length_nil] at z
 omega
def a4H (K:PySem.W.Frag):List V→Hp→VK→Prop:=fun xs H Q=>b2K xs H Q∨a9r K xs H Q
theorem V9 (K:PySem.W.Frag)(hc:X.calm=true)(h:X.K=K:=by rfl):CallR X (.type "dict") (a4H K):=by
 subst h
 intro pins s σ H xs us Q I r h
 rcases h with h|h
 ·exact a6A pins s σ H xs us Q I r h
 ·exact a6z hc pins s σ H xs us Q I r h
end
section
variable {K:PySem.W.Frag} {H:Hp} {Q:VK}
theorem J5 {p:Addr}{kvs:List (Key×V)}(h:Rd H p (.dK kvs))(q:∀l,H l=none→Q (.ref l) (upd H l (.dK kvs))):a4H K [.ref p] H Q:= .inl ⟨p,kvs,rfl,h,q⟩
theorem N7 {p:Addr}{xs:List V}{kvs:List (Key×V)}(h:SqL K H p xs)(hp:Paired (PrV K H) xs kvs)(hz:kvs.length≤sizeLine)(q:∀l,H l=none→Q (.ref l) (upd H l (.dK (a2u kvs)))):a4H K [.ref p] H Q:= .inr ⟨p,xs,kvs,rfl,h,hp,hz,q⟩
end
end L2
set_option Elab.async false
set_option linter.all false
set_option maxRecDepth 100000
set_option maxHeartbeats 4000000
namespace L2
open PySem PySem.Spec PyProof.Rows
section
variable {X:Cx}
end
end L2
set_option Elab.async false
set_option linter.all false
set_option maxRecDepth 100000
set_option maxHeartbeats 4000000
namespace L2
open PySem PySem.Spec PyProof.Rows
theorem ObjOk.there {P:Program}{w:World}{H:Hp}{h:Heap}{a:Addr}{o:HO}(x:ObjOk P w H h a o):∃u,h.get? a=some u:=by
 induction o with
 |lst xs=>obtain⟨_,_,_,_,e⟩:=x;exact⟨_,e⟩
 |tup xs=>obtain⟨_,_,_,o,e,_⟩:=x;exact⟨_,e⟩
 |dK kvs=>obtain⟨_,_,_,_,o,_,_,e,_⟩:=x;exact⟨_,e⟩
 |dT kvs=>obtain⟨_,_,_,_,o,_,_,e,_⟩:=x;exact⟨_,e⟩
 |set S n=>obtain⟨o,_,_,_,e,_⟩:=x;exact⟨_,e⟩
 |ins C dx fs=>obtain⟨_,_,_,e,_⟩:=x;exact⟨_,e⟩
 |own y=>exact x
 |xd fs=>obtain⟨_,⟨_,_,_,e,_⟩,_⟩:=x;exact⟨_,e⟩
 |rng lo hi=>obtain⟨_,_,_,e⟩:=x;exact⟨_,e⟩
 |frz ob u=>obtain⟨e,_⟩:=x;exact⟨_,e⟩
 |tbl ps=>exact⟨_,show h.get? a=some _ from x⟩
 |met f y=>exact⟨_,show h.get? a=some _ from x⟩
 |ext φ=>obtain⟨_,e,_⟩:=x;exact e
structure Fly (P:Program) (w:World) (outer:List Env) (H:Hp) (s:Shared) (a C:Addr) (a0:Value) (B:Heap) (H':Hp) (s':Shared):Prop where
 fl:Heap.FlyingW B outer a (.ref C) a0 s'.heap
 os:s'.os=s.os
 bare:AllBare s'.gens
 un:Un (frs outer) [] H H' s.heap s'.heap
 hok:HOk P w H' s'.heap
 kp:∀b o,s.heap.get? b=some o→H b=none→b∉frs outer→B.get? b=some o
 th:∀b o,s.heap.get? b=some o→b∉frs outer→∃o',B.get? b=some o'
 tr:∀b o,H' b=some o→∃u,B.get? b=some u
 nw:H' a=none
def CXE (P:Program)(w:World):CXT:=fun outer H s E e s'=>∃(a C:Addr) (a0:Value) (B:Heap) (H':Hp),e= .ref a∧Fly P w outer H s a C a0 B H' s'∧E (.ref C) (some a) H'
theorem a9V {P:Program}{w:World}{H:Hp}{B h h':Heap}(ok:HOk P w H h)(tr:∀b o,H b=some o→∃u,B.get? b=some u)(k1:B.StaysIn h)(k2:B.StaysIn h'):HOk P w H h':=fun a o e=>
 (ok a o e).stay (fun b u hb q=>by
  have hH:∃o',H b=some o':=by
   rcases hb with rfl|hb
   ·exact⟨_,e⟩
   ·exact⟨_,hb⟩
  obtain⟨o',ho'⟩:=hH
  obtain⟨u',hu'⟩:=tr b o' ho'
  have z:=k1 b u' hu'
  rw[q] at z
  cases z
  exact k2 b _ hu') (fun _ z=>z) fun _ _ z=>z
section
variable {X:Cx} {pins:List (Addr×Obj)} {σ:St} {H:Hp} {s s':Shared}
theorem U3 {base h:Heap}{l:List Env}(F:h.FunFrames base l){b:Addr}{o:Obj}(hb:b∈frs l)(e:h.get? b=some o):∀vs,o.data≠ .fields vs:=by
 obtain⟨_,o',h1,h2⟩:=F.mem hb
 rw[e] at h1;cases h1;exact h2
end
section
variable {P:Program} {w:World} {K:PySem.W.Frag} {mg:Str→Option Value} {base:Heap} {N:List Str} {qual:Str} {scope:Scope} {f:Addr} {cd:Value} {A:Around} {outer:List Env} {s0:Shared} {H0:Hp} {E:XK}
theorem a1F {b:Addr}(hb:b∈frs outer):b∈frs (envOfC qual scope s0.heap.objs.size f cd::outer):=by
 unfold frs at*
 rw[List.filterMap_cons]
 split
 ·exact hb
 ·exact List.mem_cons_of_mem _ hb
theorem a2E {b:Addr}{o:Obj}(e:s0.heap.get? b=some o)(hb:b∉frs outer):b∉frs (envOfC qual scope s0.heap.objs.size f cd::outer):=fun z=>by
 unfold frs at z hb
 rw[List.filterMap_cons] at z
 have hl:=Heap.lt_size e
 rcases List.mem_cons.mp z with z|z
 ·rw[z] at hl;exact absurd hl (Nat.lt_irrefl _)
 ·exact hb z
theorem a5e {pins:List (Addr×Obj)}{σ:St}{H:Hp}{s:Shared}{h1:Heap}{e C:Addr}{vs:List Value}(I:Inv (a3k (CXE P w) P w K mg base N qual scope f cd A outer s0 H0 E) pins σ H s)
  (hx:Heap.MadeExcOf s.heap h1 e (.ref C) vs) (q:E (.ref C) (some e) H):(a3k (CXE P w) P w K mg base N qual scope f cd A outer s0 H0 E).xe (.ref e) {s with heap:=h1}:=by
 have hst:∀env∈(envOfC qual scope s0.heap.objs.size f cd::outer),∀b,env.frame=some b→b∈frs (envOfC qual scope s0.heap.objs.size f cd::outer):=fun env he b hb=>List.mem_filterMap.mpr ⟨env,he,hb⟩
 have fr:s.heap.FunFrames base (envOfC qual scope s0.heap.objs.size f cd::outer):=I.stack
 have tr:∀b o,H b=some o→∃u,(PySem.W.hideAll s.heap (frs (envOfC qual scope s0.heap.objs.size f cd::outer))).get? b=some u:=fun b o z=>by
  obtain⟨u,hu⟩:=(I.hok b o z).there
  refine⟨u,PySem.W.hideAll_get _ hu fun hb=>?_⟩
  have:=I.stkFree b hb
  rw[z] at this;cases this
 have nw:H e=none:=by
  cases z:H e with
  |none=>rfl
  |some o=>
   obtain⟨u,hu⟩:=(I.hok e o z).there
   rw[hx.new] at hu;cases hu
 have hb0:Un (frs outer) [] H0 H s0.heap s.heap:=I.base
 refine wpAny_leaves_madeW (base:=PySem.W.hideAll s.heap (frs (envOfC qual scope s0.heap.objs.size f cd::outer))) I.ok.frames rfl (fun b o z=>PySem.W.of_hideAll _ z) (PySem.W.funFrames_hide fr hst) hx fun h' t x1 x2 x3 x4=>?_
 have kp:∀b o,s0.heap.get? b=some o→H0 b=none→b∉frs outer→(PySem.W.hideAll s.heap (frs (envOfC qual scope s0.heap.objs.size f cd::outer))).get? b=some o:=fun b o z n hb=>
  PySem.W.hideAll_get _ (hb0.keep b o z n hb (by simp)) (a2E z hb)
 have th:∀b o,s0.heap.get? b=some o→b∉frs outer→∃o',(PySem.W.hideAll s.heap (frs (envOfC qual scope s0.heap.objs.size f cd::outer))).get? b=some o':=fun b o z hb=>by
  obtain⟨o',z'⟩:=hb0.there b o z (by simp)
  exact⟨o',PySem.W.hideAll_get _ z' (a2E z hb)⟩
 have hk:=x1.1
 refine⟨e,C,_,_,H,rfl,⟨x1,I.os,I.bare,⟨fun b o z n hb _=>hk b o (kp b o z n hb),fun b o z n hb _=>?_,fun b o z n _=>hb0.free b o z n (by simp),fun b o z _=>?_,hb0.tups,hb0.frzs,hb0.tbls⟩,?_,kp,th,tr,nw⟩,q⟩
 ·obtain⟨s1,e1⟩:=hb0.slot b o z n hb (by simp)
  have nf:=U3 fr (a1F hb) e1
  obtain⟨s2,e2⟩:=x4 b _ (hx.keeps _ _ e1) nf
  exact⟨s2,e2⟩
 ·by_cases hb:b∈frs outer
  ·obtain⟨o',e1⟩:=hb0.there b o z (by simp)
   obtain⟨s2,e2⟩:=x4 b _ (hx.keeps _ _ e1) (U3 fr (a1F hb) e1)
   exact⟨_,e2⟩
  ·obtain⟨o',e1⟩:=th b o z hb
   exact⟨o',hk b o' e1⟩
 ·exact a9V I.hok tr (fun b o z=>PySem.W.of_hideAll _ z) hk
theorem b2D:a0E (CXE P w) (a3k (CXE P w) P w K mg base N qual scope f cd A outer s0 H0 E) E:=by
 intro pins σ H s e s' I h
 obtain⟨a,C,a0,B,H',rfl,F,q⟩:=h
 have fr:=F.fl.2.2.1
 have hb0:Un (frs outer) [] H0 H s0.heap s.heap:=I.base
 refine wpAny_leaves_onW I.ok.frames rfl F.fl fun h' x1 x2=>?_
 have hk:=x1.1
 have kp:∀b o,s0.heap.get? b=some o→H0 b=none→b∉frs outer→B.get? b=some o:=fun b o z n hb=>
  F.kp b o (hb0.keep b o z n hb (by simp)) (hb0.free b o z n (by simp)) (a2E z hb)
 have th:∀b o,s0.heap.get? b=some o→b∉frs outer→∃o',B.get? b=some o':=fun b o z hb=>by
  obtain⟨o',z'⟩:=hb0.there b o z (by simp)
  exact F.th b o' z' (a2E z hb)
 have ub:Un (frs (envOfC qual scope s0.heap.objs.size f cd::outer)) [] H H' s.heap s'.heap:=F.un
 refine⟨a,C,a0,B,H',rfl,⟨x1,F.os.trans I.os,F.bare,⟨fun b o z n hb _=>hk b o (kp b o z n hb),fun b o z n hb _=>?_,fun b o z n _=>?_,fun b o z _=>?_,fun b xs z=>ub.tups b xs (hb0.tups b xs z),fun b o u z=>ub.frzs b o u (hb0.frzs b o u z),fun b ps z=>?_⟩,a9V F.hok F.tr F.fl.1 hk,kp,th,F.tr,F.nw⟩,q⟩
 ·obtain⟨s1,e1⟩:=hb0.slot b o z n hb (by simp)
  obtain⟨s2,e2⟩:=ub.slot b _ e1 (hb0.free b o z n (by simp)) (a1F hb) (by simp)
  obtain⟨s3,e3⟩:=x2 b _ e2 (U3 fr (a1F hb) e2)
  exact⟨s3,e3⟩
 ·obtain⟨o',e1⟩:=hb0.there b o z (by simp)
  exact ub.free b o' e1 (hb0.free b o z n (by simp)) (by simp)
 ·by_cases hb:b∈frs outer
  ·obtain⟨o',e1⟩:=hb0.there b o z (by simp)
   obtain⟨o2,e2⟩:=ub.there b o' e1 (by simp)
   obtain⟨s3,e3⟩:=x2 b _ e2 (U3 fr (a1F hb) e2)
   exact⟨_,e3⟩
  ·obtain⟨o',e1⟩:=th b o z hb
   exact⟨o',hk b o' e1⟩
 ·obtain⟨m1,e1⟩:=hb0.tbls b ps z
  obtain⟨m2,e2⟩:=ub.tbls b _ e1
  exact⟨m1++m2,by rw[e2,Array.append_assoc]⟩
end
def bmV:List Value:=[.type "ValueError",.type "Exception",.type "BaseException",.type "object"]
structure ExC (K:PySem.W.Frag) (mg:Str→Option Value) (x:Str) (C:Addr):Prop where
 bound:mg x=some (.ref C)
 exc:PySem.W.excIn K C bmV "ValueError.__new__"=true
theorem ExC.own {K:PySem.W.Frag}{mg:Str→Option Value}{x:Str}{C:Addr}{h:Heap}(O:ExC K mg x C)(X:K.In h):OwnCls x C bmV "ValueError.__new__" mg h:=by
 have q:=O.exc
 refine⟨O.bound,?_⟩
 unfold PySem.W.excIn at q
 split at q
 ·rename_i g1 g2 g3 lk
  split at q
  ·rename_i c2 l2 i0 i1 i2 i3 nn i5 em es
   simp only[Bool.and_eq_true,beq_iff_eq,Bool.not_eq_true'] at q
   obtain⟨⟨⟨⟨⟨ea,eb⟩,q1⟩,q2⟩,q3⟩,q4⟩:=q
   subst ea
   subst eb
   obtain⟨y1,y2,y3,y4,y5,y6,y7,y8,y9,y10,y11⟩:=g2
   dsimp only at em q1 q3 q4
   subst em q1
   have e3:g3= #[i0,i1,i2,i3,some (.builtin "ValueError.__new__"),i5]:=by
    cases g3 with
    |mk l=>
     have es':l=[i0,i1,i2,i3,some (.builtin "ValueError.__new__"),i5]:=es
     rw[es']
   subst e3
   exact⟨l2,y4,y1,y5,y2,y6,y7,y8,y9,y10,g1,i0,i1,i2,i3,i5,h.nsMap y4,X _ _ lk,Heap.Ns.of_isNs (PySem.W.isNs_of_in X q3),PySem.W.nsMap_none_of_in X q3 q4,PySem.W.tail_of_in X q2⟩
  ·cases q
 ·cases q
def a6M (X:Cx)(E:XK):Prop:=∀(pins:List (Addr×Obj)) (σ:St) (H:Hp) (s:Shared) (h1:Heap) (e C:Addr) (vs:List Value),Inv X pins σ H s→Heap.MadeExcOf s.heap h1 e (.ref C) vs→E (.ref C) (some e) H→X.xe (.ref e) {s with heap:=h1}
theorem a2F {P:Program}{w:World}{K:PySem.W.Frag}{mg:Str→Option Value}{base:Heap}{N:List Str}{qual:Str}{scope:Scope}{f:Addr}{cd:Value}{A:Around}{outer:List Env}{s0:Shared}{H0:Hp}{E:XK}:
  a6M (a3k (CXE P w) P w K mg base N qual scope f cd A outer s0 H0 E) E:=fun _ _ _ _ _ _ _ _ I hx q=>a5e I hx q
def a7c (C:Addr)(E:XK)(ta:TA):TS:=fun _ σ H=>ta σ H fun vs H1=>vs.length≤sizeLine∧∀e,H1 e=none→E (.ref C) (some e) H1
section
variable {X:Cx} {E:XK} {x:Str} {C:Addr} {np cpos pos:Pos} {e:Expr} {es:List Expr} {ta:TA}
theorem b0F (R:a6M X E)(O:ExC X.K X.mg x C)(hc:X.calm=true)(ha:PA X (e::es) ta)(hg:Gl X x:=by rfl)(hdb:(x==("__debug__":Str))=false:=by decide)(h:t8 (e::es)=true:=by rfl):
  PS X (.Raise (some (.Call (.Name x np) (e::es) [] cpos)) none pos) (a7c C E ta):=by
 intro pins s σ H D I hw
 have h':(z0 e&&t8 es)=true:=h
 rw[Bool.and_eq_true] at h'
 have h1:starEach (e::es) X.env=(false,eval e X.env)::starEach es X.env:=a1b h'.1
 have h2:(backTo cpos (starEach es X.env)).any (·.1)=false:=a1m h'.2
 obtain⟨tl,y0,y1,y2,y3,y4,y5,y6,y7,y8,y9,u0,u1,u2,u3,u5,mN,hC,hN,hni,T⟩:=(O.own I.ok.mod.kin).obj
 refine wpAny_Raise_call_subT (k5:=u5) (k3:=u3) (k2:=u2) (k1:=u1) (k0:=u0) (dd:=y9) (col:=y8) (ab:=y7) (sub:=y6) (sn:=y5) (hdct:=y4) (bs:=y3) (q:=y2) (nm:=y1) (N:=y0) (C:=C) (bm:=tl) (mN:=mN) PySem.F.excBase_ValueError (T.hasType (by decide)) (I.ok.hd hc) ?_ hni (a5k I hg O.bound ⟨rfl,?_⟩ hdb)
 ·rw[h1]
  show(false||(backTo cpos (starEach es X.env)).any (·.1))=false
  rw[h2];rfl
 ·have hw':=ha cpos pins s σ H _ I hw
  rw[h1] at hw'⊢
  refine Calls.evalArgs_plain (thn hw' fun us s1 ⟨vs,H1,I1,r,q1,q2⟩=>?_)
  refine⟨rfl,by rw[←r.length];exact q1,I1.bk _ _ hC,hN.keeps I1.bk,T.keeps I1.bk,fun h2 e2 hm=>?_⟩
  have nw:H1 e2=none:=by
   cases z:H1 e2 with
   |none=>rfl
   |some o=>
    obtain⟨u,hu⟩:=(I1.hok e2 o z).there
    rw[hm.new] at hu;cases hu
  exact R pins σ H1 s1 h2 e2 C us I1 hm (q2 e2 nw)
theorem a4U (R:a6M X E)(O:ExC X.K X.mg x C)(hc:X.calm=true)(ha:QA X (e::es) ta)(hg:Gl X x:=by rfl)(hdb:(x==("__debug__":Str))=false:=by decide)(h:t8 (e::es)=true:=by rfl):
  QS X (.Raise (some (.Call (.Name x np) (e::es) [] cpos)) none pos) (a7c C E ta):=⟨b0F R O hc ha.r hg hdb h⟩
def tFs (te:TE)(c:Str):TE:=fun σ H Q=>te σ H fun v H1=>∃y:Str,v= .str y∧y.length+c.length≤1000∧∀z:Str,Q (.str z) H1
theorem qFs {te:TE}{c:Str}{p1 p2:Pos}{j}(he:QE X e te):QE X (.JoinedStr [.FormattedValue e (-1) none p1,.Constant (.str c) j p2] pos) (tFs te c):=⟨by
 intro pins s σ H Q I h
 refine JoinedStr_many (joinParts_cons (FormattedValue_plain (thn (he.r pins s σ H _ I h) fun u s1 ⟨v,H1,I1,r,y,ev,hl,q⟩=>?_)))
 subst ev
 obtain⟨t,rfl⟩:=(show ∃t,u=Value.str y t from r)
 refine formatField_str (fun t' tk=>?_) (i8 (by omega))
 refine⟨i8 (by rw[strLen_append];show 0+_≤1000;omega),joinParts_cons ?_⟩
 have hc:=(a3L (X:=X) (x:=c) (j:=j) (pos:=p2)).r pins {s1 with toks:=tk} σ H1 (fun v H2=>v= .str c∧H2=H1) (I1.tok tk) ⟨rfl,rfl⟩
 refine thn hc fun u2 s2 ⟨v2,H2,I2,r2,e2,e3⟩=>?_
 subst e2 e3
 obtain⟨t2,rfl⟩:=(show ∃t,u2=Value.str c t from r2)
 have hz:(Str.empty++y++c).length≤sizeLine:=i8 (by rw[strLen_append,strLen_append];show 0+_+_≤1000;omega)
 refine⟨hz,joinParts_nil ⟨.str (Str.empty++y++c),H2,I2.tok _,⟨_,rfl⟩,q _⟩ hz⟩⟩
end
theorem Fun.okE {P:Program}{w:World}{K:PySem.W.Frag}{mg:Str→Option Value}{base:Heap}{x qual:Str}{st:Stmt}{f:Addr}{fd:FuncData}{N ps:List Str}{k:Nat}{sp:Sp}(F:Fun K x qual st f fd)(S:j5 N ps (b5 st))(len:∀vs H Q E,sp vs H Q E→vs.length=ps.length)
  (hbody:∀(cdv:Value) (A:Around) (outer:List Env) (s:Shared) (H:Hp) (vs:List V) (Q:VK) (E:XK),Room k (A.deeper (envOfC qual (b5 st) s.heap.objs.size f cdv))→sp vs H Q E→
   ∃t,PSs (a3k (CXE P w) P w K mg base N qual (b5 st) f cdv A outer s H E) (j0 st) t∧t {nx:=fun _ H'=>Q .non H',rt:=Q} (a1E N vs) H):FnOk P w K mg base (CXE P w) (k+1) f fd ps sp:=by
 obtain⟨oc,od,kV,doc,pm,an,cdv,ct,osl,rfl,lk,hcd⟩:=F.ex
 exact b2H lk hcd S len fun A outer s H vs Q E hr hsp=>hbody cdv A outer s H vs Q E hr hsp
end L2
set_option Elab.async false
set_option linter.all false
set_option maxRecDepth 100000
set_option maxHeartbeats 4000000
namespace L2
open PySem PySem.Spec PyProof.Rows
abbrev Cx.pinned (X:Cx)(pins:List (Addr×Obj)):Cx:={X with pn:=X.pn++pins}
abbrev Cx.suite (X:Cx)(e:Addr):Cx:={X with A:=X.A.mark (some (.ref e)),calm:=false,xe:=fun _ _=>False}
section
variable {X:Cx} {pins pins':List (Addr×Obj)} {Es:St→XK} {σ:St} {H:Hp} {s:Shared} {e:Addr}
def a4o (a C:Addr)(h:Heap):Prop:=∃o vs,h.get? a=some o∧o.cls= .ref C∧o.data= .fields vs
theorem a9z {P:Program}{w:World}{H:Hp}{h:Heap}{a C:Addr}(x:a4o a C h):ObjOk P w H h a (.ext (a4o a C)):=by
 obtain⟨o,vs,e,c,d⟩:=x
 refine⟨⟨o,vs,e,c,d⟩,⟨o,e⟩,fun h1 h2 ⟨o',vs',e',c',d'⟩ k=>⟨o',vs',k _ e',c',d'⟩⟩
theorem Inv.track {a C:Addr}(I:Inv X pins σ H s)(hn:H a=none)(x:a4o a C s.heap)(h0:X.s₀.heap.get? a=none)(hp:∀p∈X.pn++pins,p.1≠a):Inv X pins σ (upd H a (.ext (a4o a C))) s:=by
 obtain⟨o,vs,e,c,d⟩:=id x
 have ne0:∀b ob,X.s₀.heap.get? b=some ob→b≠a:=fun b ob z q=>by rw[q,h0] at z;cases z
 refine⟨I.ok,I.os,I.bare,⟨I.base.keep,I.base.slot,fun b ob z n hx=>?_,I.base.there,fun b xs z=>?_,fun b ob u z=>?_,fun b ps z=>?_⟩,I.loc,I.cell,?_,fun y c' z=>?_,fun p hq=>?_,fun b u z=>?_,I.len⟩
 ·rw[d0 (ne0 b ob z)];exact I.base.free b ob z n hx
 ·have z':=I.base.tups b xs z
  rw[d0 fun q=>by rw[q,hn] at z';cases z'];exact z'
 ·have z':=I.base.frzs b ob u z
  rw[d0 fun q=>by rw[q,hn] at z';cases z'];exact z'
 ·obtain⟨more,z'⟩:=I.base.tbls b ps z
  exact⟨more,by rw[d0 fun q=>by rw[q,hn] at z';cases z'];exact z'⟩
 ·obtain⟨m,⟨oL,es,ep,hL,dL,_⟩,_⟩:=I.loc
  rw[d0 fun q=>?_]
  ·exact I.free
  ·rw[q,e] at hL;cases hL;rw[d] at dL;cases dL
 ·obtain⟨v,oc,hoc,hod⟩:=I.cell y c' z
  rw[d0 fun q=>?_]
  ·exact I.freeC y c' z
  ·rw[q,e] at hoc;cases hoc;rw[d] at hod;cases hod
 ·obtain⟨p1,p2,p3,p4,p5⟩:=I.pin p hq
  exact⟨p1,by rw[d0 (hp p hq)];exact p2,p3,p4,p5⟩
 ·by_cases q:b=a
  ·subst q
   rw[i7] at z;cases z
   exact a9z x
  ·rw[d0 q] at z
   refine(I.hok b u z).stay (fun _ _ _ q=>q) (fun b' q'=>?_) fun b' xs q'=>?_
   ·rw[d0 fun k=>by rw[k,hn] at q';cases q'];exact q'
   ·rw[d0 fun k=>by rw[k,hn] at q';cases q'];exact q'
end
def b2N (sp:Sp)(dvs:List V)(Es:St→XK)(t:TA):TE:=fun σ H Q=>t σ H fun vs H1=>sp (vs++dvs) H1 Q (Es σ)
section
variable {X:Cx} {pins:List (Addr×Obj)} {Es:St→XK} {k:Nat} {ps:List Str} {dvs:List V} {sp:Sp} {x:Str} {p pos:Pos} {e:Expr} {es:List Expr} {t:TA}
end
structure ExT (K:PySem.W.Frag) (mg:Str→Option Value) (x:Str) (T:Addr):Prop where
 bound:mg x=some (.ref T)
 ty:PySem.W.typeIn K (.ref T)=some (.type "type")
 exc:PySem.W.subIn K (.ref T) (.type "BaseException")=some true
 cls:(PySem.W.clsIn K T).isSome=true
def b6v (K:PySem.W.Frag)(T:Addr)(i:Nat)(tb:(St→XK)→TS)(ts:TS):TS:=fun D σ H=>
 tb (fun σ' c oa H'=>∃C a,c= .ref C∧oa=some a∧PySem.W.subIn K (.ref C) (.ref T)=some true∧
  ts {nx:=fun σ2 H2=>D.nx (σ2.set i none) H2,rt:=D.rt,bk:=fun σ2 H2=>D.bk (σ2.set i none) H2,ct:=fun σ2 H2=>D.ct (σ2.set i none) H2} (σ'.set i (some (.ref a))) (upd H' a (.ext (a4o a C)))) D σ H
section
variable {X:Cx} {x n:Str} {T:Addr} {np hpos pos:Pos} {i:Nat} {b₀:Stmt} {body suite:List Stmt} {tb:(St→XK)→TS} {ts:TS}
end
end L2
set_option Elab.async false
set_option linter.all false
set_option maxRecDepth 100000
set_option maxHeartbeats 4000000
namespace L2
open PySem PySem.Spec PyProof.Rows PySem.W
section
variable {X:Cx}
end
def cA (K:Frag)(x:Str):Addr:=match nsIn K mainGlobals x with
 |some (some (.ref C))=>C
 |_=>0
theorem b4U {P:Program}{w:World}{X:Cx}:a0E (CXE P w) X E0:=fun _ _ _ _ _ _ _ ⟨_,_,_,_,_,_,_,z⟩=>z.elim
section
variable {K:Frag} {σ:St} {H:Hp} {Q:VK} {D:a6L}
theorem b2r {C:Addr}{E:XK}{ta:TA}(q:ta σ H fun vs H1=>vs.length≤sizeLine∧∀e,H1 e=none→E (.ref C) (some e) H1):a7c C E ta D σ H:=q
theorem b6B {te:TE}{c:Str}(q:te σ H fun v H1=>∃y:Str,v= .str y∧y.length+c.length≤1000∧∀z:Str,Q (.str z) H1):tFs te c σ H Q:=q
theorem b4Q {T:Addr}{i:Nat}{tb:(St→XK)→TS}{ts:TS}(q:tb (fun σ' c oa H'=>∃C a,c= .ref C∧oa=some a∧PySem.W.subIn K (.ref C) (.ref T)=some true∧
  ts {nx:=fun σ2 H2=>D.nx (σ2.set i none) H2,rt:=D.rt,bk:=fun σ2 H2=>D.bk (σ2.set i none) H2,ct:=fun σ2 H2=>D.ct (σ2.set i none) H2} (σ'.set i (some (.ref a))) (upd H' a (.ext (a4o a C)))) D σ H):b6v K T i tb ts D σ H:=q
theorem b1n {sp:Sp}{dvs:List V}{Es:St→XK}{t:TA}(q:t σ H fun vs H1=>sp (vs++dvs) H1 Q (Es σ)):b2N sp dvs Es t σ H Q:=q
end
section
variable {X:Cx}
def b5l (K:Frag):R2:=fun x y H Q=>(∃a xs i,x= .ref a∧y= .int i∧SqT K H a xs∧Q (.bl true) H)∨(∃a xs i,x= .int i∧y= .ref a∧SqT K H a xs∧Q (.bl true) H)
theorem b3C (hu:X.A.units+64<cLine):OpR X (compareOp .NotEq) (b5l X.K):=by
 intro pins s σ H x y v u Q I rx ry h
 rcases h with⟨a,xs,i,rfl,rfl,ha,k⟩|⟨a,xs,i,rfl,rfl,ha,k⟩
 ·cases rx
  obtain⟨t,rfl⟩:=(show ∃t,u=Value.int i t from ry)
  obtain⟨its,r1,p1,z1⟩:=I.tuple ha
  exact SeqAt.RcNeAt.tuple_int (A:=X.A) i t (show s.heap.IsTuple a its.toArray from p1) (by omega) X.prog X.w _ _ ⟨.bl true,H,I,rfl,k⟩
 ·cases ry
  obtain⟨t,rfl⟩:=(show ∃t,v=Value.int i t from rx)
  obtain⟨its,r1,p1,z1⟩:=I.tuple ha
  exact SeqAt.RcNeAt.int_tuple (A:=X.A) i t (show s.heap.IsTuple a its.toArray from p1) (by omega) X.prog X.w _ _ ⟨.bl true,H,I,rfl,k⟩
def a8S (K:Frag):R2:=fun x y H Q=>a3Q K x y H Q∨b5l K x y H Q
theorem b6P (K:Frag){k:Nat}(hr:Room k X.A)(h:X.K=K:=by rfl):OpR X (compareOp .NotEq) (a8S K):=(kNe K hr h).or (h▸b3C hr.units)
def b1B:V→List V→Hp→VK→Prop:=fun x vs H Q=>∃a kvs,x= .ref a∧vs=[]∧H a=some (.dK kvs)∧Q .non (upd H a (.dK []))
theorem a3n:MtR X "dict.clear" b1B:=by
 intro pins s σ H x vs v us Q I rx rv h
 obtain⟨a,kvs,rfl,rfl,hH,q⟩:=h
 cases rx
 have hus:=rv.zero
 subst hus
 exact b1q I hH fun s' I'=>⟨.non,_,I',rfl,q⟩
end
section
variable {K:Frag} {H:Hp} {Q:VK}
theorem b6S {x y:V}(q:a3Q K x y H Q):a8S K x y H Q:= .inl q
theorem a9F {i j:Int}(q:Q (.bl (!decide (i=j))) H):a8S K (.int i) (.int j) H Q:= .inl (a6m q)
theorem b2u {i j:Bool}(q:Q (.bl (!decide (i=j))) H):a8S K (.bl i) (.bl j) H Q:= .inl (a7u q)
theorem a9n {i j:Str}(q:Q (.bl (!decide (i=j))) H):a8S K (.str i) (.str j) H Q:= .inl (a5s q)
end
end L2
set_option Elab.async false
set_option linter.all false
set_option maxRecDepth 100000
set_option maxHeartbeats 4000000
namespace L2
open PySem PySem.Spec PyProof.Rows
def J6 (ka kb:List (Key×V)):List (Key×V):=kb.foldl (fun a x=>z6 a x.1 x.2) ka
theorem a4b:∀{kb ka:List (Key×V)},(J6 ka kb).length≤ka.length+kb.length
 |[],ka=>Nat.le_refl _
 |p::r,ka=>by
  show(J6 (z6 ka p.1 p.2) r).length≤_
  have z:=a4b (kb:=r) (ka:=z6 ka p.1 p.2)
  have z2:=V0 ka p.1 p.2
  rw[List.length_cons];omega
section
variable {X:Cx}
def b1w:V→List V→Hp→VK→Prop:=fun x vs H Q=>∃a b ka kb,x= .ref a∧vs=[.ref b]∧H a=some (.dK ka)∧Rd H b (.dK kb)∧a≠b∧ka.length+kb.length≤1000∧Q .non (upd H a (.dK (J6 ka kb)))
theorem P3:MtR X "dict.update" b1w:=by
 intro pins s σ H x vs v us Q I rx rv h
 obtain⟨a,b,ka,kb,rfl,rfl,hA,hB,hne,hl,q⟩:=h
 cases rx
 obtain⟨u,rfl,ru⟩:=O8 rv
 cases ru
 obtain⟨z,hd,va,ra,da⟩:=a7J I.hok hA
 obtain⟨z2,hd2,vb,rb,db⟩:=J0 I.hok hB
 have lz:ka.length+kb.length≤sizeLine:=i8 hl
 refine call_meetsIn PySem.F.slot_dict_update da.typeIs PySem.F.entry_dict_update (PySem.F.args_dict_update_2 _ _) (meets_dict_update (j8 X.prog X.w) a b hne hd2) ⟨va,vb,da,db,by rw[←ra.length,←rb.length];exact lz,fun h' dd' _ hs=>?_⟩
 have he:∃q,h'.get? a=some q:=let ⟨q,_,_,hq,_⟩:=dd';⟨q,hq⟩
 have hl2:=a4b (kb:=kb) (ka:=ka)
 refine⟨.non,_,a1N (t':=s.toks) I (by rw[hA];exact True.intro) hs he (a3C (kvs:=J6 ka kb) (Nat.le_trans hl2 lz) hd (KV.puts rb ra) dd'),rfl,q⟩
end
section
open PySem.Builtin PySem.Builtin.Str
theorem a5u (x:Str)(l u:Option Int):(Txt.slice x l u).length≤(strSliceIndices l u 1 x.length).length:=by
 unfold Txt.slice
 split
 ·next h=>
  have h':(strSliceIndices l u 1 x.length).length=x.length:=by simpa using h
  omega
 ·show(List.filterMap _ (strSliceIndices l u 1 x.length)).toArray.size≤_
  rw[List.size_toArray]
  exact List.length_filterMap_le _ _
theorem a6a (x:Str)(i:Int)(h0:0≤i)(h1:i≤x.length):(Txt.slice x none (some i)).length≤i.toNat:=by
 refine Nat.le_trans (a5u x none (some i)) ?_
 unfold strSliceIndices sliceRange
 simp only[show(1:Int)>0 by decide,if_true,List.length_map,List.length_range]
 repeat(first|split|omega)
theorem a3y (x:Str)(i:Int)(h0:0≤i)(h1:i≤x.length):(Txt.slice x (some i) none).length≤x.length -i.toNat:=by
 refine Nat.le_trans (a5u x (some i) none) ?_
 unfold strSliceIndices sliceRange
 simp only[show(1:Int)>0 by decide,if_true,List.length_map,List.length_range]
 repeat(first|split|omega)
end
end L2
set_option Elab.async false
set_option linter.all false
set_option maxRecDepth 100000
set_option maxHeartbeats 4000000
namespace L2
open PySem PySem.Spec PyProof.Rows
def a0l (σ:List Str)(x:Str):List Str:=if x∈σ then σ else σ++[x]
def a2n (ss:List Str):List Str:=ss.foldl a0l []
theorem a7A (σ:List Str)(x:Str):(a0l σ x).length≤σ.length+1:=by
 unfold a0l;split
 ·omega
 ·rw[List.length_append];simp
theorem b0d {σ:List Str}{x y:Str}:y∈a0l σ x↔y∈σ∨y=x:=by
 unfold a0l;split
 ·next h=>exact⟨.inl,fun z=>z.elim id fun e=>e▸h⟩
 ·simp
theorem a3B:∀(ss σ:List Str),(ss.foldl a0l σ).length≤σ.length+ss.length
 |[],σ=>Nat.le_refl _
 |x::r,σ=>by
  have z:=a3B r (a0l σ x)
  have z2:=a7A σ x
  rw[List.foldl_cons,List.length_cons];omega
theorem a4s:∀(ss σ:List Str),σ.Nodup→((ss.foldl a0l σ).length=σ.length+ss.length↔(σ++ss).Nodup)
 |[],σ,nd=>by simp [nd]
 |x::r,σ,nd=>by
  rw[List.foldl_cons,List.length_cons]
  by_cases h:x∈σ
  ·have e:a0l σ x=σ:=by unfold a0l;rw[if_pos h]
   rw[e]
   have z:=a3B r σ
   constructor
   ·intro q;omega
   ·intro q
    exact absurd rfl ((List.nodup_append.mp q).2.2 x h x (by simp))
  ·have e:a0l σ x=σ++[x]:=by unfold a0l;rw[if_neg h]
   have nd':(σ++[x]).Nodup:=List.nodup_append.mpr ⟨nd,by simp,fun a ha b hb e=>h (by
    have hbx:b=x:=by simpa using hb
    rw[←hbx,←e];exact ha)⟩
   have z:=a4s r (σ++[x]) nd'
   rw[e]
   rw[List.length_append,List.length_singleton] at z
   rw[List.append_assoc] at z
   show _↔(σ++([x]++r)).Nodup
   rw[←z];omega
theorem a6b (ss:List Str):(a2n ss).length=ss.length↔ss.Nodup:=by
 have z:=a4s ss [] List.nodup_nil
 simpa [a2n] using z
section
variable {prog:Program} {w:World} {A:Around} {E:Value→Shared→Prop}
def StrsAre:List Value→List Str→Prop:=Paired fun u x=>∃t,u= .str x t
theorem a5S {d it l:Addr}{items:List Value}(hh:A.handled=none)(hdi:d≠it)(hli:l≠it)(hld:l≠d):
  ∀(more:List Str) (i:Nat) (s:Shared) (σ:List Str) (R:Result→Shared→Prop),
   s.heap.IsListIter it l i→s.heap.IsList l items.toArray→StrsAre (items.drop i) more→s.heap.SetOf (strKind prog w) d (fun k=>decide (k∈σ)) σ.length→σ.length+more.length<2000→
   (∀h' tk,(∀b o,b≠d→b≠it→s.heap.get? b=some o→h'.get? b=some o)→h'.SetOf (strKind prog w) d (fun k=>decide (k∈more.foldl a0l σ)) (more.foldl a0l σ).length→R (.ok (.ret .none)) {s with heap:=h',toks:=tk})→
   codeAny (model prog w) A (.builtin "set.update.loop" ⟨[.ref d,.ref it],[]⟩) R s
 |[],i,s,σ,R,hit,hl,hp,hd,hz,hR=>by
  have hx:items.toArray[i]?=none:=by
   have hn:items.drop i=[]:=by cases hp':items.drop i with
    |nil=>rfl
    |cons x r=>rw[hp'] at hp;cases hp
   have:=List.drop_eq_nil_iff.mp hn
   simp;omega
  refine codeAny_builtin F.entry_set_update_loop ?_
  rw[Around.under_plainId F.plain_set_update_loop _]
  show wpAny _ A.in1 (pyNext (.ref it)>>=_) _ _ s
  refine wpAny_bind (wpAny_pyNext_list_end (A:=A.in1) hh hit hl hx fun h' eb=>?_)
  show wpAny _ A.in1 (ret Value.none) _ _ _
  refine wpAny_pure (hR h' s.toks (fun b o h1 h2 e=>eb b o h2 e) ?_)
  obtain⟨o,es,ep,t,ho,r⟩:=hd
  exact⟨o,es,ep,t,eb d o hdi ho,r⟩
 |x::more,i,s,σ,R,hit,hl,hp,hd,hz,hR=>by
  obtain⟨u,hx,⟨t,rfl⟩,hp1⟩:∃u,items.toArray[i]?=some u∧(∃t,u=Value.str x t)∧StrsAre (items.drop (i+1)) more:=by
   cases hp':items.drop i with
   |nil=>rw[hp'] at hp;cases hp
   |cons u r=>
    rw[hp'] at hp
    cases hp with
    |cons h1 h2=>
     refine⟨u,?_,h1,?_⟩
     ·have z:=congrArg List.head? hp'
      simpa using z
     ·have z:=congrArg List.tail hp'
      rw[List.tail_drop] at z
      rw[z];exact h2
  simp only[List.length_cons] at hz
  refine codeAny_builtin F.entry_set_update_loop ?_
  rw[Around.under_plainId F.plain_set_update_loop _]
  show wpAny _ A.in1 (pyNext (.ref it)>>=_) _ _ s
  refine wpAny_bind (wpAny_pyNext_list_item hit hl hx fun h' hit' hs'=>?_)
  have hd':h'.SetOf (strKind prog w) d (fun k=>decide (k∈σ)) σ.length:=by
   obtain⟨o,es,ep,tb,ho,r⟩:=hd
   exact⟨o,es,ep,tb,hs'.extBut d o hdi ho,r⟩
  refine wpAny_bind (wpAny_holding ?_)
  unfold setAdd
  refine wpAny_holding (wpAny_bind ((strKind prog w).pyHash (k:=x) (strKind_is _ _ _ _) ?_))
  refine wpAny_setAddHashed_of (knd:=strKind prog w) (s:={s with heap:=h',toks:=s.toks+1}) (strKind_is _ _ _ _) rfl hd' (by unfold scanBound;omega) fun h'' hs'' hS2=>?_
  have hS3:h''.SetOf (strKind prog w) d (fun k=>decide (k∈a0l σ x)) (a0l σ x).length:=by
   refine SetOf_congr hS2 (fun k=>?_) ?_
   ·rw[Bool.eq_iff_iff]
    simp [b0d]
   ·unfold a0l
    by_cases h:x∈σ
    ·rw[if_pos (by simpa using h),if_pos h]
    ·rw[if_neg (by simpa using h),if_neg h,List.length_append];rfl
  have kp:∀b o,b≠d→b≠it→s.heap.get? b=some o→h''.get? b=some o:=fun b o hb1 hb2 e=>(hs''.2 b hb1).trans (hs'.extBut b o hb2 e)
  have hle:=a7A σ x
  refine wpAny_pure ⟨plainId_quiet F.plain_set_update_loop _,?_⟩
  refine a5S hh hdi hli hld more (i+1) _ (a0l σ x) R ?_ ?_ hp1 hS3 (by omega) (fun h3 tk k3 d3=>hR h3 tk (fun b o e1 e2 e=>k3 b o e1 e2 (kp b o e1 e2 e)) d3)
  ·exact hit'.at fun o e=>(hs''.2 it (Ne.symm hdi)).trans e
  ·obtain⟨ol,hol,r⟩:=hl
   exact⟨ol,kp l ol hld hli hol,r⟩
end
section
variable {prog:Program} {w:World} {A:Around} {E:Value→Shared→Prop}
set_option maxHeartbeats 3200000 in
theorem a3K {l:Addr}{items:List Value}{o:Obj}{n:Nat}{ss:List Str}{s:Shared}{Q:Value→Shared→Prop}(hh:A.handled=none)(ho:s.heap.get? l=some o)(hc:o.cls= .type "list")(hdat:o.data= .seq items.toArray n)(hz:ss.length<1000)(hp:StrsAre items ss)
  (h:∀h' tk,h'.SetOf (strKind prog w) s.heap.objs.size (fun k=>decide (k∈a2n ss)) (a2n ss).length→(∀b o,s.heap.get? b=some o→h'.get? b=some o)→Q (.ref s.heap.objs.size) {s with heap:=h',toks:=tk}):
  wpAny (model prog w) A (call (.type "set") [.ref l]) Q E s:=by
 obtain⟨c1,c2,c3⟩:=F.called_set.mro
 have c4:=F.called_set.made;have c5:=F.called_set.sub;have c6:=F.called_set.notType;have c7:=F.called_set.canCreate;have c8:=F.typeCall_set_1 (.ref l)
 refine wpAny_call (codeAny_of_tree (show wpAny _ _ (callAny (.type "set") _) _ _ _ from wpAny_pure ⟨Code.quiet_builtin _ (by decide+kernel),codeAny_builtin F.entry_type_call ?_⟩))
 rw[Around.under_plain (weight_type_call_type "set" [Value.ref l] []) rfl]
 repeat(any_goals first|assumption|wp_step)
 refine codeAny_mono (code_set_new_1 (E:=E) (.ref l) (Q₁:=fun ob st=>∃led:Bool,ob= .ref s.heap.objs.size∧st={s with heap:=s.heap.push {cls:= .type "set",dict:=none,data:= .set #[] 0 (.fresh 0 0 led)}}) fun led=>⟨led,rfl,rfl⟩) fun r1 st1 hr1=>?_
 match r1,hr1 with
 | .error _,hr1=>exact hr1
 | .ok .next,hr1=>exact hr1.elim
 | .ok .brk,hr1=>exact hr1.elim
 | .ok .cont,hr1=>exact hr1.elim
 | .ok (.ret ob),hr1=>
  obtain⟨led,rfl,rfl⟩:=hr1
  have hS0:(s.heap.push {cls:= .type "set",dict:=none,data:= .set #[] 0 (.fresh 0 0 led)}).get? s.heap.objs.size=some {cls:= .type "set",dict:=none,data:= .set #[] 0 (.fresh 0 0 led)}:=Heap.get?_push_size _ rfl
  have ho1:(s.heap.push {cls:= .type "set",dict:=none,data:= .set #[] 0 (.fresh 0 0 led)}).get? l=some o:=Heap.get?_push_of_some _ ho
  have hl0:l≠s.heap.objs.size:=Nat.ne_of_lt (Heap.lt_size ho)
  generalize hP:s.heap.push {cls:= .type "set",dict:=none,data:= .set #[] 0 (.fresh 0 0 led)}=hp1 at hS0 ho1
  have c9:Shared.TypeIs {s with heap:=hp1} (.ref s.heap.objs.size) "set":=⟨_,hS0,rfl⟩
  have c10:=F.called_set.init.lookup;have c11:=F.called_set.init.bind (.ref s.heap.objs.size)
  repeat(any_goals first|assumption|wp_step)
  refine codeAny_mono (codeAny_call_builtin (R:=wants (fun r st=>r= .none∧∃h2 tk2,st={s with heap:=h2,toks:=tk2}∧h2.SetOf (strKind prog w) s.heap.objs.size (fun k=>decide (k∈a2n ss)) (a2n ss).length∧(∀b o,s.heap.get? b=some o→h2.get? b=some o)) E) F.called_set.init.plain F.entry_set_init (check_set_init_1 c9 ?_)) fun r2 st2 hr2=>?_
  ·obtain⟨k1,k2,k3,k4⟩:=o
   dsimp only at hc hdat
   subst hc hdat
   have d1:=F.sub_list_set;have d2:=F.sub_list_frozenset;have d3:(Value.type "list"==Value.type "dict")=false:=by decide
   have hl1:hp1.IsList l items.toArray:=⟨_,ho1,rfl,n,rfl⟩
   unfold Builtin.«set.__init__» noKeywords Builtin.Frozenset.updateFrom
   generalize hPI:pyIter=PI
   wp_walk
   subst hPI
   refine wpAny_pyIter_list hl1 (wpAny_bind (wpAny_runValue ?_))
   have hsz:s.heap.objs.size<hp1.objs.size:=Heap.lt_size hS0
   refine a5S (l:=l) (items:=items) (A:=A.in1.in1) (by simpa using hh) (Nat.ne_of_lt hsz) (Nat.ne_of_lt (Heap.lt_size ho1)) hl0 ss 0 _ [] _ ⟨_,Heap.get?_push_size _ rfl,rfl,rfl⟩ (hl1.push _) (by rw[List.drop_zero];exact hp) ?_ (by simpa using(show ss.length<2000 by omega)) fun h3 tk3 k3' d3'=>?_
   ·have hg:(hp1.push {cls:= .type "list_iterator",data:= .fields #[.ref l,.int 0 0]}).get? s.heap.objs.size=some {cls:= .type "set",dict:=none,data:= .set #[] 0 (.fresh 0 0 led)}:=Heap.get?_push_of_some _ hS0
    exact SetOf_congr ((setObjOf_fresh (knd:=strKind prog w) led).setOf hg (by unfold scanBound;omega)) (fun _=>by simp) rfl
   ·show wpAny _ _ _ _ _ _
    refine wpAny_pure (show wpAny _ _ (ret Value.none) _ _ _ from wpAny_pure ⟨rfl,h3,tk3,rfl,d3',fun b ob e=>?_⟩)
    have e1:hp1.get? b=some ob:=by rw[←hP];exact Heap.get?_push_of_some _ e
    exact k3' b ob (Nat.ne_of_lt (Heap.lt_size e)) (Nat.ne_of_lt (Heap.lt_size e1)) (Heap.get?_push_of_some _ e1)
  ·match r2,hr2 with
   | .error _,hr2=>exact hr2
   | .ok .next,hr2=>exact hr2.elim
   | .ok .brk,hr2=>exact hr2.elim
   | .ok .cont,hr2=>exact hr2.elim
   | .ok (.ret r),hr2=>
    obtain⟨rfl,h2,tk2,rfl,hS2,hk2⟩:=hr2
    repeat(any_goals first|assumption|wp_step)
    exact h _ _ hS2 hk2
end
def a1o (a:Addr)(n:Nat)(h:Heap):Prop:=∃o es ep t,h.get? a=some o∧o.ExactSet∧o.data= .set es ep t∧t.fits es.size=true∧es.size=n
theorem a8t {P:Program}{w:World}{H:Hp}{h:Heap}{a:Addr}{n:Nat}(x:a1o a n h):ObjOk P w H h a (.ext (a1o a n)):=by
 obtain⟨o,es,ep,t,e,r⟩:=x
 exact⟨⟨o,es,ep,t,e,r⟩,⟨o,e⟩,fun h1 h2 ⟨o',es',ep',t',e',r'⟩ k=>⟨o',es',ep',t',k _ e',r'⟩⟩
theorem a4k:∀{ss:List Str} {us:List Value},Vals (ss.map V.str) us→StrsAre us ss
 |[],_,.nil=> .nil
 |x::r,_,.cons h t=> .cons h (a4k t)
section
variable {X:Cx}
def b2I (K:PySem.W.Frag):List V→Hp→VK→Prop:=fun xs H Q=>∃(p:Addr) (ss:List Str),xs=[.ref p]∧SqL K H p (ss.map V.str)∧ss.length<1000∧∀l,H l=none→Q (.ref l) (upd H l (.ext (a1o l (a2n ss).length)))
theorem a8B (hc:X.calm=true):CallR X (.type "set") (b2I X.K):=by
 intro pins s σ H xs us Q I r h
 obtain⟨p,ss,rfl,hq,hz,q⟩:=h
 obtain⟨u,rfl,ru⟩:=O8 r
 cases ru
 obtain⟨its,rv,⟨o,n,e,c,hd,dt⟩,_⟩:=I.list hq
 refine a3K (I.ok.hd hc) e c dt hz (a4k rv) fun h' tk hS k=>?_
 refine⟨.ref s.heap.objs.size,_,?_,rfl,q _ (I.hok.fresh (Nat.le_refl _))⟩
 obtain⟨o',es,ep,t,h1,h2,h3,_,_,_,h7,h8⟩:=hS
 exact I.laid (a:=s.heap.objs.size) (t':=tk) k (Nat.le_refl _) (a8t ⟨o',es,ep,t,h1,h2,h3,h7,h8⟩)
def b2F (K:PySem.W.Frag):List V→Hp→VK→Prop:=fun xs H Q=>a8O K xs H Q∨∃p n,xs=[V.ref p]∧H p=some (.ext (a1o p n))∧n≤1000∧Q (.int n) H
theorem call_lenS:CallR X (.builtin "len") (b2F X.K):=by
 refine call_lenX.or ?_
 intro pins s σ H xs us Q I r h
 obtain⟨p,n,rfl,hp,hn,q⟩:=h
 obtain⟨u,rfl,ru⟩:=O8 r
 cases ru
 obtain⟨o,es,ep,t,h1,h2,h3,h4,h5⟩:=(I.hok p _ hp).1
 exact call_len_set h1 h2 h3 h4 (by omega) ⟨.int n,H,I.tok _,⟨_,by rw[h5]⟩,q⟩
theorem b5g (K:PySem.W.Frag)(hc:X.calm=true)(h:X.K=K:=by rfl):CallR X (.type "set") (b2I K):=h▸a8B hc
end
end L2
set_option Elab.async false
set_option linter.all false
set_option maxRecDepth 100000
set_option maxHeartbeats 4000000
namespace L2
open PySem PySem.Spec PyProof.Rows
open PySem.AutoSeq1 (wpAny_loadPart')
open PySem.MeetsSeq PySem.MeetsSeq2 PySem.MeetsSeq3
theorem a5P:plainId "list.__eq__.loop"=true:=plain_eq_loop
section
variable {P:Program} {w:World}
theorem a2P (l m:Addr)(xs ys:Array Value)(n1 n2:Nat)(d1 d2:Option Addr)(s1 s2:Array (Option Value))(hz:xs.size=ys.size)(f:Nat→Bool)(md:Int)(hmd:md=2∨md=3):∀(k i:Nat),xs.size -i=k→
  MeetsIn P w (Builtin.«list.__eq__.loop» ⟨[.ref l,.ref m,rawInt i,rawInt md],[]⟩) (fun A R s=>
   s.heap.get? l=some {cls:= .type "list",dict:=d1,data:= .seq xs n1,slots:=s1}∧s.heap.get? m=some {cls:= .type "list",dict:=d2,data:= .seq ys n2,slots:=s2}∧
   (∀j (g1:j<xs.size) (g2:j<ys.size),EqP P w A.in1 s xs[j] ys[j] (f j))∧
   R (.ok (.ret (.bool (if md=2 then((List.range xs.size).drop i).all f else !((List.range xs.size).drop i).all f)))) s)
 |0,i,hk=>by
  intro A R s hyp
  obtain⟨hp,gg,dr,tk,os⟩:=s
  obtain⟨e1,e2,he,fin⟩:=hyp
  have x1:xs[((i:Nat):Int).toNat]?=none:=by simp;omega
  have x2:ys[((i:Nat):Int).toNat]?=none:=by simp;omega
  have x3:(List.range xs.size).drop i=[]:=by simp;omega
  rw[x3] at fin
  rcases hmd with rfl|rfl
  ·wp_walk using wpAny_loadPart' e1,wpAny_loadPart' e2
   rw[x1,x2]
   wp_walk using wpAny_loadPart' e1,wpAny_loadPart' e2
   show R (.ok (.ret (.bool (xs.size==ys.size)))) _
   rw[hz];simpa using fin
  ·wp_walk using wpAny_loadPart' e1,wpAny_loadPart' e2
   rw[x1,x2]
   wp_walk using wpAny_loadPart' e1,wpAny_loadPart' e2
   show R (.ok (.ret (.bool (xs.size !=ys.size)))) _
   rw[hz];simpa using fin
 |k+1,i,hk=>by
  intro A R s hyp
  have ih:=a2P l m xs ys n1 n2 d1 d2 s1 s2 hz f md hmd k (i+1) (by omega)
  obtain⟨hp,gg,dr,tk,os⟩:=s
  obtain⟨e1,e2,he,fin⟩:=hyp
  have l1:i<xs.size:=by omega
  have l2:i<ys.size:=by omega
  have x1:xs[((i:Nat):Int).toNat]?=some xs[i]:=by simp [l1]
  have x2:ys[((i:Nat):Int).toNat]?=some ys[i]:=by simp [l2]
  have x3:(List.range xs.size).drop i=i::(List.range xs.size).drop (i+1):=by simp [List.drop_eq_getElem_cons,l1]
  have x4:((i:Int)+1)=((i+1:Nat):Int):=by push_cast;rfl
  rw[x3,List.all_cons] at fin
  rcases hmd with rfl|rfl
  ·wp_walk using wpAny_loadPart' e1,wpAny_loadPart' e2
   rw[x1,x2]
   refine wpAny_bind (he i l1 l2 _ _ ?_)
   cases hf:f i with
   |true=>
    rw[hf] at fin
    wp_walk
    rw[x4]
    refine⟨plainId_quiet a5P _,codeAny_builtin entry_eq_loop ?_⟩
    rw[Around.under_plainId a5P _]
    exact ih A R _ ⟨e1,e2,he,by simpa using fin⟩
   |false=>
    rw[hf] at fin
    wp_walk using wpAny_loadPart' e1,wpAny_loadPart' e2
    rw[x1,x2]
    wp_walk
    simpa using fin
  ·wp_walk using wpAny_loadPart' e1,wpAny_loadPart' e2
   rw[x1,x2]
   refine wpAny_bind (he i l1 l2 _ _ ?_)
   cases hf:f i with
   |true=>
    rw[hf] at fin
    wp_walk
    rw[x4]
    refine⟨plainId_quiet a5P _,codeAny_builtin entry_eq_loop ?_⟩
    rw[Around.under_plainId a5P _]
    exact ih A R _ ⟨e1,e2,he,by simpa using fin⟩
   |false=>
    rw[hf] at fin
    wp_walk using wpAny_loadPart' e1,wpAny_loadPart' e2
    rw[x1,x2]
    wp_walk
    simpa using fin
theorem b3A (l m:Addr)(xs ys:Array Value)(n1 n2:Nat)(d1 d2:Option Addr)(s1 s2:Array (Option Value))(hz:xs.size=ys.size)(f:Nat→Bool):
  MeetsIn P w (Builtin.«list.__eq__» ⟨[.ref l,.ref m],[]⟩) (fun A R s=>
   s.heap.get? l=some {cls:= .type "list",dict:=d1,data:= .seq xs n1,slots:=s1}∧s.heap.get? m=some {cls:= .type "list",dict:=d2,data:= .seq ys n2,slots:=s2}∧
   (∀j (g1:j<xs.size) (g2:j<ys.size),EqP P w A.in1 s xs[j] ys[j] (f j))∧R (.ok (.ret (.bool ((List.range xs.size).all f)))) s):=by
 intro A R s hyp
 obtain⟨hp,gg,dr,tk,os⟩:=s
 obtain⟨e1,e2,he,fin⟩:=hyp
 have q1:=AutoSeq1.sub_list_list;have q2:¬(xs.size !=ys.size)=true:=by simp [hz]
 wp_walk using wpAny_loadPart' e1,wpAny_loadPart' e2
 refine⟨plainId_quiet a5P _,codeAny_builtin entry_eq_loop ?_⟩
 rw[Around.under_plainId a5P _]
 exact a2P l m xs ys n1 n2 d1 d2 s1 s2 hz f 2 (.inl rfl) _ 0 rfl A R _ ⟨e1,e2,he,by simpa using fin⟩
theorem b4o (l m:Addr)(xs ys:Array Value)(n1 n2:Nat)(d1 d2:Option Addr)(s1 s2:Array (Option Value))(hz:xs.size=ys.size)(f:Nat→Bool):
  MeetsIn P w (Builtin.«list.__ne__» ⟨[.ref l,.ref m],[]⟩) (fun A R s=>
   s.heap.get? l=some {cls:= .type "list",dict:=d1,data:= .seq xs n1,slots:=s1}∧s.heap.get? m=some {cls:= .type "list",dict:=d2,data:= .seq ys n2,slots:=s2}∧
   (∀j (g1:j<xs.size) (g2:j<ys.size),EqP P w A.in1 s xs[j] ys[j] (f j))∧R (.ok (.ret (.bool (!(List.range xs.size).all f)))) s):=by
 intro A R s hyp
 obtain⟨hp,gg,dr,tk,os⟩:=s
 obtain⟨e1,e2,he,fin⟩:=hyp
 have q1:=AutoSeq1.sub_list_list;have q2:¬(xs.size !=ys.size)=true:=by simp [hz]
 wp_walk using wpAny_loadPart' e1,wpAny_loadPart' e2
 refine⟨plainId_quiet a5P _,codeAny_builtin entry_eq_loop ?_⟩
 rw[Around.under_plainId a5P _]
 exact a2P l m xs ys n1 n2 d1 d2 s1 s2 hz f 3 (.inr rfl) _ 0 rfl A R _ ⟨e1,e2,he,by simpa using fin⟩
theorem RcP.lst {A:Around}{s:Shared}{l m:Addr}{xs ys:Array Value}{f:Nat→Bool}(hl:s.heap.IsList l xs)(hm:s.heap.IsList m ys)(hz:xs.size=ys.size)(hu:A.units<cLine)
  (he:∀j (g1:j<xs.size) (g2:j<ys.size),EqP P w A.in1 s xs[j] ys[j] (f j)):RcP P w A s (.ref l) (.ref m) ((List.range xs.size).all f):=fun E Q q=>by
 obtain⟨⟨c1,d1,a1,s1⟩,o1,k1,n1,t1⟩:=id hl
 obtain⟨⟨c2,d2,a2,s2⟩,o2,k2,n2,t2⟩:=id hm
 simp only at k1 t1 k2 t2
 subst k1 t1 k2 t2
 refine wpAny_richCompare_same_room (op:= .Eq) ⟨_,o1,rfl⟩ ⟨_,o2,rfl⟩ PySem.F.slot_list_eq (call_meetsIn PySem.F.slot_list_eq ⟨_,o1,rfl⟩ PySem.F.entry_list_eq (PySem.F.args_list_eq_2 _ _) (b3A l m xs ys n1 n2 d1 d2 s1 s2 hz f) ⟨o1,o2,he,?_⟩) hu
 exact⟨(fun z=>nomatch z),q⟩
theorem NcP.lst {A:Around}{s:Shared}{l m:Addr}{xs ys:Array Value}{f:Nat→Bool}(hl:s.heap.IsList l xs)(hm:s.heap.IsList m ys)(hz:xs.size=ys.size)(hu:A.units<cLine)
  (he:∀j (g1:j<xs.size) (g2:j<ys.size),EqP P w A.in1 s xs[j] ys[j] (f j)):NcP P w A s (.ref l) (.ref m) (!(List.range xs.size).all f):=fun E Q q=>by
 obtain⟨⟨c1,d1,a1,s1⟩,o1,k1,n1,t1⟩:=id hl
 obtain⟨⟨c2,d2,a2,s2⟩,o2,k2,n2,t2⟩:=id hm
 simp only at k1 t1 k2 t2
 subst k1 t1 k2 t2
 refine wpAny_richCompare_same_room (op:= .NotEq) ⟨_,o1,rfl⟩ ⟨_,o2,rfl⟩ PySem.F.slot_list_ne (call_meetsIn PySem.F.slot_list_ne ⟨_,o1,rfl⟩ PySem.F.entry_list_ne (PySem.F.args_list_ne_2 _ _) (b4o l m xs ys n1 n2 d1 d2 s1 s2 hz f) ⟨o1,o2,he,?_⟩) hu
 exact⟨(fun z=>nomatch z),q⟩
end
def EqN (K:PySem.W.Frag)(H:Hp):Nat→V→V→Bool→Prop
 |0,x,y,b=>Eq1 K H x y b∨∃a c,x= .ref a∧y= .ref c∧EqD K H a c b
 |n+1,x,y,b=>EqN K H n x y b∨∃(a c:Addr) (xs ys:List V) (bs:List Bool),x= .ref a∧y= .ref c∧a≠c∧((SqT K H a xs∧SqT K H c ys)∨(SqL K H a xs∧SqL K H c ys))∧xs.length=ys.length∧bs.length=xs.length∧
   (∀(j:Nat) (x' y':V) (b':Bool),xs[j]?=some x'→ys[j]?=some y'→bs[j]?=some b'→EqN K H n x' y' b')∧b=bs.all id
theorem B7:∀(bs:List Bool),(List.range bs.length).all (fun j=>bs.getD j true)=bs.all id
 |[]=>rfl
 |b::r=>by
  rw[List.length_cons,List.range_succ_eq_map,List.all_cons,List.all_map]
  show(b&&(List.range r.length).all fun j=>r.getD j true)=(b&&r.all id)
  rw[B7 r]
section
variable {X:Cx} {pins:List (Addr×Obj)} {σ:St} {H:Hp} {s:Shared}
theorem a2a {n:Nat}{xs ys:List V}{bs:List Bool}{us vs:List Value}{A:Around}(r1:Vals xs us)(r2:Vals ys vs)(hl:xs.length=ys.length)(hb:bs.length=xs.length)
  (he:∀(j:Nat) (x' y':V) (b':Bool),xs[j]?=some x'→ys[j]?=some y'→bs[j]?=some b'→EqN X.K H n x' y' b')
  (at_:∀{x y:V} {u v:Value} {b:Bool},EqN X.K H n x y b→RelV x u→RelV y v→EqP X.prog X.w A.in1 s u v b):
  ∀j (g1:j<us.toArray.size) (g2:j<vs.toArray.size),EqP X.prog X.w A.in1 s us.toArray[j] vs.toArray[j] (bs.getD j true):=fun j g1 g2=>by
 have l1:=r1.length
 have l2:=r2.length
 have g1':j<us.length:=by simpa using g1
 have g2':j<vs.length:=by simpa using g2
 have x1:xs[j]?=some (xs[j]'(by omega)):=List.getElem?_eq_getElem _
 have y1:ys[j]?=some (ys[j]'(by omega)):=List.getElem?_eq_getElem _
 have b1:bs[j]?=some (bs[j]'(by omega)):=List.getElem?_eq_getElem _
 obtain⟨u1,hu1,ru1⟩:=r1.get x1
 obtain⟨u2,hu2,ru2⟩:=r2.get y1
 have e1:us.toArray[j]=u1:=by
  have:=List.getElem?_eq_getElem g1'
  rw[hu1] at this
  simpa using(Option.some.inj this).symm
 have e2:vs.toArray[j]=u2:=by
  have:=List.getElem?_eq_getElem g2'
  rw[hu2] at this
  simpa using(Option.some.inj this).symm
 rw[e1,e2,List.getD_eq_getElem?_getD,b1]
 exact at_ (he j _ _ _ x1 y1 b1) ru1 ru2
theorem EqN.at_ (I:Inv X pins σ H s):∀{n:Nat} {A:Around} {x y:V} {u v:Value} {b:Bool},EqN X.K H n x y b→RelV x u→RelV y v→A.units+32+n<cLine→EqP X.prog X.w A s u v b
 |0,A,x,y,u,v,b,h,rx,ry,hu=>by
  rcases h with h|⟨a,c,rfl,rfl,h⟩
  ·exact .of (h.at_ I rx ry (by omega))
  ·cases rx
   cases ry
   exact h.at_ I (by omega)
 |n+1,A,x,y,u,v,b,h,rx,ry,hu=>by
  rcases h with h|⟨a,c,xs,ys,bs,rfl,rfl,hne,hh,hl,hb,he,rfl⟩
  ·exact EqN.at_ I h rx ry (by omega)
  ·cases rx
   cases ry
   have hin:A.in1.units=A.units+1:=rfl
   rcases hh with⟨h1,h2⟩|⟨h1,h2⟩
   ·obtain⟨us,r1,p1,z1⟩:=I.tuple h1
    obtain⟨vs,r2,p2,z2⟩:=I.tuple h2
    have l1:=r1.length
    have l2:=r2.length
    have q:=RcP.tup (P:=X.prog) (w:=X.w) (A:=A) (f:=fun j=>bs.getD j true) (show s.heap.IsTuple a us.toArray from p1) (show s.heap.IsTuple c vs.toArray from p2) (by omega) (a2a r1 r2 hl hb he fun z q1 q2=>EqN.at_ I z q1 q2 (by omega))
    have e3:min us.toArray.size vs.toArray.size=bs.length:=by simp;omega
    have e4:(us.toArray.size==vs.toArray.size)=true:=by simp;omega
    rw[e3,e4,B7,Bool.and_true] at q
    exact .refs hne q
   ·obtain⟨us,r1,p1,z1⟩:=I.list h1
    obtain⟨vs,r2,p2,z2⟩:=I.list h2
    have l1:=r1.length
    have l2:=r2.length
    have q:=RcP.lst (P:=X.prog) (w:=X.w) (A:=A) (f:=fun j=>bs.getD j true) p1.isList p2.isList (by simp;omega) (by omega) (a2a r1 r2 hl hb he fun z q1 q2=>EqN.at_ I z q1 q2 (by omega))
    have e3:us.toArray.size=bs.length:=by simp;omega
    rw[e3,B7] at q
    exact .refs hne q
end
def SqN (K:PySem.W.Frag)(H:Hp)(x y:V)(bs:List Bool):Prop:=∃(a c:Addr) (xs ys:List V),x= .ref a∧y= .ref c∧((SqT K H a xs∧SqT K H c ys)∨(SqL K H a xs∧SqL K H c ys))∧xs.length=ys.length∧bs.length=xs.length∧
 ∀(j:Nat) (x' y':V) (b':Bool),xs[j]?=some x'→ys[j]?=some y'→bs[j]?=some b'→EqN K H 8 x' y' b'
section
variable {X:Cx}
def b4Y (K:PySem.W.Frag):R2:=fun x y H Q=>∃bs,SqN K H x y bs∧Q (.bl (bs.all id)) H
def b5P (K:PySem.W.Frag):R2:=fun x y H Q=>∃bs,SqN K H x y bs∧Q (.bl (!bs.all id)) H
theorem b3q (hu:X.A.units+64<cLine):OpR X (compareOp .Eq) (b4Y X.K):=by
 intro pins s σ H x y v u Q I rx ry h
 obtain⟨bs,⟨a,c,xs,ys,rfl,rfl,hh,hl,hb,he⟩,k⟩:=h
 cases rx
 cases ry
 have hin:X.A.in1.units=X.A.units+1:=rfl
 rcases hh with⟨h1,h2⟩|⟨h1,h2⟩
 ·obtain⟨us,r1,p1,z1⟩:=I.tuple h1
  obtain⟨vs,r2,p2,z2⟩:=I.tuple h2
  have l1:=r1.length
  have l2:=r2.length
  have q:=RcP.tup (P:=X.prog) (w:=X.w) (A:=X.A) (f:=fun j=>bs.getD j true) (show s.heap.IsTuple a us.toArray from p1) (show s.heap.IsTuple c vs.toArray from p2) (by omega) (a2a r1 r2 hl hb he fun z q1 q2=>EqN.at_ I z q1 q2 (by omega))
  have e3:min us.toArray.size vs.toArray.size=bs.length:=by simp;omega
  have e4:(us.toArray.size==vs.toArray.size)=true:=by simp;omega
  rw[e3,e4,B7,Bool.and_true] at q
  exact q _ _ ⟨.bl _,H,I,rfl,k⟩
 ·obtain⟨us,r1,p1,z1⟩:=I.list h1
  obtain⟨vs,r2,p2,z2⟩:=I.list h2
  have l1:=r1.length
  have l2:=r2.length
  have q:=RcP.lst (P:=X.prog) (w:=X.w) (A:=X.A) (f:=fun j=>bs.getD j true) p1.isList p2.isList (by simp;omega) (by omega) (a2a r1 r2 hl hb he fun z q1 q2=>EqN.at_ I z q1 q2 (by omega))
  have e3:us.toArray.size=bs.length:=by simp;omega
  rw[e3,B7] at q
  exact q _ _ ⟨.bl _,H,I,rfl,k⟩
theorem b3b (hu:X.A.units+64<cLine):OpR X (compareOp .NotEq) (b5P X.K):=by
 intro pins s σ H x y v u Q I rx ry h
 obtain⟨bs,⟨a,c,xs,ys,rfl,rfl,hh,hl,hb,he⟩,k⟩:=h
 cases rx
 cases ry
 have hin:X.A.in1.units=X.A.units+1:=rfl
 rcases hh with⟨h1,h2⟩|⟨h1,h2⟩
 ·obtain⟨us,r1,p1,z1⟩:=I.tuple h1
  obtain⟨vs,r2,p2,z2⟩:=I.tuple h2
  have l1:=r1.length
  have l2:=r2.length
  have q:=NcP.tup (P:=X.prog) (w:=X.w) (A:=X.A) (f:=fun j=>bs.getD j true) (show s.heap.IsTuple a us.toArray from p1) (show s.heap.IsTuple c vs.toArray from p2) (by omega) (a2a r1 r2 hl hb he fun z q1 q2=>EqN.at_ I z q1 q2 (by omega))
  have e3:min us.toArray.size vs.toArray.size=bs.length:=by simp;omega
  have e4:(us.toArray.size==vs.toArray.size)=true:=by simp;omega
  rw[e3,e4,B7,Bool.and_true] at q
  exact q _ _ ⟨.bl _,H,I,rfl,k⟩
 ·obtain⟨us,r1,p1,z1⟩:=I.list h1
  obtain⟨vs,r2,p2,z2⟩:=I.list h2
  have l1:=r1.length
  have l2:=r2.length
  have q:=NcP.lst (P:=X.prog) (w:=X.w) (A:=X.A) (f:=fun j=>bs.getD j true) p1.isList p2.isList (by simp;omega) (by omega) (a2a r1 r2 hl hb he fun z q1 q2=>EqN.at_ I z q1 q2 (by omega))
  have e3:us.toArray.size=bs.length:=by simp;omega
  rw[e3,B7] at q
  exact q _ _ ⟨.bl _,H,I,rfl,k⟩
def a3m (K:PySem.W.Frag):R2:=fun x y H Q=>a8S K x y H Q∨b5P K x y H Q
theorem X0 (K:PySem.W.Frag){k:Nat}(hr:Room k X.A)(h:X.K=K:=by rfl):OpR X (compareOp .NotEq) (a3m K):=(b6P K hr h).or (h▸b3b hr.units)
def a2N (K:PySem.W.Frag):R2:=fun x y H Q=>b4g K x y H Q∨b4Y K x y H Q
theorem a3z (K:PySem.W.Frag){k:Nat}(hr:Room k X.A)(h:X.K=K:=by rfl):OpR X (compareOp .Eq) (a2N K):=(b6U K hr h).or (h▸b3q hr.units)
end
end L2
set_option Elab.async false
set_option linter.all false
set_option maxRecDepth 100000
set_option maxHeartbeats 4000000
namespace L2
open PySem PySem.Spec PyProof.Rows
def a6C (v d:Addr)(h:Heap):Prop:=h.IsValuesView v d
theorem b2i {P:Program}{w:World}{H:Hp}{h:Heap}{v d:Addr}(x:a6C v d h):ObjOk P w H h v (.ext (a6C v d)):=by
 obtain⟨o,e,r⟩:=x
 exact⟨⟨o,e,r⟩,⟨o,e⟩,fun h1 h2 ⟨o',e',r'⟩ k=>⟨o',k _ e',r'⟩⟩
section
variable {X:Cx}
def b1J:V→List V→Hp→VK→Prop:=fun x vs H Q=>∃d kvs,x= .ref d∧vs=[]∧Rd H d (.dK kvs)∧∀v,H v=none→Q (.ref v) (upd H v (.ext (a6C v d)))
theorem a2A:MtR X "dict.values" b1J:=by
 intro pins s σ H x vs v us Q I rx rv h
 obtain⟨d,kvs,rfl,rfl,hd,q⟩:=h
 cases rx
 have hus:=rv.zero
 subst hus
 obtain⟨z,hs,ws,rel,dd⟩:=J0 I.hok hd
 refine call_meetsIn PySem.F.slot_dict_values dd.typeIs PySem.F.entry_dict_values (PySem.F.args_dict_values_1 _) (meets_dict_values (j8 X.prog X.w) d hs) ⟨⟨ws,dd⟩,?_⟩
 refine⟨.ref s.heap.objs.size,_,?_,rfl,q _ (I.hok.fresh (Nat.le_refl _))⟩
 exact I.laid (a:=s.heap.objs.size) (t':=s.toks) (fun b u e=>Heap.get?_push_of_some _ e) (Nat.le_refl _) (b2i ⟨_,Heap.get?_push_size _ rfl,rfl,rfl⟩)
def a5j (K:PySem.W.Frag):List V→Hp→VK→Prop:=fun xs H Q=>a7s K xs H Q∨∃(v d:Addr) (kvs:List (Key×V)),xs=[.ref v]∧H v=some (.ext (a6C v d))∧Rd H d (.dK kvs)∧∀l,H l=none→Q (.ref l) (upd H l (.lst (kvs.map (·.2))))
theorem a6H (hc:X.calm=true):CallR X (.type "list") (a5j X.K):=by
 refine(a6t hc).or ?_
 intro pins s σ H xs us Q I r h
 obtain⟨v,d,kvs,rfl,hv,hx,q⟩:=h
 obtain⟨u,rfl,ru⟩:=O8 r
 cases ru
 have hvv:a6C v d s.heap:=(I.hok v _ hv).1
 obtain⟨hd,o,vs,ep,ho,D⟩:=a1P I.hok hx
 have hlv:=KV.length D.kv
 have hz:kvs.length≤sizeLine:=(J0 I.hok hx).1
 refine PySem.W.kdl_call (PySem.W.kdl_values (knd:=j8 X.prog X.w) (kvs:=vs) (ep:=ep)) (I.ok.hd hc) ⟨hvv,D.at_ _ ho⟩ (by omega) fun h' tk acc c hkp hS hacc=>?_
 refine⟨.ref s.heap.objs.size,_,I.newL (tk:=tk) hkp (Nat.le_refl _) hS (U7 (by have:=hacc.1;simp;omega) fun i x u e1 e2=>?_) (by rw[List.length_map];exact hz),rfl,q _ (I.hok.fresh (Nat.le_refl _))⟩
 obtain⟨k,hy⟩:=hacc.2 i u (by rw[←Array.getElem?_toList];exact e2)
 rw[List.getElem?_map] at e1
 obtain⟨kv,e4,rfl⟩:=Option.map_eq_some_iff.mp e1
 obtain⟨q1,hq1,q2,q3⟩:=N8 (show Paired _ kvs vs from D.kv) e4
 rw[hy] at hq1
 cases hq1
 exact q3
theorem a6E (K:PySem.W.Frag)(hc:X.calm=true)(h:X.K=K:=by rfl):CallR X (.type "list") (a5j K):=h▸a6H hc
end
section
variable {K:PySem.W.Frag} {H:Hp} {Q:VK}
theorem b1d {xs:List V}(h:a7s K xs H Q):a5j K xs H Q:= .inl h
theorem a5I {v d:Addr}{kvs:List (Key×V)}(hv:H v=some (.ext (a6C v d)))(hd:Rd H d (.dK kvs))(q:∀l,H l=none→Q (.ref l) (upd H l (.lst (kvs.map (·.2))))):a5j K [.ref v] H Q:= .inr ⟨v,d,kvs,rfl,hv,hd,q⟩
end
section
variable {prog:Program} {w:World} {A:Around} {E:Value→Shared→Prop}
end
section
variable {X:Cx}
end
end L2
set_option Elab.async false
set_option linter.all false
set_option maxRecDepth 100000
set_option maxHeartbeats 4000000
namespace L2
open PySem PySem.Spec PyProof.Rows
section
variable {prog:Program} {w:World} {A:Around} {E:Value→Shared→Prop} {s:Shared}
theorem a7T {Q:Int→Shared→Prop}(h:Q 0xFCA86420 {s with toks:=s.toks+1}):wpAny (model prog w) A (pyHash .none) Q E s:=by
 have hT:s.TypeIs Value.none "NoneType":=rfl
 unfold pyHash pyHashByItsType
 refine wpAny_bind ?_
 rw[cRoomFor,if_neg (show ¬([Value.none].any Value.onHeap)=true by decide)]
 refine wpAny_pure (wpAny_bind (wpAny_specialOf hT PySem.F.slot_NoneType_hash.lookup ?_))
 refine(show wpAny _ _ (if(some (Value.builtin "NoneType.__hash__")==some Value.none)=true then _ else _) Q E s from ?_)
 rw[if_neg (by decide)]
 refine wpAny_bind (wpAny_specialOf hT PySem.F.slot_NoneType_hash.lookup ?_)
 refine(show wpAny _ _ (callSpecialIfBoundUnlessNone? Value.none "__hash__" _>>=_) Q E s from ?_)
 refine wpAny_bind (wpAny_callSpecialIfBoundUnlessNone?_slot hT PySem.F.slot_NoneType_hash (wpAny_call_entry PySem.F.slot_NoneType_hash hT PySem.F.entry_NoneType_hash (show wpAny _ _ (do ret (←mkInt 0xFCA86420)) _ _ s from wpAny_ret_mkInt ?_) (PySem.F.args_NoneType_hash_1 _)))
 refine(show wpAny _ _ (if(decide (-(2:Int) ^ 63≤0xFCA86420)&&decide ((0xFCA86420:Int)<2 ^ 63))=true then _ else _) Q E _ from ?_)
 rw[if_pos (by decide)]
 exact wpAny_pure h
end
abbrev a3M:=Option Key
def wIs:a3M→Value→Bool
 |none,.none=>true
 |none,_=>false
 |some k,v=>a0Z k v
theorem N0:∀{k:a3M} {v:Value},wIs k v=true→(k=none∧v=Value.none)∨(∃i t,k=some (Sum.inl i)∧v=Value.int i t)∨(∃x t,k=some (Sum.inr x)∧v=Value.str x t)
 |none,v,h=>by cases v<;>first|exact .inl ⟨rfl,rfl⟩|cases h
 |some k,v,h=>by
  rcases u6 (show a0Z k v=true from h) with⟨i,t,rfl,rfl⟩|⟨x,t,rfl,rfl⟩
  ·exact .inr (.inl ⟨i,t,rfl,rfl⟩)
  ·exact .inr (.inr ⟨x,t,rfl,rfl⟩)
def b6h (w:World):a3M→Int
 |none=>0xFCA86420
 |some k=>b4O w k
def a1B (prog:Program)(w:World):PySem.KeyKind prog w a3M where
 is:=wIs
 hash:=b6h w
 inj:=fun v a b ha hb=>by
  rcases N0 ha with⟨rfl,rfl⟩|⟨i,t,rfl,rfl⟩|⟨x,t,rfl,rfl⟩<;>rcases N0 hb with⟨rfl,e⟩|⟨j,u,rfl,e⟩|⟨y,u,rfl,e⟩<;>first|rfl|(cases e<;>rfl)
 byValue:=fun k v h=>by
  rcases N0 h with⟨rfl,rfl⟩|⟨i,t,rfl,rfl⟩|⟨x,t,rfl,rfl⟩<;>rfl
 pyHash:=fun hv h=>by
  rcases N0 hv with⟨rfl,rfl⟩|⟨i,t,rfl,rfl⟩|⟨x,t,rfl,rfl⟩
  ·exact a7T h
  ·exact wpAny_pyHash_int h
  ·exact wpAny_pyHash_str h
 eqBool:=fun{A E s a b u v Q} hu hv h=>by
  have dk:∀{k k':Key},decide ((some k:a3M)=some k')=decide (k=k'):=fun{k k'}=>by
   by_cases e:k=k'
   ·subst e;simp
   ·rw[decide_eq_false e,decide_eq_false fun z=>e (Option.some.inj z)]
  rcases N0 hu with⟨rfl,rfl⟩|⟨i,t,rfl,rfl⟩|⟨x,t,rfl,rfl⟩<;>rcases N0 hv with⟨rfl,rfl⟩|⟨j,t',rfl,rfl⟩|⟨y,t',rfl,rfl⟩
  ·exact SeqAt.EqAt.same _ _ _ _ _ (by simpa using h)
  ·exact SeqAt.EqAt.none_int j t' _ _ _ _ (by simpa using h)
  ·exact SeqAt.EqAt.none_str y t' _ _ _ _ (by simpa using h)
  ·exact SeqAt.EqAt.int_none i t _ _ _ _ (by simpa using h)
  ·rw[dk,a9I] at h;exact wpAny_eqBool_int h
  ·rw[dk,b0e] at h;exact SeqAt.EqAt.int_str i t y t' _ _ _ _ h
  ·exact SeqAt.EqAt.str_none x t _ _ _ _ (by simpa using h)
  ·rw[dk,a9l] at h;exact SeqAt.EqAt.str_int x t j t' _ _ _ _ h
  ·rw[dk,a9s] at h;exact wpAny_eqBool_str h
 «strs»:=fun k x t v h=>by
  rcases N0 h with⟨rfl,e⟩|⟨i,u,rfl,e⟩|⟨y,u,rfl,e⟩
  ·exact nomatch e
  ·exact nomatch e
  ·injection e with e1 _
   subst e1
   cases v<;>rfl
def Z4 (P:Program)(w:World)(a:Addr)(n:Nat)(h:Heap):Prop:=(a==sysModules)=false∧∃vs,h.DictOf (a1B P w) a vs∧vs.length=n
theorem a7g {P P':Program}{w w':World}{H:Hp}{h:Heap}{a:Addr}{n:Nat}(x:Z4 P w a n h):ObjOk P' w' H h a (.ext (Z4 P w a n)):=by
 obtain⟨hs,vs,⟨o,es,ep,e,r⟩,hl⟩:=x
 exact⟨⟨hs,vs,⟨o,es,ep,e,r⟩,hl⟩,⟨o,e⟩,fun h1 h2 ⟨hs',vs',⟨o',es',ep',e',r'⟩,hl'⟩ k=>⟨hs',vs',⟨o',es',ep',k _ e',r'⟩,hl'⟩⟩
theorem a3e {P:Program}{w:World}:∀{es:List DictEntry} {vs:List (Key×Value)},Pairs (j8 P w) es vs→Pairs (a1B P w) es (vs.map fun x=>(some x.1,x.2))
 |_,_,.nil=> .nil
 |_,_,.cons h e t=> .cons h e (a3e t)
theorem b1P {P:Program}{w:World}{h:Heap}{a:Addr}{vs:List (Key×Value)}(dd:h.DictOf (j8 P w) a vs):h.DictOf (a1B P w) a (vs.map fun x=>(some x.1,x.2)):=by
 obtain⟨o,es,ep,h1,h2,h3,h4,h5,h6⟩:=dd
 refine⟨o,es,ep,h1,h2,h3,fun e he=>?_,a3e h5,?_⟩
 ·obtain⟨k,q1,q2⟩:=h4 e he
  exact⟨some k,q1,q2⟩
 ·rw[List.map_map]
  have e:((fun x:a3M×Value=>x.1)∘fun x:Key×Value=>((some x.1:a3M),x.2))=(fun k:Key=>(some k:a3M))∘fun x:Key×Value=>x.1:=rfl
  rw[e,←List.map_map]
  exact List.Pairwise.map _ (fun a b h z=>h (Option.some.inj z)) h6
theorem a6Y {vs:List (Key×Value)}{v:Value}:stored (vs.map fun x=>((some x.1:a3M),x.2)) none v=(vs.map fun x=>((some x.1:a3M),x.2))++[(none,v)]:=by
 unfold stored
 rw[if_neg]
 intro z
 obtain⟨x,hx,e⟩:=List.any_eq_true.mp z
 obtain⟨y,_,rfl⟩:=List.mem_map.mp hx
 cases of_decide_eq_true e
section
variable {X:Cx}
def b0a (P:Program)(w:World):a7l:=fun o i v H Q=>a7I o i v H Q∨∃a kvs,o= .ref a∧i= .non∧H a=some (.dK kvs)∧kvs.length<1000∧Q (upd H a (.ext (Z4 P w a (kvs.length+1))))
theorem a9A (hu:X.A.units+1<cLine):a8A X (b0a X.prog X.w):=by
 intro pins s σ H o i v ov iv u Q I ro ri rv h
 rcases h with h|⟨a,kvs,rfl,rfl,hA,hl,q⟩
 ·exact b1Y hu pins s σ H o i v ov iv u Q I ro ri rv h
 ·cases ro
  cases ri
  obtain⟨z,hd,vs,rel,dd⟩:=a7J I.hok hA
  have hlv:=rel.length
  refine wpAny_setItem_pairs (knd:=a1B X.prog X.w) (k:=none) (hsz:=by rw[List.length_map];omega) rfl (b1P dd) fun h' dd' hs=>?_
  rw[a6Y] at dd'
  have he:∃q,h'.get? a=some q:=let ⟨q,_,_,hq,_⟩:=dd';⟨q,hq⟩
  exact⟨_,a1N I (by rw[hA];exact True.intro) hs he (a7g ⟨hd,_,dd',by rw[List.length_append,List.length_map,hlv];rfl⟩),q⟩
def a3U (K:PySem.W.Frag)(P:Program)(w:World):List V→Hp→VK→Prop:=fun xs H Q=>b2F K xs H Q∨∃p n,xs=[V.ref p]∧H p=some (.ext (Z4 P w p n))∧n≤1000∧Q (.int n) H
theorem a8k:CallR X (.builtin "len") (a3U X.K X.prog X.w):=by
 refine call_lenS.or ?_
 intro pins s σ H xs us Q I r h
 obtain⟨p,n,rfl,hp,hn,q⟩:=h
 obtain⟨u,rfl,ru⟩:=O8 r
 cases ru
 obtain⟨hs,vs,dd,hl⟩:=(I.hok p _ hp).1
 refine call_len_dict hs dd (by omega) ?_
 rw[hl]
 exact⟨.int n,H,I.tok _,⟨_,rfl⟩,q⟩
theorem b4I (K:PySem.W.Frag)(h:X.K=K:=by rfl):CallR X (.builtin "len") (a3U K X.prog X.w):=h▸a8k
def a7z (K:PySem.W.Frag)(P:Program)(w:World):List V→Hp→VK→Prop:=fun xs H Q=>b1y K xs H Q∨∃p n T,xs=[V.ref p,.ty T]∧H p=some (.ext (Z4 P w p n))∧(T="str"∨T="int"∨T="bool"∨T="list"∨T="tuple"∨T="dict")∧Q (.bl (a1c "dict" T)) H
theorem a8x:CallR X (.builtin "isinstance") (a7z X.K X.prog X.w):=by
 refine call_isi.or ?_
 intro pins s σ H xs us Q I r h
 obtain⟨p,n,T,rfl,hp,hT,q⟩:=h
 obtain⟨u,c,rfl,rx,rc⟩:=a2t r
 cases rx
 cases rc
 obtain⟨hs,vs,⟨o,es,ep,h1,h2,r⟩,hl⟩:=(I.hok p _ hp).1
 exact PySem.W.kia_one PySem.W.kitx_dict I.kIn ⟨o,h1,h2.1⟩ (U9 (by simp) hT) (fun z=>nomatch z) fun tk=>⟨.bl _,H,I.tok tk,rfl,q⟩
theorem b4X (K:PySem.W.Frag)(h:X.K=K:=by rfl):CallR X (.builtin "isinstance") (a7z K X.prog X.w):=h▸a8x
end
section
variable {K:PySem.W.Frag} {P:Program} {w:World} {H:Hp} {Q:VK}
theorem A4 {xs:List V}(h:a8O K xs H Q):a3U K P w xs H Q:= .inl (.inl h)
theorem a3X {p:Addr}{n:Nat}(h:H p=some (.ext (a1o p n)))(hn:n≤1000)(q:Q (.int n) H):a3U K P w [.ref p] H Q:= .inl (.inr ⟨p,n,rfl,h,hn,q⟩)
theorem b0S {p:Addr}{n:Nat}(h:H p=some (.ext (Z4 P w p n)))(hn:n≤1000)(q:Q (.int n) H):a3U K P w [.ref p] H Q:= .inr ⟨p,n,rfl,h,hn,q⟩
theorem a1v {xs:List V}(h:b1y K xs H Q):a7z K P w xs H Q:= .inl h
theorem Y0 {o i v:V}{Qh:Hp→Prop}(h:a7I o i v H Qh):b0a P w o i v H Qh:= .inl h
theorem a5w {x y:V}(h:a2S K x y H Q):a2N K x y H Q:= .inl (b6z h)
theorem b0E {i j:Int}(q:Q (.bl (decide (i=j))) H):a2N K (.int i) (.int j) H Q:=a5w (b0p q)
theorem b2p {i j:Bool}(q:Q (.bl (decide (i=j))) H):a2N K (.bl i) (.bl j) H Q:=a5w (b1W q)
theorem a6e {i j:Str}(q:Q (.bl (decide (i=j))) H):a2N K (.str i) (.str j) H Q:=a5w (a9h q)
theorem b2h {x y:V}(h:a3Q K x y H Q):a3m K x y H Q:= .inl (b6S h)
theorem a9L {i j:Int}(q:Q (.bl (!decide (i=j))) H):a3m K (.int i) (.int j) H Q:= .inl (a9F q)
theorem b2s {i j:Bool}(q:Q (.bl (!decide (i=j))) H):a3m K (.bl i) (.bl j) H Q:= .inl (b2u q)
theorem a6l {i j:Str}(q:Q (.bl (!decide (i=j))) H):a3m K (.str i) (.str j) H Q:= .inl (a9n q)
end
theorem a2R {X:Cx}(K:PySem.W.Frag)(P:Program)(w:World)(h:X.K=K:=by rfl)(hp:X.prog=P:=by rfl)(hw:X.w=w:=by rfl):CallR X (.builtin "isinstance") (a7z K P w):=by subst hp hw;exact b4X K h
theorem A3 {X:Cx}(K:PySem.W.Frag)(P:Program)(w:World)(h:X.K=K:=by rfl)(hp:X.prog=P:=by rfl)(hw:X.w=w:=by rfl):CallR X (.builtin "len") (a3U K P w):=by subst hp hw;exact b4I K h
theorem A7 {X:Cx}(P:Program)(w:World)(hu:X.A.units+1<cLine)(hp:X.prog=P:=by rfl)(hw:X.w=w:=by rfl):a8A X (b0a P w):=by subst hp hw;exact a9A hu
end L2
set_option Elab.async false
set_option linter.all false
set_option maxRecDepth 100000
namespace L2
open PySem PySem.Spec PyProof.Rows
section
variable {X:Cx} {a b:Expr} {ta:TA} {x y:Str} {pos:Pos}
end
section
variable {σ:St} {H:Hp} {nx:St→Hp→Prop} {rt:VK} {bk ct:St→Hp→Prop} {ta:TA}
theorem b4G {i j:Nat}(q:ta σ H fun vs H1=>∃v w,vs=[v,w]∧nx ((σ.set i (some v)).set j (some w)) H1):b6I i j ta ⟨nx,rt,bk,ct⟩ σ H:=q
end
end L2
set_option Elab.async false
set_option linter.all false
set_option maxRecDepth 100000
set_option maxHeartbeats 4000000
namespace L2
open PySem PySem.Spec PyProof.Rows
section
variable {P:Program} {w:World}
theorem a7W {K:PySem.W.Frag}{tg:Expr}{d:Addr}{o:Obj}{kvs:List (Key×V)}{vs:List (Key×Value)}{ep:Nat}(D:a8V P w d o kvs vs ep)(it:Addr):
  a2q P w K tg (Itd d o kvs fun kv=>kv.2) [it] it (fun i h=>h.IsValIter it d i vs.length ep) where
 mem:=by simp
 obj:=fun i h st b hb=>by
  have e:b=it:=by simpa using hb
  subst e
  obtain⟨o,e,c,dd⟩:=st
  exact⟨o,e,fun v z=>by rw[dd] at z;cases z⟩
 keep:=fun i h h' st k=>let ⟨o,e,r⟩:=st;⟨o,k it (by simp) o e,r⟩
 item:=by
  intro X hP hw hK hc i pins s σ H E I hf st hg
  subst hP hw hK
  obtain⟨hfz,hi⟩:=hg
  obtain⟨f0,f1,f2,f3,f4,f5⟩:=hf it (by simp)
  have dat:=D.at_ s.heap (I.hok d _ hfz).1
  have hl:=KV.length D.kv
  obtain⟨kv,hkv⟩:∃kv,kvs[i]?=some kv:=⟨kvs[i],by simp [hi]⟩
  obtain⟨⟨k,x⟩,hx⟩:∃p,vs[i]?=some p:=⟨vs[i]'(by omega),by simp [show i<vs.length by omega]⟩
  obtain⟨hkk,rx⟩:kv.1=k∧RelV kv.2 x:=by
   have q:=N8 D.kv hkv
   obtain⟨p,hp,r⟩:=q
   rw[hx] at hp;cases hp
   exact r
  refine wpAny_pyNext_values_item st dat hx fun h' st' hs'=>?_
  have I1:Inv X pins σ H {s with heap:=h'}:=I.turned (t':=s.toks) (fun b o hb e=>hs'.extBut b o hb e) f0 f1 f3 f4 f5
  obtain⟨oo,e,c,dd⟩:=id st'
  exact⟨x,rfl,a7w (s:={s with heap:=h'}) e c dd (by decide) ⟨kv.2,H,I1,rx,⟨rfl,kv,hkv,rfl⟩,st',fun b hb=>(hf b hb).1⟩⟩
 done:=by
  intro X hP hw hK hc i pins s σ H E I hf st hg
  subst hP hw hK
  obtain⟨hfz,hi⟩:=hg
  obtain⟨f0,f1,f2,f3,f4,f5⟩:=hf it (by simp)
  have dat:=D.at_ s.heap (I.hok d _ hfz).1
  have hl:=KV.length D.kv
  exact wpAny_pyNext_values_end (I.ok.hd hc) st dat (by simp;omega) fun h' eb=>⟨rfl,I.turned (t':=s.toks) (fun b o hb e=>eb b o hb e) f0 f1 f3 f4 f5⟩
 self:=fun _ _ _ _ _ st h=>wpAny_pyIter_valiter st h
end
section
variable {X:Cx} {tg:Expr}
abbrev ItV (d:Addr)(o:Obj)(kvs:List (Key×V)):It:=Itd d o kvs fun kv=>kv.2
def a4v (tl:TE):TI2:=fun σ H R=>tl σ H fun v H1=>rIterD ItV v H1 R
theorem a8h {o:Expr}{tl:TE}{apos cpos:Pos}(ho:PE X o tl)
  (hbase:attributeBase o "values" X.env (eval o X.env)=eval o X.env:=by rfl) (hline:(apos.endLine==cpos.line)=true:=by rfl):
  PI2 X tg (.Call (.Attribute o "values" apos) [] [] cpos) (a4v tl):=by
 intro pins s σ H R I h
 refine wpAny_Call_method0_late hbase hline (thn (ho pins s σ H _ I h) fun v s1 ⟨x,H1,I1,r1,q1⟩=>?_)
 obtain⟨d,kvs,ob,vs,ep,th,H',rfl,hd,hob,D,I2,hth,q⟩:=rIterD.go I1 r1 q1
 have dof:=(D.at_ _ hob).dictOf
 refine⟨"dict","dict.values",F.plainAttrs_dict,F.slot_dict_values,F.type_dict_values,dof.typeIs,dof.mapOf.noDict,Calls.callWith_builtin rfl (PySem.evalArgs_none ?_)⟩
 refine call_meetsIn F.slot_dict_values dof.typeIs F.entry_dict_values (F.args_dict_values_1 _) (meets_dict_values (j8 X.prog X.w) d hd) ⟨⟨vs,dof⟩,?_⟩
 have I3:Inv X pins σ H' {s1 with heap:=s1.heap.push {cls:= .type "dict_values",data:= .fields #[.ref d]}}:=I2.kept (t':=s1.toks) fun b o e=>Heap.get?_push_of_some _ e
 refine wpAny_pyIter_values (s:={s1 with heap:=s1.heap.push {cls:= .type "dict_values",data:= .fields #[.ref d]}}) (knd:=j8 X.prog X.w) ⟨_,Heap.get?_push_size _ rfl,rfl,rfl⟩ (D.at_ _ (Heap.get?_push_of_some _ hob)) ?_
 generalize hG:s1.heap.push {cls:= .type "dict_values",data:= .fields #[.ref d]}=G at I3⊢
 refine⟨G.objs.size,[G.objs.size],_,_,H',rfl,I3.kept (t':=s1.toks) fun b o e=>Heap.get?_push_of_some _ e,a7W D _,⟨_,Heap.get?_push_size _ rfl,rfl,rfl⟩,fun b hb=>?_,th,hth,q⟩
 have e:b=G.objs.size:=by simpa using hb
 subst e
 exact I3.fpOk (Nat.le_refl _) (I3.hok.fresh (Nat.le_refl _))
theorem a9i {tg o:Expr}{to:TE}{apos cpos:Pos}(ho:QE X o to)
  (hbase:attributeBase o "values" X.env (eval o X.env)=eval o X.env:=by rfl) (hline:(apos.endLine==cpos.line)=true:=by rfl):QI X tg (.Call (.Attribute o "values" apos) [] [] cpos) (a4v to):=⟨a8h ho.r hbase hline⟩
theorem a8H {tl:TE}{σ:St}{H:Hp}{R:It→(Hp→Hp)→Hp→Prop}(q:tl σ H fun v H1=>rIterD ItV v H1 R):a4v tl σ H R:=q
end
end L2
set_option Elab.async false
set_option linter.all false
namespace L2
open PySem PySem.Spec PyProof.Rows
section
variable {J:It} {th:Hp→Hp} {n:Nat} {g:TG} {tb:TS} {nx:L2.St→Hp→Prop} {rt:VK} {σ:L2.St} {H:Hp}
theorem a3H (Pv:Nat→L2.St→Hp→Prop)(h0:Pv 0 σ H)(hgo:∀i σ H,i<n→Pv i σ H→J.go i H)
  (hs:∀(bk:L2.St→Hp→Prop) i x σ H H',i<n→Pv i σ H→J.yld i H x H'→g x σ H' fun σ2 H2=>tb ⟨Pv (i+1),fun v H=>rt v (th H),bk,Pv (i+1)⟩ σ2 H2)
  (hd:∀σ H,Pv n σ H→J.stop n H∧nx σ (th H)):b1A J th g tb nx rt σ H:=E1 Pv h0 hgo (hs fun σ H=>nx σ (th H)) hd
end
end L2
set_option Elab.async false
set_option linter.all false
set_option maxRecDepth 100000
set_option maxHeartbeats 1000000
namespace K27
open PySem PySem.Spec PyProof.Rows L2
def top (i:Nat):Stmt:=PySem.Challenge.pw_gluework_k27_match_behind.main.body.getD i (.Pass ⟨0,0,0,0⟩)
abbrev I0:Stmt:=top 10
theorem sc_is_text_of:j5 ["thing","signs","most"] ["thing","signs","most"] (b5 I0):=⟨rfl,rfl,rfl,by decide+kernel,rfl,by decide+kernel,by decide+kernel⟩
abbrev Q4:Stmt:=top 11
theorem sc_is_name:j5 ["thing"] ["thing"] (b5 Q4):=⟨rfl,rfl,rfl,by decide+kernel,rfl,by decide+kernel,by decide+kernel⟩
abbrev N6:Stmt:=top 12
theorem sc_in_order:j5 ["named"] ["named"] (b5 N6):=⟨rfl,rfl,rfl,by decide+kernel,rfl,by decide+kernel,by decide+kernel⟩
abbrev X1:Stmt:=top 13
theorem sc_copied:j5 ["web"] ["web"] (b5 X1):=⟨rfl,rfl,rfl,by decide+kernel,rfl,by decide+kernel,by decide+kernel⟩
abbrev W0:Stmt:=top 14
theorem sc_things:j5 ["web"] ["web"] (b5 W0):=⟨rfl,rfl,rfl,by decide+kernel,rfl,by decide+kernel,by decide+kernel⟩
abbrev Q3:Stmt:=top 15
theorem sc_without:j5 ["web","names","points","ties","name"] ["web","names"] (b5 Q3):=⟨rfl,rfl,rfl,by decide+kernel,rfl,by decide+kernel,by decide+kernel⟩
abbrev X4:Stmt:=top 16
theorem sc_united:j5 ["web","more","points","ties"] ["web","more"] (b5 X4):=⟨rfl,rfl,rfl,by decide+kernel,rfl,by decide+kernel,by decide+kernel⟩
abbrev C6:Stmt:=top 17
theorem sc_tie_renamed:j5 ["tie","names"] ["tie","names"] (b5 C6):=⟨rfl,rfl,rfl,by decide+kernel,rfl,by decide+kernel,by decide+kernel⟩
abbrev Q1:Stmt:=top 18
theorem sc_renamed:j5 ["web","names","points","ties"] ["web","names"] (b5 Q1):=⟨rfl,rfl,rfl,by decide+kernel,rfl,by decide+kernel,by decide+kernel⟩
abbrev M9:Stmt:=top 20
theorem sc_is_match:j5 ["piece","web","match","names"] ["piece","web","match"] (b5 M9):=⟨rfl,rfl,rfl,by decide+kernel,rfl,by decide+kernel,by decide+kernel⟩
abbrev a2o:Stmt:=top 21
theorem sc_line:j5 ["piece","match"] ["piece","match"] (b5 a2o):=⟨rfl,rfl,rfl,by decide+kernel,rfl,by decide+kernel,by decide+kernel⟩
abbrev D0:Stmt:=top 22
theorem a3f:j5 ["piece","web","fixed"] ["piece","web","fixed"] (b5 D0):=⟨rfl,rfl,rfl,by decide+kernel,rfl,by decide+kernel,by decide+kernel⟩
abbrev C5:Stmt:=top 23
theorem a3u:j5 ["piece","web","piece_looks","web_looks","fixed","told"] ["piece","web","piece_looks","web_looks","fixed"] (b5 C5):=⟨rfl,rfl,rfl,by decide+kernel,rfl,by decide+kernel,by decide+kernel⟩
abbrev a0Q:Stmt:=top 24
theorem a9U:j5 ["piece","web","piece_looks","web_looks","fixed","most","told","choices","places","names"] ["piece","web","piece_looks","web_looks","fixed","most"] (b5 a0Q):=⟨rfl,rfl,rfl,by decide+kernel,rfl,by decide+kernel,by decide+kernel⟩
abbrev X5:Stmt:=top 25
theorem a7S:j5 ["name","image","fixed"] ["name","image","fixed"] (b5 X5):=⟨rfl,rfl,rfl,by decide+kernel,rfl,by decide+kernel,by decide+kernel⟩
abbrev A6:Stmt:=top 26
theorem a2c:j5 ["piece_looks","web_looks","fixed","choices","name","look","alike"] ["piece_looks","web_looks","fixed"] (b5 A6):=⟨rfl,rfl,rfl,by decide+kernel,rfl,by decide+kernel,by decide+kernel⟩
abbrev G0:Stmt:=top 27
theorem a3N:j5 ["piece","web","fixed","places","name","tie","there","image","other"] ["piece","web","fixed"] (b5 G0):=⟨rfl,rfl,rfl,by decide+kernel,rfl,by decide+kernel,by decide+kernel⟩
abbrev X8:Stmt:=top 28
theorem a9b:j5 ["lists"] ["lists"] (b5 X8):=⟨rfl,rfl,rfl,by decide+kernel,rfl,by decide+kernel,by decide+kernel⟩
abbrev a0S:Stmt:=top 29
theorem b0h:j5 ["piece","choices","places","most","names","told","waiting","begun","image"] ["piece","choices","places","most"] (b5 a0S):=⟨rfl,rfl,rfl,by decide+kernel,rfl,by decide+kernel,by decide+kernel⟩
abbrev Y6:Stmt:=top 30
theorem a8Z:j5 ["piece","choices","places","begun","names","name","put","unlike"] ["piece","choices","places","begun"] (b5 Y6):=⟨rfl,rfl,rfl,by decide+kernel,rfl,by decide+kernel,by decide+kernel⟩
abbrev C4:Stmt:=top 31
theorem a3o:j5 ["piece","places","put","name","ends"] ["piece","places","put","name"] (b5 C4):=⟨rfl,rfl,rfl,by decide+kernel,rfl,by decide+kernel,by decide+kernel⟩
abbrev M7:Stmt:=top 32
theorem a6i:j5 ["piece","places","put","name","image","longer","due"] ["piece","places","put","name","image"] (b5 M7):=⟨rfl,rfl,rfl,by decide+kernel,rfl,by decide+kernel,by decide+kernel⟩
abbrev a1X:Stmt:=top 34
theorem sc_both:j5 ["web","other"] ["web","other"] (b5 a1X):=⟨rfl,rfl,rfl,by decide+kernel,rfl,by decide+kernel,by decide+kernel⟩
abbrev a0V:Stmt:=top 35
theorem sc_alone:j5 ["web","other"] ["web","other"] (b5 a0V):=⟨rfl,rfl,rfl,by decide+kernel,rfl,by decide+kernel,by decide+kernel⟩
abbrev a2d:Stmt:=top 36
theorem sc_kept:j5 ["rule"] ["rule"] (b5 a2d):=⟨rfl,rfl,rfl,by decide+kernel,rfl,by decide+kernel,by decide+kernel⟩
abbrev a0T:Stmt:=top 37
theorem sc_taken:j5 ["rule"] ["rule"] (b5 a0T):=⟨rfl,rfl,rfl,by decide+kernel,rfl,by decide+kernel,by decide+kernel⟩
abbrev N2:Stmt:=top 38
theorem sc_fresh_of:j5 ["rule"] ["rule"] (b5 N2):=⟨rfl,rfl,rfl,by decide+kernel,rfl,by decide+kernel,by decide+kernel⟩
abbrev X7:Stmt:=top 40
theorem sc_picked:j5 ["put","names"] ["put","names"] (b5 X7):=⟨rfl,rfl,rfl,by decide+kernel,rfl,by decide+kernel,by decide+kernel⟩
abbrev Y3:Stmt:=top 41
theorem sc_barred:j5 ["web","rule","match","number","bar","told"] ["web","rule","match"] (b5 Y3):=⟨rfl,rfl,rfl,by decide+kernel,rfl,by decide+kernel,by decide+kernel⟩
abbrev K0:Stmt:=top 42
theorem sc_taken_out:j5 ["step"] ["step"] (b5 K0):=⟨rfl,rfl,rfl,by decide+kernel,rfl,by decide+kernel,by decide+kernel⟩
abbrev C8:Stmt:=top 43
theorem sc_names_serve:j5 ["web","rule","fresh","names"] ["web","rule","fresh"] (b5 C8):=⟨rfl,rfl,rfl,by decide+kernel,rfl,by decide+kernel,by decide+kernel⟩
abbrev Q2:Stmt:=top 44
theorem sc_rest_of:j5 ["web","step","rule","rest"] ["web","step"] (b5 Q2):=⟨rfl,rfl,rfl,by decide+kernel,rfl,by decide+kernel,by decide+kernel⟩
abbrev a2j:Stmt:=top 45
theorem sc_done:j5 ["web","step","rule","rest"] ["web","step"] (b5 a2j):=⟨rfl,rfl,rfl,by decide+kernel,rfl,by decide+kernel,by decide+kernel⟩
abbrev X2:Stmt:=top 46
theorem sc_behind:j5 ["step","rule","put"] ["step"] (b5 X2):=⟨rfl,rfl,rfl,by decide+kernel,rfl,by decide+kernel,by decide+kernel⟩
abbrev B5:Stmt:=top 48
theorem sc__law_cell_at:j5 ["_law_script","_law_k"] ["_law_script","_law_k"] (b5 B5):=⟨rfl,rfl,rfl,by decide+kernel,rfl,by decide+kernel,by decide+kernel⟩
abbrev E6:Stmt:=top 49
theorem sc__law_mixed:j5 ["_law_cell","_law_k","_law_number"] ["_law_cell","_law_k"] (b5 E6):=⟨rfl,rfl,rfl,by decide+kernel,rfl,by decide+kernel,by decide+kernel⟩
abbrev C3:Stmt:=top 50
theorem sc__law_stream:j5 ["_law_cell","_law_many","_law_number","_law_found","_law_k"] ["_law_cell","_law_many"] (b5 C3):=⟨rfl,rfl,rfl,by decide+kernel,rfl,by decide+kernel,by decide+kernel⟩
abbrev K9:Stmt:=top 51
theorem sc__law_name:j5 ["_law_number","_law_k","_law_letters","_law_base","_law_j","_law_at","_law_tag"] ["_law_number","_law_k"] (b5 K9):=⟨rfl,rfl,rfl,by decide+kernel,rfl,by decide+kernel,by decide+kernel⟩
abbrev E9:Stmt:=top 52
theorem sc__law_words:j5 ["_law_number","_law_many","_law_letters","_law_base","_law_j","_law_at"] ["_law_number","_law_many"] (b5 E9):=⟨rfl,rfl,rfl,by decide+kernel,rfl,by decide+kernel,by decide+kernel⟩
abbrev N1:Stmt:=top 53
theorem sc__law_web:j5 ["_law_script","_law_number","_law_kinds","_law_points","_law_ties","_law_k","_law_x","_law_names","_law_ends"] ["_law_script","_law_number","_law_kinds"] (b5 N1):=⟨rfl,rfl,rfl,by decide+kernel,rfl,by decide+kernel,by decide+kernel⟩
abbrev C9:Stmt:=top 54
theorem sc__law_picked:j5 ["_law_web_here","_law_xs","_law_names","_law_points","_law_j","_law_ties","_law_k","_law_name_here","_law_tie"] ["_law_web_here","_law_xs"] (b5 C9):=⟨rfl,rfl,rfl,by decide+kernel,rfl,by decide+kernel,by decide+kernel⟩
abbrev M8:Stmt:=top 55
theorem sc__law_out:j5 ["_law_web_here","_law_points","_law_ties","_law_xs","_law_out_here","_law_k","_law_name_here","_law_loose"] ["_law_web_here","_law_points","_law_ties","_law_xs"] (b5 M8):=⟨rfl,rfl,rfl,by decide+kernel,rfl,by decide+kernel,by decide+kernel⟩
abbrev K3:Stmt:=top 56
theorem sc__law_rule:j5 ["_law_web_here","_law_xs","_law_words_here","_law_kinds","_law_points","_law_ties","_law_out_here","_law_word_of","_law_left","_law_right","_law_k","_law_name_here","_law_kind","_law_begin","_law_end","_law_ends","_law_match","_law_word"] ["_law_web_here","_law_xs","_law_words_here","_law_kinds"] (b5 K3):=⟨rfl,rfl,rfl,by decide+kernel,rfl,by decide+kernel,by decide+kernel⟩
abbrev K2:Stmt:=top 57
theorem sc__law_step:j5 ["_law_web_here","_law_xs","_law_words_here","_law_kinds","_law_names","_law_rule_here","_law_match","_law_fresh","_law_word"] ["_law_web_here","_law_xs","_law_words_here","_law_kinds","_law_names"] (b5 K2):=⟨rfl,rfl,rfl,by decide+kernel,rfl,by decide+kernel,by decide+kernel⟩
abbrev L0:Stmt:=top 58
theorem sc__law_copy:j5 ["_law_step_here","_law_rule_here","_law_match","_law_fresh","_law_pieces"] ["_law_step_here"] (b5 L0):=⟨rfl,rfl,rfl,by decide+kernel,rfl,by decide+kernel,by decide+kernel⟩
abbrev K5:Stmt:=top 59
theorem sc__law_fits:j5 ["_law_web_here","_law_left","_law_match","_law_held","_law_word","_law_kind","_law_begin","_law_end"] ["_law_web_here","_law_left","_law_match"] (b5 K5):=⟨rfl,rfl,rfl,by decide+kernel,rfl,by decide+kernel,by decide+kernel⟩
abbrev N5:Stmt:=top 60
theorem sc__law_set:j5 ["_law_script","_law_first","_law_second","_law_kinds"] ["_law_script"] (b5 N5):=⟨rfl,rfl,rfl,by decide+kernel,rfl,by decide+kernel,by decide+kernel⟩
abbrev a1G:Stmt:=top 61
theorem sc_law:j5 ["_law_script","_law_first","_law_kinds","_law_web_here","_law_cell","_law_xs","_law_names","_law_step_here","_law_given","_law_found","_law_right","_law_word","_law_held"] ["_law_script"] (b5 a1G):=⟨rfl,rfl,rfl,by decide+kernel,rfl,by decide+kernel,by decide+kernel⟩
abbrev a0j:Str:="abcdefghijklmnopqrstuvwxyz"
abbrev a1R:Str:="abcdefghijklmnopqrstuvwxyz0123456789."
structure Txt (K:PySem.W.Frag) (mg:Str→Option Value):Prop where
 r_Barred:ExC K mg "Barred" (cA K "Barred")
 r_Loose:ExC K mg "Loose" (cA K "Loose")
 r_NoMatch:ExC K mg "NoMatch" (cA K "NoMatch")
 r_NoNames:ExC K mg "NoNames" (cA K "NoNames")
 b_all:mg "all"=none
 b_any:mg "any"=none
 b_dict:mg "dict"=none
 b_enumerate:mg "enumerate"=none
 b_int:mg "int"=none
 b_isinstance:mg "isinstance"=none
 b_len:mg "len"=none
 b_list:mg "list"=none
 b_min:mg "min"=none
 b_range:mg "range"=none
 b_set:mg "set"=none
 b_sorted:mg "sorted"=none
 b_str:mg "str"=none
 c_MOST_NAME_SIGNS:GlV mg "MOST_NAME_SIGNS" (.int 24)
 c_NAME_SIGNS:GlV mg "NAME_SIGNS" (.str a1R)
 c_SMALL_LETTERS:GlV mg "SMALL_LETTERS" (.str a0j)
abbrev kSL:Str:="abcdefghijklmnopqrstuvwxyz"
abbrev kNS:Str:="abcdefghijklmnopqrstuvwxyz0123456789."
def a5L (x signs:Str):Bool:=x.cps.toList.all fun c=>decide (c∈signs.cps.toList)
def K7 (x signs:Str)(most:Int):Bool:=decide (1≤(x.length:Int))&&decide ((x.length:Int)≤most)&&a5L x signs
def hdB (x signs:Str):Bool:=decide (x.cps.toList.headD 0∈signs.cps.toList)
def O9 (x:Str):Bool:=K7 x kNS 24&&hdB x kSL
def B1 (x:Str):Bool:=K7 x kSL 8
def NoTxt (K:PySem.W.Frag)(H:Hp)(v:V):Prop:=∃t,TyB K H v t∧t≠"str"
theorem NoTxt.mono {K:PySem.W.Frag}{H H':Hp}{v:V}(h:NoTxt K H v)(s:Same H H'):NoTxt K H' v:=by
 obtain⟨t,ty,ht⟩:=h
 exact⟨t,ty.mono s,ht⟩
def b2A (K:PySem.W.Frag)(f:Str→Bool)(v:V)(H:Hp)(Q:VK):Prop:=
 (∃x,v= .str x∧x.length≤1000∧∀H',Same H H'→Q (.bl (f x)) H')∨(NoTxt K H v∧∀H',Same H H'→Q (.bl false) H')
def V4 (K:PySem.W.Frag):Sp:=fun vs H Q _=>∃v signs most,vs=[v,.str signs,.int most]∧b2A K (fun x=>K7 x signs most) v H Q
def a1s (K:PySem.W.Frag):Sp:=fun vs H Q _=>∃v,vs=[v]∧b2A K O9 v H Q
def O4 (K:PySem.W.Frag):Sp:=fun vs H Q _=>∃c k:Int,vs=[.int c,.int k]∧0≤k∧k≤1000∧∀m:Int,0≤m→Q (.int m) H
def b6s (H:Hp)(Q:VK)(P:List Str→Prop):Prop:=∀(p:Addr) (H':Hp) (ss:List Str),H p=none→Same H H'→H' p=some (.lst (ss.map V.str))→P ss→Q (.ref p) H'
def i9 (W:Web):List Str:=W.pts.map (·.1)++W.ts.map (·.1)
structure WebIs (n:Nat) (K:PySem.W.Frag) (H:Hp) (a p q:Addr) (kvs:List (Key×V)) (W:Web):Prop where
 at_:WebAt K H a p q kvs W
 hp:H p=some (.dK (pKV W.pts))
 hq:H q=some (.dK kvs)
 ne:p≠q
 nd:(i9 W).Nodup
 len:(i9 W).length≤n
 ends:∀x∈W.ts,x.2.2.1∈W.pts.map (·.1)∧x.2.2.2∈W.pts.map (·.1)
 nl:∀x∈i9 W,x.length≤100
theorem WebIs.same {n:Nat}{K:PySem.W.Frag}{H H':Hp}{a p q:Addr}{kvs:List (Key×V)}{W:Web}(h:WebIs n K H a p q kvs W)(s:Same H H'):WebIs n K H' a p q kvs W:=⟨h.at_.mono s.le,s _ _ h.hp,s _ _ h.hq,h.ne,h.nd,h.len,h.ends,h.nl⟩
local macro_rules| `(tactic|walk_at "E")=> `(tactic|first
 |(with_reducible (first|refine b4G ?_|refine b2r ?_|refine b6B ?_|refine b1n ?_|refine b4V ?_|refine b3J ?_|refine r_C ?_|refine b6O ?_|refine b5O ?_|refine b4Z ?_|refine b4i ?_|refine b2M ?_|refine b5q ?_|refine b4D ?_|refine b6y ?_|refine b1D ?_|refine a8H ?_|refine b2X ?_|refine b6c ?_|refine b5m ?_|refine b4p ?_|refine b6M ?_|refine b5a ?_|refine b6e ?_|refine b5Y ?_|refine b6E ?_|refine b2Y ?_|refine b5C ?_|refine b3E ?_|refine b6D ?_|refine b5c ?_|refine b3c ?_|refine b3Z ?_|refine b6r ?_|refine b6J ?_|refine b0r ?_|refine b4s ?_|refine b5R ?_|refine b1z ?_|refine a8y ?_|refine b6A ?_|refine b0J ?_|refine b0s ?_|refine a6r ?_|refine a7H ?_|refine a5Q ?_|refine b0W ?_|refine a5X ?_|refine b6w ?_|refine b0E ?_|refine b2p ?_|refine a6e ?_|refine a6n ?_|refine a9L ?_|refine b2s ?_|refine a6l ?_|refine a6m ?_|refine a7u ?_|refine a5s ?_|refine b5s ?_|refine b1p ?_|refine b3v ?_|refine b3m ?_|refine b5d ?_|refine b2l ?_|refine b2U ?_|refine b6x ?_|refine b5u ?_|refine b6V ?_|refine b6g ?_|refine b5X ?_|refine a9B ?_|refine b5U ?_|refine b6d ?_|refine b6Q ?_|refine b6m ?_|refine b6a ?_|refine b5y ?_))
 |((with_reducible refine' b5W ?h ?_);(case h=>rfl))
 |with_reducible refine b3M _ ?_
 |((with_reducible refine' a8T ?c ?_);(case c=>(unfold CMul;omega)))
 |((with_reducible refine' r_i ?c ?_);(case c=>(first|omega|(dsimp only<;>omega)|(unfold CMul;omega)|(unfold b5w;omega)|(unfold b6G;decide)|exact Int.pow_pos (by decide)))))
local macro_rules| `(tactic|walk_at "R")=> `(tactic|first|with_reducible refine r9 ?_|with_reducible refine b4Q ?_|walk_at "E")
local macro_rules| `(tactic|walk_at "r")=> `(tactic|repeat walk_at "R")
local macro_rules| `(tactic|walk_at "e")=> `(tactic|repeat walk_at "E")
local macro_rules| `(tactic|walk_at "l")=> `(tactic|first|exact Or.inl rfl|exact Or.inr rfl)
section
variable {P:Program} {w:World} {K:PySem.W.Frag} {mg:Str→Option Value} {base:Heap}
def Z3 (i:Int):Nat:=("abcdefghijklmnopqrstuvwxyz":Str).cps.toList.getD i.toNat 0
theorem a6K (i:Int)(h0:0≤i)(h1:i<26):atI ("abcdefghijklmnopqrstuvwxyz":Str).cps.toList i=some (Z3 i):=by
 have hl:("abcdefghijklmnopqrstuvwxyz":Str).cps.toList.length=26:=by decide+kernel
 obtain⟨v,hv,hv2⟩:=a2h (xs:=("abcdefghijklmnopqrstuvwxyz":Str).cps.toList) h0 (by rw[hl];exact h1)
 rw[hv]
 unfold Z3
 rw[List.getD_eq_getElem?_getD,hv2];rfl
theorem a5W:∀i j:Nat,i<26→j<26→Z3 i=Z3 j→i=j:=by
 have h:∀i,i<26→∀j,j<26→Z3 (i:Nat)=Z3 (j:Nat)→i=j:=by decide+kernel
 exact fun i j hi hj=>h i hi j hj
theorem b2t {x y:Str}{c d:Nat}(h:x++(⟨#[c]⟩:Str)++y=x++(⟨#[d]⟩:Str)++y):c=d:=by
 have h':(x.cps++ #[c]++y.cps)=(x.cps++ #[d]++y.cps):=congrArg Str.cps h
 have h2:=congrArg Array.toList h'
 simpa using h2
theorem a2Y {f:Nat→Str}:∀{n:Nat},(∀i j,i<n→j<n→f i=f j→i=j)→((List.range n).map f).Nodup
 |0,_=>List.nodup_nil
 |n+1,h=>by
  rw[List.range_succ,List.map_append]
  refine A2 (a2Y fun i j hi hj=>h i j (by omega) (by omega)) fun m=>?_
  obtain⟨i,hi,e⟩:=List.mem_map.mp m
  have hi':=List.mem_range.mp hi
  have z:=h i n (by omega) (by omega) e
  omega
theorem a2l:("abcdefghijklmnopqrstuvwxyz":Str).length≤sizeLine:=by decide+kernel
theorem W8 (ss:List Str):(ss.map V.str).all w9=true:=by
 rw[List.all_map,List.all_eq_true];intro _ _;rfl
theorem a5T {F:Key×V→Prop}{kvs:List (Key×V)}{k:Key}{v:V}(h:∀kv∈kvs,F kv)(h':F (k,v)):∀kv∈z6 kvs k v,F kv:=by
 intro kv hkv
 unfold z6 at hkv
 split at hkv
 ·obtain⟨x,hx,e⟩:=List.mem_map.mp hkv
  split at e
  ·next e'=>rw[←e,e'];exact h'
  ·rw[←e];exact h x hx
 ·rcases List.mem_append.mp hkv with z|z
  ·exact h kv z
  ·rw[List.mem_singleton.mp z];exact h'
theorem b3F {kvs:List (Key×V)}{k:Key}{v:V}(h:(kvs.map (·.1)).Nodup):((z6 kvs k v).map (·.1)).Nodup:=by
 cases e:q8 kvs k with
 |none=>exact b1Q v h e
 |some x=>
  unfold z6
  rw[if_pos (by rw[J1,e];rfl),List.map_map]
  have e2:((fun kv:Key×V=>kv.1)∘fun kv=>if kv.1=k then(kv.1,v) else kv)=fun kv=>kv.1:=by
   funext kv
   show(if kv.1=k then(kv.1,v) else kv).1=kv.1
   split<;>rfl
  rw[e2];exact h
theorem b1I {pts:List (Str×Str)}:∀kv∈pKV pts,∃n s,kv=(Sum.inr n,V.str s):=by
 intro kv h
 obtain⟨x,_,e⟩:=List.mem_map.mp h
 exact⟨x.1,x.2,e.symm⟩
theorem a0R {K:PySem.W.Frag}{H:Hp}{d:Addr}{k1 k2 kv:_}{x:Str×Tie}(h:H d=some (.dK k1))(t:TieAt K H kv x):TieAt K (upd H d (.dK k2)) kv x:=by
 obtain⟨e,a,ea,s⟩:=t
 refine⟨e,a,ea,?_⟩
 rcases s with s|s
 ·refine .inl ?_
  by_cases z:a=d
  ·subst z
   rcases s with s|⟨_,s⟩<;>(rw[h] at s;cases s)
  ·unfold Rd
   rw[d0 z];exact s
 ·exact .inr s
theorem K6 {H H1:Hp}{d:Addr}{o:HO}(s:Same H H1)(h:H d=none):Same H (upd H1 d o):=fun b u e=>by
 rw[d0 (g0 e h)];exact s _ _ e
theorem I9 {ss:List Str}{i:Int}(h0:0≤i)(h1:i<ss.length):∃x,atI (ss.map V.str) i=some (.str x)∧x∈ss:=by
 obtain⟨v,hv,hv2⟩:=a2h (xs:=ss.map V.str) h0 (by rw[List.length_map];exact h1)
 rw[List.getElem?_map] at hv2
 obtain⟨x,hx,e⟩:=Option.map_eq_some_iff.mp hv2
 exact⟨x,by rw[hv,e],List.mem_of_getElem? hx⟩
theorem u8 {α:Type}(l:List (Str×α)):(l.map (·.1)).map (Sum.inr:Str→Key)=l.map fun x=>Sum.inr x.1:=by rw[List.map_map];rfl
theorem Z7 {l:List Str}{n:Str}(h:(Sum.inr n:Key)∈l.map (Sum.inr:Str→Key)):n∈l:=by
 obtain⟨x,hx,e⟩:=List.mem_map.mp h
 rw[←Sum.inr.inj e];exact hx
theorem M5 {kvs:List (Key×V)}{k:Key}(h:k∉kvs.map (·.1)):q8 kvs k=none:=by
 cases e:q8 kvs k with
 |none=>rfl
 |some v=>exact absurd (a7C e) h
theorem b3d {a:List (Str×Str)}{b:List (Str×Tie)}{n:Str}{t:Tie}(h:(a.map (·.1)++b.map (·.1)).Nodup)(f:n∉a.map (·.1)++b.map (·.1)):(a.map (·.1)++(b++[(n,t)]).map (·.1)).Nodup:=by
 rw[List.map_append,←List.append_assoc];exact A2 h f
theorem b0i {a:List (Str×Str)}{b:List (Str×Tie)}{n s:Str}(h:(a.map (·.1)++b.map (·.1)).Nodup)(f:n∉a.map (·.1)++b.map (·.1)):((a++[(n,s)]).map (·.1)++b.map (·.1)).Nodup:=by
 have z:=A2 h f
 refine(List.Perm.nodup_iff ?_).mpr z
 rw[List.map_append,List.append_assoc,List.append_assoc]
 exact List.Perm.append_left _ List.perm_append_comm
theorem b1T {a:List (Str×Str)}{b:List (Str×Tie)}{n:Str}{t:Tie}{l:List Str}(h:∀x∈a.map (·.1)++b.map (·.1),x∈l)(f:n∈l):∀x∈a.map (·.1)++(b++[(n,t)]).map (·.1),x∈l:=by
 intro x hx
 rw[List.map_append,←List.append_assoc] at hx
 rcases List.mem_append.mp hx with h'|h'
 ·exact h x h'
 ·have:x=n:=by simpa using h'
  rw[this];exact f
theorem a7O {a:List (Str×Str)}{b:List (Str×Tie)}{n s:Str}{l:List Str}(h:∀x∈a.map (·.1)++b.map (·.1),x∈l)(f:n∈l):∀x∈(a++[(n,s)]).map (·.1)++b.map (·.1),x∈l:=by
 intro x hx
 rw[List.map_append,List.append_assoc] at hx
 rcases List.mem_append.mp hx with h'|h'
 ·exact h x (List.mem_append_left _ h')
 ·rcases List.mem_append.mp h' with h2|h2
  ·have:x=n:=by simpa using h2
   rw[this];exact f
  ·exact h x (List.mem_append_right _ h2)
theorem z7 {α β:Type}{F:α→β→Prop}:∀{l:List α} {m:List β} {a:α} {b:β},Paired F l m→F a b→Paired F (l++[a]) (m++[b])
 |_,_,_,_,.nil,h=> .cons h .nil
 |_,_,_,_,.cons r t,h=> .cons r (z7 t h)
theorem a0W:∀{kvs:List (Key×V)} {kv:Key×V},(kvs.map (·.1)).Nodup→kv∈kvs→q8 kvs kv.1=some kv.2
 |p::r,kv,nd,h=>by
  have nd':=List.nodup_cons.mp (show(p.1::r.map (·.1)).Nodup from nd)
  rcases List.mem_cons.mp h with z|z
  ·rw[z];exact B0 rfl
  ·rw[A9 fun e=>nd'.1 (by rw[e];exact List.mem_map.mpr ⟨kv,z,rfl⟩)]
   exact a0W nd'.2 z
theorem b3y {kvs:List (Key×V)}{ss:List Str}(hk:kvs.map (·.1)=ss.map Sum.inr)(nd:(kvs.map (·.1)).Nodup):kvs=ss.map fun s=>(Sum.inr s,(q8 kvs (Sum.inr s:Key)).getD .non):=by
 have h1:kvs=kvs.map fun kv=>(kv.1,(q8 kvs kv.1).getD .non):=by
  have:∀kv∈kvs,kv=(kv.1,(q8 kvs kv.1).getD .non):=fun kv h=>by rw[a0W nd h];rfl
  exact(List.map_id' kvs).symm.trans (List.map_congr_left this)
 have h2:(kvs.map fun kv=>(kv.1,(q8 kvs kv.1).getD V.non))=(kvs.map (·.1)).map fun k=>(k,(q8 kvs k).getD .non):=by rw[List.map_map];rfl
 rw[hk,List.map_map] at h2
 exact h1.trans h2
theorem a3g:∀{r a:List (Key×V)},((a++r).map (·.1)).Nodup→r.foldl (fun a x=>z6 a x.1 x.2) a=a++r
 |[],a,_=>by simp
 |p::r,a,nd=>by
  rw[List.foldl_cons]
  have nd':((a++[p]++r).map (·.1)).Nodup:=by rw[List.append_assoc];exact nd
  have hf:p.1∉a.map (·.1):=fun m=>by
   rw[List.map_append] at nd
   exact(List.nodup_append.mp nd).2.2 p.1 m p.1 (by simp) rfl
  rw[O7 p.2 (M5 hf),a3g (r:=r) (a:=a++[(p.1,p.2)]) nd',List.append_assoc];rfl
theorem Y2 {kvs:List (Key×V)}(nd:(kvs.map (·.1)).Nodup):a2u kvs=kvs:=by
 unfold a2u
 rw[a3g (by simpa using nd)];rfl
theorem PrV.mono {K:PySem.W.Frag}{H H':Hp}{x:V}{kv:Key×V}(l:Le H H')(h:PrV K H x kv):PrV K H' x kv:=let ⟨t,e,s⟩:=h;⟨t,e,l.tup s⟩
theorem U2 {α β:Type}{F:α→β→Prop}{l2 m:List α}(h:l2.Perm m):∀{r:List β},Paired F m r→∃r',Paired F l2 r'∧r'.Perm r:=by
 induction h with
 |nil=>intro r p;cases p;exact⟨[],.nil,.nil⟩
 |cons x _ ih=>
  intro r p
  cases p with
  |cons a b=>
   obtain⟨r',h1,h2⟩:=ih b
   exact⟨_::r',.cons a h1,h2.cons _⟩
 |swap x y l=>
  intro r p
  cases p with
  |cons a b=>
   cases b with
   |cons c d=>exact⟨_::_::_,.cons c (.cons a d),.swap _ _ _⟩
 |trans _ _ ih1 ih2=>
  intro r p
  obtain⟨r',h1,h2⟩:=ih2 p
  obtain⟨r'',h3,h4⟩:=ih1 h1
  exact⟨r'',h3,h4.trans h2⟩
theorem Z5:∀pts:List (Str×Str),Paired (fun(kv:Key×V) (x:Str×Str)=>kv=(Sum.inr x.1,.str x.2)) (pKV pts) pts
 |[]=> .nil
 |x::r=> .cons rfl (Z5 r)
theorem a1n:∀{kvs:List (Key×V)} {pts:List (Str×Str)},Paired (fun(kv:Key×V) (x:Str×Str)=>kv=(Sum.inr x.1,.str x.2)) kvs pts→kvs=pKV pts
 |_,_,.nil=>rfl
 |_,_,.cons e t=>by rw[e,a1n t];rfl
theorem a9k {kvs:List (Key×V)}{pts:List (Str×Str)}(h:kvs.Perm (pKV pts)):∃pts',kvs=pKV pts'∧pts'.Perm pts:=by
 obtain⟨r,h1,h2⟩:=U2 h (Z5 pts)
 exact⟨r,a1n h1,h2⟩
theorem o0 (pts:List (Str×Str)):(pKV pts).length=pts.length:=by unfold pKV;rw[List.length_map]
theorem a0c {pts:List (Str×Str)}{i:Nat}{kv:Key×V}(h:(pKV pts)[i]?=some kv):∃x,pts[i]?=some x∧kv=(Sum.inr x.1,.str x.2):=by
 unfold pKV at h
 rw[List.getElem?_map] at h
 obtain⟨x,hx,e⟩:=Option.map_eq_some_iff.mp h
 exact⟨x,hx,e.symm⟩
theorem P0 {D d:Addr}{kvs:List (Key×V)}{o:Obj}{u:HO}{H H1:Hp}(h:H d=some (.dK kvs))(s:Same (B6 d o kvs H) H1)(hD:H1 D=none):Same H (thaw d (upd H1 D u)):=
 Same.thaw h fun b v z=>by rw[d0 (g0 (s _ _ z) hD)];exact s _ _ z
theorem a0v {D d:Addr}{kvs:List (Key×V)}{o:Obj}{u:HO}{H H1:Hp}(s:Same (B6 d o kvs H) H1)(hD:H1 D=none):(thaw d (upd H1 D u)) D=some u:=by
 have hDq:D≠d:=fun z=>by rw[z,s _ _ i7] at hD;cases hD
 rw[a0U hDq,i7]
theorem a4C {D d:Addr}{u:HO}{H1:Hp}(hD:H1 D=none):Le H1 (thaw d (upd H1 D u)):=by
 have s:Same H1 (upd H1 D u):=fun b v z=>by rw[d0 (g0 z hD)];exact z
 exact s.le.trans b2v
theorem U8 {pts:List (Str×Str)}(h:(pts.map (·.1)).Nodup):((pKV pts).map (·.1)).Nodup:=by
 rw[E2,←u8]
 refine List.Pairwise.map _ ?_ h
 exact fun a b h z=>h (Sum.inr.inj z)
theorem z8 {α:Type}:∀{l:List (Str×α)} {n:Str} {x y:α},(l.map (·.1)).Nodup→(n,x)∈l→(n,y)∈l→x=y
 |p::r,n,x,y,nd,hx,hy=>by
  have nd':=List.nodup_cons.mp (show(p.1::r.map (·.1)).Nodup from nd)
  rcases List.mem_cons.mp hx with zx|zx
  ·rcases List.mem_cons.mp hy with zy|zy
   ·have:=zx.trans zy.symm
    exact(Prod.mk.inj this).2
   ·exact absurd (List.mem_map.mpr ⟨(n,y),zy,by rw[←zx]⟩) nd'.1
  ·rcases List.mem_cons.mp hy with zy|zy
   ·exact absurd (List.mem_map.mpr ⟨(n,x),zx,by rw[←zy]⟩) nd'.1
   ·exact z8 nd'.2 zx zy
theorem a1I {K:PySem.W.Frag}{H:Hp}{kvs:List (Key×V)}{ts:List (Str×Tie)}{n:Str}{t:Tie}(w:TiesIs K H kvs ts)(nd:(ts.map (·.1)).Nodup)(h:(n,t)∈ts):∃a,q8 kvs (Sum.inr n:Key)=some (.ref a)∧SqT K H a (Y8 t):=by
 obtain⟨a,x,h1,h2,h3⟩:=TiesIs.val (ts:=ts) w (List.mem_map.mpr ⟨(n,t),h,rfl⟩)
 rw[z8 nd h h2];exact⟨a,h1,h3⟩
theorem P5 {pts:List (Str×Str)}{n k:Str}(nd:(pts.map (·.1)).Nodup)(h:(n,k)∈pts):q8 (pKV pts) (Sum.inr n:Key)=some (.str k):=
 a0W (kv:=(Sum.inr n,.str k)) (U8 nd) (List.mem_map.mpr ⟨(n,k),h,rfl⟩)
theorem a2U {n:Str}:∀{gs:List Str},inV (.str n) (gs.map V.str)=decide (n∈gs)
 |[]=>rfl
 |g::r=>by
  show(eqV (.str g) (.str n)||inV (.str n) (r.map V.str))=_
  rw[a2U (gs:=r),show eqV (.str g) (.str n)=decide (g=n) by unfold eqV;rw[Bool.eq_iff_iff];simp]
  rw[Bool.eq_iff_iff]
  simp
  constructor
  ·rintro(h|h)
   ·exact .inl h.symm
   ·exact .inr h
  ·rintro(h|h)
   ·exact .inl h.symm
   ·exact .inr h
theorem N9 {K:PySem.W.Frag}{H:Hp}{Q:VK}{l:Addr}{gs:List Str}{n:Str}(h:SqL K H l (gs.map V.str))(q:Q (.bl (!decide (n∈gs))) H):a1L K (.str n) (.ref l) H Q:=
 .inr (.inl ⟨l,_,rfl,.inl h,rfl,W8 _,by rw[if_pos rfl,a2U];exact q⟩)
theorem a0e {K:PySem.W.Frag}{H:Hp}{Q:VK}{l:Addr}{gs:List Str}{n:Str}(h:SqL K H l (gs.map V.str))(q:Q (.bl (decide (n∈gs))) H):a8C K (.str n) (.ref l) H Q:=
 a6c (.inl h) rfl (W8 _) (by rw[a2U];exact q)
def a1C (gs:List Str):Key→Bool
 | .inr n=>decide (n∈gs)
 |_=>false
theorem O5 {α β:Type}{F:α→β→Prop}{f:α→Bool}{g:β→Bool}(h:∀a b,F a b→f a=g b):∀{l:List α} {m:List β},Paired F l m→Paired F (l.filter f) (m.filter g)
 |_,_,.nil=> .nil
 |a::l,b::m,.cons r t=>by
  have z:=O5 h t
  have e:=h a b r
  cases hb:g b with
  |true=>rw[List.filter_cons_of_pos (by rw[e,hb]),List.filter_cons_of_pos hb];exact .cons r z
  |false=>rw[List.filter_cons_of_neg (by rw[e,hb];simp),List.filter_cons_of_neg (by rw[hb];simp)];exact z
theorem E8 {α β:Type}{f:α→β}{p:α→Bool}{l:List α}(h:(l.map f).Nodup):((l.filter p).map f).Nodup:=h.sublist ((List.filter_sublist).map f)
theorem a8m {ka kb:List (Key×V)}(nd:((ka++kb).map (·.1)).Nodup):J6 ka kb=ka++kb:=a3g nd
theorem a1j {α β:Type}{F:α→β→Prop}:∀{l1 l2:List α} {m1 m2:List β},Paired F l1 m1→Paired F l2 m2→Paired F (l1++l2) (m1++m2)
 |_,_,_,_,.nil,h=>h
 |_,_,_,_,.cons r t,h=> .cons r (a1j t h)
theorem a7N {K:PySem.W.Frag}{H:Hp}{kvs:List (Key×V)}{ts:List (Str×Tie)}(w:TiesIs K H kvs ts)(h:(ts.map (·.1)).Nodup):(kvs.map (·.1)).Nodup:=by
 rw[w.keys,←u8]
 refine List.Pairwise.map _ ?_ h
 exact fun a b h z=>h (Sum.inr.inj z)
theorem E5 {K:PySem.W.Frag}{H:Hp}{d:Addr}{k1 k2:List (Key×V)}{kvs:List (Key×V)}{ts:List (Str×Tie)}(h:H d=some (.dK k1))(w:TiesIs K H kvs ts):TiesIs K (upd H d (.dK k2)) kvs ts:=Paired.imp' (fun _ _ z=>a0R h z) w
theorem b3t {α:Type}{l m:List (Str×α)}(h1:(l.map (·.1)).Nodup)(h2:(m.map (·.1)).Nodup)(h:∀n∈m.map (·.1),n∉l.map (·.1)):((l++m).map (·.1)).Nodup:=by
 rw[List.map_append]
 exact List.nodup_append.mpr ⟨h1,h2,fun a ha b hb e=>h b hb (e▸ha)⟩
theorem N3 {pts:List (Str×Str)}{n:Str}:(q8 (pKV pts) (Sum.inr n:Key)).isSome=decide (n∈pts.map (·.1)):=by
 rw[←J1,Bool.eq_iff_iff,List.any_eq_true,decide_eq_true_eq]
 constructor
 ·rintro⟨kv,hkv,e⟩
  obtain⟨x,hx,rfl⟩:=List.mem_map.mp hkv
  exact List.mem_map.mpr ⟨x,hx,Sum.inr.inj (of_decide_eq_true e)⟩
 ·intro m
  obtain⟨x,hx,rfl⟩:=List.mem_map.mp m
  exact⟨_,List.mem_map.mpr ⟨x,hx,rfl⟩,decide_eq_true rfl⟩
theorem X3 {K:PySem.W.Frag}{H:Hp}{kvs:List (Key×V)}{ts:List (Str×Tie)}{n:Str}(w:TiesIs K H kvs ts):(q8 kvs (Sum.inr n:Key)).isSome=decide (n∈ts.map (·.1)):=by
 by_cases hn:n∈ts.map (·.1)
 ·obtain⟨a,x,h1,_⟩:=TiesIs.val (ts:=ts) w hn
  rw[h1,decide_eq_true hn];rfl
 ·cases e:q8 kvs (Sum.inr n:Key) with
  |none=>simp [hn]
  |some v=>
   have z:=a7C e
   rw[w.keys,←u8] at z
   exact absurd (Z7 z) hn
def TsOk (K:PySem.W.Frag)(H:Hp)(kvq:List (Key×V)):Prop:=∀kv∈kvq,∃x,TieAt K H kv x∧x.1.length≤100
theorem TsOk.mono {K:PySem.W.Frag}{H H':Hp}{kvq:List (Key×V)}(l:Le H H')(h:TsOk K H kvq):TsOk K H' kvq:=fun kv hk=>let ⟨x,e,z⟩:=h kv hk;⟨x,e.mono l,z⟩
theorem TsOk.upd' {K:PySem.W.Frag}{H:Hp}{d:Addr}{k1 k2 kvq:List (Key×V)}(hd:H d=some (.dK k1))(h:TsOk K H kvq):TsOk K (upd H d (.dK k2)) kvq:=fun kv hk=>let ⟨x,e,z⟩:=h kv hk;⟨x,a0R hd e,z⟩
theorem atI_last {α:Type}{xs:List α}(h:0<xs.length):∃v,atI xs (-1)=some v∧v∈xs:=by
 have e:ixN xs.length (-1)=some (xs.length -1):=by
  unfold ixN
  rw[if_neg (by omega),if_pos (by omega)]
  congr 1
  omega
 refine⟨xs[xs.length -1],?_,List.getElem_mem _⟩
 unfold atI
 rw[e]
 show xs[xs.length -1]?=_
 exact List.getElem?_eq_getElem (by omega)
theorem a5f {K:PySem.W.Frag}{H:Hp}{kb:List (Key×V)}:∀{ka:List (Key×V)},(∀kv∈ka,∃y,q8 kb kv.1=some y∧Eq1 K H kv.2 y true)→EqH K H kb ka true
 |[],_=> .nil
 |kv::r,h=>by
  obtain⟨y,h1,h2⟩:=h kv List.mem_cons_self
  exact EqH.hit (e:=true) (b:=true) h1 h2 (a5f fun x hx=>h x (List.mem_cons_of_mem _ hx))
theorem a7B {K:PySem.W.Frag}{H:Hp}(s:Str):Eq1 K H (.str s) (.str s) true:=by
 have z:=Eq1.flat (K:=K) (H:=H) (x:= .str s) (y:= .str s) rfl rfl
 rw[a1A rfl] at z;exact z
theorem b0o {K:PySem.W.Frag}{H:Hp}{a b:Addr}{t:Tie}(h:SqT K H a (Y8 t))(h':SqT K H b (Y8 t)):Eq1 K H (.ref a) (.ref b) true:=by
 have z:=Eq1.tup h h' rfl rfl
 rw[a0L rfl] at z;exact z
theorem a7v {K:PySem.W.Frag}{H:Hp}{p p':Addr}{pts pts':List (Str×Str)}(hne:p≠p')(h1:Rd H p (.dK (pKV pts)))(h2:Rd H p' (.dK (pKV pts')))(pm:pts.Perm pts')(nd:(pts'.map (·.1)).Nodup):EqD K H p p' true:=
 .inr ⟨hne,_,_,true,h1,h2,a5f fun kv hkv=>by
  obtain⟨x,hx,rfl⟩:=List.mem_map.mp hkv
  exact⟨_,P5 nd (pm.mem_iff.mp hx),a7B _⟩,by rw[o0,o0,pm.length_eq];simp⟩
theorem b0H {K:PySem.W.Frag}{H:Hp}{q q':Addr}{kvs kvs':List (Key×V)}{ts ts':List (Str×Tie)}(hne:q≠q')(h1:Rd H q (.dK kvs))(h2:Rd H q' (.dK kvs'))(w:TiesIs K H kvs ts)(w':TiesIs K H kvs' ts')(pm:ts.Perm ts')(nd:(ts'.map (·.1)).Nodup):EqD K H q q' true:=
 .inr ⟨hne,_,_,true,h1,h2,a5f fun kv hkv=>by
  obtain⟨i,hi⟩:=List.getElem?_of_mem hkv
  obtain⟨x,hx,ex,b,eb,sb⟩:=w.get hi
  obtain⟨c,e1,e2⟩:=a1I w' nd (pm.mem_iff.mp (List.mem_of_getElem? hx))
  refine⟨.ref c,by rw[ex];exact e1,?_⟩
  rw[eb];exact b0o sb e2,by rw[w.length,w'.length,pm.length_eq];simp⟩
theorem L9 {K:PySem.W.Frag}{H:Hp}{a d:Addr}{k1:List (Key×V)}{u:HO}{xs:List V}(h:H d=some (.dK k1))(s:SqT K H a xs):SqT K (upd H d u) a xs:=by
 rcases s with s|s
 ·refine .inl ?_
  by_cases z:a=d
  ·subst z
   rcases s with s|⟨_,s⟩<;>(rw[h] at s;cases s)
  ·unfold Rd
   rw[d0 z];exact s
 ·exact .inr s
theorem a2J:∀{kvs:List (Key×V)} {k:Key} {v:V},q8 kvs k=some v→(k,v)∈kvs
 |p::r,k,v,h=>by
  by_cases e:p.1=k
  ·rw[B0 e] at h
   rw[←e,←Option.some.inj h];exact List.mem_cons_self
  ·rw[A9 e] at h
   exact List.mem_cons_of_mem _ (a2J h)
theorem b0t (a b:Tie):T0 (Y8 a) (Y8 b)=decide (a=b):=by
 obtain⟨a1,a2,a3⟩:=a
 obtain⟨b1,b2,b3⟩:=b
 show(a1==b1&&(a2==b2&&(a3==b3&&true)))=_
 rw[Bool.eq_iff_iff]
 simp
theorem a0r (a:Tie):(Y8 a).all w9=true:=rfl
theorem a5q {pts:List (Str×Str)}{n:Str}{v:V}(h:q8 (pKV pts) (Sum.inr n:Key)=some v):∃k,v= .str k∧(n,k)∈pts:=by
 obtain⟨x,hx,e⟩:=List.mem_map.mp (a2J h)
 obtain⟨x1,x2⟩:=x
 have e1:=(Prod.mk.inj e).1
 have e2:=(Prod.mk.inj e).2
 exact⟨x2,e2.symm,by rw[←Sum.inr.inj e1];exact hx⟩
theorem b5K {H:Hp}{Q:VK}{pts:List (Str×Str)}{m k:Str}(nd:(pts.map (·.1)).Nodup)(q:Q (.bl (decide ((m,k)∈pts))) H):a2N K ((q8 (pKV pts) (Sum.inr m:Key)).getD .non) (.str k) H Q:=by
 cases e:q8 (pKV pts) (Sum.inr m:Key) with
 |none=>
  refine a5w (a4E ?_)
  rw[decide_eq_false (fun z=>by rw[P5 nd z] at e;cases e)] at q;exact q
 |some v=>
  obtain⟨k2,rfl,hk⟩:=a5q e
  refine a6e ?_
  have:decide (k2=k)=decide ((m,k)∈pts):=by
   rw[Bool.eq_iff_iff,decide_eq_true_eq,decide_eq_true_eq]
   exact⟨fun z=>z▸hk,fun z=>z8 nd hk z⟩
  rw[this];exact q
theorem b3R {H:Hp}{Q:VK}{kvs:List (Key×V)}{ts:List (Str×Tie)}{m:Str}{y:Tie}{l:Addr}(w:TiesIs K H kvs ts)(nd:(ts.map (·.1)).Nodup)(hl:SqT K H l (Y8 y))(q:Q (.bl (decide ((m,y)∈ts))) H):a2N K ((q8 kvs (Sum.inr m:Key)).getD .non) (.ref l) H Q:=by
 by_cases hm:m∈ts.map (·.1)
 ·obtain⟨a,x,h1,h2,h3⟩:=TiesIs.val (ts:=ts) w hm
  rw[h1]
  refine a5w (a9H h3 hl (a0r _) (a0r _) ?_)
  rw[b0t]
  have:decide (x=y)=decide ((m,y)∈ts):=by
   rw[Bool.eq_iff_iff,decide_eq_true_eq,decide_eq_true_eq]
   exact⟨fun z=>z▸h2,fun z=>z8 nd h2 z⟩
  rw[this];exact q
 ·have e:q8 kvs (Sum.inr m:Key)=none:=by
   have z:=X3 (n:=m) w
   rw[decide_eq_false hm] at z
   cases e:q8 kvs (Sum.inr m:Key) with
   |none=>rfl
   |some v=>rw[e] at z;cases z
  rw[e]
  refine a5w (a4X hl ?_)
  rw[decide_eq_false (fun z=>hm (List.mem_map.mpr ⟨_,z,rfl⟩))] at q;exact q
theorem V8 {W:Web}(h:(i9 W).Nodup):(W.pts.map (·.1)).Nodup:=(List.nodup_append.mp h).1
theorem a1a {W:Web}(h:(i9 W).Nodup):(W.ts.map (·.1)).Nodup:=(List.nodup_append.mp h).2.1
theorem b3i {t:String}(h:t≠"str"):a1c t "str"=false:=by
 unfold a1c
 have e1:(t=="str")=false:=by simpa using h
 rw[e1]
 simp
theorem a3T {f:Addr}{fd:FuncData}(T:Txt K mg)(F:Fun K "is_text_of" "is_text_of" I0 f fd):FnOk P w K mg base CX0 1 f fd ["thing","signs","most"] (V4 K):=by
 refine F.ok sc_is_text_of (fun vs H Q E h=>?_) (fun cdv A outer s H vs Q E hr h=>?_)
 ·obtain⟨v,signs,most,rfl,_⟩:=h
  rfl
 ·obtain⟨v,signs,most,rfl,h⟩:=h
  have hN:=sc_is_text_of.nd
  have hu:=u9 hr
  refine⟨_,QSs.r (qsC (qIf (qtW (a1q (a0k (a0h K (qB (a2R K P w) T.b_isinstance Boot.«isinstance» (qa1 (qV 0) (qa1 (qTy "str" T.b_str Boot.«str») qa0))))) (a1q (p8 a7e (qB (A3 K P w) T.b_len Boot.«len» (qa1 (qV 0) qa0)) i6 (u7 _)) (a0i (p8 a9R (qB (A3 K P w) T.b_len Boot.«len» (qa1 (qV 0) qa0)) (qV 2) (u7 _)))))) (qs1 (v0 qBl)) qs0)
   (qs1 (v0 (qB (b0n K rfl) T.b_all Boot.«all» (qa1 (O6 (own:=["sign"]) (js:=[1]) (by kernel_rfl) rfl (a0m K (qV 0)) (fun _ _ _ _=>(qgN (i:=0) (show List.Nodup (["sign","signs"]:List Str) by decide+kernel) rfl (by walk_at "l"))) (fun _ _ _ _=>a1l) (fun _ _ _ _=>(a5b (kIn K hu) (qV 0) (qV 1) (by rfl)))) qa0))))),?_⟩
  rcases h with⟨x,rfl,hx,k⟩|⟨⟨t,ty,ht⟩,k⟩
  ·walk_at "r"
   refine a1v (a1S (t:="str") rfl (by simp) ?_)
   walk_at "r"
   rw[if_neg (by decide)]
   walk_at "r"
   refine A4 (a0P (i8 hx) ?_)
   walk_at "r"
   refine P6 (fun h1=>?_) (fun h1=>?_)
   ·walk_at "r"
    have e:K7 x signs most=false:=by
     unfold K7
     rw[decide_eq_false (by omega)];rfl
    rw[←e];exact k H (Same.refl H)
   ·walk_at "r"
    refine A4 (a0P (i8 hx) ?_)
    walk_at "r"
    refine P6 (fun h2=>?_) (fun h2=>?_)
    ·walk_at "r"
     have e:K7 x signs most=false:=by
      unfold K7
      rw[decide_eq_false (show ¬((x.length:Int)≤most) by omega)];simp
     rw[←e];exact k H (Same.refl H)
    ·walk_at "r"
     refine z5 (n:=x.cps.size) (fun i out H'=>H'=H∧out=(x.cps.toList.take i).map fun c=>V.bl (decide (c∈signs.cps.toList))) ⟨rfl,rfl⟩ (fun i out H' hi _=>by exact hi) ?_ ?_
     ·rintro N i v out H1 H2 hi ⟨rfl,rfl⟩ y hN
      obtain⟨rfl,c,hc,rfl⟩:=Its.lt y
      walk_at "r"
      refine⟨rfl,?_⟩
      walk_at "r"
      refine⟨i8 (by rw[List.length_map,List.length_take,←a1u];omega),hN _ _ ⟨rfl,?_⟩⟩
      exact C7 (fun c=>V.bl (decide (c∈signs.cps.toList))) hc
     ·rintro out H1 ⟨rfl,rfl⟩
      refine⟨Nat.le_refl _,fun D hD=>⟨i8 (by rw[List.length_map,List.length_take,←a1u];omega),?_⟩⟩
      walk_at "r"
      refine a5x (bs:=x.cps.toList.map fun c=>decide (c∈signs.cps.toList)) (SqL.of ?_) ?_
      ·show upd H1 D _ D=_
       rw[i7,List.take_of_length_le (by simp),List.map_map];rfl
      ·have e:K7 x signs most=(x.cps.toList.map fun c=>decide (c∈signs.cps.toList)).all id:=by
        unfold K7 a5L
        rw[decide_eq_true (show 1≤(x.length:Int) by omega),decide_eq_true (show(x.length:Int)≤most by omega),List.all_map];rfl
       rw[←e]
       exact k _ fun b o q=>by
        show upd H1 D _ b=_
        rw[d0 (g0 q hD)];exact q
  ·walk_at "r"
   refine a1v (a1S ty (by simp) ?_)
   rw[b3i ht]
   walk_at "r"
   exact k H (Same.refl H)
theorem b0V {x:Str}(h:1≤(x.length:Int)):atI x.cps.toList 0=some (x.cps.toList.headD 0):=by
 refine b8 (j:=0) ?_
 have hl:=a1u x
 cases e:x.cps.toList with
 |nil=>rw[e] at hl;simp at hl;omega
 |cons c r=>rfl
theorem a6W {f:Addr}{fd:FuncData}(T:Txt K mg)(Y9:Cal P w K mg base CX0 1 "is_text_of" ["thing","signs","most"] [] (V4 K))(F:Fun K "is_name" "is_name" Q4 f fd):FnOk P w K mg base CX0 2 f fd ["thing"] (a1s K):=by
 refine F.ok sc_is_name (fun vs H Q E h=>?_) (fun cdv A outer s H vs Q E hr h=>?_)
 ·obtain⟨v,rfl,_⟩:=h
  rfl
 ·obtain⟨v,rfl,h⟩:=h
  have hN:=sc_is_name.nd
  have hu:=u9 hr
  refine⟨_,QSs.r (qs1 (v0 (b6N (qC Y9 (hr.mono (by decide)) p0 (qa1 (qV 0) (qa1 (qGl T.c_NAME_SIGNS) (qa1 (qGl T.c_MOST_NAME_SIGNS) qa0)))) (b5i (a5b (kIn K hu) (qIx (kIx K hu) (qV 0) i6 (fun _ _=>rfl)) (qGl T.c_SMALL_LETTERS) (by rfl)))))),?_⟩
  walk_at "r"
  refine⟨v,_,_,rfl,?_⟩
  rcases h with⟨x,rfl,hx,k⟩|⟨no,k⟩
  ·refine .inl ⟨x,rfl,hx,fun H' sm=>?_⟩
   walk_at "r"
   refine a4P (fun e=>?_) (fun e=>?_)
   ·walk_at "r"
    have h1:1≤(x.length:Int):=by
     unfold K7 at e
     simp only[Bool.and_eq_true,decide_eq_true_eq] at e
     exact e.1.1
    refine Y5 (i8 hx) (b0V h1) ?_
    walk_at "r"
    have e2:O9 x=hdB x kSL:=by
     unfold O9
     rw[show K7 x kNS 24=true from e,Bool.true_and]
    have q:=k H' sm
    rw[e2] at q
    exact q
   ·have e2:O9 x=false:=by
     unfold O9
     rw[show K7 x kNS 24=false from e,Bool.false_and]
    have q:=k H' sm
    rw[e2] at q
    exact q
  ·refine .inr ⟨no,fun H' sm=>?_⟩
   walk_at "r"
   exact k H' sm--SPLIT
def ltP (a b:Str):Prop:=a.cps.toList<b.cps.toList
theorem a2M:∀{ss:List Str},a9K ss=true→ss.Pairwise ltP
 |[],_=> .nil
 |[_],_=>List.pairwise_singleton _ _
 |x::y::r,h=>by
  rw[a4g,Bool.and_eq_true] at h
  have ih:=a2M h.2
  have hxy:x.cps.toList<y.cps.toList:=of_decide_eq_true h.1
  refine List.pairwise_cons.mpr ⟨fun z hz=>?_,ih⟩
  rcases List.mem_cons.mp hz with e|e
  ·rw[e];exact hxy
  ·exact List.lt_trans hxy ((List.pairwise_cons.mp ih).1 z e)
structure Ordr (W:Web) (s1 s2:List Str):Prop where
 p1:s1.Perm (W.pts.map (·.1))
 p2:s2.Perm (W.ts.map (·.1))
 o1:sortedS s1=true
 o2:sortedS s2=true
theorem Ordr.mem {W:Web}{s1 s2:List Str}(h:Ordr W s1 s2){n:Str}:n∈s1++s2↔n∈i9 W:=by
 unfold i9
 rw[List.mem_append,List.mem_append,h.p1.mem_iff,h.p2.mem_iff]
theorem Ordr.perm {W:Web}{s1 s2:List Str}(h:Ordr W s1 s2):(s1++s2).Perm (i9 W):=h.p1.append h.p2
theorem Ordr.len {W:Web}{s1 s2:List Str}(h:Ordr W s1 s2):(s1++s2).length=(i9 W).length:=h.perm.length_eq
def j6 (kvm:List (Key×V))(n:Str):Str:=match q8 kvm (Sum.inr n:Key) with
 |some (.str s)=>s
 |_=>""
theorem a7E {kvm:List (Key×V)}{n s:Str}(h:q8 kvm (Sum.inr n:Key)=some (.str s)):j6 kvm n=s:=by unfold j6;rw[h]
def TxtAt (kvm:List (Key×V))(n:Str):Prop:=∃s,q8 kvm (Sum.inr n:Key)=some (.str s)
theorem TxtAt.at_ {kvm:List (Key×V)}{n:Str}(h:TxtAt kvm n):q8 kvm (Sum.inr n:Key)=some (.str (j6 kvm n)):=by
 obtain⟨s,hs⟩:=h
 rw[a7E hs];exact hs
theorem ixd {H:Hp}{Q:VK}{d:Addr}{kvm:List (Key×V)}{n:Str}(hD:Rd H d (.dK kvm))(h:TxtAt kvm n)(q:Q (.str (j6 kvm n)) H):a6o K (.ref d) (.str n) H Q:=
 w5 (by have z:=D4 (k:=Sum.inr n) hD;rw[h.at_] at z;exact z) q
def N4 (K:PySem.W.Frag):Sp:=fun vs H Q _=>∃(a p q:Addr) (kvs:List (Key×V)) (W:Web),vs=[.ref a]∧WebAt K H a p q kvs W∧(i9 W).length≤60∧∀(l:Addr) (H':Hp) (s1 s2:List Str),H l=none→Same H H'→H' l=some (.lst ((s1++s2).map V.str))→Ordr W s1 s2→Q (.ref l) H'
theorem J3 (W:Web):(i9 W).length=W.pts.length+W.ts.length:=by unfold i9;rw[List.length_append,List.length_map,List.length_map]
theorem a7Y {f:Addr}{fd:FuncData}(T:Txt K mg)(F:Fun K "things" "things" W0 f fd):FnOk P w K mg base CX0 1 f fd ["web"] (N4 K):=by
 refine F.ok sc_things (fun vs H Q E h=>?_) (fun cdv A outer s H vs Q E hr h=>?_)
 ·obtain⟨a,p,q,kvs,W,rfl,_⟩:=h
  rfl
 ·obtain⟨a,p,q,kvs,W,rfl,hW,h1,k⟩:=h
  rw[J3] at h1
  have hN:=sc_things.nd
  have hu:=u9 hr
  refine⟨_,QSs.r (qs1 (v0 (qOp (A5 K) (qB (O1 K rfl) T.b_sorted Boot.«sorted» (qa1 (qIx (kIx K hu) (qV 0) i6 (fun _ _=>rfl)) qa0)) (qB (O1 K rfl) T.b_sorted Boot.«sorted» (qa1 (qIx (kIx K hu) (qV 0) i6 (fun _ _=>rfl)) qa0))))),?_⟩
  walk_at "r"
  refine b6 hW.tup (b8 (j:=0) rfl) ?_
  walk_at "r"
  refine w4 (ss:=W.pts.map (·.1)) hW.pts (by rw[E2,u8]) (by rw[List.length_map];omega) (fun s1 a1 a2 l1 n1=>?_)
  obtain⟨H1,e1,f1,m1,_⟩:=d9 (o:= .lst _) n1
  rw[e1]
  have W1:=hW.mono m1.le
  walk_at "r"
  refine b6 W1.tup (b8 (j:=1) rfl) ?_
  walk_at "r"
  refine w4 (ss:=W.ts.map (·.1)) W1.ties (by rw[W1.ts.keys,u8]) (by rw[List.length_map];omega) (fun s2 b1 b2 l2 n2=>?_)
  obtain⟨H2,e2,f2,m2,_⟩:=d9 (o:= .lst _) n2
  rw[e2]
  have g1:=a1.length_eq
  have g2:=b1.length_eq
  rw[List.length_map] at g1 g2
  refine a5K (m2 _ _ f1) f2 (i8 (by rw[List.length_map,List.length_map];omega)) (fun l3 n3=>?_)
  obtain⟨H3,e3,f3,m3,_⟩:=d9 (o:= .lst _) n3
  rw[e3]
  refine k l3 H3 s1 s2 (m1.free (m2.free n3)) (m1.trans (m2.trans m3)) ?_ ⟨a1,b1,a2,b2⟩
  rw[f3,List.map_append]
def a0F (K:PySem.W.Frag):Sp:=fun vs H Q _=>∃(d:Addr) (kvs:List (Key×V)) (ss:List Str),vs=[.ref d]∧Rd H d (.dK kvs)∧kvs.map (·.1)=ss.map Sum.inr∧ss.Nodup∧ss.length≤60∧∀(l:Addr) (H':Hp) (kvs':List (Key×V)),H l=none→Same H H'→H' l=some (.dK kvs')→kvs'.Perm kvs→Q (.ref l) H'
def NewP (K:PySem.W.Frag)(H:Hp)(Q:VK)(W:Web):Prop:=∀(a p q:Addr) (kvs:List (Key×V)) (W':Web) (H':Hp),Same H H'→WebAt K H' a p q kvs W'→H' p=some (.dK (pKV W'.pts))→H' q=some (.dK kvs)→p≠q→H p=none→H q=none→W'.pts.Perm W.pts→W'.ts.Perm W.ts→Q (.ref a) H'
def X9 (K:PySem.W.Frag):Sp:=fun vs H Q _=>∃(a p q:Addr) (kvs:List (Key×V)) (W:Web),vs=[.ref a]∧WebAt K H a p q kvs W∧(W.pts.map (·.1)).Nodup∧(W.ts.map (·.1)).Nodup∧W.pts.length≤60∧W.ts.length≤60∧NewP K H Q W
theorem a6s {f:Addr}{fd:FuncData}(T:Txt K mg)(F:Fun K "in_order" "in_order" N6 f fd):FnOk P w K mg base CX0 1 f fd ["named"] (a0F K):=by
 refine F.ok sc_in_order (fun vs H Q E h=>?_) (fun cdv A outer s H vs Q E hr h=>?_)
 ·obtain⟨d,kvs,ss,rfl,_⟩:=h
  rfl
 ·obtain⟨d,kvs,ss,rfl,hd,hk,hnd,hl,k⟩:=h
  have nd:(kvs.map (·.1)).Nodup:=by
   rw[hk]
   refine List.Pairwise.map _ ?_ hnd
   exact fun a b h z=>h (Sum.inr.inj z)
  have hN:=sc_in_order.nd
  have hu:=u9 hr
  refine⟨_,QSs.r (qs1 (v0 (qBT (V9 K rfl) T.b_dict Boot.«dict» (qa1 (O6 (own:=["name"]) (js:=[0]) (by kernel_rfl) rfl (a0m K (qB (O1 K rfl) T.b_sorted Boot.«sorted» (qa1 (qV 0) qa0))) (fun _ _ _ _=>(qgN (i:=0) (show List.Nodup (["name","named"]:List Str) by decide+kernel) rfl (by walk_at "l"))) (fun _ _ _ _=>a1l) (fun _ _ _ _=>(L5 (qa1 (qV 0) (qa1 (qIx (kIx K hu) (qV 1) (qV 0) (fun _ _=>rfl)) qa0))))) qa0)))),?_⟩
  walk_at "r"
  refine w4 (ss:=ss) hd hk (by omega) (fun s1 a1 a2 l1 n1=>?_)
  obtain⟨H1,e1,f1,m1,_⟩:=d9 (o:= .lst _) n1
  rw[e1]
  have hd1:=m1.rd hd
  have hl1:=a1.length_eq
  refine B4 (SqL.of f1) ?_
  refine z5 (n:=s1.length) (fun i out H'=>Same H1 H'∧Paired (PrV K H') out ((s1.take i).map fun s=>(Sum.inr s,(q8 kvs (Sum.inr s:Key)).getD .non))) ⟨Same.refl _,.nil⟩ (fun i out H' hi hp=>⟨_,.str (s1[i]),SqL.of (hp.1 _ _ f1),by rw[List.getElem?_map,List.getElem?_eq_getElem hi];rfl⟩) ?_ ?_
  ·rintro N i v out H2 H3 hi ⟨s2,pr⟩ y hN'
   obtain⟨rfl,hx⟩:=Itl.get y (SqL.of (s2 _ _ f1))
   rw[List.getElem?_map] at hx
   obtain⟨x,hx',rfl⟩:=Option.map_eq_some_iff.mp hx
   have hxk:(Sum.inr x:Key)∈kvs.map (·.1):=by
    rw[hk];exact List.mem_map.mpr ⟨x,a1.mem_iff.mp (List.mem_of_getElem? hx'),rfl⟩
   obtain⟨kv,hkv,ekv⟩:=List.mem_map.mp hxk
   have ev:=a0W nd hkv
   rw[ekv] at ev
   have e7:s1.take (i+1)=s1.take i++[x]:=by rw[List.take_succ,hx'];rfl
   walk_at "r"
   refine⟨rfl,?_⟩
   walk_at "r"
   refine w5 (v:=kv.2) (by have z':=D4 (k:=Sum.inr x) (s2.rd hd1);rw[ev] at z';exact z') ?_
   walk_at "r"
   refine⟨i8 (by simp),fun t nt=>?_⟩
   obtain⟨H4,e4,f4,m4,_⟩:=d9 (o:= .tup _) nt
   rw[e4]
   have hol:=Paired.length pr
   rw[List.length_map,List.length_take] at hol
   refine⟨i8 (by omega),hN' _ _ ⟨s2.trans m4,?_⟩⟩
   rw[e7,List.map_append]
   refine z7 (Paired.imp' (fun _ _ z=>PrV.mono m4.le z) pr) ⟨t,rfl,?_⟩
   show SqT K _ t [V.str x,(q8 kvs (Sum.inr x:Key)).getD V.non]
   rw[ev]
   exact SqT.of f4
  ·rintro out H2 ⟨s2,pr⟩
   have hol:=Paired.length pr
   rw[List.length_map,List.length_take] at hol
   refine⟨⟨_,SqL.of (s2 _ _ f1),by rw[List.length_map];exact Nat.le_refl _⟩,fun D hD=>⟨i8 (by omega),?_⟩⟩
   obtain⟨H5,e5,f5,m5,_⟩:=d9 (o:= .lst out) hD
   show b1m _ (upd _ D _) _
   rw[e5]
   walk_at "r"
   rw[List.take_of_length_le (Nat.le_refl _)] at pr
   refine N7 (SqL.of f5) (Paired.imp' (fun _ _ z=>PrV.mono m5.le z) pr) (i8 (by rw[List.length_map];omega)) (fun l nl=>?_)
   obtain⟨H6,e6,f6,m6,_⟩:=d9 (o:= .dK _) nl
   rw[e6]
   have mA:=m1.trans (s2.trans (m5.trans m6))
   have hperm:(s1.map fun s=>((Sum.inr s:Key),(q8 kvs (Sum.inr s:Key)).getD V.non)).Perm kvs:=by
    refine List.Perm.trans (a1.map _) ?_
    rw[←b3y hk nd]
   rw[Y2 ((hperm.map _).nodup_iff.mpr nd)] at f6
   exact k l H6 _ ((m1.trans (s2.trans m5)).free nl) mA f6 hperm
theorem a8W {f:Addr}{fd:FuncData}(T:Txt K mg)(Z0:Cal P w K mg base CX0 1 "in_order" ["named"] [] (a0F K))(F:Fun K "copied" "copied" X1 f fd):FnOk P w K mg base CX0 2 f fd ["web"] (X9 K):=by
 refine F.ok sc_copied (fun vs H Q E h=>?_) (fun cdv A outer s H vs Q E hr h=>?_)
 ·obtain⟨a,p,q,kvs,W,rfl,_⟩:=h
  rfl
 ·obtain⟨a,p,q,kvs,W,rfl,hW,d1,d2,l1,l2,k⟩:=h
  have hN:=sc_copied.nd
  have hu:=u9 hr
  refine⟨_,QSs.r (qs1 (v0 (L5 (qa1 (qC Z0 (hr.mono (by decide)) p0 (qa1 (qIx (kIx K hu) (qV 0) i6 (fun _ _=>rfl)) qa0)) (qa1 (qC Z0 (hr.mono (by decide)) p0 (qa1 (qIx (kIx K hu) (qV 0) i6 (fun _ _=>rfl)) qa0)) qa0))))),?_⟩
  walk_at "r"
  refine b6 hW.tup (b8 (j:=0) rfl) ?_
  walk_at "r"
  refine⟨p,pKV W.pts,W.pts.map (·.1),rfl,hW.pts,by rw[E2,u8],d1,by rw[List.length_map];exact l1,fun p' H1 kp np' m1 f1 pm1=>?_⟩
  have W1:=hW.mono m1.le
  walk_at "r"
  refine b6 W1.tup (b8 (j:=1) rfl) ?_
  walk_at "r"
  refine⟨q,kvs,W.ts.map (·.1),rfl,W1.ties,by rw[W1.ts.keys,u8],d2,by rw[List.length_map];exact l2,fun q' H2 kq nq' m2 f2 pm2=>?_⟩
  walk_at "r"
  refine⟨i8 (by simp),fun l9 n9=>?_⟩
  obtain⟨H9,e9,f9,m9,_⟩:=d9 (o:= .tup _) n9
  rw[e9]
  obtain⟨pts',rfl,pp⟩:=a9k pm1
  have W2:=hW.mono (m1.trans (m2.trans m9)).le
  obtain⟨ts',w',pt⟩:=U2 pm2 W2.ts
  have g1:=m9 _ _ (m2 _ _ f1)
  have g2:=m9 _ _ f2
  exact k l9 p' q' kq ⟨pts',ts'⟩ H9 (m1.trans (m2.trans m9)) ⟨SqT.of f9,.inl g1,.inl g2,w'⟩ g1 g2 (g0 f1 nq') np' (m1.free nq') pp pt
structure a5G (W:Web):Prop where
 nm:∀x∈i9 W,O9 x=true
 kd:∀x∈W.pts,B1 x.2=true
 tk:∀x∈W.ts,B1 x.2.1=true
theorem a2m {x s:Str}{m:Int}(h:K7 x s m=true):(x.length:Int)≤m:=by
 unfold K7 at h
 simp only[Bool.and_eq_true,decide_eq_true_eq] at h
 exact h.1.2
theorem b0U {x:Str}(h:O9 x=true):x.length≤1000:=by
 unfold O9 at h
 have:=a2m (Bool.and_eq_true _ _▸h).1
 omega
theorem a9O:a1c "dict" "dict"=true:=rfl--SPLIT
structure PieceW (m:Nat) (W:Web):Prop where
 good:a5G W
 kds:∀n∈i9 W,B1 n=true
 l1:W.pts.length≤m
 l2:W.ts.length≤m
def a5p (K:PySem.W.Frag):Sp:=fun vs H Q _=>∃(a p q a' p' q':Addr) (kvs kvs':List (Key×V)) (W O:Web),vs=[.ref a,.ref a']∧WebIs 24 K H a p q kvs W∧WebIs 24 K H a' p' q' kvs' O∧∀(l:Addr) (H':Hp) (s1 s2:List Str),H l=none→Same H H'→Ordr W s1 s2→H' l=some (.lst (((s1++s2).filter fun n=>decide (n∈i9 O)).map V.str))→Q (.ref l) H'
def a1J (K:PySem.W.Frag):Sp:=fun vs H Q _=>∃(a p q a' p' q':Addr) (kvs kvs':List (Key×V)) (W O:Web),vs=[.ref a,.ref a']∧WebIs 24 K H a p q kvs W∧WebIs 24 K H a' p' q' kvs' O∧∀(l:Addr) (H':Hp) (s1 s2:List Str),H l=none→Same H H'→Ordr W s1 s2→H' l=some (.lst (((s1++s2).filter fun n=>!decide (n∈i9 O)).map V.str))→Q (.ref l) H'
theorem b1V (n:Nat):(List.replicate n true).all id=true:=by rw[List.all_eq_true];intro b hb;exact(List.mem_replicate.mp hb).2--SPLIT
theorem b2a {f:Addr}{fd:FuncData}(T:Txt K mg)(A1:Cal P w K mg base CX0 1 "things" ["web"] [] (N4 K))(F:Fun K "both" "both" a1X f fd):FnOk P w K mg base CX0 2 f fd ["web","other"] (a5p K):=by
 refine F.ok sc_both (fun vs H Q E h=>?_) (fun cdv A outer s H vs Q E hr h=>?_)
 ·obtain⟨a,p,q,a',p',q',kvs,kvs',W,O,rfl,_⟩:=h
  rfl
 ·obtain⟨a,p,q,a',p',q',kvs,kvs',W,O,rfl,hW,hO,k⟩:=h
  have hWl:=hW.len
  have hN:=sc_both.nd
  have hu:=u9 hr
  refine⟨_,QSs.r (qs1 (v0 (O6 (own:=["name"]) (js:=[1]) (by kernel_rfl) rfl (a0m K (qC A1 (hr.mono (by decide)) p0 (qa1 (qV 0) qa0))) (fun _ _ _ _=>(qgN (i:=0) (show List.Nodup (["name","other"]:List Str) by decide+kernel) rfl (by walk_at "l"))) (fun _ _ _ _=>(b0v (qtW (a1q (p8 (kIn K hu) (qV 0) (qIx (kIx K hu) (qV 1) i6 (fun _ _=>rfl)) (by rfl)) (a0i (p8 (kIn K hu) (qV 0) (qIx (kIx K hu) (qV 1) i6 (fun _ _=>rfl)) (by rfl))))))) (fun _ _ _ _=>(qV 0))))),?_⟩
  walk_at "r"
  refine⟨a,p,q,kvs,W,rfl,hW.at_,by omega,fun l1 H1 s1 s2 n1 m1 f1 or=>?_⟩
  have hlen:=or.len
  refine B4 (SqL.of f1) ?_
  refine z5 (n:=(s1++s2).length) (fun i out H'=>Same H1 H'∧out=(((s1++s2).take i).filter fun n=>decide (n∈i9 O)).map V.str) ⟨Same.refl _,rfl⟩ (fun i out H' hi hp=>⟨_,.str ((s1++s2)[i]),SqL.of (hp.1 _ _ f1),by rw[List.getElem?_map,List.getElem?_eq_getElem hi];rfl⟩) ?_ ?_
  ·rintro N i v out H3' H3 hi ⟨s3,rfl⟩ y hN'
   obtain⟨rfl,hx⟩:=Itl.get y (SqL.of (s3 _ _ f1))
   rw[List.getElem?_map,List.getElem?_eq_getElem hi] at hx
   cases hx
   have O3:=hO.at_.mono (m1.trans s3).le
   have e7:(s1++s2).take (i+1)=(s1++s2).take i++[(s1++s2)[i]]:=by rw[List.take_succ,List.getElem?_eq_getElem hi];rfl
   have hfl:=List.length_filter_le (fun n=>decide (n∈i9 O)) ((s1++s2).take i)
   rw[List.length_take] at hfl
   have yes:(decide ((s1++s2)[i]∈i9 O))=true→((((s1++s2).take i).filter fun n=>decide (n∈i9 O)).map V.str).length≤sizeLine∧N ((((s1++s2).take i).filter fun n=>decide (n∈i9 O)).map V.str++[V.str (s1++s2)[i]]) H3:=fun hb=>by
    refine⟨i8 (by rw[List.length_map];omega),hN' _ _ ⟨s3,?_⟩⟩
    rw[e7,List.filter_append,List.filter_cons_of_pos (p:=fun n=>decide (n∈i9 O)) hb,List.filter_nil,List.map_append];rfl
   have no:(decide ((s1++s2)[i]∈i9 O))=false→N ((((s1++s2).take i).filter fun n=>decide (n∈i9 O)).map V.str) H3:=fun hb=>by
    refine hN' _ _ ⟨s3,?_⟩
    rw[e7,List.filter_append,List.filter_cons_of_neg (p:=fun n=>decide (n∈i9 O)) (by rw[hb];simp),List.filter_nil,List.append_nil]
   walk_at "r"
   refine⟨rfl,?_⟩
   walk_at "r"
   refine b6 O3.tup (b8 (j:=0) rfl) ?_
   refine R8 (D4 (k:=Sum.inr (s1++s2)[i]) O3.pts) ?_
   rw[N3]
   walk_at "r"
   refine P6 (fun b1=>?_) (fun b1=>?_)
   ·walk_at "r"
    refine yes (by rw[decide_eq_true (show(s1++s2)[i]∈i9 O from List.mem_append_left _ b1)])
   ·walk_at "r"
    refine b6 O3.tup (b8 (j:=1) rfl) ?_
    refine R8 (D4 (k:=Sum.inr (s1++s2)[i]) O3.ties) ?_
    rw[X3 O3.ts]
    walk_at "r"
    refine P6 (fun b2=>?_) (fun b2=>?_)
    ·walk_at "r"
     refine yes (by rw[decide_eq_true (show(s1++s2)[i]∈i9 O from List.mem_append_right _ b2)])
    ·exact no (by rw[decide_eq_false (show(s1++s2)[i]∉i9 O from fun z=>(List.mem_append.mp z).elim b1 b2)])
  ·rintro out H3 ⟨s3,rfl⟩
   have hfl:=List.length_filter_le (fun n=>decide (n∈i9 O)) ((s1++s2).take (s1++s2).length)
   rw[List.length_take] at hfl
   refine⟨⟨_,SqL.of (s3 _ _ f1),by rw[List.length_map];exact Nat.le_refl _⟩,fun D hD=>⟨i8 (by rw[List.length_map];omega),?_⟩⟩
   rw[List.take_of_length_le (Nat.le_refl _)]
   obtain⟨H4,e4,f4,m4,_⟩:=d9 (H:=H3) (o:= .lst (((s1++s2).filter fun n=>decide (n∈i9 O)).map V.str)) hD
   refine k D _ s1 s2 ((m1.trans s3).free hD) ?_ or ?_
   ·show Same _ (upd _ D _)
    rw[e4];exact m1.trans (s3.trans m4)
   ·show upd _ D _ D=_
    rw[i7]
theorem b0w {f:Addr}{fd:FuncData}(T:Txt K mg)(A1:Cal P w K mg base CX0 1 "things" ["web"] [] (N4 K))(F:Fun K "alone" "alone" a0V f fd):FnOk P w K mg base CX0 2 f fd ["web","other"] (a1J K):=by
 refine F.ok sc_alone (fun vs H Q E h=>?_) (fun cdv A outer s H vs Q E hr h=>?_)
 ·obtain⟨a,p,q,a',p',q',kvs,kvs',W,O,rfl,_⟩:=h
  rfl
 ·obtain⟨a,p,q,a',p',q',kvs,kvs',W,O,rfl,hW,hO,k⟩:=h
  have hWl:=hW.len
  have hN:=sc_alone.nd
  have hu:=u9 hr
  refine⟨_,QSs.r (qs1 (v0 (O6 (own:=["name"]) (js:=[1]) (by kernel_rfl) rfl (a0m K (qC A1 (hr.mono (by decide)) p0 (qa1 (qV 0) qa0))) (fun _ _ _ _=>(qgN (i:=0) (show List.Nodup (["name","other"]:List Str) by decide+kernel) rfl (by walk_at "l"))) (fun _ _ _ _=>(b0v (qtW (a1O (p8 (Q8 K hu) (qV 0) (qIx (kIx K hu) (qV 1) i6 (fun _ _=>rfl)) (by rfl)) (a1i (p8 (Q8 K hu) (qV 0) (qIx (kIx K hu) (qV 1) i6 (fun _ _=>rfl)) (by rfl))))))) (fun _ _ _ _=>(qV 0))))),?_⟩
  walk_at "r"
  refine⟨a,p,q,kvs,W,rfl,hW.at_,by omega,fun l1 H1 s1 s2 n1 m1 f1 or=>?_⟩
  have hlen:=or.len
  refine B4 (SqL.of f1) ?_
  refine z5 (n:=(s1++s2).length) (fun i out H'=>Same H1 H'∧out=(((s1++s2).take i).filter fun n=>!decide (n∈i9 O)).map V.str) ⟨Same.refl _,rfl⟩ (fun i out H' hi hp=>⟨_,.str ((s1++s2)[i]),SqL.of (hp.1 _ _ f1),by rw[List.getElem?_map,List.getElem?_eq_getElem hi];rfl⟩) ?_ ?_
  ·rintro N i v out H3' H3 hi ⟨s3,rfl⟩ y hN'
   obtain⟨rfl,hx⟩:=Itl.get y (SqL.of (s3 _ _ f1))
   rw[List.getElem?_map,List.getElem?_eq_getElem hi] at hx
   cases hx
   have O3:=hO.at_.mono (m1.trans s3).le
   have e7:(s1++s2).take (i+1)=(s1++s2).take i++[(s1++s2)[i]]:=by rw[List.take_succ,List.getElem?_eq_getElem hi];rfl
   have hfl:=List.length_filter_le (fun n=>!decide (n∈i9 O)) ((s1++s2).take i)
   rw[List.length_take] at hfl
   have yes:(!decide ((s1++s2)[i]∈i9 O))=true→((((s1++s2).take i).filter fun n=>!decide (n∈i9 O)).map V.str).length≤sizeLine∧N ((((s1++s2).take i).filter fun n=>!decide (n∈i9 O)).map V.str++[V.str (s1++s2)[i]]) H3:=fun hb=>by
    refine⟨i8 (by rw[List.length_map];omega),hN' _ _ ⟨s3,?_⟩⟩
    rw[e7,List.filter_append,List.filter_cons_of_pos (p:=fun n=>!decide (n∈i9 O)) hb,List.filter_nil,List.map_append];rfl
   have no:(!decide ((s1++s2)[i]∈i9 O))=false→N ((((s1++s2).take i).filter fun n=>!decide (n∈i9 O)).map V.str) H3:=fun hb=>by
    refine hN' _ _ ⟨s3,?_⟩
    rw[e7,List.filter_append,List.filter_cons_of_neg (p:=fun n=>!decide (n∈i9 O)) (by rw[hb];simp),List.filter_nil,List.append_nil]
   walk_at "r"
   refine⟨rfl,?_⟩
   walk_at "r"
   refine b6 O3.tup (b8 (j:=0) rfl) ?_
   refine P1 (D4 (k:=Sum.inr (s1++s2)[i]) O3.pts) ?_
   rw[N3]
   walk_at "r"
   refine P2 (fun b1=>?_) (fun b1=>?_)
   ·walk_at "r"
    refine b6 O3.tup (b8 (j:=1) rfl) ?_
    refine P1 (D4 (k:=Sum.inr (s1++s2)[i]) O3.ties) ?_
    rw[X3 O3.ts]
    walk_at "r"
    refine P2 (fun b2=>?_) (fun b2=>?_)
    ·walk_at "r"
     refine yes (by rw[decide_eq_false (show(s1++s2)[i]∉i9 O from fun z=>(List.mem_append.mp z).elim b1 b2)];rfl)
    ·exact no (by rw[decide_eq_true (show(s1++s2)[i]∈i9 O from List.mem_append_right _ b2)];rfl)
   ·exact no (by rw[decide_eq_true (show(s1++s2)[i]∈i9 O from List.mem_append_left _ b1)];rfl)
  ·rintro out H3 ⟨s3,rfl⟩
   have hfl:=List.length_filter_le (fun n=>!decide (n∈i9 O)) ((s1++s2).take (s1++s2).length)
   rw[List.length_take] at hfl
   refine⟨⟨_,SqL.of (s3 _ _ f1),by rw[List.length_map];exact Nat.le_refl _⟩,fun D hD=>⟨i8 (by rw[List.length_map];omega),?_⟩⟩
   rw[List.take_of_length_le (Nat.le_refl _)]
   obtain⟨H4,e4,f4,m4,_⟩:=d9 (H:=H3) (o:= .lst (((s1++s2).filter fun n=>!decide (n∈i9 O)).map V.str)) hD
   refine k D _ s1 s2 ((m1.trans s3).free hD) ?_ or ?_
   ·show Same _ (upd _ D _)
    rw[e4];exact m1.trans (s3.trans m4)
   ·show upd _ D _ D=_
    rw[i7]
structure Sd where
 a:Addr
 p:Addr
 q:Addr
 kvs:List (Key×V)
 W:Web
def SdIs (K:PySem.W.Frag)(H:Hp)(s:Sd):Prop:=WebIs 24 K H s.a s.p s.q s.kvs s.W
theorem SdIs.same {H H':Hp}{s:Sd}(h:SdIs K H s)(m:Same H H'):SdIs K H' s:=WebIs.same h m
structure RuleIs (K:PySem.W.Frag) (H:Hp) (r bl:Addr) (L R:Sd) (bs:List Sd):Prop where
 tup:SqT K H r [.ref L.a,.ref R.a,.ref bl]
 l:SdIs K H L
 r:SdIs K H R
 bl:SqL K H bl (bs.map fun s=>V.ref s.a)
 bars:∀b∈bs,SdIs K H b
theorem RuleIs.same {H H':Hp}{r bl:Addr}{L R:Sd}{bs:List Sd}(h:RuleIs K H r bl L R bs)(m:Same H H'):RuleIs K H' r bl L R bs:=⟨m.tup h.tup,h.l.same m,h.r.same m,m.seq h.bl,fun b hb=>(h.bars b hb).same m⟩
structure b4T (n:Str) (L R:Web):Prop where
 p:∀k,(n,k)∈L.pts↔(n,k)∈R.pts
 t:∀t,(n,t)∈L.ts↔(n,t)∈R.ts
structure RuleOk (L R:Web) (bs:List Sd):Prop where
 l:PieceW 4 L
 r:PieceW 4 R
 ag:∀n∈i9 L,n∈i9 R→b4T n L R
 len:bs.length≤3
 bars:∀b∈bs,PieceW 6 b.W∧(∀x∈L.pts,x∈b.W.pts)∧∀x∈L.ts,x∈b.W.ts
def a5i (K:PySem.W.Frag):Sp:=fun vs H Q _=>∃(r bl:Addr) (L R:Sd) (bs:List Sd),vs=[.ref r]∧RuleIs K H r bl L R bs∧∀(l:Addr) (H':Hp) (s1 s2:List Str),H l=none→Same H H'→Ordr L.W s1 s2→H' l=some (.lst (((s1++s2).filter fun n=>decide (n∈i9 R.W)).map V.str))→Q (.ref l) H'
def a2Q (K:PySem.W.Frag):Sp:=fun vs H Q _=>∃(r bl:Addr) (L R:Sd) (bs:List Sd),vs=[.ref r]∧RuleIs K H r bl L R bs∧∀(l:Addr) (H':Hp) (s1 s2:List Str),H l=none→Same H H'→Ordr L.W s1 s2→H' l=some (.lst (((s1++s2).filter fun n=>!decide (n∈i9 R.W)).map V.str))→Q (.ref l) H'
def U4 (K:PySem.W.Frag):Sp:=fun vs H Q _=>∃(r bl:Addr) (L R:Sd) (bs:List Sd),vs=[.ref r]∧RuleIs K H r bl L R bs∧∀(l:Addr) (H':Hp) (s1 s2:List Str),H l=none→Same H H'→Ordr R.W s1 s2→H' l=some (.lst (((s1++s2).filter fun n=>!decide (n∈i9 L.W)).map V.str))→Q (.ref l) H'
theorem b1j {f:Addr}{fd:FuncData}(T:Txt K mg)(a6x:Cal P w K mg base CX0 2 "both" ["web","other"] [] (a5p K))(F:Fun K "kept" "kept" a2d f fd):FnOk P w K mg base CX0 3 f fd ["rule"] (a5i K):=by
 refine F.ok sc_kept (fun vs H Q E h=>?_) (fun cdv A outer s H vs Q E hr h=>?_)
 ·obtain⟨r,bl,L,R,bs,rfl,_⟩:=h
  rfl
 ·obtain⟨r,bl,L,R,bs,rfl,hr',k⟩:=h
  have hN:=sc_kept.nd
  have hu:=u9 hr
  refine⟨_,QSs.r (qs1 (v0 (qC a6x (hr.mono (by decide)) p0 (qa1 (qIx (kIx K hu) (qV 0) i6 (fun _ _=>rfl)) (qa1 (qIx (kIx K hu) (qV 0) i6 (fun _ _=>rfl)) qa0))))),?_⟩
  walk_at "r"
  refine b6 hr'.tup (b8 (j:=0) rfl) ?_
  walk_at "r"
  refine b6 hr'.tup (b8 (j:=1) rfl) ?_
  walk_at "r"
  exact⟨_,_,_,_,_,_,_,_,_,_,rfl,hr'.l,hr'.r,fun l H' s1 s2 n m o f=>k l H' s1 s2 n m o f⟩
theorem b0Z {f:Addr}{fd:FuncData}(T:Txt K mg)(a0N:Cal P w K mg base CX0 2 "alone" ["web","other"] [] (a1J K))(F:Fun K "taken" "taken" a0T f fd):FnOk P w K mg base CX0 3 f fd ["rule"] (a2Q K):=by
 refine F.ok sc_taken (fun vs H Q E h=>?_) (fun cdv A outer s H vs Q E hr h=>?_)
 ·obtain⟨r,bl,L,R,bs,rfl,_⟩:=h
  rfl
 ·obtain⟨r,bl,L,R,bs,rfl,hr',k⟩:=h
  have hN:=sc_taken.nd
  have hu:=u9 hr
  refine⟨_,QSs.r (qs1 (v0 (qC a0N (hr.mono (by decide)) p0 (qa1 (qIx (kIx K hu) (qV 0) i6 (fun _ _=>rfl)) (qa1 (qIx (kIx K hu) (qV 0) i6 (fun _ _=>rfl)) qa0))))),?_⟩
  walk_at "r"
  refine b6 hr'.tup (b8 (j:=0) rfl) ?_
  walk_at "r"
  refine b6 hr'.tup (b8 (j:=1) rfl) ?_
  walk_at "r"
  exact⟨_,_,_,_,_,_,_,_,_,_,rfl,hr'.l,hr'.r,fun l H' s1 s2 n m o f=>k l H' s1 s2 n m o f⟩
theorem a6h {f:Addr}{fd:FuncData}(T:Txt K mg)(a0N:Cal P w K mg base CX0 2 "alone" ["web","other"] [] (a1J K))(F:Fun K "fresh_of" "fresh_of" N2 f fd):FnOk P w K mg base CX0 3 f fd ["rule"] (U4 K):=by
 refine F.ok sc_fresh_of (fun vs H Q E h=>?_) (fun cdv A outer s H vs Q E hr h=>?_)
 ·obtain⟨r,bl,L,R,bs,rfl,_⟩:=h
  rfl
 ·obtain⟨r,bl,L,R,bs,rfl,hr',k⟩:=h
  have hN:=sc_fresh_of.nd
  have hu:=u9 hr
  refine⟨_,QSs.r (qs1 (v0 (qC a0N (hr.mono (by decide)) p0 (qa1 (qIx (kIx K hu) (qV 0) i6 (fun _ _=>rfl)) (qa1 (qIx (kIx K hu) (qV 0) i6 (fun _ _=>rfl)) qa0))))),?_⟩
  walk_at "r"
  refine b6 hr'.tup (b8 (j:=1) rfl) ?_
  walk_at "r"
  refine b6 hr'.tup (b8 (j:=0) rfl) ?_
  walk_at "r"
  exact⟨_,_,_,_,_,_,_,_,_,_,rfl,hr'.r,hr'.l,fun l H' s1 s2 n m o f=>k l H' s1 s2 n m o f⟩
theorem WebIs.perm {H:Hp}{a p q:Addr}{kvs:List (Key×V)}{W W':Web}(h:WebAt K H a p q kvs W')(hp:H p=some (.dK (pKV W'.pts)))(hq:H q=some (.dK kvs))(ne:p≠q)(p1:W'.pts.Perm W.pts)(p2:W'.ts.Perm W.ts)(nd:(i9 W).Nodup)(len:(i9 W).length≤24)(ends:∀x∈W.ts,x.2.2.1∈W.pts.map (·.1)∧x.2.2.2∈W.pts.map (·.1))(nl:∀x∈i9 W,x.length≤100):WebIs 24 K H a p q kvs W':=by
 have pm:(i9 W').Perm (i9 W):=(p1.map _).append (p2.map _)
 refine⟨h,hp,hq,ne,pm.nodup_iff.mpr nd,by rw[pm.length_eq];exact len,fun x hx=>?_,fun x hx=>nl x (pm.mem_iff.mp hx)⟩
 have z:=ends x (p2.mem_iff.mp hx)
 exact⟨(p1.map _).mem_iff.mpr z.1,(p1.map _).mem_iff.mpr z.2⟩--SPLIT
theorem a0O {x:Str}{l u:Option Int}{c:Nat}(h:c∈(Txt.slice x l u).cps.toList):c∈x.cps.toList:=by
 unfold Txt.slice at h
 split at h
 ·exact h
 ·simp only[List.mem_filterMap] at h
  obtain⟨i,_,hi⟩:=h
  exact Array.mem_toList_iff.mpr (Array.mem_of_getElem? hi)
theorem a5c (i:Int)(h0:0≤i)(h1:i<26):Z3 i∈kSL.cps.toList:=by
 have hl:kSL.cps.toList.length=26:=by decide+kernel
 unfold Z3
 rw[List.getD_eq_getElem?_getD,List.getElem?_eq_getElem (show i.toNat<kSL.cps.toList.length by omega)]
 exact List.getElem_mem _
def a4l (b:Str)(at_ c:Int)(k:Nat):Str:=Txt.slice b none (some at_)++(⟨#[Z3 ((c+(0+(k:Int))) % 26)]⟩:Str)++Txt.slice b (some at_) none
theorem b1r (b:Str)(at_ c:Int)(n:Nat)(hn:n≤26):((List.range n).map (a4l b at_ c)).Nodup:=a2Y fun i j hi hj e=>by
 have z:=b2t e
 have e1:(c+(0+(i:Int))) % 26=(((c+(0+(i:Int))) % 26).toNat:Int):=by omega
 have e2:(c+(0+(j:Int))) % 26=(((c+(0+(j:Int))) % 26).toNat:Int):=by omega
 rw[e1,e2] at z
 have z2:=a5W _ _ (by omega) (by omega) z
 omega
theorem a8n {b:Str}{at_ c:Int}{k:Nat}(h:∀x∈b.cps.toList,x∈kSL.cps.toList)(hb:b.length≤7)(h0:0≤at_)(h1:at_≤b.length):B1 (a4l b at_ c k)=true:=by
 have g1:=a6a b at_ h0 h1
 have g2:=a3y b at_ h0 h1
 have hl:(a4l b at_ c k).length=(Txt.slice b none (some at_)).length+1+(Txt.slice b (some at_) none).length:=by
  unfold a4l
  rw[a1z,a1z,U5]
 unfold B1 K7
 rw[hl,decide_eq_true (by omega),decide_eq_true (by omega),Bool.true_and,Bool.true_and]
 unfold a5L
 rw[List.all_eq_true]
 intro x hx
 refine decide_eq_true ?_
 have hx':x∈((Txt.slice b none (some at_)).cps++ #[Z3 ((c+(0+(k:Int))) % 26)]++(Txt.slice b (some at_) none).cps).toList:=hx
 simp only[Array.toList_append,List.mem_append] at hx'
 rcases hx' with(z|z)|z
 ·exact h x (a0O z)
 ·have:x=Z3 ((c+(0+(k:Int))) % 26):=by simpa using z
  rw[this]
  exact a5c _ (by omega) (by omega)
 ·exact h x (a0O z)
def J2 (K:PySem.W.Frag):Sp:=fun vs H Q _=>∃(a:Addr) (ns:List Int) (k:Int),vs=[.ref a,.int k]∧SqL K H a (ns.map V.int)∧ns.length≤63∧0≤k∧∀m:Int,Q (.int m) H
def R9 (K:PySem.W.Frag):Sp:=fun vs H Q _=>∃c:Int,vs=[.int c,.int 16]∧∀(p:Addr) (H':Hp) (xs:List Int),H p=none→Same H H'→H' p=some (.lst (xs.map V.int))→xs.length=16→(∀x∈xs,0≤x)→Q (.ref p) H'
def O2 (K:PySem.W.Frag):Sp:=fun vs H Q _=>∃c n:Int,vs=[.int c,.int n]∧0≤n∧n≤26∧b6s H Q fun ss=>ss.length=n.toNat∧ss.Nodup∧∀s∈ss,B1 s=true
theorem a3S {f:Addr}{fd:FuncData}(T:Txt K mg)(F:Fun K "_law_mixed" "_law_mixed" E6 f fd):FnOk P w K mg base CX0 1 f fd ["_law_cell","_law_k"] (O4 K):=by
 refine F.ok sc__law_mixed (fun vs H Q E h=>?_) (fun cdv A outer s H vs Q E hr h=>?_)
 ·obtain⟨c,k,rfl,_⟩:=h
  rfl
 ·obtain⟨c,k,rfl,h0,h1,q⟩:=h
  have hN:=sc__law_mixed.nd
  have hu:=u9 hr
  refine⟨_,QSs.r (qsC (u4 (i:=2) hN rfl (by walk_at "l") (qOp q5 (qOp (A5 K) (qOp q5 (qV 0) i6) (qOp P8 i6 (qOp (A5 K) (qV 1) i6))) i6))
   (qsC (u4 (i:=2) hN rfl (by walk_at "l") (qOp q5 (qOp (A5 K) (qOp (A5 K) (qOp P8 (qV 2) (qV 2)) (qOp P8 i6 (qV 1))) i6) i6))
   (qs1 (v0 (qOp q5 (qOp P8 (qV 2) (qV 2)) i6))))),?_⟩
  walk_at "r"
  exact q _ (by omega)
theorem a2C {f:Addr}{fd:FuncData}(T:Txt K mg)(F:Fun K "_law_cell_at" "_law_cell_at" B5 f fd):FnOk P w K mg base CX0 1 f fd ["_law_script","_law_k"] (J2 K):=by
 refine F.ok sc__law_cell_at (fun vs H Q E h=>?_) (fun cdv A outer s H vs Q E hr h=>?_)
 ·obtain⟨a,ns,k',rfl,_⟩:=h
  rfl
 ·obtain⟨a,ns,k',rfl,hA,hl,h0,k⟩:=h
  have hN:=sc__law_cell_at.nd
  have hu:=u9 hr
  refine⟨_,QSs.r (qsC (qIf (p8 a7e (qV 1) (qB (A3 K P w) T.b_len Boot.«len» (qa1 (qV 0) qa0)) (u7 _)) (qs1 (v0 (qIx (kIx K hu) (qV 0) (qV 1) (fun _ _=>rfl)))) qs0)
   (qs1 (v0 i6))),?_⟩
  walk_at "r"
  refine A4 (q9 hA ?_)
  rw[List.length_map]
  walk_at "r"
  refine P6 (fun h1=>?_) (fun h1=>?_)
  ·walk_at "r"
   obtain⟨v,hv,hv2⟩:=a2h (xs:=ns.map V.int) h0 (by rw[List.length_map];exact h1)
   rw[List.getElem?_map] at hv2
   obtain⟨x,hx,rfl⟩:=Option.map_eq_some_iff.mp hv2
   exact j7 hA hv (k _)
  ·walk_at "r"
   exact k 0
theorem a3q {f:Addr}{fd:FuncData}(T:Txt K mg)(F:Fun K "_law_stream" "_law_stream" C3 f fd):FnOk P w K mg base CX0 1 f fd ["_law_cell","_law_many"] (R9 K):=by
 refine F.ok sc__law_stream (fun vs H Q E h=>?_) (fun cdv A outer s H vs Q E hr h=>?_)
 ·obtain⟨c,rfl,_⟩:=h
  rfl
 ·obtain⟨c,rfl,k⟩:=h
  have hN:=sc__law_stream.nd
  have hu:=u9 hr
  refine⟨_,QSs.r (qsC (u4 (i:=2) hN rfl (by walk_at "l") (qOp (A5 K) (qOp q5 (qV 0) i6) i6))
   (qsC (u4 (i:=3) hN rfl (by walk_at "l") (a1p qa0))
   (qsC (V6 PassesOwn.never rfl (a4w T.b_range (qa1 (qV 1) qa0)) (qgN (i:=4) hN rfl (by walk_at "l"))
    (qsC (u4 (i:=2) hN rfl (by walk_at "l") (qOp q5 (qOp (A5 K) (qOp (A5 K) (qOp P8 (qV 2) (qV 2)) (qOp P8 i6 (qV 4))) i6) i6))
   (qs1 (qEx (qM PySem.F.plainAttrs_list PySem.F.slot_list_append PySem.F.type_list_append A8 K (qV 3) (qa1 (qOp q5 (qOp P8 (qV 2) (qV 2)) i6) qa0))))))
   (qs1 (v0 (qV 3)))))),?_⟩
  walk_at "r"
  refine⟨i8 (by simp),fun lo no=>?_⟩
  obtain⟨H1,e1,f1,m1,_⟩:=d9 (o:= .lst _) no
  rw[e1]
  walk_at "r"
  refine Q0 (by omega) (by omega) ?_
  refine E1 (n:=16) (fun i σ H'=>(∃(m:Int) (v:Option V),σ=[some (.int c),some (.int 16),some (.int m),some (.ref lo),v]∧0≤m∧m≤2200000000)∧Same H H'∧∃xs:List Int,H' lo=some (.lst (xs.map V.int))∧xs.length=i∧∀x∈xs,0≤x)
   ⟨⟨_,_,rfl,by omega,by omega⟩,m1,[],f1,rfl,fun _ h=>nomatch h⟩ (fun i σ H' hi _=>by exact hi) ?_ ?_
  ·rintro i v σ H2' H2 hi ⟨⟨m,v',rfl,h0,h1⟩,s2,xs,g2,hl,hx⟩ ⟨rfl,rfl⟩
   walk_at "r"
   have b0:0≤(m*m+69621*(0+(i:Int))+11) % 2147483647:=by omega
   have b1:(m*m+69621*(0+(i:Int))+11) % 2147483647<2147483647:=by omega
   generalize (m*m+69621*(0+(i:Int))+11) % 2147483647=m' at b0 b1⊢
   refine⟨.inl ⟨rfl,_,SqL.of g2⟩,?_⟩
   walk_at "r"
   refine⟨lo,_,_,rfl,rfl,g2,K8 (by rw[List.length_map];omega),?_⟩
   refine⟨⟨m',_,rfl,b0,by omega⟩,K6 s2 no,xs++[m'*m' % 2147483587],?_,by rw[List.length_append,hl];rfl,fun x hx'=>?_⟩
   ·rw[i7,List.map_append];rfl
   ·rcases List.mem_append.mp hx' with z|z
    ·exact hx x z
    ·rw[List.mem_singleton.mp z];omega
  ·rintro σ H2 ⟨⟨m,v',rfl,h0,h1⟩,s2,xs,g2,hl,hx⟩
   refine⟨Nat.le_refl _,?_⟩
   walk_at "r"
   exact k lo H2 xs no s2 g2 hl hx
theorem a3R {f:Addr}{fd:FuncData}(T:Txt K mg)(F:Fun K "_law_words" "_law_words" E9 f fd):FnOk P w K mg base CX0 1 f fd ["_law_number","_law_many"] (O2 K):=by
 refine F.ok sc__law_words (fun vs H Q E h=>?_) (fun cdv A outer s H vs Q E hr h=>?_)
 ·obtain⟨c,n,rfl,_⟩:=h
  rfl
 ·obtain⟨c,n,rfl,h0,h1,k⟩:=h
  have hN:=sc__law_words.nd
  have hu:=u9 hr
  refine⟨_,QSs.r (qsC (u4 (i:=2) hN rfl (by walk_at "l") a3L)
   (qsC (u4 (i:=3) hN rfl (by walk_at "l") a3L)
   (qsC (V6 PassesOwn.never rfl (a4w T.b_range (qa1 (qIx (kIx K hu) (a1p (qa1 i6 (qa1 i6 (qa1 i6 (qa1 i6 (qa1 i6 qa0)))))) (qOp q5 (qV 0) i6) (fun _ _=>rfl)) qa0)) (qgN (i:=4) hN rfl (by walk_at "l"))
    (qs1 (u4 (i:=3) hN rfl (by walk_at "l") (qOp (A5 K) (qV 3) (qIx (kIx K hu) (qV 2) (qOp q5 (qOp B2 (qV 0) (qOp (A5 K) (qV 4) i6)) i6) (fun _ _=>rfl))))))
   (qsC (u4 (i:=5) hN rfl (by walk_at "l") (qOp q5 (qOp B2 (qV 0) i6) (qOp (A5 K) (qB (A3 K P w) T.b_len Boot.«len» (qa1 (qV 3) qa0)) i6)))
   (qs1 (v0 (O6 (own:=["_law_k"]) (js:=[3,2,5,0]) (by kernel_rfl) rfl (a4w T.b_range (qa1 (qV 1) qa0)) (fun _ _ _ _=>(qgN (i:=0) (show List.Nodup (["_law_k","_law_base","_law_letters","_law_at","_law_number"]:List Str) by decide+kernel) rfl (by walk_at "l"))) (fun _ _ _ _=>a1l) (fun _ _ _ _=>(qOp (A5 K) (qOp (A5 K) (qSl (kSl K) (qV 1) qoN (qoS (qV 3))) (qIx (kIx K hu) (qV 2) (qOp q5 (qOp (A5 K) (qV 4) (qV 0)) i6) (fun _ _=>rfl))) (qSl (kSl K) (qV 1) (qoS (qV 3)) qoN)))))))))),?_⟩
  walk_at "r"
  refine⟨i8 (by simp),fun l1 n1=>?_⟩
  obtain⟨H1,e1,f1,m1,_⟩:=d9 (o:= .lst ([0,0,2,5,7].map V.int)) n1
  rw[show([V.int 0,V.int 0,V.int 2,V.int 5,V.int 7]:List V)=[0,0,2,5,7].map V.int from rfl,e1]
  walk_at "r"
  obtain⟨v,hv,hv2⟩:=a2h (xs:=([0,0,2,5,7]:List Int).map V.int) (i:=c % 5) (by omega) (by show _<((5:Nat):Int);omega)
  rw[List.getElem?_map] at hv2
  obtain⟨z,hz,rfl⟩:=Option.map_eq_some_iff.mp hv2
  have hz':0≤z∧z≤7:=by
   have hm:=List.mem_of_getElem? hz
   simp only[List.mem_cons,List.not_mem_nil,or_false] at hm
   omega
  refine j7 (SqL.of f1) hv ?_
  refine Q0 (by omega) (by omega) ?_
  refine E1 (n:=z.toNat) (fun i σ H'=>H'=H1∧∃(b:Str) (v:Option V),σ=[some (.int c),some (.int n),some (.str kSL),some (.str b),v,none]∧b.length=i∧∀x∈b.cps.toList,x∈kSL.cps.toList) ⟨rfl,_,none,rfl,rfl,fun x hx=>by cases hx⟩ (fun i σ H' hi _=>by exact hi) ?_ ?_
  ·rintro i v σ H2' H2 hi ⟨rfl,b,v',rfl,hb,hbi⟩ ⟨rfl,rfl⟩
   walk_at "r"
   refine Y5 a2l (a6K (c/(0+(i:Int)+3) % 26) (by omega) (by omega)) ?_
   refine K1 (j:=⟨#[Z3 (c/(0+(i:Int)+3) % 26)]⟩) (i8 (by rw[U5];omega)) ?_
   walk_at "r"
   refine⟨rfl,_,_,rfl,by rw[a1z,U5];omega,fun x hx=>?_⟩
   have hx':x∈(b.cps++ #[Z3 (c/(0+(i:Int)+3) % 26)]).toList:=hx
   simp only[Array.toList_append,List.mem_append] at hx'
   rcases hx' with z|z
   ·exact hbi x z
   ·have:x=Z3 (c/(0+(i:Int)+3) % 26):=by simpa using z
    rw[this]
    exact a5c _ (by omega) (by omega)
  ·rintro σ H2 ⟨rfl,b,v',rfl,hb,hbi⟩
   refine⟨Nat.le_refl _,?_⟩
   walk_at "r"
   refine A4 (a0P (i8 (by omega)) ?_)
   walk_at "r"
   have q0:0≤c/5 % ((b.length:Int)+1):=Int.emod_nonneg _ (by omega)
   have q1:c/5 % ((b.length:Int)+1)<(b.length:Int)+1:=Int.emod_lt_of_pos _ (by omega)
   generalize c/5 % ((b.length:Int)+1)=at_ at q0 q1⊢
   refine Q0 h0 (by omega) ?_
   refine z5 (n:=n.toNat) (fun i out H'=>H'=H2∧out=(List.range i).map fun k=>V.str (a4l b at_ c k)) ⟨rfl,rfl⟩ (fun i out H' hi _=>by exact hi) ?_ ?_
   ·rintro N i v out H3' H3 hi ⟨rfl,rfl⟩ ⟨rfl,rfl⟩ hN'
    walk_at "r"
    refine⟨rfl,?_⟩
    walk_at "r"
    refine a1x (i8 (by omega)) ?_
    walk_at "r"
    have hc3:=a6K ((c+(0+(i:Int))) % 26) (by omega) (by omega)
    refine Y5 a2l hc3 ?_
    have g1:=Txt.slice_le b Option.none (some at_)
    have g2:=Txt.slice_le b (some at_) Option.none
    refine K1 (j:=⟨#[Z3 ((c+(0+(i:Int))) % 26)]⟩) (i8 (by rw[U5];omega)) ?_
    walk_at "r"
    refine a1x (i8 (by omega)) ?_
    refine K1 (i8 (by rw[a1z,U5];omega)) ?_
    refine⟨i8 (by rw[List.length_map,List.length_range];omega),hN' _ _ ⟨rfl,?_⟩⟩
    rw[List.range_succ,List.map_append];rfl
   ·rintro out H3 ⟨rfl,rfl⟩
    refine⟨Nat.le_refl _,fun D hD=>⟨i8 (by rw[List.length_map,List.length_range];omega),?_⟩⟩
    obtain⟨H5,e5,f5,m5,_⟩:=d9 (o:= .lst _) hD
    refine k D _ ((List.range n.toNat).map (a4l b at_ c)) (m1.free hD) ?_ ?_ ⟨by rw[List.length_map,List.length_range],b1r _ _ _ _ (by omega),fun s hs=>?_⟩
    ·show Same _ (upd _ D _)
     rw[e5];exact m1.trans m5
    ·show upd _ D _ D=_
     rw[i7,List.map_map];rfl
    ·obtain⟨i,_,rfl⟩:=List.mem_map.mp hs
     exact a8n hbi (by omega) q0 (by omega)
section
open PySem.Builtin PySem.Builtin.Str
theorem a7p (l:List Nat):∀n,(List.range n).filterMap (fun k=>l[k]?)=l.take n
 |0=>by simp
 |n+1=>by
  rw[List.range_succ,List.filterMap_append,a7p l n,List.take_succ]
  congr 1
theorem b5r (n:Nat)(i:Int)(h0:0≤i)(h1:i≤n):strSliceIndices none (some i) 1 n=List.range i.toNat:=by
 unfold strSliceIndices sliceRange
 simp only[show(1:Int)>0 by decide,if_true]
 rw[if_neg (show ¬i<0 by omega),show max 0 (min i (n:Int))=i by omega]
 have e:(if(0:Int)<i then(i -0+1 -1)/1 else 0)=i:=by split<;>omega
 rw[e]
 refine(List.map_congr_left fun k _=>?_).trans (List.map_id _)
 show(0+1*(k:Int)).toNat=k
 omega
theorem a7j (x:Str)(i:Int)(h0:0≤i)(h1:i≤x.length):(Txt.slice x none (some i)).cps.toList=x.cps.toList.take i.toNat:=by
 unfold Txt.slice
 rw[b5r x.length i h0 h1]
 split
 ·next h=>
  have h':i.toNat=x.length:=by simpa using h
  have hl:x.cps.toList.length=x.length:=by show _=x.cps.size;simp
  rw[List.take_of_length_le (by omega)]
 ·have e:(fun k:Nat=>x.cps[k]?)=fun k=>x.cps.toList[k]?:=by funext k;simp
  show(List.filterMap (fun k=>x.cps[k]?) (List.range i.toNat)).toArray.toList=_
  rw[e,a7p]
end
def a4x (l:List Nat):Str:=⟨l.toArray⟩
theorem a8I (l:List Nat)(c:Nat):a4x l++(⟨#[c]⟩:Str)=a4x (l++[c]):=by
 unfold a4x
 show(⟨l.toArray++ #[c]⟩:Str)=_
 congr 1
 simp
theorem a1T (l:List Nat):(a4x l).length=l.length:=by
 show l.toArray.size=_
 simp
def a0X (s:Str)(i:Int):Nat:=s.cps.toList.getD i.toNat 0
theorem a9M (s:Str)(i:Int)(h0:0≤i)(h1:i<s.cps.toList.length):atI s.cps.toList i=some (a0X s i):=by
 obtain⟨v,hv,hv2⟩:=a2h (xs:=s.cps.toList) h0 h1
 rw[hv]
 unfold a0X
 rw[List.getD_eq_getElem?_getD,hv2];rfl
abbrev kSM:Str:=kSL++("0123456789.":Str)
def lnS (c:Int):Int:=([0,0,3,9,22]:List Int).getD (c % 5).toNat 0
def U1 (j:Nat):Int:=if 0<j then 37 else 26
def a2w (c:Int)(i:Nat):List Nat:=(List.range i).map fun j:Nat=>a0X kSM (c/((j:Int)+3) % U1 j)
def B9 (c:Int):Str:=a4x (a2w c (lnS c).toNat)
def b3I (c:Int)(k:Nat):Str:=(⟨#[Z3 ((c+(k:Int)) % 26)]⟩:Str)++(⟨#[a0X "0123456789." ((k:Int) % 11)]⟩:Str)
def nmS (c:Int)(k:Nat):Str:=Txt.slice (B9 c) none (some (c/5 % (((B9 c).length:Int)+1)))++b3I c k++Txt.slice (B9 c) (some (c/5 % (((B9 c).length:Int)+1))) none
theorem a8D (c:Int)(i:Nat):a2w c (i+1)=a2w c i++[a0X kSM (c/((i:Int)+3) % U1 i)]:=by
 unfold a2w
 rw[List.range_succ,List.map_append];rfl
theorem a1Q (c:Int)(i:Nat):(a2w c i).length=i:=by unfold a2w;rw[List.length_map,List.length_range]
theorem b0K (c:Int):0≤lnS c∧lnS c≤22:=by
 have h0:(c % 5).toNat=0∨(c % 5).toNat=1∨(c % 5).toNat=2∨(c % 5).toNat=3∨(c % 5).toNat=4:=by omega
 unfold lnS
 rcases h0 with h|h|h|h|h<;>rw[h]<;>decide
def P9 (K:PySem.W.Frag):Sp:=fun vs H Q _=>∃(c:Int) (k:Nat),vs=[.int c,.int k]∧k≤300∧∀H',Same H H'→Q (.str (nmS c k)) H'
theorem a4z {f:Addr}{fd:FuncData}(T:Txt K mg)(F:Fun K "_law_name" "_law_name" K9 f fd):FnOk P w K mg base CX0 1 f fd ["_law_number","_law_k"] (P9 K):=by
 refine F.ok sc__law_name (fun vs H Q E h=>?_) (fun cdv A outer s H vs Q E hr h=>?_)
 ·obtain⟨c,k',rfl,_⟩:=h
  rfl
 ·obtain⟨c,k',rfl,hk,k⟩:=h
  have hN:=sc__law_name.nd
  have hu:=u9 hr
  refine⟨_,QSs.r (qsC (u4 (i:=2) hN rfl (by walk_at "l") a3L)
   (qsC (u4 (i:=3) hN rfl (by walk_at "l") a3L)
   (qsC (V6 PassesOwn.never rfl (a4w T.b_range (qa1 (qIx (kIx K hu) (a1p (qa1 i6 (qa1 i6 (qa1 i6 (qa1 i6 (qa1 i6 qa0)))))) (qOp q5 (qV 0) i6) (fun _ _=>rfl)) qa0)) (qgN (i:=4) hN rfl (by walk_at "l"))
    (qs1 (u4 (i:=3) hN rfl (by walk_at "l") (qOp (A5 K) (qV 3) (qIx (kIx K hu) (qOp (A5 K) (qV 2) a3L) (qOp q5 (qOp B2 (qV 0) (qOp (A5 K) (qV 4) i6)) (qIx (kIx K hu) (a1p (qa1 i6 (qa1 i6 qa0))) (qBT a2b T.b_int Boot.«int» (qa1 (a5b a9R (qV 4) i6 (u7 _)) qa0)) (fun _ _=>rfl))) (fun _ _=>rfl))))))
   (qsC (u4 (i:=5) hN rfl (by walk_at "l") (qOp q5 (qOp B2 (qV 0) i6) (qOp (A5 K) (qB (A3 K P w) T.b_len Boot.«len» (qa1 (qV 3) qa0)) i6)))
   (qsC (u4 (i:=6) hN rfl (by walk_at "l") (qOp (A5 K) (qIx (kIx K hu) (qV 2) (qOp q5 (qOp (A5 K) (qV 0) (qV 1)) i6) (fun _ _=>rfl)) (qIx (kIx K hu) a3L (qOp q5 (qV 1) i6) (fun _ _=>rfl))))
   (qs1 (v0 (qOp (A5 K) (qOp (A5 K) (qSl (kSl K) (qV 3) qoN (qoS (qV 5))) (qV 6)) (qSl (kSl K) (qV 3) (qoS (qV 5)) qoN))))))))),?_⟩
  walk_at "r"
  refine⟨i8 (by simp),fun l1 n1=>?_⟩
  obtain⟨H1,e1,f1,m1,_⟩:=d9 (o:= .lst (([0,0,3,9,22]:List Int).map V.int)) n1
  rw[show([V.int 0,V.int 0,V.int 3,V.int 9,V.int 22]:List V)=([0,0,3,9,22]:List Int).map V.int from rfl,e1]
  walk_at "r"
  obtain⟨v,hv,hv2⟩:=a2h (xs:=([0,0,3,9,22]:List Int).map V.int) (i:=c % 5) (by omega) (by show _<((5:Nat):Int);omega)
  rw[List.getElem?_map] at hv2
  obtain⟨z,hz,rfl⟩:=Option.map_eq_some_iff.mp hv2
  have ez:lnS c=z:=by unfold lnS;rw[List.getD_eq_getElem?_getD,hz];rfl
  have hz':=b0K c
  rw[ez] at hz'
  refine j7 (SqL.of f1) hv ?_
  refine Q0 (by omega) (by omega) ?_
  refine E1 (n:=z.toNat) (fun i σ H'=>Same H H'∧∃(v:Option V),σ=[some (.int c),some (.int k'),some (.str kSL),some (.str (a4x (a2w c i))),v,none,none]) ⟨m1,none,rfl⟩ (fun i σ H' hi _=>by exact hi) ?_ ?_
  ·rintro i v σ H2' H2 hi ⟨s2,v',rfl⟩ ⟨rfl,rfl⟩
   have hbl:=a1T (a2w c i)
   rw[a1Q] at hbl
   walk_at "r"
   refine K1 (by decide+kernel) ?_
   walk_at "r"
   refine⟨i8 (by simp),fun l3 n3=>?_⟩
   obtain⟨H3,e3,f3,m3,_⟩:=d9 (o:= .lst [.int 26,.int 37]) n3
   rw[e3]
   walk_at "r"
   refine .inr ⟨_,rfl,?_⟩
   have hmod:U1 i=26∨U1 i=37:=by unfold U1;split<;>simp
   have hix:atI [V.int 26,V.int 37] (if decide (0<0+(i:Int))=true then(1:Int) else 0)=some (.int (U1 i)):=by
    unfold U1
    by_cases h:0<i
    ·rw[if_pos (decide_eq_true (by omega)),if_pos h];rfl
    ·rw[if_neg (by rw[decide_eq_false (by omega)];simp),if_neg h];rfl
   refine j7 (SqL.of f3) hix ?_
   have hmp:0<U1 i:=by omega
   refine r_i hmp ?_
   have q0:0≤c/(0+(i:Int)+3) % U1 i:=Int.emod_nonneg _ (by omega)
   have q1:c/(0+(i:Int)+3) % U1 i<U1 i:=Int.emod_lt_of_pos _ hmp
   have hSl:kSM.cps.toList.length=37:=by decide+kernel
   refine Y5 (by decide+kernel) (a9M kSM _ q0 (by rw[hSl];omega)) ?_
   refine K1 (j:=⟨#[a0X kSM (c/(0+(i:Int)+3) % U1 i)]⟩) (i8 (by rw[U5];omega)) ?_
   walk_at "r"
   refine⟨s2.trans m3,some (.int (0+(i:Int))),?_⟩
   rw[a8D,←a8I,Int.zero_add (i:Int)];rfl
  ·rintro σ H2 ⟨s2,v',rfl⟩
   refine⟨Nat.le_refl _,?_⟩
   have eb:a4x (a2w c z.toNat)=B9 c:=by unfold B9;rw[ez]
   rw[eb]
   have hbl:(B9 c).length≤22:=by rw[←eb,a1T,a1Q];omega
   walk_at "r"
   refine A4 (a0P (i8 (by omega)) ?_)
   walk_at "r"
   refine Y5 a2l (a6K ((c+(k':Int)) % 26) (by omega) (by omega)) ?_
   walk_at "r"
   have hdl:("0123456789.":Str).cps.toList.length=11:=by decide+kernel
   refine Y5 (by decide+kernel) (a9M "0123456789." ((k':Int) % 11) (by omega) (by rw[hdl];omega)) ?_
   refine K1 (i:=⟨#[Z3 ((c+(k':Int)) % 26)]⟩) (j:=⟨#[a0X "0123456789." ((k':Int) % 11)]⟩) (i8 (by rw[U5,U5];omega)) ?_
   walk_at "r"
   have g1:=Txt.slice_le (B9 c) Option.none (some (c/5 % (((B9 c).length:Int)+1)))
   have g2:=Txt.slice_le (B9 c) (some (c/5 % (((B9 c).length:Int)+1))) Option.none
   have gt:(b3I c k').length=2:=rfl
   refine a1x (i8 (by omega)) ?_
   walk_at "r"
   refine K1 (j:=b3I c k') (i8 (by omega)) ?_
   walk_at "r"
   refine a1x (i8 (by omega)) ?_
   refine K1 (i8 (by rw[a1z];omega)) ?_
   exact k _ s2
theorem a6d (c:Int)(k:Nat):(nmS c k).cps.toList=(Txt.slice (B9 c) none (some (c/5 % (((B9 c).length:Int)+1)))).cps.toList++[Z3 ((c+(k:Int)) % 26),a0X "0123456789." ((k:Int) % 11)]++(Txt.slice (B9 c) (some (c/5 % (((B9 c).length:Int)+1))) none).cps.toList:=by
 show((Txt.slice (B9 c) none (some (c/5 % (((B9 c).length:Int)+1)))).cps++(#[Z3 ((c+(k:Int)) % 26)]++ #[a0X "0123456789." ((k:Int) % 11)])++(Txt.slice (B9 c) (some (c/5 % (((B9 c).length:Int)+1))) none).cps).toList=_
 simp
theorem a8R:∀i j:Nat,i<11→j<11→a0X "0123456789." i=a0X "0123456789." j→i=j:=by
 have h:∀i,i<11→∀j,j<11→a0X "0123456789." (i:Nat)=a0X "0123456789." (j:Nat)→i=j:=by decide+kernel
 exact fun i j hi hj=>h i hi j hj
theorem a4M {c:Int}{i j:Nat}(hi:i<286)(hj:j<286)(h:nmS c i=nmS c j):i=j:=by
 have z:=congrArg (fun s:Str=>s.cps.toList) h
 simp only[a6d,List.append_assoc,List.append_cancel_left_eq,List.cons_append,List.cons.injEq] at z
 have z1:=z.1
 have e1:(c+(i:Int)) % 26=(((c+(i:Int)) % 26).toNat:Int):=by omega
 have e2:(c+(j:Int)) % 26=(((c+(j:Int)) % 26).toNat:Int):=by omega
 rw[e1,e2] at z1
 have z2:=a5W _ _ (by omega) (by omega) z1
 have z3:=z.2.1
 have e3:(i:Int) % 11=(((i:Int) % 11).toNat:Int):=by omega
 have e4:(j:Int) % 11=(((j:Int) % 11).toNat:Int):=by omega
 rw[e3,e4] at z3
 have z4:=a8R _ _ (by omega) (by omega) z3
 omega
theorem b0y (s:Str)(i:Int)(h0:0≤i)(h1:i<s.cps.toList.length):a0X s i∈s.cps.toList:=by
 unfold a0X
 rw[List.getD_eq_getElem?_getD,List.getElem?_eq_getElem (show i.toNat<s.cps.toList.length by omega)]
 exact List.getElem_mem _
theorem b5x:kSM.cps.toList=kNS.cps.toList:=by decide+kernel
theorem b2E:∀x∈kSL.cps.toList,x∈kNS.cps.toList:=by decide+kernel
theorem b5L:∀x∈("0123456789.":Str).cps.toList,x∈kNS.cps.toList:=by decide+kernel
theorem b1U:∀i:Nat,i<26→a0X kSM (i:Nat)∈kSL.cps.toList:=by decide+kernel
theorem b0Y {c:Int}{x:Nat}(h:x∈(B9 c).cps.toList):x∈kNS.cps.toList:=by
 have h':x∈a2w c (lnS c).toNat:=by simpa [B9,a4x] using h
 obtain⟨j,_,rfl⟩:=List.mem_map.mp h'
 rw[←b5x]
 have hl:kSM.cps.toList.length=37:=by decide+kernel
 have hm:U1 j=26∨U1 j=37:=by unfold U1;split<;>simp
 have q0:0≤c/((j:Int)+3) % U1 j:=Int.emod_nonneg _ (by omega)
 have q1:c/((j:Int)+3) % U1 j<U1 j:=Int.emod_lt_of_pos _ (by omega)
 exact b0y _ _ q0 (by rw[hl];omega)
theorem b2o (c:Int):(B9 c).length≤22:=by
 have:=b0K c
 unfold B9
 rw[a1T,a1Q];omega
theorem a5r (c:Int)(k:Nat):O9 (nmS c k)=true:=by
 have hb:=b2o c
 have q0:0≤c/5 % (((B9 c).length:Int)+1):=Int.emod_nonneg _ (by omega)
 have q1:c/5 % (((B9 c).length:Int)+1)<((B9 c).length:Int)+1:=Int.emod_lt_of_pos _ (by omega)
 have hlist:=a6d c k
 have g1:=a6a (B9 c) _ q0 (by omega)
 have g2:=a3y (B9 c) _ q0 (by omega)
 have htk:=a7j (B9 c) _ q0 (by omega)
 generalize c/5 % (((B9 c).length:Int)+1)=at_ at q0 q1 hlist g1 g2 htk
 have hl:(nmS c k).length=(nmS c k).cps.toList.length:=a1u _
 have e1:=a1u (Txt.slice (B9 c) none (some at_))
 have e2:=a1u (Txt.slice (B9 c) (some at_) none)
 have hlen:(nmS c k).length=(Txt.slice (B9 c) none (some at_)).length+2+(Txt.slice (B9 c) (some at_) none).length:=by
  rw[hl,hlist,List.length_append,List.length_append,e1,e2];rfl
 have dl:("0123456789.":Str).cps.toList.length=11:=by decide+kernel
 unfold O9
 rw[Bool.and_eq_true]
 constructor
 ·unfold K7
  rw[hlen,decide_eq_true (by omega),decide_eq_true (by omega),Bool.true_and,Bool.true_and]
  unfold a5L
  rw[List.all_eq_true,hlist]
  intro x hx
  refine decide_eq_true ?_
  rcases List.mem_append.mp hx with z|z
  ·rcases List.mem_append.mp z with z|z
   ·exact b0Y (a0O z)
   ·simp only[List.mem_cons,List.not_mem_nil,or_false] at z
    rcases z with rfl|rfl
    ·exact b2E _ (a5c _ (by omega) (by omega))
    ·exact b5L _ (b0y _ _ (by omega) (by rw[dl];omega))
  ·exact b0Y (a0O z)
 ·unfold hdB
  refine decide_eq_true ?_
  rw[hlist,htk]
  by_cases h0:at_=0
  ·rw[h0]
   exact a5c _ (by omega) (by omega)
  ·have hbs:(B9 c).cps.toList=a2w c (lnS c).toNat:=by simp [B9,a4x]
   have hbl:(B9 c).length=(lnS c).toNat:=by unfold B9;rw[a1T,a1Q]
   obtain⟨m,hm⟩:∃m,(lnS c).toNat=m+1:=⟨(lnS c).toNat -1,by omega⟩
   obtain⟨t,ht⟩:∃t,at_.toNat=t+1:=⟨at_.toNat -1,by omega⟩
   rw[hbs,hm,ht]
   unfold a2w
   rw[List.range_succ_eq_map,List.map_cons,List.take_succ_cons,List.cons_append,List.cons_append,List.headD_cons]
   have q2:(c/(((0:Nat):Int)+3) % U1 0)=(((c/(((0:Nat):Int)+3) % U1 0).toNat:Nat):Int):=by
    have:U1 0=26:=rfl
    rw[this];omega
   rw[q2]
   exact b1U _ (by have:U1 0=26:=rfl;rw[this];omega)
def a0y (K:PySem.W.Frag):Sp:=fun vs H Q _=>∃(a b:Addr) (c:Int) (ns:List Int) (ks:List Str),vs=[.ref a,.int c,.ref b]∧SqL K H a (ns.map V.int)∧ns.length≤63∧SqL K H b (ks.map V.str)∧0<ks.length∧ks.length≤3∧(∀s∈ks,B1 s=true)∧∀(a p q:Addr) (kvs:List (Key×V)) (W:Web) (H':Hp),Same H H'→WebIs 24 K H' a p q kvs W→a5G W→W.pts.length+W.ts.length≤12→(∀x∈i9 W,∃j,j<13∧x=nmS c j)→Q (.ref a) H'
theorem a5C {f:Addr}{fd:FuncData}(T:Txt K mg)(B8:Cal P w K mg base CX0 1 "_law_mixed" ["_law_cell","_law_k"] [] (O4 K))(A0:Cal P w K mg base CX0 1 "_law_cell_at" ["_law_script","_law_k"] [] (J2 K))(E3:Cal P w K mg base CX0 1 "_law_name" ["_law_number","_law_k"] [] (P9 K))(F:Fun K "_law_web" "_law_web" N1 f fd):FnOk P w K mg base CX0 2 f fd ["_law_script","_law_number","_law_kinds"] (a0y K):=by
 refine F.ok sc__law_web (fun vs H Q E h=>?_) (fun cdv A outer s H vs Q E hr h=>?_)
 ·obtain⟨a,b,c,ns,ks,rfl,_⟩:=h
  rfl
 ·obtain⟨a,b,c,ns,ks,rfl,hA,hl,hC,hk0,hk3,hkk,k⟩:=h
  have hN:=sc__law_web.nd
  have hu:=u9 hr
  refine⟨_,QSs.r (qsC (u4 (i:=3) hN rfl (by walk_at "l") qD0)
   (qsC (u4 (i:=4) hN rfl (by walk_at "l") qD0)
   (qsC (V6 PassesOwn.never rfl (a4w T.b_range (qa1 (qOp (A5 K) i6 (qOp q5 (qOp B2 (qV 1) i6) i6)) qa0)) (qgN (i:=5) hN rfl (by walk_at "l"))
    (qsC (u4 (i:=6) hN rfl (by walk_at "l") (qC B8 (hr.mono (by decide)) p0 (qa1 (qC A0 (hr.mono (by decide)) p0 (qa1 (qV 0) (qa1 (qOp (A5 K) i6 (qV 5)) qa0))) (qa1 (qV 5) qa0))))
   (qsC (u4 (i:=7) hN rfl (by walk_at "l") (qB (O1 K rfl) T.b_sorted Boot.«sorted» (qa1 (qV 3) qa0)))
   (qs1 (qIf (qtW (a1q (p8 (a3z K hr) (qV 7) (a1p qa0) (u7 _)) (a0i (p8 (a3z K hr) (qOp q5 (qV 6) i6) i6 (u7 _))))) (qs1 (a0n (qIx (kIx K hu) (qV 2) (qOp q5 (qOp B2 (qV 6) i6) (qB (A3 K P w) T.b_len Boot.«len» (qa1 (qV 2) qa0))) (fun _ _=>rfl)) (qgS (qV 3) (qC E3 (hr.mono (by decide)) p0 (qa1 (qV 1) (qa1 (qV 5) qa0))) (A7 P w hu)))) (qsC (u4 (i:=8) hN rfl (by walk_at "l") (L5 (qa1 (qIx (kIx K hu) (qV 7) (qOp q5 (qOp B2 (qV 6) i6) (qB (A3 K P w) T.b_len Boot.«len» (qa1 (qV 7) qa0))) (fun _ _=>rfl)) (qa1 (qIx (kIx K hu) (qV 7) (qOp q5 (qOp B2 (qV 6) i6) (qB (A3 K P w) T.b_len Boot.«len» (qa1 (qV 7) qa0))) (fun _ _=>rfl)) qa0))))
   (qs1 (a0n (qOp (A5 K) (L5 (qa1 (qIx (kIx K hu) (qV 2) (qOp q5 (qOp B2 (qV 6) i6) (qB (A3 K P w) T.b_len Boot.«len» (qa1 (qV 2) qa0))) (fun _ _=>rfl)) qa0)) (qV 8)) (qgS (qV 4) (qC E3 (hr.mono (by decide)) p0 (qa1 (qV 1) (qa1 (qV 5) qa0))) (A7 P w hu))))))))))
   (qs1 (v0 (L5 (qa1 (qV 3) (qa1 (qV 4) qa0)))))))),?_⟩
  walk_at "r"
  intro p np
  obtain⟨H1,e1,f1,m1,o1⟩:=d9 (o:= .dK []) np
  rw[e1]
  walk_at "r"
  intro q nq
  obtain⟨H2,e2,f2,m2,o2⟩:=d9 (o:= .dK []) nq
  rw[e2]
  have hpq:p≠q:=fun z=>by rw[←z,f1] at nq;cases nq
  have nq0:H q=none:=m1.free nq
  walk_at "r"
  refine Q0 (by omega) (by omega) ?_
  refine E1 (n:=(3+c/7 % 10).toNat) (fun i σ H'=>∃(pts:List (Str×Str)) (kvs:List (Key×V)) (ts:List (Str×Tie)) (v1 v2 v3 v4:Option V),σ=[some (.ref a),some (.int c),some (.ref b),some (.ref p),some (.ref q),v1,v2,v3,v4]∧Same H H'∧H' p=some (.dK (pKV pts))∧H' q=some (.dK kvs)∧TiesIs K H' kvs ts∧(pts.map (·.1)++ts.map (·.1)).Nodup∧(∀x∈pts.map (·.1)++ts.map (·.1),x∈(List.range i).map (nmS c))∧pts.length+ts.length=i∧(∀x∈ts,x.2.2.1∈pts.map (·.1)∧x.2.2.2∈pts.map (·.1))∧(∀x∈pts,B1 x.2=true)∧∀x∈ts,B1 x.2.1=true)
   ⟨[],[],[],_,_,_,_,rfl,m1.trans m2,m2 _ _ f1,f2,.nil,List.nodup_nil,(fun _ h=>nomatch h),rfl,(fun _ h=>nomatch h),(fun _ h=>nomatch h),fun _ h=>nomatch h⟩ (fun i σ H' hi _=>by exact hi) ?_ ?_
  ·rintro i v σ H3' H3 hi ⟨pts,kvs,ts,v1,v2,v3,v4,rfl,s3,g3,t3,w3,d1,d2,l1,l2,k1,k2⟩ ⟨rfl,rfl⟩
   have e7:(List.range (i+1)).map (nmS c)=(List.range i).map (nmS c)++[nmS c i]:=by rw[List.range_succ,List.map_append];rfl
   have nin:nmS c i∉(List.range i).map (nmS c):=fun m=>by
    obtain⟨j,hj,e⟩:=List.mem_map.mp m
    have hj':=List.mem_range.mp hj
    have:=a4M (by omega) (by omega) e
    omega
   have fresh:nmS c i∉pts.map (·.1)++ts.map (·.1):=fun m=>nin (d2 _ m)
   have sub1:∀x∈pts.map (·.1)++ts.map (·.1),x∈(List.range (i+1)).map (nmS c):=fun x hx=>by rw[e7];exact List.mem_append_left _ (d2 x hx)
   have here:nmS c i∈(List.range (i+1)).map (nmS c):=by rw[e7];simp
   walk_at "r"
   refine⟨a,ns,_,rfl,s3.seq hA,hl,by omega,fun m=>?_⟩
   walk_at "r"
   refine⟨_,_,rfl,by omega,by omega,fun x hx0=>?_⟩
   walk_at "r"
   refine w4 (ss:=pts.map (·.1)) (.inl g3) (by rw[E2,u8]) (by rw[List.length_map];omega) (fun s1 a1 a2 l5 n5=>?_)
   obtain⟨H5,e5,f5,m5,_⟩:=d9 (o:= .lst _) n5
   rw[e5]
   have ha1l:=a1.length_eq
   rw[List.length_map] at ha1l
   walk_at "r"
   refine⟨i8 (by simp),fun l6 n6=>?_⟩
   obtain⟨H6,e6,f6,m6,_⟩:=d9 (o:= .lst _) n6
   rw[e6]
   have h6:=m6 _ _ f5
   have s6:=s3.trans (m5.trans m6)
   have g6:=m6 _ _ (m5 _ _ g3)
   have t6:=m6 _ _ (m5 _ _ t3)
   have w6:=w3.mono (m5.trans m6).le
   refine a5w (a5R (SqL.of h6) (SqL.of f6) (W8 _) rfl ?_)
   walk_at "r"
   refine a4P (fun hz=>?_) (fun hz=>?_)
   ·walk_at "r"
    refine A4 (q9 (s6.seq hC) ?_)
    rw[List.length_map]
    walk_at "r"
    obtain⟨kd,hkd,hkd'⟩:=I9 (ss:=ks) (i:=x/3 % (ks.length:Int)) (Int.emod_nonneg _ (by omega)) (Int.emod_lt_of_pos _ (by omega))
    refine j7 (s6.seq hC) hkd ?_
    walk_at "r"
    refine⟨c,i,by rw[Int.zero_add];rfl,by omega,fun H7 m7=>?_⟩
    have s7:=s6.trans m7
    have g7:=m7 _ _ g6
    have t7:=m7 _ _ t6
    have w7:=w6.mono m7.le
    refine Y0 (z9 (k:=Sum.inr (nmS c i)) g7 (i8 (by unfold pKV;rw[List.length_map];omega)) ?_)
    have ep:z6 (pKV pts) (Sum.inr (nmS c i):Key) (.str kd)=pKV (pts++[(nmS c i,kd)]):=by
     rw[O7 _ (M5 (by rw[E2,←u8];exact fun m=>fresh (List.mem_append_left _ (Z7 m))))]
     unfold pKV;rw[List.map_append];rfl
    refine⟨pts++[(nmS c i,kd)],kvs,ts,_,_,_,_,rfl,K6 s7 np,by rw[i7,ep],by rw[d0 (Ne.symm hpq)];exact t7,Paired.imp' (fun _ _ z=>a0R g7 z) w7,b0i d1 fresh,a7O sub1 here,?_,?_,?_,fun y hy=>k2 y hy⟩
    ·rw[List.length_append,List.length_singleton];omega
    ·intro x hx
     rw[List.map_append]
     exact⟨List.mem_append_left _ (l2 x hx).1,List.mem_append_left _ (l2 x hx).2⟩
    ·intro y hy
     rcases List.mem_append.mp hy with h'|h'
     ·exact k1 y h'
     ·rw[List.mem_singleton.mp h'];exact hkk _ hkd'
   ·walk_at "r"
    refine P6 (fun h3=>?_) (fun h3=>?_)
    ·walk_at "r"
     refine A4 (q9 (s6.seq hC) ?_)
     rw[List.length_map]
     walk_at "r"
     obtain⟨kd,hkd,hkd'⟩:=I9 (ss:=ks) (i:=x/3 % (ks.length:Int)) (Int.emod_nonneg _ (by omega)) (Int.emod_lt_of_pos _ (by omega))
     refine j7 (s6.seq hC) hkd ?_
     walk_at "r"
     refine⟨c,i,by rw[Int.zero_add];rfl,by omega,fun H7 m7=>?_⟩
     have s7:=s6.trans m7
     have g7:=m7 _ _ g6
     have t7:=m7 _ _ t6
     have w7:=w6.mono m7.le
     refine Y0 (z9 (k:=Sum.inr (nmS c i)) g7 (i8 (by unfold pKV;rw[List.length_map];omega)) ?_)
     have ep:z6 (pKV pts) (Sum.inr (nmS c i):Key) (.str kd)=pKV (pts++[(nmS c i,kd)]):=by
      rw[O7 _ (M5 (by rw[E2,←u8];exact fun m=>fresh (List.mem_append_left _ (Z7 m))))]
      unfold pKV;rw[List.map_append];rfl
     refine⟨pts++[(nmS c i,kd)],kvs,ts,_,_,_,_,rfl,K6 s7 np,by rw[i7,ep],by rw[d0 (Ne.symm hpq)];exact t7,Paired.imp' (fun _ _ z=>a0R g7 z) w7,b0i d1 fresh,a7O sub1 here,?_,?_,?_,fun y hy=>k2 y hy⟩
     ·rw[List.length_append,List.length_singleton];omega
     ·intro x hx
      rw[List.map_append]
      exact⟨List.mem_append_left _ (l2 x hx).1,List.mem_append_left _ (l2 x hx).2⟩
     ·intro y hy
      rcases List.mem_append.mp hy with h'|h'
      ·exact k1 y h'
      ·rw[List.mem_singleton.mp h'];exact hkk _ hkd'
    ·have hpos:0<pts.length:=by
      cases pts with
      |nil=>exact absurd hz (by rw[List.Perm.eq_nil a1];decide)
      |cons _ _=>simp
     walk_at "r"
     refine A4 (q9 (SqL.of h6) ?_)
     rw[List.length_map,ha1l]
     walk_at "r"
     obtain⟨o1,ho1,hm1⟩:=I9 (ss:=s1) (i:=x/9 % (pts.length:Int)) (Int.emod_nonneg _ (by omega)) (by rw[ha1l];exact Int.emod_lt_of_pos _ (by omega))
     refine j7 (SqL.of h6) ho1 ?_
     walk_at "r"
     refine A4 (q9 (SqL.of h6) ?_)
     rw[List.length_map,ha1l]
     walk_at "r"
     obtain⟨o2,ho2,hm2⟩:=I9 (ss:=s1) (i:=x/101 % (pts.length:Int)) (Int.emod_nonneg _ (by omega)) (by rw[ha1l];exact Int.emod_lt_of_pos _ (by omega))
     refine j7 (SqL.of h6) ho2 ?_
     walk_at "r"
     refine⟨i8 (by simp),fun l8 n8=>?_⟩
     obtain⟨H8,e8,f8,m8,_⟩:=d9 (o:= .tup _) n8
     rw[e8]
     have s8:=s6.trans m8
     walk_at "r"
     refine A4 (q9 (s8.seq hC) ?_)
     rw[List.length_map]
     walk_at "r"
     obtain⟨kd,hkd,hkd'⟩:=I9 (ss:=ks) (i:=x/3 % (ks.length:Int)) (Int.emod_nonneg _ (by omega)) (Int.emod_lt_of_pos _ (by omega))
     refine j7 (s8.seq hC) hkd ?_
     walk_at "r"
     refine⟨i8 (by simp),fun l9 n9=>?_⟩
     obtain⟨H9,e9,f9,m9,_⟩:=d9 (o:= .tup _) n9
     rw[e9]
     walk_at "r"
     refine .inr (.inr (.inr ⟨l9,l8,_,_,rfl,rfl,SqT.of f9,SqT.of (m9 _ _ f8),by simp,i8 (by simp),(fun z=>by cases z),fun _ l10 n10=>?_⟩))
     obtain⟨H10,e10,f10,m10,_⟩:=d9 (o:= .tup (Y8 (kd,o1,o2))) n10
     rw[show([V.str kd]++[V.str o1,V.str o2]:List V)=Y8 (kd,o1,o2) from rfl,e10]
     walk_at "r"
     refine⟨c,i,by rw[Int.zero_add];rfl,by omega,fun H11 m11=>?_⟩
     have M:=m8.trans (m9.trans (m10.trans m11))
     have s11:=s6.trans M
     have g11:=M _ _ g6
     have t11:=M _ _ t6
     have w11:=w6.mono M.le
     refine Y0 (z9 (k:=Sum.inr (nmS c i)) t11 (i8 (by have z:=w11.length;omega)) ?_)
     have ek:z6 kvs (Sum.inr (nmS c i):Key) (.ref l10)=kvs++[(Sum.inr (nmS c i),.ref l10)]:=O7 _ (M5 (by rw[w11.keys,←u8];exact fun m=>fresh (List.mem_append_right _ (Z7 m))))
     refine⟨pts,_,ts++[(nmS c i,(kd,o1,o2))],_,_,_,_,rfl,K6 s11 nq0,by rw[d0 hpq];exact g11,i7,?_,b3d d1 fresh,b1T sub1 here,?_,?_,k1,?_⟩
     ·rw[ek]
      exact z7 (Paired.imp' (fun _ _ z=>a0R t11 z) w11) (a0R t11 ⟨rfl,l10,rfl,SqT.of (m11 _ _ f10)⟩)
     ·rw[List.length_append,List.length_singleton];omega
     ·intro x hx
      rcases List.mem_append.mp hx with h'|h'
      ·exact l2 x h'
      ·rw[List.mem_singleton.mp h'];exact⟨a1.mem_iff.mp hm1,a1.mem_iff.mp hm2⟩
     ·intro y hy
      rcases List.mem_append.mp hy with h'|h'
      ·exact k2 y h'
      ·rw[List.mem_singleton.mp h'];exact hkk _ hkd'
  ·rintro σ H3 ⟨pts,kvs,ts,v1,v2,v3,v4,rfl,s3,g3,t3,w3,d1,d2,l1,l2,k1,k2⟩
   refine⟨Nat.le_refl _,?_⟩
   walk_at "r"
   refine⟨i8 (by simp),fun l9 n9=>?_⟩
   obtain⟨H9,e9,f9,m9,_⟩:=d9 (H:=H3) (o:= .tup [.ref p,.ref q]) n9
   change Q _ (upd H3 l9 _)
   rw[e9]
   have hgn:∀x∈pts.map (·.1)++ts.map (·.1),O9 x=true:=fun x hx=>by
    obtain⟨j,_,rfl⟩:=List.mem_map.mp (d2 x hx)
    exact a5r c j
   have hnl:∀x∈pts.map (·.1)++ts.map (·.1),x.length≤100:=fun x hx=>by
    have z:=hgn x hx
    unfold O9 at z
    have:=a2m (Bool.and_eq_true _ _▸z).1
    omega
   exact k l9 p q kvs ⟨pts,ts⟩ H9 (s3.trans m9) ⟨⟨SqT.of f9,.inl (m9 _ _ g3),.inl (m9 _ _ t3),w3.mono m9.le⟩,m9 _ _ g3,m9 _ _ t3,hpq,d1,by show(pts.map (·.1)++ts.map (·.1)).length≤24;rw[List.length_append,List.length_map,List.length_map];omega,l2,hnl⟩ ⟨hgn,k1,k2⟩ (by show pts.length+ts.length≤12;omega) (fun x hx=>by
    obtain⟨j,hj,rfl⟩:=List.mem_map.mp (d2 x hx)
    have:=List.mem_range.mp hj
    exact⟨j,by omega,rfl⟩)
def a0z (K:PySem.W.Frag):Sp:=fun vs H Q _=>∃(a:Addr) (ns:List Int),vs=[.ref a]∧SqL K H a (ns.map V.int)∧ns.length≤63∧∀(t lk b p q:Addr) (kvs:List (Key×V)) (W:Web) (c:Int) (ks:List Str) (H':Hp),Same H H'→H' t=some (.tup [.int c,.ref lk,.ref b])→H' lk=some (.lst (ks.map V.str))→0<ks.length→ks.length≤3→(∀s∈ks,B1 s=true)→0≤c→WebIs 24 K H' b p q kvs W→a5G W→W.pts.length+W.ts.length≤12→(∀x∈i9 W,∃j,j<13∧x=nmS c j)→Q (.ref t) H'
theorem a5Y {f:Addr}{fd:FuncData}(T:Txt K mg)(B8:Cal P w K mg base CX0 1 "_law_mixed" ["_law_cell","_law_k"] [] (O4 K))(A0:Cal P w K mg base CX0 1 "_law_cell_at" ["_law_script","_law_k"] [] (J2 K))(E7:Cal P w K mg base CX0 1 "_law_words" ["_law_number","_law_many"] [] (O2 K))(a1g:Cal P w K mg base CX0 2 "_law_web" ["_law_script","_law_number","_law_kinds"] [] (a0y K))(F:Fun K "_law_set" "_law_set" N5 f fd):FnOk P w K mg base CX0 3 f fd ["_law_script"] (a0z K):=by
 refine F.ok sc__law_set (fun vs H Q E h=>?_) (fun cdv A outer s H vs Q E hr h=>?_)
 ·obtain⟨a,ns,rfl,_⟩:=h
  rfl
 ·obtain⟨a,ns,rfl,hA,hl,k⟩:=h
  have hN:=sc__law_set.nd
  have hu:=u9 hr
  refine⟨_,QSs.r (qsC (u4 (i:=1) hN rfl (by walk_at "l") (qC B8 (hr.mono (by decide)) p0 (qa1 (qC A0 (hr.mono (by decide)) p0 (qa1 (qV 0) (qa1 i6 qa0))) (qa1 i6 qa0))))
   (qsC (u4 (i:=2) hN rfl (by walk_at "l") (qC B8 (hr.mono (by decide)) p0 (qa1 (qC A0 (hr.mono (by decide)) p0 (qa1 (qV 0) (qa1 i6 qa0))) (qa1 i6 qa0))))
   (qsC (u4 (i:=3) hN rfl (by walk_at "l") (qC E7 (hr.mono (by decide)) p0 (qa1 (qOp B2 (qV 2) i6) (qa1 (qOp (A5 K) i6 (qOp q5 (qV 2) i6)) qa0))))
   (qs1 (v0 (L5 (qa1 (qV 1) (qa1 (qV 3) (qa1 (qC a1g (hr.mono (by decide)) p0 (qa1 (qV 0) (qa1 (qV 1) (qa1 (qV 3) qa0)))) qa0))))))))),?_⟩
  walk_at "r"
  refine⟨a,ns,0,rfl,hA,hl,by omega,fun c0=>?_⟩
  walk_at "r"
  refine⟨c0,20,rfl,by omega,by omega,fun m0 hm0=>?_⟩
  walk_at "r"
  refine⟨a,ns,1,rfl,hA,hl,by omega,fun c1=>?_⟩
  walk_at "r"
  refine⟨c1,21,rfl,by omega,by omega,fun m1 hm1=>?_⟩
  walk_at "r"
  refine⟨_,_,rfl,by omega,by omega,fun lk H1 ks n1 s1 f1 ⟨h1,h2,h3⟩=>?_⟩
  walk_at "r"
  refine⟨a,lk,m0,ns,ks,rfl,s1.seq hA,hl,SqL.of f1,by omega,by omega,h3,fun b p q kvs W H2 s2 hW hG hz hnm=>?_⟩
  walk_at "r"
  refine⟨i8 (by simp),fun t nt=>?_⟩
  obtain⟨H3,e3,f3,s3,_⟩:=d9 (o:= .tup _) nt
  rw[e3]
  exact k t lk b p q kvs W m0 ks H3 (s1.trans (s2.trans s3)) f3 (s3 _ _ (s2 _ _ f1)) (by omega) (by omega) h3 hm0 (hW.same s3) hG hz hnm--SPLIT
structure b5f (W:Web) (ps ts:List Str):Prop where
 n1:ps.Nodup
 n2:ts.Nodup
 l1:ps.length≤4
 l2:ts.length≤4
 p:∀n∈ps,n∈W.pts.map (·.1)
 t:∀n∈ts,∃x,(n,x)∈W.ts∧x.2.1∈ps∧x.2.2∈ps
def S8 (K:PySem.W.Frag):Sp:=fun vs H Q _=>∃(S:Sd) (lx:Addr) (xs:List Int),vs=[.ref S.a,.ref lx]∧SdIs K H S∧SqL K H lx (xs.map V.int)∧xs.length=16∧(∀x∈xs,0≤x)∧∀(t lp lt:Addr) (ps ts:List Str) (H':Hp),Same H H'→H' t=some (.tup [.ref lp,.ref lt])→H' lp=some (.lst (ps.map V.str))→H' lt=some (.lst (ts.map V.str))→b5f S.W ps ts→Q (.ref t) H'
theorem X6 {xs:List Int}(hl:xs.length=16)(h0:∀x∈xs,0≤x)(i:Nat)(hi:i<16):∃x,atI (xs.map V.int) (i:Int)=some (.int x)∧0≤x:=
 ⟨xs[i]'(by omega),b8 (j:=i) (by rw[List.getElem?_map,List.getElem?_eq_getElem (by omega)];rfl),h0 _ (List.getElem_mem _)⟩
theorem a3A {f:Addr}{fd:FuncData}(T:Txt K mg)(F:Fun K "_law_picked" "_law_picked" C9 f fd):FnOk P w K mg base CX0 1 f fd ["_law_web_here","_law_xs"] (S8 K):=by
 refine F.ok sc__law_picked (fun vs H Q E h=>?_) (fun cdv A outer s H vs Q E hr h=>?_)
 ·obtain⟨S,lx,xs,rfl,_⟩:=h
  rfl
 ·obtain⟨S,lx,xs,rfl,hS,hX,hxl,hx0,k⟩:=h
  have hSl:=hS.len
  rw[J3] at hSl
  have hN:=sc__law_picked.nd
  have hu:=u9 hr
  refine⟨_,QSs.r (qsC (u4 (i:=2) hN rfl (by walk_at "l") (qB (O1 K rfl) T.b_sorted Boot.«sorted» (qa1 (qIx (kIx K hu) (qV 0) i6 (fun _ _=>rfl)) qa0)))
   (qsC (u4 (i:=3) hN rfl (by walk_at "l") (a1p qa0))
   (qsC (V6 PassesOwn.never rfl (a4w T.b_range (qa1 (qOp P8 (qOp q5 (qIx (kIx K hu) (qV 1) i6 (fun _ _=>rfl)) i6) (qBT a2b T.b_int Boot.«int» (qa1 (a5b (X0 K hr) (qV 2) (a1p qa0) (u7 _)) qa0))) qa0)) (qgN (i:=4) hN rfl (by walk_at "l"))
    (qs1 (qIf (p8 (Q8 K hu) (qIx (kIx K hu) (qV 2) (qOp q5 (qIx (kIx K hu) (qV 1) (qOp (A5 K) i6 (qV 4)) (fun _ _=>rfl)) (qB (A3 K P w) T.b_len Boot.«len» (qa1 (qV 2) qa0))) (fun _ _=>rfl)) (qV 3) (by rfl)) (qs1 (qEx (qM PySem.F.plainAttrs_list PySem.F.slot_list_append PySem.F.type_list_append A8 K (qV 3) (qa1 (qIx (kIx K hu) (qV 2) (qOp q5 (qIx (kIx K hu) (qV 1) (qOp (A5 K) i6 (qV 4)) (fun _ _=>rfl)) (qB (A3 K P w) T.b_len Boot.«len» (qa1 (qV 2) qa0))) (fun _ _=>rfl)) qa0)))) qs0)))
   (qsC (u4 (i:=5) hN rfl (by walk_at "l") (a1p qa0))
   (qsC (V6 PassesOwn.never rfl (Y7 K T.b_enumerate (qa1 (qB (O1 K rfl) T.b_sorted Boot.«sorted» (qa1 (qIx (kIx K hu) (qV 0) i6 (fun _ _=>rfl)) qa0)) qa0)) (qgT K rfl (qg1 (qgN (i:=6) hN rfl (by walk_at "l")) (qg1 (qgN (i:=7) hN rfl (by walk_at "l")) qg0)))
    (qsC (u4 (i:=8) hN rfl (by walk_at "l") (qIx (kIx K hu) (qIx (kIx K hu) (qV 0) i6 (fun _ _=>rfl)) (qV 7) (fun _ _=>rfl)))
   (qs1 (qIf (qtW (a1O (p8 (kIn K hu) (qIx (kIx K hu) (qV 8) i6 (fun _ _=>rfl)) (qV 3) (by rfl)) (a1O (p8 (kIn K hu) (qIx (kIx K hu) (qV 8) i6 (fun _ _=>rfl)) (qV 3) (by rfl)) (a1O (p8 a7e (qB (A3 K P w) T.b_len Boot.«len» (qa1 (qV 5) qa0)) i6 (u7 _)) (a1i (p8 a9R (qOp q5 (qOp B2 (qIx (kIx K hu) (qV 1) i6 (fun _ _=>rfl)) (qOp (A5 K) (qV 6) i6)) i6) i6 (u7 _))))))) (qs1 (qEx (qM PySem.F.plainAttrs_list PySem.F.slot_list_append PySem.F.type_list_append A8 K (qV 5) (qa1 (qV 7) qa0)))) qs0))))
   (qs1 (v0 (L5 (qa1 (qV 3) (qa1 (qV 5) qa0)))))))))),?_⟩
  refine r9 ?_
  walk_at "e"
  refine b6 hS.at_.tup (b8 (j:=0) rfl) ?_
  walk_at "e"
  refine w4 (ss:=S.W.pts.map (·.1)) hS.at_.pts (by rw[E2,u8]) (by rw[List.length_map];omega) (fun s1 a1 a2 l1 n1=>?_)
  obtain⟨H1,e1,f1,m1,_⟩:=d9 (o:= .lst _) n1
  rw[e1]
  have g1:=a1.length_eq
  rw[List.length_map] at g1
  walk_at "e"
  refine r9 ?_
  walk_at "e"
  refine⟨i8 (by simp),fun lp np=>?_⟩
  obtain⟨H2,e2,f2,m2,_⟩:=d9 (o:= .lst []) np
  rw[e2]
  walk_at "e"
  refine r9 ?_
  walk_at "e"
  obtain⟨x0,hx,hx'⟩:=X6 hxl hx0 0 (by omega)
  refine j7 ((m1.trans m2).seq hX) hx ?_
  walk_at "e"
  refine⟨i8 (by simp),fun l3 n3=>?_⟩
  obtain⟨H3,e3,f3,m3,_⟩:=d9 (o:= .lst []) n3
  rw[e3]
  refine b2h (a5O (SqL.of (m3 _ _ (m2 _ _ f1))) (SqL.of f3) (W8 _) rfl ?_)
  refine .inr ⟨_,rfl,?_⟩
  have hem:T0 (s1.map V.str) []=decide (s1=[]):=by cases s1<;>rfl
  rw[hem]
  generalize hn:(if(!decide (s1=[]))=true then(1:Int) else 0)=n
  have hn01:(n=0∨n=1)∧(n=1→0<s1.length):=by
   subst hn
   cases s1 with
   |nil=>simp
   |cons _ _=>simp
  have hp0:lp≠l1:=g0 f1 np|>.symm
  walk_at "e"
  have hmul:0≤x0 % 5*n∧x0 % 5*n≤4∧(0<x0 % 5*n→n=1):=by
   rcases hn01.1 with rfl|rfl<;>omega
  generalize x0 % 5*n=cnt at hmul⊢
  refine Q0 (by omega) (by omega) ?_
  have M3:=m1.trans (m2.trans m3)
  refine E1 (n:=cnt.toNat) (fun i σ H'=>Same H H'∧H' l1=some (.lst (s1.map V.str))∧(∃v4,σ=[some (.ref S.a),some (.ref lx),some (.ref l1),some (.ref lp),v4,none,none,none,none])∧∃ps:List Str,H' lp=some (.lst (ps.map V.str))∧ps.Nodup∧ps.length≤i∧∀n∈ps,n∈s1)
   ⟨M3,m3 _ _ (m2 _ _ f1),⟨_,rfl⟩,[],m3 _ _ f2,List.nodup_nil,Nat.le_refl _,fun _ h=>nomatch h⟩ (fun i σ H' hi _=>by exact hi) ?_ ?_
  ·rintro i v σ H4' H4 hi ⟨s4,h4,⟨v4,rfl⟩,ps,g4,nd4,hl4,in4⟩ ⟨rfl,rfl⟩
   have hpos:0<s1.length:=hn01.2 (hmul.2.2 (by omega))
   obtain⟨xj,hxj,hxj'⟩:=X6 hxl hx0 (1+i) (by omega)
   have hxe:((1+i:Nat):Int)=1+(0+(i:Int)):=by omega
   rw[hxe] at hxj
   obtain⟨nm,hnm,hnm'⟩:=I9 (ss:=s1) (i:=xj % (s1.length:Int)) (Int.emod_nonneg _ (by omega)) (Int.emod_lt_of_pos _ (by omega))
   walk_at "e"
   refine j7 (s4.seq hX) hxj ?_
   walk_at "e"
   refine A4 (q9 (SqL.of h4) ?_)
   rw[List.length_map]
   walk_at "e"
   refine j7 (SqL.of h4) hnm ?_
   walk_at "e"
   refine N9 (SqL.of g4) ?_
   walk_at "e"
   refine P2 (fun hb=>?_) (fun hb=>?_)
   ·walk_at "e"
    refine⟨.inl ⟨rfl,_,SqL.of g4⟩,?_⟩
    walk_at "e"
    refine j7 (s4.seq hX) hxj ?_
    walk_at "e"
    refine A4 (q9 (SqL.of h4) ?_)
    rw[List.length_map]
    walk_at "e"
    refine j7 (SqL.of h4) hnm ?_
    walk_at "e"
    refine⟨lp,_,_,rfl,rfl,g4,K8 (by rw[List.length_map];omega),?_⟩
    refine⟨K6 s4 (m1.free np),by rw[d0 hp0.symm];exact h4,⟨_,rfl⟩,ps++[nm],?_,A2 nd4 hb,by rw[List.length_append,List.length_singleton];omega,fun n hn=>?_⟩
    ·rw[i7,List.map_append];rfl
    ·rcases List.mem_append.mp hn with z|z
     ·exact in4 n z
     ·rw[List.mem_singleton.mp z];exact hnm'
   ·walk_at "e"
    exact⟨s4,h4,⟨_,rfl⟩,ps,g4,nd4,by omega,in4⟩
  ·rintro σ H4 ⟨s4,h4,⟨v4,rfl⟩,ps,g4,nd4,hl4,in4⟩
   refine⟨Nat.le_refl _,?_⟩
   have S4:=hS.same s4
   refine r9 ?_
   walk_at "e"
   refine⟨i8 (by simp),fun lt nt=>?_⟩
   obtain⟨H5,e5,f5,m5,_⟩:=d9 (H:=H4) (o:= .lst []) nt
   change M0 _ _ _ (upd H4 lt _) _
   rw[e5]
   walk_at "e"
   refine r9 ?_
   walk_at "e"
   have S5:=S4.same m5
   refine b6 S5.at_.tup (b8 (j:=1) rfl) ?_
   walk_at "e"
   refine w4 (ss:=S.W.ts.map (·.1)) S5.at_.ties (by rw[S5.at_.ts.keys,u8]) (by rw[List.length_map];omega) (fun s2 b1 b2 l6 n6=>?_)
   obtain⟨H6,e6,f6,m6,_⟩:=d9 (o:= .lst _) n6
   rw[e6]
   have g2:=b1.length_eq
   rw[List.length_map] at g2
   have nd2:s2.Nodup:=b1.nodup_iff.mpr (a1a hS.nd)
   have hlt6:lt≠l6:=g0 f5 n6
   have hlpt:lp≠lt:=g0 g4 nt
   walk_at "e"
   refine⟨_,rfl,.inl ⟨l6,_,rfl,SqL.of f6,?_⟩⟩
   have M6:=m5.trans m6
   refine E1 (n:=s2.length) (fun i σ H'=>Same H4 H'∧H' l6=some (.lst (s2.map V.str))∧(∃v4 v6 v7 v8,σ=[some (.ref S.a),some (.ref lx),some (.ref l1),some (.ref lp),v4,some (.ref lt),v6,v7,v8])∧∃ts:List Str,H' lt=some (.lst (ts.map V.str))∧ts.Nodup∧ts.length≤4∧(∀n∈ts,n∈s2.take i)∧∀n∈ts,∃x,(n,x)∈S.W.ts∧x.2.1∈ps∧x.2.2∈ps)
    ⟨M6,f6,⟨_,_,_,_,rfl⟩,[],m6 _ _ f5,List.nodup_nil,Nat.zero_le _,(fun _ h=>nomatch h),fun _ h=>nomatch h⟩ (fun i σ H' hi hp=>⟨_,.str (s2[i]),SqL.of hp.2.1,by rw[List.getElem?_map,List.getElem?_eq_getElem hi];rfl⟩) ?_ ?_
   ·rintro i v σ H7 H8 hi ⟨s7,h7,⟨v4,v6,v7,v8,rfl⟩,ts,g7,nd7,hl7,in7,ok7⟩ ⟨t,x,hx,nt',rfl,rfl⟩
    have hx':=hx _ (SqL.of h7)
    rw[List.getElem?_map,List.getElem?_eq_getElem hi] at hx'
    cases hx'
    obtain⟨H9,e9,f9,m9,_⟩:=d9 (o:= .tup _) nt'
    rw[e9]
    have e7:s2.take (i+1)=s2.take i++[s2[i]]:=by rw[List.take_succ,List.getElem?_eq_getElem hi];rfl
    have nin:s2[i]∉ts:=fun m=>by
     have z:(s2.take (i+1)).Nodup:=nd2.sublist (List.take_sublist _ _)
     rw[e7] at z
     exact(List.nodup_append.mp z).2.2 _ (in7 _ m) _ (by simp) rfl
    have hin:s2[i]∈S.W.ts.map (·.1):=b1.mem_iff.mp (List.getElem_mem hi)
    have s9:=s7.trans m9
    have S9:=S4.same s9
    have p9:=s9 _ _ g4
    have g9:=m9 _ _ g7
    have h9:=m9 _ _ h7
    obtain⟨aa,⟨y1,y2,y3⟩,q1,q2,q3⟩:=TiesIs.val (ts:=S.W.ts) S9.at_.ts hin
    refine D2 (SqT.of f9) rfl ?_
    walk_at "r"
    refine b6 S9.at_.tup (b8 (j:=1) rfl) ?_
    walk_at "r"
    refine w5 (v:= .ref aa) (by have z:=D4 (k:=Sum.inr s2[i]) S9.at_.ties;rw[q1] at z;exact z) ?_
    have stay:Same H4 H9∧H9 l6=some (.lst (s2.map V.str))∧(∃v4' v6 v7 v8,[some (V.ref S.a),some (.ref lx),some (.ref l1),some (.ref lp),v4,some (.ref lt),some (.int (i:Int)),some (.str s2[i]),some (.ref aa)]=[some (.ref S.a),some (.ref lx),some (.ref l1),some (.ref lp),v4',some (.ref lt),v6,v7,v8])∧∃ts:List Str,H9 lt=some (.lst (ts.map V.str))∧ts.Nodup∧ts.length≤4∧(∀n∈ts,n∈s2.take (i+1))∧∀n∈ts,∃x,(n,x)∈S.W.ts∧x.2.1∈ps∧x.2.2∈ps:=
     ⟨s9,h9,⟨_,_,_,_,rfl⟩,ts,g9,nd7,hl7,fun n hn=>by rw[e7];exact List.mem_append_left _ (in7 n hn),ok7⟩
    walk_at "r"
    refine b6 q3 (b8 (j:=1) rfl) ?_
    walk_at "r"
    refine a0e (SqL.of p9) ?_
    walk_at "r"
    refine P6 (fun c1=>?_) (fun c1=>?_)
    ·walk_at "r"
     refine b6 q3 (b8 (j:=2) rfl) ?_
     walk_at "r"
     refine a0e (SqL.of p9) ?_
     walk_at "r"
     refine P6 (fun c2=>?_) (fun c2=>?_)
     ·walk_at "r"
      refine A4 (q9 (SqL.of g9) ?_)
      rw[List.length_map]
      walk_at "r"
      refine P6 (fun c3=>?_) (fun c3=>?_)
      ·obtain⟨x5,hx5,hx5'⟩:=X6 hxl hx0 5 (by omega)
       walk_at "r"
       refine j7 ((s4.trans s9).seq hX) hx5 ?_
       walk_at "r"
       refine P6 (fun c4=>?_) (fun c4=>?_)
       ·walk_at "r"
        refine⟨.inl ⟨rfl,_,SqL.of g9⟩,?_⟩
        walk_at "r"
        refine⟨lt,_,_,rfl,rfl,g9,K8 (by rw[List.length_map];omega),?_⟩
        refine⟨K6 s9 nt,by rw[d0 hlt6.symm];exact h9,⟨_,_,_,_,rfl⟩,ts++[s2[i]],?_,A2 nd7 nin,by rw[List.length_append,List.length_singleton];omega,fun n hn=>?_,fun n hn=>?_⟩
        ·rw[i7,List.map_append];rfl
        ·rw[e7]
         rcases List.mem_append.mp hn with z|z
         ·exact List.mem_append_left _ (in7 n z)
         ·exact List.mem_append_right _ z
        ·rcases List.mem_append.mp hn with z|z
         ·exact ok7 n z
         ·rw[List.mem_singleton.mp z];exact⟨_,q2,c1,c2⟩
       ·walk_at "r"
        exact stay
      ·walk_at "r"
       exact stay
     ·walk_at "r"
      exact stay
    ·walk_at "r"
     exact stay
   ·rintro σ H7 ⟨s7,h7,⟨v4,v6,v7,v8,rfl⟩,ts,g7,nd7,hl7,in7,ok7⟩
    refine⟨⟨_,SqL.of h7,by rw[List.length_map];exact Nat.le_refl _⟩,?_⟩
    walk_at "r"
    refine⟨i8 (by simp),fun t nt'=>?_⟩
    obtain⟨H9,e9,f9,m9,_⟩:=d9 (H:=H7) (o:= .tup [.ref lp,.ref lt]) nt'
    change Q _ (upd H7 t _)
    rw[e9]
    exact k t lp lt ps ts H9 (s4.trans (s7.trans m9)) f9 (m9 _ _ (s7 _ _ g4)) (m9 _ _ g7) ⟨nd4,nd7,by omega,hl7,fun n hn=>a1.mem_iff.mp (in4 n hn),ok7⟩
structure b5h (W:Web) (ps ts os:List Str):Prop where
 sub:∀n∈os,n∈ps++ts
 len:os.length≤8
 ok:∀n∈ts,n∉os→∀x,(n,x)∈W.ts→x.2.1∉os∧x.2.2∉os
 lo:∀n x,(n,x)∈W.ts→(x.2.1∈os∨x.2.2∈os)→n∈os
def a0J (K:PySem.W.Frag):Sp:=fun vs H Q _=>∃(S:Sd) (lp lt lx:Addr) (ps ts:List Str) (xs:List Int),vs=[.ref S.a,.ref lp,.ref lt,.ref lx]∧SdIs K H S∧SqL K H lp (ps.map V.str)∧SqL K H lt (ts.map V.str)∧b5f S.W ps ts∧SqL K H lx (xs.map V.int)∧xs.length=16∧(∀x∈xs,0≤x)∧∀(l:Addr) (os:List Str) (H':Hp),H l=none→Same H H'→H' l=some (.lst (os.map V.str))→b5h S.W ps ts os→Q (.ref l) H'
theorem a5E {f:Addr}{fd:FuncData}(T:Txt K mg)(F:Fun K "_law_out" "_law_out" M8 f fd):FnOk P w K mg base CX0 1 f fd ["_law_web_here","_law_points","_law_ties","_law_xs"] (a0J K):=by
 refine F.ok sc__law_out (fun vs H Q E h=>?_) (fun cdv A outer s H vs Q E hr h=>?_)
 ·obtain⟨S,lp,lt,lx,ps,ts,xs,rfl,_⟩:=h
  rfl
 ·obtain⟨S,lp,lt,lx,ps,ts,xs,rfl,hS,hP,hT,pk,hX,hxl,hx0,k⟩:=h
  have hSl:=hS.len
  rw[J3] at hSl
  have hkl:=hS.at_.ts.length
  have pl1:=pk.l1
  have pl2:=pk.l2
  have hN:=sc__law_out.nd
  have hu:=u9 hr
  refine⟨_,QSs.r (qsC (u4 (i:=4) hN rfl (by walk_at "l") (a1p qa0))
   (qsC (V6 PassesOwn.never rfl (Y7 K T.b_enumerate (qa1 (qV 1) qa0)) (qgT K rfl (qg1 (qgN (i:=5) hN rfl (by walk_at "l")) (qg1 (qgN (i:=6) hN rfl (by walk_at "l")) qg0)))
    (qsC (a3a (i:=7) hN rfl (by walk_at "l") (own:=["_law_tie"]) (js:=[6,2,0]) (by kernel_rfl) rfl (a0m K (qIx (kIx K hu) (qV 0) i6 (fun _ _=>rfl))) (fun _ _ _ _=>(qgN (i:=0) (show List.Nodup (["_law_tie","_law_name_here","_law_ties","_law_web_here"]:List Str) by decide+kernel) rfl (by walk_at "l"))) (fun _ _ _ _=>(b0v (qtW (a1O (p8 (kIn K hu) (qV 1) (qSl (kSl K) (qIx (kIx K hu) (qIx (kIx K hu) (qV 3) i6 (fun _ _=>rfl)) (qV 0) (fun _ _=>rfl)) (qoS i6) qoN) (by rfl)) (a1i (p8 (Q8 K hu) (qV 0) (qV 2) (by rfl))))))) (fun _ _ _ _=>(qV 0)))
   (qs1 (qIf (qtW (a1O (p8 (a3z K hr) (qOp a9C (qOp b0T (qIx (kIx K hu) (qV 3) i6 (fun _ _=>rfl)) (qV 5)) i6) i6 (u7 _)) (a1i (p8 (a3z K hr) (qV 7) (a1p qa0) (u7 _))))) (qs1 (qEx (qM PySem.F.plainAttrs_list PySem.F.slot_list_append PySem.F.type_list_append A8 K (qV 4) (qa1 (qV 6) qa0)))) qs0))))
   (qsC (V6 PassesOwn.never rfl (Y7 K T.b_enumerate (qa1 (qV 2) qa0)) (qgT K rfl (qg1 (qgN (i:=5) hN rfl (by walk_at "l")) (qg1 (qgN (i:=6) hN rfl (by walk_at "l")) qg0)))
    (qs1 (qIf (qtW (a1q (p8 (kIn K hu) (qIx (kIx K hu) (qIx (kIx K hu) (qIx (kIx K hu) (qV 0) i6 (fun _ _=>rfl)) (qV 6) (fun _ _=>rfl)) i6 (fun _ _=>rfl)) (qV 4) (by rfl)) (a1q (p8 (kIn K hu) (qIx (kIx K hu) (qIx (kIx K hu) (qIx (kIx K hu) (qV 0) i6 (fun _ _=>rfl)) (qV 6) (fun _ _=>rfl)) i6 (fun _ _=>rfl)) (qV 4) (by rfl)) (a0i (p8 (a3z K hr) (qOp a9C (qOp b0T (qIx (kIx K hu) (qV 3) i6 (fun _ _=>rfl)) (qV 5)) i6) i6 (u7 _)))))) (qs1 (qEx (qM PySem.F.plainAttrs_list PySem.F.slot_list_append PySem.F.type_list_append A8 K (qV 4) (qa1 (qV 6) qa0)))) qs0)))
   (qs1 (v0 (qV 4)))))),?_⟩
  refine r9 ?_
  walk_at "e"
  refine⟨i8 (by simp),fun lo no=>?_⟩
  obtain⟨H1,e1,f1,m1,_⟩:=d9 (o:= .lst []) no
  rw[e1]
  walk_at "e"
  refine r9 ?_
  walk_at "e"
  refine⟨_,rfl,.inl ⟨lp,_,rfl,m1.seq hP,?_⟩⟩
  refine E1 (n:=ps.length) (fun i σ H'=>Same H H'∧(∃v5 v6 v7,σ=[some (.ref S.a),some (.ref lp),some (.ref lt),some (.ref lx),some (.ref lo),v5,v6,v7])∧∃os:List Str,H' lo=some (.lst (os.map V.str))∧os.length≤i∧(∀n∈os,n∈ps)∧∀n∈os,∀y∈S.W.ts,(n=y.2.2.1∨n=y.2.2.2)→y.1∈ts)
   ⟨m1,⟨_,_,_,rfl⟩,[],f1,Nat.le_refl _,(fun _ h=>nomatch h),fun _ h=>nomatch h⟩ (fun i σ H' hi hp=>⟨_,.str (ps[i]),hp.1.seq hP,by rw[List.getElem?_map,List.getElem?_eq_getElem hi];rfl⟩) ?_ ?_
  ·rintro i v σ H2 H2' hi ⟨s2,⟨v5,v6,v7,rfl⟩,os,g2,hl2,in2,lo2⟩ ⟨t,x,hx,nt,rfl,rfl⟩
   have hx':=hx _ (s2.seq hP)
   rw[List.getElem?_map,List.getElem?_eq_getElem hi] at hx'
   cases hx'
   obtain⟨H3,e3,f3,m3,_⟩:=d9 (o:= .tup _) nt
   rw[e3]
   have s3:=s2.trans m3
   have S3:=hS.same s3
   refine D2 (SqT.of f3) rfl ?_
   walk_at "r"
   refine b6 S3.at_.tup (b8 (j:=1) rfl) ?_
   refine a1w S3.hq (fun ndq o4=>?_)
   refine z5 (n:=S.kvs.length) (fun j out H'=>Same (B6 S.q o4 S.kvs H3) H'∧∃ls:List Str,out=ls.map V.str∧ls.length≤j∧∀y∈S.W.ts.take j,(ps[i]=y.2.2.1∨ps[i]=y.2.2.2)→y.1∉ts→y.1∈ls) ⟨Same.refl _,[],rfl,Nat.le_refl _,fun _ h=>by simp at h⟩ (fun j out H' hj hp=>⟨hp.1 _ _ i7,hj⟩) ?_ ?_
   ·rintro N j v out H5' H5 hj ⟨s5,ls,rfl,hls,loo⟩ ⟨rfl,kv,hkv,rfl⟩ hN'
    have le5:=(Q6 (o:=o4) S3.hq).trans s5.le
    have S5:=S3.at_.mono le5
    obtain⟨x,hx,ex,bb,eb,sb⟩:=S5.ts.get hkv
    have hkm:=List.mem_of_getElem? hkv
    obtain⟨kk,kvv⟩:=kv
    have ex':kk=Sum.inr x.1:=ex
    have eb':kvv= .ref bb:=eb
    subst ex' eb'
    obtain⟨x0,x1,x2,x3⟩:=x
    have e9:S.W.ts.take (j+1)=S.W.ts.take j++[(x0,x1,x2,x3)]:=by rw[List.take_succ,hx];rfl
    have no:∀{HZ:Hp},((ps[i]=x2∨ps[i]=x3)→x0∉ts→False)→Same H5 HZ→N (ls.map V.str) HZ:=fun hf sz=>hN' _ _ ⟨s5.trans sz,ls,rfl,by omega,fun y hy h1 h2=>by
     rw[e9] at hy
     rcases List.mem_append.mp hy with z|z
     ·exact loo y z h1 h2
     ·have ez:=List.mem_singleton.mp z
      subst ez
      exact(hf h1 h2).elim⟩
    walk_at "r"
    refine⟨rfl,?_⟩
    walk_at "r"
    refine b6 S5.tup (b8 (j:=1) rfl) ?_
    walk_at "r"
    refine w5 (v:= .ref bb) (by have z:=D4 (k:=Sum.inr x0) S5.ties;rw[a0W (kv:=(Sum.inr x0,.ref bb)) ndq hkm] at z;exact z) ?_
    walk_at "r"
    refine a9u sb (by rintro⟨z,_⟩;exact absurd (show(1:Nat)=0 from z) (by decide)) (fun l6 n6=>?_)
    obtain⟨H6,e6,f6,m6,_⟩:=d9 (o:= .tup [.str x2,.str x3]) n6
    rw[show a2y (Y8 (x1,x2,x3)) (some 1) none=[V.str x2,.str x3] from rfl,e6]
    refine a6c (.inr (SqT.of f6)) rfl rfl ?_
    walk_at "r"
    refine a4P (fun b1=>?_) (fun b1=>?_)
    ·walk_at "r"
     refine N9 ((((Same.le s3).trans le5).trans m6.le).lst hT) ?_
     walk_at "r"
     refine P2 (fun b2=>?_) (fun b2=>?_)
     ·walk_at "r"
      refine⟨i8 (by rw[List.length_map];omega),hN' _ _ ⟨s5.trans m6,ls++[x0],by rw[List.map_append];rfl,by rw[List.length_append,List.length_singleton];omega,fun y hy h1 h2=>by
       rw[e9] at hy
       rcases List.mem_append.mp hy with z|z
       ·exact List.mem_append_left _ (loo y z h1 h2)
       ·have ez:=List.mem_singleton.mp z
        subst ez
        exact List.mem_append_right _ List.mem_cons_self⟩⟩
     ·exact no (fun _ h=>h b2) m6
    ·refine no (fun h _=>?_) m6
     have b1':(eqV (.str x2) (.str ps[i])||(eqV (.str x3) (.str ps[i])||false))=false:=b1
     rcases h with h|h
     ·rw[h] at b1';rw[a1A rfl] at b1';cases b1'
     ·rw[h] at b1';rw[show eqV (.str x3) (.str x3)=true from a1A rfl] at b1';simp at b1'
   ·rintro out H5 ⟨s5,ls,rfl,hls,loo⟩
    rw[hkl,List.take_of_length_le (Nat.le_refl _)] at loo
    refine⟨⟨s5 _ _ i7,Nat.le_refl _⟩,fun D hD=>⟨i8 (by rw[List.length_map];omega),?_⟩⟩
    have sM:=P0 S3.hq s5 hD (u:= .lst (ls.map V.str))
    have fM:=a0v s5 hD (u:= .lst (ls.map V.str))
    generalize thaw S.q (upd H5 D (.lst (ls.map V.str)))=HM at sM fM⊢
    have s6:=s3.trans sM
    have g6:=sM _ _ (m3 _ _ g2)
    have stay:∀{HZ:Hp} {v:Option V},Same HM HZ→Same H HZ∧(∃v5 v6 v7,[some (V.ref S.a),some (.ref lp),some (.ref lt),some (.ref lx),some (.ref lo),some (.int (i:Int)),some (.str ps[i]),v]=[some (.ref S.a),some (.ref lp),some (.ref lt),some (.ref lx),some (.ref lo),v5,v6,v7])∧∃os:List Str,HZ lo=some (.lst (os.map V.str))∧os.length≤i+1∧(∀n∈os,n∈ps)∧∀n∈os,∀y∈S.W.ts,(n=y.2.2.1∨n=y.2.2.2)→y.1∈ts:=fun sz=>⟨s6.trans sz,⟨_,_,_,rfl⟩,os,sz _ _ g6,by omega,in2,lo2⟩
    obtain⟨x6,hx6,hx6'⟩:=X6 hxl hx0 6 (by omega)
    walk_at "r"
    refine j7 (s6.seq hX) hx6 ?_
    walk_at "r"
    refine P6 (fun c1=>?_) (fun c1=>?_)
    ·walk_at "r"
     refine⟨i8 (by simp),fun l8 n8=>?_⟩
     obtain⟨H8,e8,f8,m8,_⟩:=d9 (o:= .lst []) n8
     rw[e8]
     refine a5w (a5R (SqL.of (m8 _ _ fM)) (SqL.of f8) (W8 _) rfl ?_)
     walk_at "r"
     refine a4P (fun c2=>?_) (fun c2=>?_)
     ·have g8:=m8 _ _ g6
      walk_at "r"
      refine⟨.inl ⟨rfl,_,SqL.of g8⟩,?_⟩
      walk_at "r"
      refine⟨lo,_,_,rfl,rfl,g8,K8 (by rw[List.length_map];omega),?_⟩
      refine⟨K6 (s6.trans m8) no,⟨_,_,_,rfl⟩,os++[ps[i]],by rw[i7,List.map_append];rfl,by rw[List.length_append,List.length_singleton];omega,fun n hn=>?_,fun n hn y hy he=>?_⟩
      ·rcases List.mem_append.mp hn with z|z
       ·exact in2 n z
       ·rw[List.mem_singleton.mp z];exact List.getElem_mem hi
      ·rcases List.mem_append.mp hn with z|z
       ·exact lo2 n z y hy he
       ·rw[List.mem_singleton.mp z] at he
        have hls0:ls=[]:=by
         cases ls with
         |nil=>rfl
         |cons _ _=>exact absurd c2 (by simp [T0])
        refine Classical.byContradiction fun hno=>?_
        have:=loo y hy he hno
        rw[hls0] at this;cases this
     ·walk_at "r"
      exact stay m8
    ·walk_at "r"
     exact stay (Same.refl _)
  ·rintro σ H2 ⟨s2,⟨v5,v6,v7,rfl⟩,os,g2,hl2,in2,lo2⟩
   refine⟨⟨_,s2.seq hP,by rw[List.length_map];exact Nat.le_refl _⟩,?_⟩
   refine r9 ?_
   walk_at "e"
   refine⟨_,rfl,.inl ⟨lt,_,rfl,s2.seq hT,?_⟩⟩
   refine E1 (n:=ts.length) (fun i σ H'=>Same H H'∧(∃v5 v6 v7,σ=[some (.ref S.a),some (.ref lp),some (.ref lt),some (.ref lx),some (.ref lo),v5,v6,v7])∧∃os:List Str,H' lo=some (.lst (os.map V.str))∧os.length≤ps.length+i∧(∀n∈os,n∈ps++ts)∧(∀n∈ts.take i,n∉os→∀x,(n,x)∈S.W.ts→x.2.1∉os∧x.2.2∉os)∧∀n∈os,n∈S.W.pts.map (·.1)→∀y∈S.W.ts,(n=y.2.2.1∨n=y.2.2.2)→y.1∈ts)
    ⟨s2,⟨_,_,_,rfl⟩,os,g2,by omega,fun n hn=>List.mem_append_left _ (in2 n hn),(fun _ h=>by simp at h),fun n hn _=>lo2 n hn⟩ (fun i σ H' hi hp=>⟨_,.str (ts[i]),hp.1.seq hT,by rw[List.getElem?_map,List.getElem?_eq_getElem hi];rfl⟩) ?_ ?_
   ·rintro i v σ H3 H3' hi ⟨s3,⟨v5,v6,v7,rfl⟩,os,g3',hl3,in3,ok3,lo3⟩ ⟨t,x,hx,nt,rfl,rfl⟩
    have hx':=hx _ (s3.seq hT)
    rw[List.getElem?_map,List.getElem?_eq_getElem hi] at hx'
    cases hx'
    obtain⟨H4,e4,f4,m4,_⟩:=d9 (o:= .tup _) nt
    rw[e4]
    have s4:=s3.trans m4
    have S4:=hS.same s4
    have g3:=m4 _ _ g3'
    have hnm:=pk.t _ (List.getElem_mem hi)
    have hin:ts[i]∈S.W.ts.map (·.1):=by
     obtain⟨x,hx,_⟩:=hnm
     exact List.mem_map.mpr ⟨_,hx,rfl⟩
    obtain⟨aa,⟨y1,y2,y3⟩,q1,q2,q3⟩:=TiesIs.val (ts:=S.W.ts) S4.at_.ts hin
    have ix:∀{Q:VK},Q (.ref aa) H4→a6o K (.ref S.q) (.str ts[i]) H4 Q:=fun z=>w5 (v:= .ref aa) (by have z:=D4 (k:=Sum.inr ts[i]) S4.at_.ties;rw[q1] at z;exact z) z
    have e7:ts.take (i+1)=ts.take i++[ts[i]]:=by rw[List.take_succ,List.getElem?_eq_getElem hi];rfl
    have far:∀m∈S.W.pts.map (·.1),m≠ts[i]:=fun m hm e=>(List.nodup_append.mp hS.nd).2.2 m hm ts[i] hin e
    have fin:Same H (upd H4 lo (.lst (os.map V.str++[V.str ts[i]])))∧(∃v5 v6 v7',[some (V.ref S.a),some (.ref lp),some (.ref lt),some (.ref lx),some (.ref lo),some (.int (i:Int)),some (.str ts[i]),v7]=[some (.ref S.a),some (.ref lp),some (.ref lt),some (.ref lx),some (.ref lo),v5,v6,v7'])∧∃os':List Str,(upd H4 lo (.lst (os.map V.str++[V.str ts[i]]))) lo=some (.lst (os'.map V.str))∧os'.length≤ps.length+(i+1)∧(∀n∈os',n∈ps++ts)∧(∀n∈ts.take (i+1),n∉os'→∀x,(n,x)∈S.W.ts→x.2.1∉os'∧x.2.2∉os')∧∀n∈os',n∈S.W.pts.map (·.1)→∀y∈S.W.ts,(n=y.2.2.1∨n=y.2.2.2)→y.1∈ts:=by
     refine⟨K6 s4 no,⟨_,_,_,rfl⟩,os++[ts[i]],by rw[i7,List.map_append];rfl,by rw[List.length_append,List.length_singleton];omega,fun n hn=>?_,fun n hn hno x hx=>?_,fun n hn hp y hy he=>?_⟩
     ·rcases List.mem_append.mp hn with z|z
      ·exact in3 n z
      ·rw[List.mem_singleton.mp z];exact List.mem_append_right _ (List.getElem_mem hi)
     ·rw[e7] at hn
      rcases List.mem_append.mp hn with z|z
      ·have h':=ok3 n z (fun m=>hno (List.mem_append_left _ m)) x hx
       have he:=hS.ends (n,x) hx
       exact⟨fun m=>(List.mem_append.mp m).elim h'.1 (fun m=>far _ he.1 (List.mem_singleton.mp m)),fun m=>(List.mem_append.mp m).elim h'.2 (fun m=>far _ he.2 (List.mem_singleton.mp m))⟩
      ·exact absurd (List.mem_append_right _ z) hno
     ·rcases List.mem_append.mp hn with z|z
      ·exact lo3 n z hp y hy he
      ·exact absurd (List.mem_singleton.mp z) (far n hp)
    refine D2 (SqT.of f4) rfl ?_
    walk_at "r"
    refine b6 S4.at_.tup (b8 (j:=1) rfl) ?_
    walk_at "r"
    refine ix ?_
    refine b6 q3 (b8 (j:=1) rfl) ?_
    walk_at "r"
    refine a0e (SqL.of g3) ?_
    walk_at "r"
    refine P6 (fun c1=>?_) (fun c1=>?_)
    ·walk_at "r"
     refine⟨.inl ⟨rfl,_,SqL.of g3⟩,?_⟩
     walk_at "r"
     refine⟨lo,_,_,rfl,rfl,g3,K8 (by rw[List.length_map];omega),?_⟩
     exact fin
    walk_at "r"
    refine b6 S4.at_.tup (b8 (j:=1) rfl) ?_
    walk_at "r"
    refine ix ?_
    refine b6 q3 (b8 (j:=2) rfl) ?_
    walk_at "r"
    refine a0e (SqL.of g3) ?_
    walk_at "r"
    refine P6 (fun c2=>?_) (fun c2=>?_)
    ·walk_at "r"
     refine⟨.inl ⟨rfl,_,SqL.of g3⟩,?_⟩
     walk_at "r"
     refine⟨lo,_,_,rfl,rfl,g3,K8 (by rw[List.length_map];omega),?_⟩
     exact fin
    walk_at "r"
    obtain⟨x7,hx7,hx7'⟩:=X6 hxl hx0 7 (by omega)
    refine j7 (s4.seq hX) hx7 ?_
    walk_at "r"
    refine P6 (fun c3=>?_) (fun c3=>?_)
    ·walk_at "r"
     refine⟨.inl ⟨rfl,_,SqL.of g3⟩,?_⟩
     walk_at "r"
     refine⟨lo,_,_,rfl,rfl,g3,K8 (by rw[List.length_map];omega),?_⟩
     exact fin
    walk_at "r"
    refine⟨s4,⟨_,_,_,rfl⟩,os,g3,by omega,in3,fun n hn hno x hx=>?_,lo3⟩
    rw[e7] at hn
    rcases List.mem_append.mp hn with z|z
    ·exact ok3 n z hno x hx
    ·have hnn:n=ts[i]:=List.mem_singleton.mp z
     subst hnn
     have:x=(y1,y2,y3):=z8 (a1a hS.nd) hx q2
     subst this
     exact⟨c1,c2⟩
   ·rintro σ H3 ⟨s3,⟨v5,v6,v7,rfl⟩,os,g3,hl3,in3,ok3,lo3⟩
    refine⟨⟨_,s3.seq hT,by rw[List.length_map];exact Nat.le_refl _⟩,?_⟩
    rw[List.take_of_length_le (Nat.le_refl _)] at ok3
    walk_at "r"
    exact k lo os H3 no s3 g3 ⟨in3,by omega,ok3,fun n x hx he=>Classical.byContradiction fun hno=>by
     have hen:=hS.ends (n,x) hx
     have hts:n∈ts:=by
      rcases he with he|he
      ·exact lo3 _ he hen.1 (n,x) hx (.inl rfl)
      ·exact lo3 _ he hen.2 (n,x) hx (.inr rfl)
     have z:=ok3 n hts hno x hx
     exact he.elim z.1 z.2⟩
def Wd (ws:List Str)(lo hi:Nat)(n:Str):Prop:=∃j,lo≤j∧j<hi∧ws[j]?=some n
theorem a9t {ws:List Str}(nd:ws.Nodup){i j:Nat}{n:Str}(h1:ws[i]?=some n)(h2:ws[j]?=some n):i=j:=by
 obtain⟨hi,e1⟩:=List.getElem?_eq_some_iff.mp h1
 obtain⟨hj,e2⟩:=List.getElem?_eq_some_iff.mp h2
 have z:=List.pairwise_iff_getElem.mp nd
 rcases Nat.lt_trichotomy i j with h|h|h
 ·exact absurd (e1.trans e2.symm) (z i j hi hj h)
 ·exact h
 ·exact absurd (e2.trans e1.symm) (z j i hj hi h)
theorem Wd.no {ws:List Str}{a b c d:Nat}{n:Str}(nd:ws.Nodup)(h1:Wd ws a b n)(h2:Wd ws c d n)(h:b≤c∨d≤a):False:=by
 obtain⟨i,i1,i2,i3⟩:=h1
 obtain⟨j,j1,j2,j3⟩:=h2
 have:=a9t nd i3 j3
 omega
theorem Wd.up {ws:List Str}{a b c d:Nat}{n:Str}(h:Wd ws a b n)(h1:c≤a)(h2:b≤d):Wd ws c d n:=by
 obtain⟨i,i1,i2,i3⟩:=h
 exact⟨i,by omega,by omega,i3⟩
theorem Wd.in_ {ws:List Str}{a b:Nat}{n:Str}(h:Wd ws a b n):n∈ws:=by
 obtain⟨i,_,_,h⟩:=h
 exact List.mem_of_getElem? h
structure LR (ws:List Str) (i1 i2 i3 i4:Nat) (PL:List (Str×Str)) (TL:List (Str×Tie)) (PR:List (Str×Str)) (TR:List (Str×Tie)):Prop where
 pl:∀x∈PL,Wd ws 0 i1 x.1∧B1 x.2=true
 tl:∀x∈TL,Wd ws 4 (4+i2) x.1∧B1 x.2.1=true∧x.2.2.1∈PL.map (·.1)∧x.2.2.2∈PL.map (·.1)
 ndl:(PL.map (·.1)).Nodup
 ndt:(TL.map (·.1)).Nodup
 ll:PL.length≤i1
 lt:TL.length≤i2
 pr:∀x∈PR,(x∈PL∨Wd ws 8 (8+i3) x.1)∧B1 x.2=true
 tr:∀x∈TR,(x∈TL∨Wd ws 10 (10+i4) x.1)∧B1 x.2.1=true∧x.2.2.1∈PR.map (·.1)∧x.2.2.2∈PR.map (·.1)
 ndr:(PR.map (·.1)).Nodup
 ndu:(TR.map (·.1)).Nodup
 lr:PR.length≤i1+i3
 lu:TR.length≤i2+i4
theorem LR.new:LR ws 0 0 0 0 [] [] [] []:=
 ⟨(fun _ h=>nomatch h),(fun _ h=>nomatch h),List.nodup_nil,List.nodup_nil,Nat.le_refl _,Nat.le_refl _,(fun _ h=>nomatch h),(fun _ h=>nomatch h),List.nodup_nil,List.nodup_nil,Nat.le_refl _,Nat.le_refl _⟩
theorem p7 {α:Type}(l:List (Str×α))(x:Str×α):(l++[x]).map (·.1)=l.map (·.1)++[x.1]:=by rw[List.map_append];rfl
theorem LR.f1 {ws:List Str}{i:Nat}{PL PR:List (Str×Str)}{n:Str}(h:LR ws i 0 0 0 PL [] PR [])(nd:ws.Nodup)(hn:ws[i]?=some n):n∉PL.map (·.1)∧n∉PR.map (·.1):=by
 have a:n∉PL.map (·.1):=fun z=>by
  obtain⟨x,hx,rfl⟩:=List.mem_map.mp z
  exact Wd.no nd (h.pl x hx).1 ⟨i,Nat.le_refl _,Nat.lt_succ_self _,hn⟩ (.inl (Nat.le_refl _))
 refine⟨a,fun z=>?_⟩
 obtain⟨x,hx,rfl⟩:=List.mem_map.mp z
 rcases(h.pr x hx).1 with z|z
 ·exact a (List.mem_map.mpr ⟨x,z,rfl⟩)
 ·obtain⟨j,j1,j2,_⟩:=z
  omega
theorem LR.s1 {ws:List Str}{i:Nat}{PL PR:List (Str×Str)}{n kd:Str}(h:LR ws i 0 0 0 PL [] PR [])(nd:ws.Nodup)(hn:ws[i]?=some n)(hk:B1 kd=true)(b:Bool):LR ws (i+1) 0 0 0 (PL++[(n,kd)]) [] (if b then PR++[(n,kd)] else PR) []:=by
 obtain⟨f1,f2⟩:=h.f1 nd hn
 refine⟨fun x hx=>?_,(fun _ h=>nomatch h),?_,List.nodup_nil,?_,Nat.le_refl _,fun x hx=>?_,(fun _ h=>nomatch h),?_,List.nodup_nil,?_,Nat.le_refl _⟩
 ·rcases List.mem_append.mp hx with z|z
  ·exact⟨(h.pl x z).1.up (Nat.le_refl _) (Nat.le_succ _),(h.pl x z).2⟩
  ·rw[List.mem_singleton.mp z];exact⟨⟨i,Nat.zero_le _,Nat.lt_succ_self _,hn⟩,hk⟩
 ·rw[p7];exact A2 h.ndl f1
 ·rw[List.length_append,List.length_singleton];have:=h.ll;omega
 ·have old:∀x∈PR,(x∈PL++[(n,kd)]∨Wd ws 8 (8+0) x.1)∧B1 x.2=true:=fun x hx=>⟨(h.pr x hx).1.elim (fun z=> .inl (List.mem_append_left _ z)) .inr,(h.pr x hx).2⟩
  cases b with
  |false=>exact old x hx
  |true=>
   rcases List.mem_append.mp (show x∈PR++[(n,kd)] from hx) with z|z
   ·exact old x z
   ·rw[List.mem_singleton.mp z];exact⟨.inl (List.mem_append_right _ List.mem_cons_self),hk⟩
 ·cases b with
  |false=>exact h.ndr
  |true=>show((PR++[(n,kd)]).map (·.1)).Nodup;rw[p7];exact A2 h.ndr f2
 ·cases b with
  |false=>show PR.length≤_;have:=h.lr;omega
  |true=>show(PR++[(n,kd)]).length≤_;rw[List.length_append,List.length_singleton];have:=h.lr;omega
theorem LR.f2 {ws:List Str}{i1 i:Nat}{PL PR:List (Str×Str)}{TL TR:List (Str×Tie)}{n:Str}(h:LR ws i1 i 0 0 PL TL PR TR)(nd:ws.Nodup)(hn:ws[4+i]?=some n):n∉TL.map (·.1)∧n∉TR.map (·.1):=by
 have a:n∉TL.map (·.1):=fun z=>by
  obtain⟨x,hx,rfl⟩:=List.mem_map.mp z
  exact Wd.no nd (h.tl x hx).1 ⟨4+i,Nat.le_refl _,Nat.lt_succ_self _,hn⟩ (.inl (Nat.le_refl _))
 refine⟨a,fun z=>?_⟩
 obtain⟨x,hx,rfl⟩:=List.mem_map.mp z
 rcases(h.tr x hx).1 with z|z
 ·exact a (List.mem_map.mpr ⟨x,z,rfl⟩)
 ·obtain⟨j,j1,j2,_⟩:=z
  omega
theorem LR.s2 {ws:List Str}{i1 i:Nat}{PL PR:List (Str×Str)}{TL TR:List (Str×Tie)}{n kd o1 o2:Str}(h:LR ws i1 i 0 0 PL TL PR TR)(nd:ws.Nodup)(hn:ws[4+i]?=some n)(hk:B1 kd=true)(h1:o1∈PL.map (·.1))(h2:o2∈PL.map (·.1))(b:Bool)(hb:b=true→o1∈PR.map (·.1)∧o2∈PR.map (·.1)):
  LR ws i1 (i+1) 0 0 PL (TL++[(n,(kd,o1,o2))]) PR (if b then TR++[(n,(kd,o1,o2))] else TR):=by
 obtain⟨f1,f2⟩:=h.f2 nd hn
 refine⟨h.pl,fun x hx=>?_,h.ndl,?_,h.ll,?_,h.pr,fun x hx=>?_,h.ndr,?_,h.lr,?_⟩
 ·rcases List.mem_append.mp hx with z|z
  ·exact⟨(h.tl x z).1.up (Nat.le_refl _) (Nat.le_succ _),(h.tl x z).2⟩
  ·rw[List.mem_singleton.mp z];exact⟨⟨4+i,Nat.le_add_right _ _,Nat.lt_succ_self _,hn⟩,hk,h1,h2⟩
 ·rw[p7];exact A2 h.ndt f1
 ·rw[List.length_append,List.length_singleton];have:=h.lt;omega
 ·have old:∀x∈TR,(x∈TL++[(n,(kd,o1,o2))]∨Wd ws 10 (10+0) x.1)∧B1 x.2.1=true∧x.2.2.1∈PR.map (·.1)∧x.2.2.2∈PR.map (·.1):=fun x hx=>⟨(h.tr x hx).1.elim (fun z=> .inl (List.mem_append_left _ z)) .inr,(h.tr x hx).2⟩
  cases b with
  |false=>exact old x hx
  |true=>
   rcases List.mem_append.mp (show x∈TR++[(n,(kd,o1,o2))] from hx) with z|z
   ·exact old x z
   ·rw[List.mem_singleton.mp z];exact⟨.inl (List.mem_append_right _ List.mem_cons_self),hk,hb rfl⟩
 ·cases b with
  |false=>exact h.ndu
  |true=>show((TR++[(n,(kd,o1,o2))]).map (·.1)).Nodup;rw[p7];exact A2 h.ndu f2
 ·cases b with
  |false=>show TR.length≤_;have:=h.lu;omega
  |true=>show(TR++[(n,(kd,o1,o2))]).length≤_;rw[List.length_append,List.length_singleton];have:=h.lu;omega
theorem LR.f3 {ws:List Str}{i1 i2 i:Nat}{PL PR:List (Str×Str)}{TL TR:List (Str×Tie)}{n:Str}(h:LR ws i1 i2 i 0 PL TL PR TR)(nd:ws.Nodup)(h4:i1≤4)(hn:ws[8+i]?=some n):n∉PR.map (·.1):=fun z=>by
 obtain⟨x,hx,rfl⟩:=List.mem_map.mp z
 have w:Wd ws (8+i) (8+i+1) x.1:=⟨8+i,Nat.le_refl _,Nat.lt_succ_self _,hn⟩
 rcases(h.pr x hx).1 with z|z
 ·exact Wd.no nd (h.pl x z).1 w (.inl (by omega))
 ·exact Wd.no nd z w (.inl (Nat.le_refl _))
theorem LR.s3 {ws:List Str}{i1 i2 i:Nat}{PL PR:List (Str×Str)}{TL TR:List (Str×Tie)}{n kd:Str}(h:LR ws i1 i2 i 0 PL TL PR TR)(nd:ws.Nodup)(h4:i1≤4)(hn:ws[8+i]?=some n)(hk:B1 kd=true):LR ws i1 i2 (i+1) 0 PL TL (PR++[(n,kd)]) TR:=by
 refine⟨h.pl,h.tl,h.ndl,h.ndt,h.ll,h.lt,fun x hx=>?_,fun x hx=>?_,?_,h.ndu,?_,h.lu⟩
 ·rcases List.mem_append.mp hx with z|z
  ·exact⟨(h.pr x z).1.imp id fun w=>w.up (Nat.le_refl _) (Nat.le_succ _),(h.pr x z).2⟩
  ·rw[List.mem_singleton.mp z];exact⟨.inr ⟨8+i,Nat.le_add_right _ _,Nat.lt_succ_self _,hn⟩,hk⟩
 ·have z:=h.tr x hx
  refine⟨z.1,z.2.1,?_,?_⟩<;>rw[p7]
  ·exact List.mem_append_left _ z.2.2.1
  ·exact List.mem_append_left _ z.2.2.2
 ·rw[p7];exact A2 h.ndr (h.f3 nd h4 hn)
 ·rw[List.length_append,List.length_singleton];have:=h.lr;omega
theorem LR.f4 {ws:List Str}{i1 i2 i3 i:Nat}{PL PR:List (Str×Str)}{TL TR:List (Str×Tie)}{n:Str}(h:LR ws i1 i2 i3 i PL TL PR TR)(nd:ws.Nodup)(h4:i2≤4)(hn:ws[10+i]?=some n):n∉TR.map (·.1):=fun z=>by
 obtain⟨x,hx,rfl⟩:=List.mem_map.mp z
 have w:Wd ws (10+i) (10+i+1) x.1:=⟨10+i,Nat.le_refl _,Nat.lt_succ_self _,hn⟩
 rcases(h.tr x hx).1 with z|z
 ·exact Wd.no nd (h.tl x z).1 w (.inl (by omega))
 ·exact Wd.no nd z w (.inl (Nat.le_refl _))
theorem LR.s4 {ws:List Str}{i1 i2 i3 i:Nat}{PL PR:List (Str×Str)}{TL TR:List (Str×Tie)}{n kd o1 o2:Str}(h:LR ws i1 i2 i3 i PL TL PR TR)(nd:ws.Nodup)(h4:i2≤4)(hn:ws[10+i]?=some n)(hk:B1 kd=true)(h1:o1∈PR.map (·.1))(h2:o2∈PR.map (·.1)):LR ws i1 i2 i3 (i+1) PL TL PR (TR++[(n,(kd,o1,o2))]):=by
 refine⟨h.pl,h.tl,h.ndl,h.ndt,h.ll,h.lt,h.pr,fun x hx=>?_,h.ndr,?_,h.lr,?_⟩
 ·rcases List.mem_append.mp hx with z|z
  ·exact⟨(h.tr x z).1.imp id fun w=>w.up (Nat.le_refl _) (Nat.le_succ _),(h.tr x z).2⟩
  ·rw[List.mem_singleton.mp z];exact⟨.inr ⟨10+i,Nat.le_add_right _ _,Nat.lt_succ_self _,hn⟩,hk,h1,h2⟩
 ·rw[p7];exact A2 h.ndu (h.f4 nd h4 hn)
 ·rw[List.length_append,List.length_singleton];have:=h.lu;omega
theorem a8b {x:Str}(h:B1 x=true):x.length≤8:=by
 have:=a2m (show K7 x kSL 8=true from h)
 omega
theorem a8G {x:Str}(h:B1 x=true):O9 x=true:=by
 have h':K7 x kSL 8=true:=h
 unfold K7 at h'
 simp only[Bool.and_eq_true,decide_eq_true_eq] at h'
 unfold O9
 rw[Bool.and_eq_true]
 have ha:∀c∈x.cps.toList,c∈kSL.cps.toList:=fun c hc=>of_decide_eq_true (List.all_eq_true.mp (show a5L x kSL=true from h'.2) c hc)
 constructor
 ·unfold K7
  rw[decide_eq_true h'.1.1,decide_eq_true (show(x.length:Int)≤24 by omega),Bool.true_and,Bool.true_and]
  exact List.all_eq_true.mpr fun c hc=>decide_eq_true (b2E _ (ha c hc))
 ·unfold hdB
  refine decide_eq_true (ha _ ?_)
  have hl:=a1u x
  cases e:x.cps.toList with
  |nil=>rw[e] at hl;simp at hl;omega
  |cons c r=>exact List.mem_cons_self
theorem a3v {W:Web}{m:Nat}(h1:∀n∈i9 W,B1 n=true)(h2:∀x∈W.pts,B1 x.2=true)(h3:∀x∈W.ts,B1 x.2.1=true)(l1:W.pts.length≤m)(l2:W.ts.length≤m):PieceW m W:=
 ⟨⟨fun n hn=>a8G (h1 n hn),h2,h3⟩,h1,l1,l2⟩
theorem LR.nmL {ws:List Str}{i1 i2 i3 i4:Nat}{PL PR:List (Str×Str)}{TL TR:List (Str×Tie)}(h:LR ws i1 i2 i3 i4 PL TL PR TR)(h1:i1≤4)(h2:i2≤4):∀n∈i9 ⟨PL,TL⟩,Wd ws 0 8 n:=fun n hn=>by
 rcases List.mem_append.mp (show n∈PL.map (·.1)++TL.map (·.1) from hn) with z|z
 ·obtain⟨x,hx,rfl⟩:=List.mem_map.mp z
  exact(h.pl x hx).1.up (Nat.zero_le _) (by omega)
 ·obtain⟨x,hx,rfl⟩:=List.mem_map.mp z
  exact(h.tl x hx).1.up (Nat.zero_le _) (by omega)
theorem LR.nmP {ws:List Str}{i1 i2 i3 i4:Nat}{PL PR:List (Str×Str)}{TL TR:List (Str×Tie)}(h:LR ws i1 i2 i3 i4 PL TL PR TR)(h1:i1≤4)(h3:i3≤2){n:Str}(hn:n∈PR.map (·.1)):Wd ws 0 4 n∨Wd ws 8 10 n:=by
 obtain⟨x,hx,rfl⟩:=List.mem_map.mp hn
 rcases(h.pr x hx).1 with z|z
 ·exact .inl ((h.pl x z).1.up (Nat.zero_le _) (by omega))
 ·exact .inr (z.up (by omega) (by omega))
theorem LR.nmT {ws:List Str}{i1 i2 i3 i4:Nat}{PL PR:List (Str×Str)}{TL TR:List (Str×Tie)}(h:LR ws i1 i2 i3 i4 PL TL PR TR)(h2:i2≤4)(h4:i4≤2){n:Str}(hn:n∈TR.map (·.1)):Wd ws 4 8 n∨Wd ws 10 12 n:=by
 obtain⟨x,hx,rfl⟩:=List.mem_map.mp hn
 rcases(h.tr x hx).1 with z|z
 ·exact .inl ((h.tl x z).1.up (by omega) (by omega))
 ·exact .inr (z.up (by omega) (by omega))
theorem LR.ndL {ws:List Str}{i1 i2 i3 i4:Nat}{PL PR:List (Str×Str)}{TL TR:List (Str×Tie)}(h:LR ws i1 i2 i3 i4 PL TL PR TR)(nd:ws.Nodup)(h1:i1≤4):(i9 ⟨PL,TL⟩).Nodup:=
 List.nodup_append.mpr ⟨h.ndl,h.ndt,fun a ha b hb e=>by
  subst e
  obtain⟨x,hx,rfl⟩:=List.mem_map.mp ha
  obtain⟨y,hy,ey⟩:=List.mem_map.mp hb
  have ey':y.1=x.1:=ey
  have w:=(h.tl y hy).1
  rw[ey'] at w
  exact Wd.no nd (h.pl x hx).1 w (.inl h1)⟩
theorem LR.ndR {ws:List Str}{i1 i2 i3 i4:Nat}{PL PR:List (Str×Str)}{TL TR:List (Str×Tie)}(h:LR ws i1 i2 i3 i4 PL TL PR TR)(nd:ws.Nodup)(h1:i1≤4)(h2:i2≤4)(h3:i3≤2)(h4:i4≤2):(i9 ⟨PR,TR⟩).Nodup:=
 List.nodup_append.mpr ⟨h.ndr,h.ndu,fun a ha b hb e=>by
  subst e
  rcases h.nmP h1 h3 ha with z|z<;>rcases h.nmT h2 h4 hb with w|w<;>exact Wd.no nd z w (by omega)⟩
theorem LR.rule {ws:List Str}{i1 i2 i3 i4:Nat}{PL PR:List (Str×Str)}{TL TR:List (Str×Tie)}(h:LR ws i1 i2 i3 i4 PL TL PR TR)(nd:ws.Nodup)(hk:∀s∈ws,B1 s=true)(h1:i1≤4)(h2:i2≤4)(h3:i3≤2)(h4:i4≤2)(l1:PR.length≤4)(l2:TR.length≤4):RuleOk ⟨PL,TL⟩ ⟨PR,TR⟩ []:=by
 have hpl:PL.length≤4:=by have:=h.ll;omega
 have htl:TL.length≤4:=by have:=h.lt;omega
 refine⟨a3v (fun n hn=>hk n (h.nmL h1 h2 n hn).in_) (fun x hx=>(h.pl x hx).2) (fun x hx=>(h.tl x hx).2.1) hpl htl,a3v (fun n hn=>hk n ?_) (fun x hx=>(h.pr x hx).2) (fun x hx=>(h.tr x hx).2.1) l1 l2,fun n hL hR=>?_,Nat.zero_le _,fun _ h=>nomatch h⟩
 ·rcases List.mem_append.mp (show n∈PR.map (·.1)++TR.map (·.1) from hn) with z|z
  ·exact(h.nmP h1 h3 z).elim (fun w=>w.in_) fun w=>w.in_
  ·exact(h.nmT h2 h4 z).elim (fun w=>w.in_) fun w=>w.in_
 ·rcases List.mem_append.mp (show n∈PL.map (·.1)++TL.map (·.1) from hL) with zL|zL
  ·--a point of left
   have wL:Wd ws 0 4 n:=by
    obtain⟨x,hx,rfl⟩:=List.mem_map.mp zL
    exact(h.pl x hx).1.up (Nat.zero_le _) (by omega)
   have nTL:∀t,(n,t)∉TL:=fun t z=>Wd.no nd wL (h.tl _ z).1 (.inl (Nat.le_refl _))
   have nTR:n∉TR.map (·.1):=fun z=>by rcases h.nmT h2 h4 z with w|w<;>exact Wd.no nd wL w (by omega)
   have zR:n∈PR.map (·.1):=by
    rcases List.mem_append.mp (show n∈PR.map (·.1)++TR.map (·.1) from hR) with z|z
    ·exact z
    ·exact absurd z nTR
   have sub:∀k,(n,k)∈PR→(n,k)∈PL:=fun k z=>by
    rcases(h.pr _ z).1 with w|w
    ·exact w
    ·exact(Wd.no nd wL w (.inl (by omega))).elim
   obtain⟨⟨n',k'⟩,hx,e⟩:=List.mem_map.mp zR
   have e':n'=n:=e
   subst e'
   exact⟨fun k=>⟨fun z=>by rw[z8 h.ndl z (sub k' hx)];exact hx,sub k⟩,fun t=>⟨fun z=>(nTL t z).elim,fun z=>(nTR (List.mem_map.mpr ⟨_,z,rfl⟩)).elim⟩⟩
  ·have wL:Wd ws 4 8 n:=by
    obtain⟨x,hx,rfl⟩:=List.mem_map.mp zL
    exact(h.tl x hx).1.up (Nat.le_refl _) (by omega)
   have nPL:∀t,(n,t)∉PL:=fun t z=>Wd.no nd wL (h.pl _ z).1 (.inr h1)
   have nPR:n∉PR.map (·.1):=fun z=>by rcases h.nmP h1 h3 z with w|w<;>exact Wd.no nd wL w (by omega)
   have zR:n∈TR.map (·.1):=by
    rcases List.mem_append.mp (show n∈PR.map (·.1)++TR.map (·.1) from hR) with z|z
    ·exact absurd z nPR
    ·exact z
   have sub:∀k,(n,k)∈TR→(n,k)∈TL:=fun k z=>by
    rcases(h.tr _ z).1 with w|w
    ·exact w
    ·exact(Wd.no nd wL w (.inl (by omega))).elim
   obtain⟨⟨n',k'⟩,hx,e⟩:=List.mem_map.mp zR
   have e':n'=n:=e
   subst e'
   exact⟨fun t=>⟨fun z=>(nPL t z).elim,fun z=>(nPR (List.mem_map.mpr ⟨_,z,rfl⟩)).elim⟩,fun k=>⟨fun z=>by rw[z8 h.ndt z (sub k' hx)];exact hx,sub k⟩⟩
structure NE (B:Hp) (wd d1 d2 d3 d4:Addr):Prop where
 b0:B wd=none
 b1:B d1=none
 b2:B d2=none
 b3:B d3=none
 b4:B d4=none
 n01:wd≠d1
 n02:wd≠d2
 n03:wd≠d3
 n04:wd≠d4
 n12:d1≠d2
 n13:d1≠d3
 n14:d1≠d4
 n23:d2≠d3
 n24:d2≠d4
 n34:d3≠d4
structure RS (K:PySem.W.Frag) (B H:Hp) (wd d1 d2 d3 d4 a1 a2:Addr) (kw kL kR:List (Key×V)) (PL PR:List (Str×Str)) (TL TR:List (Str×Tie)):Prop where
 sm:Same B H
 t1:SqT K H a1 [.ref d1,.ref d2]
 t2:SqT K H a2 [.ref d3,.ref d4]
 w:H wd=some (.dK kw)
 h1:H d1=some (.dK (pKV PL))
 h2:H d2=some (.dK kL)
 h3:H d3=some (.dK (pKV PR))
 h4:H d4=some (.dK kR)
 tl:TiesIs K H kL TL
 tr:TiesIs K H kR TR
section
variable {B H H':Hp} {wd d1 d2 d3 d4 a1 a2 l:Addr} {kw kL kR kw':List (Key×V)} {PL PR:List (Str×Str)} {TL TR:List (Str×Tie)} {n kd o1 o2:Str}
theorem RS.mono (r:RS K B H wd d1 d2 d3 d4 a1 a2 kw kL kR PL PR TL TR)(s:Same H H'):RS K B H' wd d1 d2 d3 d4 a1 a2 kw kL kR PL PR TL TR:=
 ⟨r.sm.trans s,s.tup r.t1,s.tup r.t2,s _ _ r.w,s _ _ r.h1,s _ _ r.h2,s _ _ r.h3,s _ _ r.h4,r.tl.mono s.le,r.tr.mono s.le⟩
theorem RS.setW (e:NE B wd d1 d2 d3 d4)(r:RS K B H wd d1 d2 d3 d4 a1 a2 kw kL kR PL PR TL TR):RS K B (upd H wd (.dK kw')) wd d1 d2 d3 d4 a1 a2 kw' kL kR PL PR TL TR:=
 ⟨K6 r.sm e.b0,L9 r.w r.t1,L9 r.w r.t2,i7,by rw[d0 e.n01.symm];exact r.h1,by rw[d0 e.n02.symm];exact r.h2,by rw[d0 e.n03.symm];exact r.h3,by rw[d0 e.n04.symm];exact r.h4,E5 r.w r.tl,E5 r.w r.tr⟩
theorem a0s (h:n∉PL.map (·.1)):z6 (pKV PL) (Sum.inr n:Key) (.str kd)=pKV (PL++[(n,kd)]):=by
 rw[O7 _ (M5 (by rw[E2,←u8];exact fun m=>h (Z7 m)))]
 unfold pKV;rw[List.map_append];rfl
theorem RS.set1 (e:NE B wd d1 d2 d3 d4)(r:RS K B H wd d1 d2 d3 d4 a1 a2 kw kL kR PL PR TL TR)(h:n∉PL.map (·.1)):RS K B (upd H d1 (.dK (z6 (pKV PL) (Sum.inr n:Key) (.str kd)))) wd d1 d2 d3 d4 a1 a2 kw kL kR (PL++[(n,kd)]) PR TL TR:=by
 rw[a0s h]
 exact⟨K6 r.sm e.b1,L9 r.h1 r.t1,L9 r.h1 r.t2,by rw[d0 e.n01];exact r.w,i7,by rw[d0 e.n12.symm];exact r.h2,by rw[d0 e.n13.symm];exact r.h3,by rw[d0 e.n14.symm];exact r.h4,E5 r.h1 r.tl,E5 r.h1 r.tr⟩
theorem RS.set3 (e:NE B wd d1 d2 d3 d4)(r:RS K B H wd d1 d2 d3 d4 a1 a2 kw kL kR PL PR TL TR)(h:n∉PR.map (·.1)):RS K B (upd H d3 (.dK (z6 (pKV PR) (Sum.inr n:Key) (.str kd)))) wd d1 d2 d3 d4 a1 a2 kw kL kR PL (PR++[(n,kd)]) TL TR:=by
 rw[a0s h]
 exact⟨K6 r.sm e.b3,L9 r.h3 r.t1,L9 r.h3 r.t2,by rw[d0 e.n03];exact r.w,by rw[d0 e.n13];exact r.h1,by rw[d0 e.n23];exact r.h2,i7,by rw[d0 e.n34.symm];exact r.h4,E5 r.h3 r.tl,E5 r.h3 r.tr⟩
theorem b0l (w:TiesIs K H kL TL)(h:n∉TL.map (·.1))(hl:SqT K H l (Y8 (kd,o1,o2))):TiesIs K H (z6 kL (Sum.inr n:Key) (.ref l)) (TL++[(n,(kd,o1,o2))]):=by
 rw[O7 _ (M5 (by rw[w.keys,←u8];exact fun m=>h (Z7 m)))]
 exact z7 w ⟨rfl,l,rfl,hl⟩
theorem RS.set2 (e:NE B wd d1 d2 d3 d4)(r:RS K B H wd d1 d2 d3 d4 a1 a2 kw kL kR PL PR TL TR)(h:n∉TL.map (·.1))(hl:SqT K H l (Y8 (kd,o1,o2))):RS K B (upd H d2 (.dK (z6 kL (Sum.inr n:Key) (.ref l)))) wd d1 d2 d3 d4 a1 a2 kw (z6 kL (Sum.inr n:Key) (.ref l)) kR PL PR (TL++[(n,(kd,o1,o2))]) TR:=
 ⟨K6 r.sm e.b2,L9 r.h2 r.t1,L9 r.h2 r.t2,by rw[d0 e.n02];exact r.w,by rw[d0 e.n12];exact r.h1,i7,by rw[d0 e.n23.symm];exact r.h3,by rw[d0 e.n24.symm];exact r.h4,E5 r.h2 (b0l r.tl h hl),E5 r.h2 r.tr⟩
theorem RS.set4 (e:NE B wd d1 d2 d3 d4)(r:RS K B H wd d1 d2 d3 d4 a1 a2 kw kL kR PL PR TL TR)(h:n∉TR.map (·.1))(hl:SqT K H l (Y8 (kd,o1,o2))):RS K B (upd H d4 (.dK (z6 kR (Sum.inr n:Key) (.ref l)))) wd d1 d2 d3 d4 a1 a2 kw kL (z6 kR (Sum.inr n:Key) (.ref l)) PL PR TL (TR++[(n,(kd,o1,o2))]):=
 ⟨K6 r.sm e.b4,L9 r.h4 r.t1,L9 r.h4 r.t2,by rw[d0 e.n04];exact r.w,by rw[d0 e.n14];exact r.h1,by rw[d0 e.n24];exact r.h2,by rw[d0 e.n34];exact r.h3,i7,E5 r.h4 r.tl,E5 r.h4 (b0l r.tr h hl)⟩
end
structure WO (ps ws os:List Str) (i:Nat) (kw:List (Key×V)) (PL PR:List (Str×Str)):Prop where
 ok:∀kv∈kw,∃n s,kv=(Sum.inr n,V.str s)
 at_:∀j n w,j<i→ps[j]?=some n→ws[j]?=some w→q8 kw (Sum.inr n:Key)=some (.str w)
 inL:∀j w,j<i→ws[j]?=some w→w∈PL.map (·.1)
 inR:∀j n w,j<i→ps[j]?=some n→n∉os→ws[j]?=some w→w∈PR.map (·.1)
theorem WO.s1 {ps ws os:List Str}{i:Nat}{kw:List (Key×V)}{PL PR:List (Str×Str)}{n w kd:Str}(h:WO ps ws os i kw PL PR)(nd:ps.Nodup)(hn:ps[i]?=some n)(hw:ws[i]?=some w)(b:Bool)(hb:n∉os→b=true):
  WO ps ws os (i+1) (z6 kw (Sum.inr n:Key) (.str w)) (PL++[(w,kd)]) (if b then PR++[(w,kd)] else PR):=by
 refine⟨a5T h.ok ⟨_,_,rfl⟩,fun j m v hj h1 h2=>?_,fun j v hj h2=>?_,fun j m v hj h1 h3 h2=>?_⟩
 ·rw[a5M]
  by_cases e:j=i
  ·subst e
   rw[h1] at hn;cases hn
   rw[h2] at hw;cases hw
   rw[if_pos rfl]
  ·have hne:m≠n:=fun z=>e (a9t nd (z▸h1) hn)
   rw[if_neg (fun z=>hne (Sum.inr.inj z))]
   exact h.at_ j m v (by omega) h1 h2
 ·rw[p7]
  by_cases e:j=i
  ·subst e
   rw[h2] at hw;cases hw
   exact List.mem_append_right _ List.mem_cons_self
  ·exact List.mem_append_left _ (h.inL j v (by omega) h2)
 ·by_cases e:j=i
  ·subst e
   rw[h1] at hn;cases hn
   rw[h2] at hw;cases hw
   rw[hb h3,if_pos rfl,p7]
   exact List.mem_append_right _ List.mem_cons_self
  ·have z:=h.inR j m v (by omega) h1 h3 h2
   cases b with
   |false=>exact z
   |true=>show v∈(PR++[(w,kd)]).map (·.1);rw[p7];exact List.mem_append_left _ z
theorem WO.s2 {ps ws os:List Str}{i:Nat}{kw:List (Key×V)}{PL PR:List (Str×Str)}{m w:Str}(h:WO ps ws os i kw PL PR)(hm:m∉ps):WO ps ws os i (z6 kw (Sum.inr m:Key) (.str w)) PL PR:=by
 refine⟨a5T h.ok ⟨_,_,rfl⟩,fun j n v hj h1 h2=>?_,h.inL,h.inR⟩
 rw[a5M,if_neg (fun z:(Sum.inr n:Key)=Sum.inr m=>hm (by rw[←Sum.inr.inj z];exact List.mem_of_getElem? h1))]
 exact h.at_ j n v hj h1 h2
def b3s (ws:List Str):Prop:=ws.length=16∧ws.Nodup∧∀s∈ws,B1 s=true
def b5e (ks:List Str):Prop:=0<ks.length∧ks.length≤3∧∀s∈ks,B1 s=true
theorem b0k {ws:List Str}(h:ws.length=16)(i:Nat)(hi:i<16):∃w,ws[i]?=some w∧∀j:Int,j=(i:Int)→atI (ws.map V.str) j=some (.str w):=
 ⟨ws[i]'(by omega),List.getElem?_eq_getElem (by omega),fun j hj=>by rw[hj];exact b8 (j:=i) (by rw[List.getElem?_map,List.getElem?_eq_getElem (by omega)];rfl)⟩
theorem WO.get {ps ws os:List Str}{kw:List (Key×V)}{PL PR:List (Str×Str)}{n:Str}(h:WO ps ws os ps.length kw PL PR)(hl:ws.length=16)(h4:ps.length≤4)(hn:n∈ps):∃w,q8 kw (Sum.inr n:Key)=some (.str w)∧w∈PL.map (·.1)∧(n∉os→w∈PR.map (·.1)):=by
 obtain⟨j,hj⟩:=List.getElem?_of_mem hn
 obtain⟨hjl,_⟩:=List.getElem?_eq_some_iff.mp hj
 obtain⟨w,hw,_⟩:=b0k hl j (by omega)
 exact⟨w,h.at_ j n w hjl hj hw,h.inL j w hjl hw,fun ho=>h.inR j n w hjl hj ho hw⟩
def swp (x:Str×Str):Str×Str:=(x.2,x.1)
structure MP (W:Web) (os:List Str) (pr PL:List (Str×Str)) (TL:List (Str×Tie)) (Rn:List Str):Prop where
 n1:(pr.map (·.1)).Nodup
 n2:(pr.map (·.2)).Nodup
 wd:pr.map (·.2)=PL.map (·.1)++TL.map (·.1)
 pt:∀x∈PL,∃n,(n,x.1)∈pr∧(n,x.2)∈W.pts
 ti:∀x∈TL,∃n b e,(n,x.1)∈pr∧(b,x.2.2.1)∈pr∧(e,x.2.2.2)∈pr∧(n,(x.2.1,b,e))∈W.ts
 ko:∀x∈pr,x.2∈Rn↔x.1∉os
section
variable {W:Web} {os:List Str} {pr PL:List (Str×Str)} {TL:List (Str×Tie)} {Rn Rn':List Str} {n w kd b e u2 u3:Str}
theorem Q5 (l:List (Str×Str))(x:Str×Str):(l++[x]).map (·.2)=l.map (·.2)++[x.2]:=by rw[List.map_append];rfl
theorem MP.ko' (h:MP W os pr PL TL Rn)(hw:w∉pr.map (·.2))(h1:∀y,y≠w→(y∈Rn'↔y∈Rn))(h2:w∈Rn'↔n∉os):∀x∈pr++[(n,w)],x.2∈Rn'↔x.1∉os:=fun x hx=>by
 rcases List.mem_append.mp hx with z|z
 ·rw[h1 x.2 fun q=>hw (List.mem_map.mpr ⟨x,z,q⟩)];exact h.ko x z
 ·rw[List.mem_singleton.mp z];exact h2
theorem MP.sP (h:MP W os pr PL [] Rn)(hn:n∉pr.map (·.1))(hw:w∉pr.map (·.2))(hp:(n,kd)∈W.pts)(h1:∀y,y≠w→(y∈Rn'↔y∈Rn))(h2:w∈Rn'↔n∉os):MP W os (pr++[(n,w)]) (PL++[(w,kd)]) [] Rn':=by
 refine⟨by rw[p7];exact A2 h.n1 hn,by rw[Q5];exact A2 h.n2 hw,?_,fun x hx=>?_,(fun _ h=>nomatch h),h.ko' hw h1 h2⟩
 ·have z:=h.wd
  rw[List.map_nil,List.append_nil] at z
  rw[Q5,p7,List.map_nil,List.append_nil,z]
 ·rcases List.mem_append.mp hx with z|z
  ·obtain⟨n',h1',h2'⟩:=h.pt x z
   exact⟨n',List.mem_append_left _ h1',h2'⟩
  ·rw[List.mem_singleton.mp z];exact⟨n,List.mem_append_right _ List.mem_cons_self,hp⟩
theorem MP.sT (h:MP W os pr PL TL Rn)(hn:n∉pr.map (·.1))(hw:w∉pr.map (·.2))(hp:(n,(kd,b,e))∈W.ts)(hb:(b,u2)∈pr)(he:(e,u3)∈pr)(h1:∀y,y≠w→(y∈Rn'↔y∈Rn))(h2:w∈Rn'↔n∉os):MP W os (pr++[(n,w)]) PL (TL++[(w,(kd,u2,u3))]) Rn':=by
 refine⟨by rw[p7];exact A2 h.n1 hn,by rw[Q5];exact A2 h.n2 hw,?_,fun x hx=>?_,fun x hx=>?_,h.ko' hw h1 h2⟩
 ·rw[Q5,p7,h.wd,List.append_assoc]
 ·obtain⟨n',h1',h2'⟩:=h.pt x hx
  exact⟨n',List.mem_append_left _ h1',h2'⟩
 ·rcases List.mem_append.mp hx with z|z
  ·obtain⟨n',b',e',q1,q2,q3,q4⟩:=h.ti x z
   exact⟨n',b',e',List.mem_append_left _ q1,List.mem_append_left _ q2,List.mem_append_left _ q3,q4⟩
  ·rw[List.mem_singleton.mp z];exact⟨n,b,e,List.mem_append_right _ List.mem_cons_self,List.mem_append_left _ hb,List.mem_append_left _ he,hp⟩
theorem MP.sR (h:MP W os pr PL TL Rn)(h1:∀y∈pr.map (·.2),(y∈Rn'↔y∈Rn)):MP W os pr PL TL Rn':=
 ⟨h.n1,h.n2,h.wd,h.pt,h.ti,fun x hx=>by rw[h1 _ (List.mem_map.mpr ⟨x,hx,rfl⟩)];exact h.ko x hx⟩
end
def Z6 (K:PySem.W.Frag):Sp:=fun vs H Q _=>∃(S:Sd) (lx lw lk:Addr) (xs:List Int) (ws ks:List Str),vs=[.ref S.a,.ref lx,.ref lw,.ref lk]∧SdIs K H S∧a5G S.W∧SqL K H lx (xs.map V.int)∧xs.length=16∧(∀x∈xs,0≤x)∧SqL K H lw (ws.map V.str)∧b3s ws∧SqL K H lk (ks.map V.str)∧b5e ks∧
 ∀(t r m bl:Addr) (L R:Sd) (pr:List (Str×Str)) (os:List Str) (H':Hp),Same H H'→H' t=some (.tup [.ref r,.ref m])→H' m=some (.dK (pKV (pr.map swp)))→H' bl=some (.lst [])→RuleIs K H' r bl L R []→RuleOk L.W R.W []→MP S.W os pr L.W.pts L.W.ts (i9 R.W)→(∀n x,(n,x)∈S.W.ts→(x.2.1∈os∨x.2.2∈os)→n∈os)→(∀n∈os,n∈pr.map (·.1))→(∀n∈i9 R.W,n∉i9 L.W→Wd ws 8 12 n)→Q (.ref t) H'
theorem a4B {f:Addr}{fd:FuncData}(T:Txt K mg)(V7:Cal P w K mg base CX0 1 "_law_picked" ["_law_web_here","_law_xs"] [] (S8 K))(a1f:Cal P w K mg base CX0 1 "_law_out" ["_law_web_here","_law_points","_law_ties","_law_xs"] [] (a0J K))(F:Fun K "_law_rule" "_law_rule" K3 f fd):FnOk P w K mg base CX0 2 f fd ["_law_web_here","_law_xs","_law_words_here","_law_kinds"] (Z6 K):=by
 refine F.ok sc__law_rule (fun vs H Q E h=>?_) (fun cdv A outer s H vs Q E hr h=>?_)
 ·obtain⟨S,lx,lw,lk,xs,ws,ks,rfl,_⟩:=h
  rfl
 ·obtain⟨S,lx,lw,lk,xs,ws,ks,rfl,hS,hG,hX,hxl,hx0,hW,⟨wl,wnd,wk⟩,hK,⟨kl0,kl3,kk⟩,k⟩:=h
  have hSl:=hS.len
  rw[J3] at hSl
  have hN:=sc__law_rule.nd
  have hu:=u9 hr
  refine⟨_,QSs.r (qsC (a0n (qC V7 (hr.mono (by decide)) p0 (qa1 (qV 0) (qa1 (qV 1) qa0))) (qgT K rfl (qg1 (qgN (i:=4) hN rfl (by walk_at "l")) (qg1 (qgN (i:=5) hN rfl (by walk_at "l")) qg0))))
   (qsC (u4 (i:=6) hN rfl (by walk_at "l") (qC a1f (hr.mono (by decide)) p0 (qa1 (qV 0) (qa1 (qV 4) (qa1 (qV 5) (qa1 (qV 1) qa0))))))
   (qsC (u4 (i:=7) hN rfl (by walk_at "l") qD0)
   (qsC (u4 (i:=8) hN rfl (by walk_at "l") (L5 (qa1 qD0 (qa1 qD0 qa0))))
   (qsC (u4 (i:=9) hN rfl (by walk_at "l") (L5 (qa1 qD0 (qa1 qD0 qa0))))
   (qsC (V6 PassesOwn.never rfl (Y7 K T.b_enumerate (qa1 (qV 4) qa0)) (qgT K rfl (qg1 (qgN (i:=10) hN rfl (by walk_at "l")) (qg1 (qgN (i:=11) hN rfl (by walk_at "l")) qg0)))
    (qsC (a0n (qIx (kIx K hu) (qV 2) (qV 10) (fun _ _=>rfl)) (qgS (qV 7) (qV 11) (A7 P w hu)))
   (qsC (a0n (qIx (kIx K hu) (qIx (kIx K hu) (qV 0) i6 (fun _ _=>rfl)) (qV 11) (fun _ _=>rfl)) (qgS (qIx (kIx K hu) (qV 8) i6 (fun _ _=>rfl)) (qIx (kIx K hu) (qV 2) (qV 10) (fun _ _=>rfl)) (A7 P w hu)))
   (qs1 (qIf (p8 (Q8 K hu) (qV 11) (qV 6) (by rfl)) (qs1 (a0n (qIx (kIx K hu) (qIx (kIx K hu) (qV 0) i6 (fun _ _=>rfl)) (qV 11) (fun _ _=>rfl)) (qgS (qIx (kIx K hu) (qV 9) i6 (fun _ _=>rfl)) (qIx (kIx K hu) (qV 2) (qV 10) (fun _ _=>rfl)) (A7 P w hu)))) qs0)))))
   (qsC (V6 PassesOwn.never rfl (Y7 K T.b_enumerate (qa1 (qV 5) qa0)) (qgT K rfl (qg1 (qgN (i:=10) hN rfl (by walk_at "l")) (qg1 (qgN (i:=11) hN rfl (by walk_at "l")) qg0)))
    (qsC (a0n (qIx (kIx K hu) (qIx (kIx K hu) (qV 0) i6 (fun _ _=>rfl)) (qV 11) (fun _ _=>rfl)) (qgT K rfl (qg1 (qgN (i:=12) hN rfl (by walk_at "l")) (qg1 (qgN (i:=13) hN rfl (by walk_at "l")) (qg1 (qgN (i:=14) hN rfl (by walk_at "l")) qg0)))))
   (qsC (a0n (qIx (kIx K hu) (qV 2) (qOp (A5 K) i6 (qV 10)) (fun _ _=>rfl)) (qgS (qV 7) (qV 11) (A7 P w hu)))
   (qsC (a0n (L5 (qa1 (qV 12) (qa1 (qIx (kIx K hu) (qV 7) (qV 13) (fun _ _=>rfl)) (qa1 (qIx (kIx K hu) (qV 7) (qV 14) (fun _ _=>rfl)) qa0)))) (qgS (qIx (kIx K hu) (qV 8) i6 (fun _ _=>rfl)) (qIx (kIx K hu) (qV 2) (qOp (A5 K) i6 (qV 10)) (fun _ _=>rfl)) (A7 P w hu)))
   (qs1 (qIf (p8 (Q8 K hu) (qV 11) (qV 6) (by rfl)) (qs1 (a0n (L5 (qa1 (qV 12) (qa1 (qIx (kIx K hu) (qV 7) (qV 13) (fun _ _=>rfl)) (qa1 (qIx (kIx K hu) (qV 7) (qV 14) (fun _ _=>rfl)) qa0)))) (qgS (qIx (kIx K hu) (qV 9) i6 (fun _ _=>rfl)) (qIx (kIx K hu) (qV 2) (qOp (A5 K) i6 (qV 10)) (fun _ _=>rfl)) (A7 P w hu)))) qs0))))))
   (qsC (V6 PassesOwn.never rfl (a4w T.b_range (qa1 (qB (a3V rfl) T.b_min Boot.«min» (qa1 (qOp q5 (qIx (kIx K hu) (qV 1) i6 (fun _ _=>rfl)) i6) (qa1 (qOp b1f i6 (qB (A3 K P w) T.b_len Boot.«len» (qa1 (qIx (kIx K hu) (qV 9) i6 (fun _ _=>rfl)) qa0))) qa0))) qa0)) (qgN (i:=10) hN rfl (by walk_at "l"))
    (qs1 (a0n (qIx (kIx K hu) (qV 3) (qOp q5 (qOp B2 (qIx (kIx K hu) (qV 1) i6 (fun _ _=>rfl)) (qOp (A5 K) (qV 10) i6)) (qB (A3 K P w) T.b_len Boot.«len» (qa1 (qV 3) qa0))) (fun _ _=>rfl)) (qgS (qIx (kIx K hu) (qV 9) i6 (fun _ _=>rfl)) (qIx (kIx K hu) (qV 2) (qOp (A5 K) i6 (qV 10)) (fun _ _=>rfl)) (A7 P w hu)))))
   (qsC (u4 (i:=15) hN rfl (by walk_at "l") (qB (O1 K rfl) T.b_sorted Boot.«sorted» (qa1 (qIx (kIx K hu) (qV 9) i6 (fun _ _=>rfl)) qa0)))
   (qsC (V6 PassesOwn.never rfl (a4w T.b_range (qa1 (qOp P8 (qB (a3V rfl) T.b_min Boot.«min» (qa1 (qOp q5 (qIx (kIx K hu) (qV 1) i6 (fun _ _=>rfl)) i6) (qa1 (qOp b1f i6 (qB (A3 K P w) T.b_len Boot.«len» (qa1 (qIx (kIx K hu) (qV 9) i6 (fun _ _=>rfl)) qa0))) qa0))) (qBT a2b T.b_int Boot.«int» (qa1 (a5b (X0 K hr) (qV 15) (a1p qa0) (u7 _)) qa0))) qa0)) (qgN (i:=10) hN rfl (by walk_at "l"))
    (qsC (u4 (i:=12) hN rfl (by walk_at "l") (qIx (kIx K hu) (qV 3) (qOp q5 (qOp B2 (qIx (kIx K hu) (qV 1) i6 (fun _ _=>rfl)) (qOp (A5 K) (qV 10) i6)) (qB (A3 K P w) T.b_len Boot.«len» (qa1 (qV 3) qa0))) (fun _ _=>rfl)))
   (qsC (u4 (i:=13) hN rfl (by walk_at "l") (qIx (kIx K hu) (qV 15) (qOp q5 (qOp B2 (qIx (kIx K hu) (qV 1) i6 (fun _ _=>rfl)) (qOp (A5 K) (qV 10) i6)) (qB (A3 K P w) T.b_len Boot.«len» (qa1 (qV 15) qa0))) (fun _ _=>rfl)))
   (qs1 (a0n (L5 (qa1 (qV 12) (qa1 (qV 13) (qa1 (qIx (kIx K hu) (qV 15) (qOp q5 (qOp B2 (qIx (kIx K hu) (qV 1) i6 (fun _ _=>rfl)) (qOp (A5 K) (qV 10) i6)) (qB (A3 K P w) T.b_len Boot.«len» (qa1 (qV 15) qa0))) (fun _ _=>rfl)) qa0)))) (qgS (qIx (kIx K hu) (qV 9) i6 (fun _ _=>rfl)) (qIx (kIx K hu) (qV 2) (qOp (A5 K) i6 (qV 10)) (fun _ _=>rfl)) (A7 P w hu)))))))
   (qsC (u4 (i:=16) hN rfl (by walk_at "l") qD0)
   (qsC (V6 PassesOwn.never rfl (Z1 (qV 7)) (qgT K rfl (qg1 (qgN (i:=11) hN rfl (by walk_at "l")) (qg1 (qgN (i:=17) hN rfl (by walk_at "l")) qg0)))
    (qs1 (a0n (qV 11) (qgS (qV 16) (qV 17) (A7 P w hu)))))
   (qs1 (v0 (L5 (qa1 (L5 (qa1 (qV 8) (qa1 (qV 9) (qa1 (a1p qa0) qa0)))) (qa1 (qV 16) qa0))))))))))))))))),?_⟩
  refine r9 ?_
  walk_at "e"
  refine⟨S,lx,xs,rfl,hS,hX,hxl,hx0,fun t0 lp lt ps ts H1 s1 f1 g1 g2 pk=>?_⟩
  refine D2 (SqT.of f1) rfl ?_
  walk_at "e"
  refine r9 ?_
  walk_at "e"
  refine⟨S,lp,lt,lx,ps,ts,xs,rfl,hS.same s1,SqL.of g1,SqL.of g2,pk,s1.seq hX,hxl,hx0,fun lo os B nlo s2 fo ok=>?_⟩
  have s02:=s1.trans s2
  have SB:=hS.same s02
  have XB:=s02.seq hX
  have WB:=s02.seq hW
  have KB:=s02.seq hK
  have PB:=s2 _ _ g1
  have TB:=s2 _ _ g2
  walk_at "e"
  refine r9 ?_
  walk_at "e"
  intro wd n0
  obtain⟨H3,e3,f3,m3,_⟩:=d9 (o:= .dK []) n0
  rw[e3]
  walk_at "e"
  refine r9 ?_
  walk_at "e"
  intro d1 n1
  obtain⟨H4,e4,f4,m4,_⟩:=d9 (o:= .dK []) n1
  rw[e4]
  walk_at "e"
  intro d2 n2
  obtain⟨H5,e5,f5,m5,_⟩:=d9 (o:= .dK []) n2
  rw[e5]
  walk_at "e"
  refine⟨i8 (by simp),fun a1 na1=>?_⟩
  obtain⟨H6,e6,f6,m6,_⟩:=d9 (o:= .tup _) na1
  rw[e6]
  walk_at "e"
  refine r9 ?_
  walk_at "e"
  intro d3 n3
  obtain⟨H7,e7,f7,m7,_⟩:=d9 (o:= .dK []) n3
  rw[e7]
  walk_at "e"
  intro d4 n4
  obtain⟨H8,e8,f8,m8,_⟩:=d9 (o:= .dK []) n4
  rw[e8]
  walk_at "e"
  refine⟨i8 (by simp),fun a2 na2=>?_⟩
  obtain⟨H9,e9,f9,m9,_⟩:=d9 (o:= .tup _) na2
  rw[e9]
  have m36:=m4.trans (m5.trans m6)
  have ne:NE B wd d1 d2 d3 d4:=⟨n0,m3.free n1,m3.free (m4.free n2),m3.free (m36.free n3),m3.free (m36.free (m7.free n4)),g0 f3 n1,g0 (m4 _ _ f3) n2,g0 (m36 _ _ f3) n3,g0 (m7 _ _ (m36 _ _ f3)) n4,
   g0 f4 n2,g0 (m6 _ _ (m5 _ _ f4)) n3,g0 (m7 _ _ (m6 _ _ (m5 _ _ f4))) n4,g0 (m6 _ _ f5) n3,g0 (m7 _ _ (m6 _ _ f5)) n4,g0 f7 n4⟩
  have m79:=m7.trans (m8.trans m9)
  have rs0:RS K B H9 wd d1 d2 d3 d4 a1 a2 [] [] [] [] [] [] []:=⟨m3.trans (m36.trans m79),SqT.of (m79 _ _ f6),SqT.of f9,m79 _ _ (m36 _ _ f3),m79 _ _ (m6 _ _ (m5 _ _ f4)),m79 _ _ (m6 _ _ f5),m9 _ _ (m8 _ _ f7),m9 _ _ f8,.nil,.nil⟩
  have hP4:=pk.l1
  have hT4:=pk.l2
  walk_at "e"
  refine r9 ?_
  walk_at "e"
  refine⟨_,rfl,.inl ⟨lp,_,rfl,SqL.of (rs0.sm _ _ PB),?_⟩⟩
  refine E1 (n:=ps.length) (fun i σ H'=>(∃v10 v11 v12 v13 v14 v15 v16 v17,σ=[some (V.ref S.a),some (.ref lx),some (.ref lw),some (.ref lk),some (.ref lp),some (.ref lt),some (.ref lo),some (.ref wd),some (.ref a1),some (.ref a2),v10,v11,v12,v13,v14,v15,v16,v17])∧∃pr PL PR,RS K B H' wd d1 d2 d3 d4 a1 a2 (pKV pr) [] [] PL PR [] []∧LR ws i 0 0 0 PL [] PR []∧WO ps ws os i (pKV pr) PL PR∧pr.length≤i∧MP S.W os pr PL [] (PR.map (·.1))∧pr.map (·.1)=ps.take i)
   ⟨⟨_,_,_,_,_,_,_,_,rfl⟩,[],[],[],rs0,LR.new,⟨(fun _ h=>nomatch h),(fun j _ _ h=>absurd h (Nat.not_lt_zero _)),(fun j _ h=>absurd h (Nat.not_lt_zero _)),fun j _ _ h=>absurd h (Nat.not_lt_zero _)⟩,Nat.le_refl _,⟨List.nodup_nil,List.nodup_nil,rfl,(fun _ h=>nomatch h),(fun _ h=>nomatch h),fun _ h=>nomatch h⟩,rfl⟩ (fun i σ H' hi hp=>⟨_,.str (ps[i]),SqL.of (hp.2.choose_spec.choose_spec.choose_spec.1.sm _ _ PB),by rw[List.getElem?_map,List.getElem?_eq_getElem hi];rfl⟩) ?_ ?_
  ·rintro i v σ H10 H10' hi ⟨⟨v10,v11,v12,v13,v14,v15,v16,v17,rfl⟩,pr,PL,PR,rs,lr,wo,hkl,mp,hpr⟩ ⟨t,x,hx,nt,rfl,rfl⟩
   have hx':=hx _ (SqL.of (rs.sm _ _ PB))
   rw[List.getElem?_map,List.getElem?_eq_getElem hi] at hx'
   cases hx'
   have hpi:ps[i]?=some ps[i]:=List.getElem?_eq_getElem hi
   obtain⟨wi,hwi,hwa⟩:=b0k wl i (by omega)
   obtain⟨⟨x0,kd⟩,hxm,ex⟩:=List.mem_map.mp (pk.p _ (List.getElem_mem hi))
   have ex':x0=ps[i]:=ex
   subst ex'
   have hkd:=hG.kd _ hxm
   obtain⟨nL,nR⟩:=lr.f1 wnd hwi
   obtain⟨H11,e11,f11,m11,_⟩:=d9 (o:= .tup _) nt
   rw[e11]
   have r11:=rs.mono m11
   refine D2 (SqT.of f11) rfl ?_
   walk_at "e"
   refine r9 ?_
   walk_at "e"
   refine j7 (r11.sm.seq WB) (hwa _ rfl) ?_
   walk_at "e"
   refine Y0 (z9 (k:=Sum.inr ps[i]) r11.w (i8 (by rw[o0];omega)) ?_)
   have hni:ps[i]∉pr.map (·.1):=fun z=>by
    rw[hpr] at z
    have z2:(ps.take (i+1)).Nodup:=pk.n1.sublist (List.take_sublist _ _)
    rw[List.take_succ,hpi] at z2
    exact(List.nodup_append.mp z2).2.2 _ z _ (by simp) rfl
   have hwn:wi∉pr.map (·.2):=fun z=>by
    rw[mp.wd,List.map_nil,List.append_nil] at z
    exact nL z
   have hpr':(pr++[(ps[i],wi)]).map (·.1)=ps.take (i+1):=by rw[p7,hpr,List.take_succ,hpi];rfl
   have hkl':(pr++[(ps[i],wi)]).length≤i+1:=by rw[List.length_append,List.length_singleton];omega
   rw[a0s hni]
   have r12:=r11.setW (kw':=pKV (pr++[(ps[i],wi)])) ne
   generalize upd H11 wd (.dK (pKV (pr++[(ps[i],wi)])))=H12 at r12⊢
   have S12:=SB.same r12.sm
   refine r9 ?_
   walk_at "e"
   refine b6 S12.at_.tup (b8 (j:=0) rfl) ?_
   walk_at "e"
   refine w5 (v:= .str kd) (by have z:=D4 (k:=Sum.inr ps[i]) S12.at_.pts;rw[P5 (V8 hS.nd) hxm] at z;exact z) ?_
   walk_at "e"
   refine b6 r12.t1 (b8 (j:=0) rfl) ?_
   walk_at "e"
   refine j7 (r12.sm.seq WB) (hwa _ rfl) ?_
   walk_at "e"
   refine Y0 (z9 (k:=Sum.inr wi) r12.h1 (i8 (by rw[o0];have:=lr.ll;omega)) ?_)
   have r13:=r12.set1 (kd:=kd) ne nL
   generalize upd H12 d1 (.dK (z6 (pKV PL) (Sum.inr wi) (.str kd)))=H13 at r13⊢
   have S13:=SB.same r13.sm
   walk_at "e"
   refine N9 (SqL.of (r13.sm _ _ fo)) ?_
   walk_at "e"
   refine P2 (fun hb=>?_) (fun hb=>?_)
   ·walk_at "e"
    refine b6 S13.at_.tup (b8 (j:=0) rfl) ?_
    walk_at "e"
    refine w5 (v:= .str kd) (by have z:=D4 (k:=Sum.inr ps[i]) S13.at_.pts;rw[P5 (V8 hS.nd) hxm] at z;exact z) ?_
    walk_at "e"
    refine b6 r13.t2 (b8 (j:=0) rfl) ?_
    walk_at "e"
    refine j7 (r13.sm.seq WB) (hwa _ rfl) ?_
    walk_at "e"
    refine Y0 (z9 (k:=Sum.inr wi) r13.h3 (i8 (by rw[o0];have:=lr.lr;omega)) ?_)
    exact⟨⟨_,_,_,_,_,_,_,_,rfl⟩,_,_,_,r13.set3 (kd:=kd) ne nR,lr.s1 wnd hwi hkd true,by have z:=wo.s1 (kd:=kd) pk.n1 hpi hwi true (fun _=>rfl);rw[a0s hni] at z;exact z,hkl',mp.sP hni hwn hxm (fun y hy=>by show y∈(PR++[(wi,kd)]).map (·.1)↔_;rw[p7,List.mem_append,List.mem_singleton];exact⟨fun z=>z.elim id fun q=>absurd q hy,.inl⟩) ⟨fun _=>hb,fun _=>by show wi∈(PR++[(wi,kd)]).map (·.1);rw[p7];simp⟩,hpr'⟩
   ·walk_at "e"
    exact⟨⟨_,_,_,_,_,_,_,_,rfl⟩,_,_,_,r13,lr.s1 wnd hwi hkd false,by have z:=wo.s1 (kd:=kd) pk.n1 hpi hwi false (fun z=>absurd hb z);rw[a0s hni] at z;exact z,hkl',mp.sP hni hwn hxm (fun y hy=>Iff.rfl) ⟨fun z=>absurd z nR,fun z=>absurd hb z⟩,hpr'⟩
  ·rintro σ H10 ⟨⟨v10,v11,v12,v13,v14,v15,v16,v17,rfl⟩,pr,PL,PR,rs,lr,wo,hkl,mp,hpr⟩
   rw[List.take_of_length_le (Nat.le_refl _)] at hpr
   refine⟨⟨_,SqL.of (rs.sm _ _ PB),by rw[List.length_map];exact Nat.le_refl _⟩,?_⟩
   change a6f _ _ _ _ H10
   refine r9 ?_
   walk_at "e"
   refine⟨_,rfl,.inl ⟨lt,_,rfl,SqL.of (rs.sm _ _ TB),?_⟩⟩
   refine E1 (n:=ts.length) (fun i σ H'=>(∃v10 v11 v12 v13 v14 v15 v16 v17,σ=[some (V.ref S.a),some (.ref lx),some (.ref lw),some (.ref lk),some (.ref lp),some (.ref lt),some (.ref lo),some (.ref wd),some (.ref a1),some (.ref a2),v10,v11,v12,v13,v14,v15,v16,v17])∧∃pr kL kR TL TR,RS K B H' wd d1 d2 d3 d4 a1 a2 (pKV pr) kL kR PL PR TL TR∧LR ws ps.length i 0 0 PL TL PR TR∧WO ps ws os ps.length (pKV pr) PL PR∧pr.length≤ps.length+i∧MP S.W os pr PL TL (PR.map (·.1)++TR.map (·.1))∧pr.map (·.1)=ps++ts.take i)
    ⟨⟨_,_,_,_,_,_,_,_,rfl⟩,_,_,_,_,_,rs,lr,wo,hkl,by rw[List.map_nil,List.append_nil];exact mp,by rw[List.take_zero,List.append_nil];exact hpr⟩ (fun i σ H' hi hp=>⟨_,.str (ts[i]),SqL.of (hp.2.choose_spec.choose_spec.choose_spec.choose_spec.choose_spec.1.sm _ _ TB),by rw[List.getElem?_map,List.getElem?_eq_getElem hi];rfl⟩) ?_ ?_
   ·clear rs lr wo hkl mp hpr
    rintro i v σ H10 H10' hi ⟨⟨v10,v11,v12,v13,v14,v15,v16,v17,rfl⟩,pr,kL,kR,TL,TR,rs,lr,wo,hkl,mp,hpr⟩ ⟨t,x,hx,nt,rfl,rfl⟩
    have hx':=hx _ (SqL.of (rs.sm _ _ TB))
    rw[List.getElem?_map,List.getElem?_eq_getElem hi] at hx'
    cases hx'
    have hti:=List.getElem_mem hi
    have htk:ts.take (i+1)=ts.take i++[ts[i]]:=by rw[List.take_succ,List.getElem?_eq_getElem hi];rfl
    have htn:ts[i]∉ts.take i:=fun z=>by
     have z2:(ts.take (i+1)).Nodup:=pk.n2.sublist (List.take_sublist _ _)
     rw[htk] at z2
     exact(List.nodup_append.mp z2).2.2 _ z _ (by simp) rfl
    generalize ts[i]=nm at hti htk htn
    obtain⟨wi,hwi,hwa⟩:=b0k wl (4+i) (by omega)
    obtain⟨⟨y1,y2,y3⟩,hym,hy2,hy3⟩:=pk.t _ hti
    have hkd:=hG.tk _ hym
    obtain⟨nL,nR⟩:=lr.f2 wnd hwi
    have hnp:nm∉ps:=fun z=>(List.nodup_append.mp hS.nd).2.2 nm (pk.p _ z) nm (List.mem_map.mpr ⟨_,hym,rfl⟩) rfl
    obtain⟨H11,e11,f11,m11,_⟩:=d9 (o:= .tup _) nt
    rw[e11]
    have r11:=rs.mono m11
    have S11:=SB.same r11.sm
    obtain⟨aa,q1,q3⟩:=a1I S11.at_.ts (a1a hS.nd) hym
    refine D2 (SqT.of f11) rfl ?_
    walk_at "e"
    refine r9 ?_
    walk_at "e"
    refine b6 S11.at_.tup (b8 (j:=1) rfl) ?_
    walk_at "e"
    refine w5 (v:= .ref aa) (by have z:=D4 (k:=Sum.inr nm) S11.at_.ties;rw[q1] at z;exact z) ?_
    refine D2 (xs:=[.str y1,.str y2,.str y3]) q3 rfl ?_
    walk_at "e"
    refine r9 ?_
    walk_at "e"
    refine j7 (r11.sm.seq WB) (hwa _ rfl) ?_
    walk_at "e"
    refine Y0 (z9 (k:=Sum.inr nm) r11.w (i8 (by rw[o0];omega)) ?_)
    have hni:nm∉pr.map (·.1):=fun z=>by
     rw[hpr] at z
     exact(List.mem_append.mp z).elim hnp htn
    have hwn:wi∉pr.map (·.2):=fun z=>by
     rw[mp.wd] at z
     rcases List.mem_append.mp z with z|z
     ·obtain⟨y,hy,ey⟩:=List.mem_map.mp z
      have:=(lr.pl y hy).1
      rw[show y.1=wi from ey] at this
      exact Wd.no wnd this ⟨4+i,Nat.le_refl _,Nat.lt_succ_self _,hwi⟩ (.inl (by omega))
     ·exact nL z
    have hwR:wi∉PR.map (·.1)++TR.map (·.1):=fun z=>by
     rcases List.mem_append.mp z with z|z
     ·obtain⟨y,hy,ey⟩:=List.mem_map.mp z
      rcases(lr.pr y hy).1 with q|q
      ·have:=(lr.pl y q).1
       rw[show y.1=wi from ey] at this
       exact Wd.no wnd this ⟨4+i,Nat.le_refl _,Nat.lt_succ_self _,hwi⟩ (.inl (by omega))
      ·obtain⟨j,j1,j2,_⟩:=q
       omega
     ·exact nR z
    have hpr':(pr++[(nm,wi)]).map (·.1)=ps++ts.take (i+1):=by rw[p7,hpr,htk,List.append_assoc]
    have hkl':(pr++[(nm,wi)]).length≤ps.length+(i+1):=by rw[List.length_append,List.length_singleton];omega
    have wo2:=wo.s2 (w:=wi) hnp
    obtain⟨u2',hu2',_,_⟩:=wo.get wl hP4 hy2
    obtain⟨u3',hu3',_,_⟩:=wo.get wl hP4 hy3
    obtain⟨_,eb2,hb2⟩:=a5q hu2'
    obtain⟨_,eb3,hb3⟩:=a5q hu3'
    rw[a0s hni] at wo2⊢
    have r12:=r11.setW (kw':=pKV (pr++[(nm,wi)])) ne
    generalize upd H11 wd (.dK (pKV (pr++[(nm,wi)])))=H12 at r12⊢
    obtain⟨u2,hu2,uL2,uR2⟩:=wo2.get wl hP4 hy2
    obtain⟨u3,hu3,uL3,uR3⟩:=wo2.get wl hP4 hy3
    have n1':((pr++[(nm,wi)]).map (·.1)).Nodup:=by rw[p7];exact A2 mp.n1 hni
    have hb2':(y2,u2)∈pr:=by
     have z:=P5 (k:=u2') n1' (List.mem_append_left _ (by rw[V.str.inj eb2];exact hb2))
     rw[hu2] at z
     rw[V.str.inj (Option.some.inj z),V.str.inj eb2];exact hb2
    have hb3':(y3,u3)∈pr:=by
     have z:=P5 (k:=u3') n1' (List.mem_append_left _ (by rw[V.str.inj eb3];exact hb3))
     rw[hu3] at z
     rw[V.str.inj (Option.some.inj z),V.str.inj eb3];exact hb3
    refine r9 ?_
    walk_at "e"
    refine w5 (v:= .str u2) (by have z:=D4 (k:=Sum.inr y2) (show Rd H12 wd _ from .inl r12.w);rw[hu2] at z;exact z) ?_
    walk_at "e"
    refine w5 (v:= .str u3) (by have z:=D4 (k:=Sum.inr y3) (show Rd H12 wd _ from .inl r12.w);rw[hu3] at z;exact z) ?_
    walk_at "e"
    refine⟨i8 (by simp),fun l13 n13=>?_⟩
    obtain⟨H13,e13,f13,m13,_⟩:=d9 (o:= .tup _) n13
    rw[e13]
    have r13:=r12.mono m13
    walk_at "e"
    refine b6 r13.t1 (b8 (j:=1) rfl) ?_
    walk_at "e"
    refine j7 (r13.sm.seq WB) (hwa _ rfl) ?_
    walk_at "e"
    refine Y0 (z9 (k:=Sum.inr wi) r13.h2 (i8 (by have:=lr.lt;have:=r13.tl.length;omega)) ?_)
    have r14:=r13.set2 (kd:=y1) (o1:=u2) (o2:=u3) ne nL (SqT.of f13)
    generalize upd H13 d2 (.dK (z6 kL (Sum.inr wi) (.ref l13)))=H14 at r14⊢
    walk_at "e"
    refine N9 (SqL.of (r14.sm _ _ fo)) ?_
    walk_at "e"
    refine P2 (fun hb=>?_) (fun hb=>?_)
    ·obtain⟨ob2,ob3⟩:=ok.ok _ hti hb _ hym
     walk_at "e"
     refine w5 (v:= .str u2) (by have z:=D4 (k:=Sum.inr y2) (show Rd H14 wd _ from .inl r14.w);rw[hu2] at z;exact z) ?_
     walk_at "e"
     refine w5 (v:= .str u3) (by have z:=D4 (k:=Sum.inr y3) (show Rd H14 wd _ from .inl r14.w);rw[hu3] at z;exact z) ?_
     walk_at "e"
     refine⟨i8 (by simp),fun l15 n15=>?_⟩
     obtain⟨H15,e15,f15,m15,_⟩:=d9 (o:= .tup _) n15
     rw[e15]
     have r15:=r14.mono m15
     walk_at "e"
     refine b6 r15.t2 (b8 (j:=1) rfl) ?_
     walk_at "e"
     refine j7 (r15.sm.seq WB) (hwa _ rfl) ?_
     walk_at "e"
     refine Y0 (z9 (k:=Sum.inr wi) r15.h4 (i8 (by have:=lr.lu;have:=r15.tr.length;omega)) ?_)
     exact⟨⟨_,_,_,_,_,_,_,_,rfl⟩,_,_,_,_,_,r15.set4 (kd:=y1) (o1:=u2) (o2:=u3) ne nR (SqT.of f15),lr.s2 wnd hwi hkd uL2 uL3 true (fun _=>⟨uR2 ob2,uR3 ob3⟩),wo2,hkl',mp.sT hni hwn hym hb2' hb3' (fun y hy=>by show y∈PR.map (·.1)++(TR++[(wi,(y1,u2,u3))]).map (·.1)↔_;rw[p7,←List.append_assoc,List.mem_append,List.mem_singleton];exact⟨fun z=>z.elim id fun q=>absurd q hy,.inl⟩) ⟨fun _=>hb,fun _=>by show wi∈PR.map (·.1)++(TR++[(wi,(y1,u2,u3))]).map (·.1);rw[p7];simp⟩,hpr'⟩
    ·walk_at "e"
     exact⟨⟨_,_,_,_,_,_,_,_,rfl⟩,_,_,_,_,_,r14,lr.s2 wnd hwi hkd uL2 uL3 false (fun z=>nomatch z),wo2,hkl',mp.sT hni hwn hym hb2' hb3' (fun y hy=>Iff.rfl) ⟨fun z=>absurd z hwR,fun z=>absurd hb z⟩,hpr'⟩
   ·clear rs lr wo hkl mp hpr
    rintro σ H10 ⟨⟨v10,v11,v12,v13,v14,v15,v16,v17,rfl⟩,pr,kL,kR,TL,TR,rs,lr,wo,hkl,mp,hpr⟩
    rw[List.take_of_length_le (Nat.le_refl _)] at hpr
    refine⟨⟨_,SqL.of (rs.sm _ _ TB),by rw[List.length_map];exact Nat.le_refl _⟩,?_⟩
    change a6f _ _ _ _ H10
    have hrl:=lr.lr
    have hul:=lr.lu
    have htr:=rs.tr.length
    obtain⟨x8,hx8,hx8'⟩:=X6 hxl hx0 8 (by omega)
    obtain⟨x9,hx9,hx9'⟩:=X6 hxl hx0 9 (by omega)
    obtain⟨x10,hx10,hx10'⟩:=X6 hxl hx0 10 (by omega)
    obtain⟨x11,hx11,hx11'⟩:=X6 hxl hx0 11 (by omega)
    obtain⟨x12,hx12,hx12'⟩:=X6 hxl hx0 12 (by omega)
    obtain⟨x13,hx13,hx13'⟩:=X6 hxl hx0 13 (by omega)
    refine r9 ?_
    walk_at "e"
    refine j7 (rs.sm.seq XB) hx8 ?_
    walk_at "e"
    refine b6 rs.t2 (b8 (j:=0) rfl) ?_
    walk_at "e"
    refine A4 (K4 (.inl rs.h3) ?_)
    rw[o0]
    walk_at "e"
    refine⟨_,_,rfl,?_⟩
    generalize hcnt:(if 4 -(PR.length:Int)<x8 % 3 then 4 -(PR.length:Int) else x8 % 3)=cnt
    have hc:0≤cnt∧cnt≤2∧PR.length+cnt.toNat≤4:=by subst hcnt;split<;>omega
    walk_at "e"
    refine Q0 (by omega) (by omega) ?_
    refine E1 (n:=cnt.toNat) (fun i σ H'=>(∃v10 v11 v12 v13 v14 v15 v16 v17,σ=[some (V.ref S.a),some (.ref lx),some (.ref lw),some (.ref lk),some (.ref lp),some (.ref lt),some (.ref lo),some (.ref wd),some (.ref a1),some (.ref a2),v10,v11,v12,v13,v14,v15,v16,v17])∧∃PR',RS K B H' wd d1 d2 d3 d4 a1 a2 (pKV pr) kL kR PL PR' TL TR∧LR ws ps.length ts.length i 0 PL TL PR' TR∧PR'.length=PR.length+i∧∀y,(Wd ws 0 8 y∨False)→(y∈PR'.map (·.1)↔y∈PR.map (·.1)))
     ⟨⟨_,_,_,_,_,_,_,_,rfl⟩,_,rs,lr,rfl,fun _ _=>Iff.rfl⟩ (fun i σ H' hi _=>by exact hi) ?_ ?_
    ·clear rs lr
     rintro i v σ H10' H10 hi ⟨⟨v10,v11,v12,v13,v14,v15,v16,v17,rfl⟩,PR',rs,lr,hprl,bP⟩ ⟨rfl,rfl⟩
     obtain⟨wi,hwi,hwa⟩:=b0k wl (8+i) (by omega)
     have hwa':=hwa (8+(0+(i:Int))) (by omega)
     obtain⟨kd,hkd,hkm⟩:=I9 (ss:=ks) (i:=x9/(0+(i:Int)+1) % (ks.length:Int)) (Int.emod_nonneg _ (by omega)) (Int.emod_lt_of_pos _ (by omega))
     walk_at "e"
     refine j7 (rs.sm.seq XB) hx9 ?_
     walk_at "e"
     refine A4 (q9 (rs.sm.seq KB) ?_)
     rw[List.length_map]
     walk_at "e"
     refine j7 (rs.sm.seq KB) hkd ?_
     walk_at "e"
     refine b6 rs.t2 (b8 (j:=0) rfl) ?_
     walk_at "e"
     refine j7 (rs.sm.seq WB) hwa' ?_
     walk_at "e"
     refine Y0 (z9 (k:=Sum.inr wi) rs.h3 (i8 (by rw[o0];omega)) ?_)
     exact⟨⟨_,_,_,_,_,_,_,_,rfl⟩,_,rs.set3 (kd:=kd) ne (lr.f3 wnd hP4 hwi),lr.s3 wnd hP4 hwi (kk _ hkm),by rw[List.length_append,List.length_singleton];omega,fun y hy=>by
      rw[p7,List.mem_append,List.mem_singleton,←bP y hy]
      refine⟨fun z=>z.elim id fun q=>?_,.inl⟩
      subst q
      exact(Wd.no wnd (hy.elim id False.elim) ⟨8+i,Nat.le_refl _,Nat.lt_succ_self _,hwi⟩ (.inl (by omega))).elim⟩
    ·clear rs lr
     rintro σ H10 ⟨⟨v10,v11,v12,v13,v14,v15,v16,v17,rfl⟩,PR',rs,lr,hprl,bP⟩
     refine⟨Nat.le_refl _,?_⟩
     change a6f _ _ _ _ H10
     refine r9 ?_
     walk_at "e"
     refine b6 rs.t2 (b8 (j:=0) rfl) ?_
     walk_at "e"
     refine w4 (ss:=PR'.map (·.1)) (.inl rs.h3) (by rw[E2,u8]) (by rw[List.length_map];omega) (fun s1' b1 b2 le nle=>?_)
     have ble:B le=none:=rs.sm.free nle
     obtain⟨H11,e11,f11,m11,_⟩:=d9 (o:= .lst _) nle
     rw[e11]
     have r11:=rs.mono m11
     have gl:=b1.length_eq
     rw[List.length_map] at gl
     walk_at "e"
     refine r9 ?_
     walk_at "e"
     refine j7 (r11.sm.seq XB) hx10 ?_
     walk_at "e"
     refine b6 r11.t2 (b8 (j:=1) rfl) ?_
     walk_at "e"
     refine A4 (K4 (.inl r11.h4) ?_)
     walk_at "e"
     refine⟨_,_,rfl,?_⟩
     generalize hcnt2:(if 4 -(kR.length:Int)<x10 % 3 then 4 -(kR.length:Int) else x10 % 3)=cnt2
     have hc2:0≤cnt2∧cnt2≤2∧TR.length+cnt2.toNat≤4:=by subst hcnt2;split<;>omega
     walk_at "e"
     refine⟨i8 (by simp),fun l3 n3=>?_⟩
     obtain⟨H12,e12,f12,m12,_⟩:=d9 (o:= .lst []) n3
     rw[e12]
     refine b2h (a5O (SqL.of (m12 _ _ f11)) (SqL.of f12) (W8 _) rfl ?_)
     refine .inr ⟨_,rfl,?_⟩
     have hem:T0 (s1'.map V.str) []=decide (s1'=[]):=by cases s1'<;>rfl
     rw[hem]
     generalize hn:(if(!decide (s1'=[]))=true then(1:Int) else 0)=nn
     have hn01:(nn=0∨nn=1)∧(nn=1→0<s1'.length):=by
      subst hn
      cases s1' with
      |nil=>simp
      |cons _ _=>simp
     have hne4:d4≠le:=g0 rs.h4 nle
     walk_at "e"
     have hmul:0≤cnt2*nn∧cnt2*nn≤cnt2∧(0<cnt2*nn→nn=1):=by
      rcases hn01.1 with rfl|rfl<;>omega
     generalize cnt2*nn=cnt3 at hmul⊢
     refine Q0 (by omega) (by omega) ?_
     have r12:=r11.mono m12
     refine E1 (n:=cnt3.toNat) (fun i σ H'=>(∃v10 v11 v12 v13 v14 v16 v17,σ=[some (V.ref S.a),some (.ref lx),some (.ref lw),some (.ref lk),some (.ref lp),some (.ref lt),some (.ref lo),some (.ref wd),some (.ref a1),some (.ref a2),v10,v11,v12,v13,v14,some (.ref le),v16,v17])∧H' le=some (.lst (s1'.map V.str))∧∃kR' TR',RS K B H' wd d1 d2 d3 d4 a1 a2 (pKV pr) kL kR' PL PR' TL TR'∧LR ws ps.length ts.length cnt.toNat i PL TL PR' TR'∧TR'.length=TR.length+i∧∀y,(Wd ws 0 8 y∨False)→(y∈TR'.map (·.1)↔y∈TR.map (·.1)))
      ⟨⟨_,_,_,_,_,_,_,rfl⟩,m12 _ _ f11,_,_,r12,lr,rfl,fun _ _=>Iff.rfl⟩ (fun i σ H' hi _=>by exact hi) ?_ ?_
     ·clear rs r11 r12 lr
      rintro i v σ H10' H10 hi ⟨⟨v10,v11,v12,v13,v14,v16,v17,rfl⟩,hle,kR',TR',rs,lr,htrl,bT⟩ ⟨rfl,rfl⟩
      have hpos:0<s1'.length:=hn01.2 (hmul.2.2 (by omega))
      obtain⟨wi,hwi,hwa⟩:=b0k wl (10+i) (by omega)
      have hwa':=hwa (10+(0+(i:Int))) (by omega)
      obtain⟨kd,hkd,hkm⟩:=I9 (ss:=ks) (i:=x11/(0+(i:Int)+1) % (ks.length:Int)) (Int.emod_nonneg _ (by omega)) (Int.emod_lt_of_pos _ (by omega))
      obtain⟨o1,ho1,hm1⟩:=I9 (ss:=s1') (i:=x12/(0+(i:Int)+1) % (s1'.length:Int)) (Int.emod_nonneg _ (by omega)) (Int.emod_lt_of_pos _ (by omega))
      obtain⟨o2,ho2,hm2⟩:=I9 (ss:=s1') (i:=x13/(0+(i:Int)+1) % (s1'.length:Int)) (Int.emod_nonneg _ (by omega)) (Int.emod_lt_of_pos _ (by omega))
      refine r9 ?_
      walk_at "e"
      refine j7 (rs.sm.seq XB) hx11 ?_
      walk_at "e"
      refine A4 (q9 (rs.sm.seq KB) ?_)
      rw[List.length_map]
      walk_at "e"
      refine j7 (rs.sm.seq KB) hkd ?_
      walk_at "e"
      refine r9 ?_
      walk_at "e"
      refine j7 (rs.sm.seq XB) hx12 ?_
      walk_at "e"
      refine A4 (q9 (SqL.of hle) ?_)
      rw[List.length_map]
      walk_at "e"
      refine j7 (SqL.of hle) ho1 ?_
      walk_at "e"
      refine j7 (rs.sm.seq XB) hx13 ?_
      walk_at "e"
      refine A4 (q9 (SqL.of hle) ?_)
      rw[List.length_map]
      walk_at "e"
      refine j7 (SqL.of hle) ho2 ?_
      walk_at "e"
      refine⟨i8 (by simp),fun l13 n13=>?_⟩
      obtain⟨H13,e13,f13,m13,_⟩:=d9 (o:= .tup _) n13
      rw[e13]
      have r13:=rs.mono m13
      have hle13:=m13 _ _ hle
      walk_at "e"
      refine b6 r13.t2 (b8 (j:=1) rfl) ?_
      walk_at "e"
      refine j7 (r13.sm.seq WB) hwa' ?_
      walk_at "e"
      refine Y0 (z9 (k:=Sum.inr wi) r13.h4 (i8 (by have:=r13.tr.length;omega)) ?_)
      exact⟨⟨_,_,_,_,_,_,_,rfl⟩,by rw[d0 hne4.symm];exact hle13,_,_,r13.set4 (kd:=kd) (o1:=o1) (o2:=o2) ne (lr.f4 wnd hT4 hwi) (SqT.of f13),lr.s4 wnd hT4 hwi (kk _ hkm) (b1.mem_iff.mp hm1) (b1.mem_iff.mp hm2),by rw[List.length_append,List.length_singleton];omega,fun y hy=>by
       rw[p7,List.mem_append,List.mem_singleton,←bT y hy]
       refine⟨fun z=>z.elim id fun q=>?_,.inl⟩
       subst q
       exact(Wd.no wnd (hy.elim id False.elim) ⟨10+i,Nat.le_refl _,Nat.lt_succ_self _,hwi⟩ (.inl (by omega))).elim⟩
     ·clear rs r11 r12 lr
      rintro σ G ⟨⟨v10,v11,v12,v13,v14,v16,v17,rfl⟩,hle,kR',TR',rs,lr,htrl,bT⟩
      refine⟨Nat.le_refl _,?_⟩
      change a6f _ _ _ _ G
      refine r9 ?_
      walk_at "e"
      intro md nmd
      obtain⟨G1,eG1,fG1,mG1,_⟩:=d9 (o:= .dK []) nmd
      rw[eG1]
      walk_at "e"
      refine r9 ?_
      walk_at "e"
      have hmw:md≠wd:=(g0 rs.w nmd).symm
      refine E4 (mG1 _ _ rs.w) (fun ndw o=>?_)
      have gm:B6 wd o (pKV pr) G md=none:=by unfold B6;rw[d0 hmw];exact nmd
      have sG:Same (B6 wd o (pKV pr) G) (B6 wd o (pKV pr) G1):=fun b u e=>by
       unfold B6 at e⊢
       by_cases hb:b=wd
       ·subst hb;rw[i7] at e⊢;exact e
       ·rw[d0 hb] at e⊢;exact mG1 _ _ e
      refine E1 (n:=(pKV pr).length) (fun i σ H'=>(∃v10 v11 v12 v13 v14 v15 v17,σ=[some (V.ref S.a),some (.ref lx),some (.ref lw),some (.ref lk),some (.ref lp),some (.ref lt),some (.ref lo),some (.ref wd),some (.ref a1),some (.ref a2),v10,v11,v12,v13,v14,v15,some (.ref md),v17])∧Same (B6 wd o (pKV pr) G) H'∧H' md=some (.dK (pKV ((pr.take i).map swp))))
       ⟨⟨_,_,_,_,_,_,_,rfl⟩,sG,by unfold B6;rw[d0 hmw];exact fG1⟩ (fun i σ H' hi hp=>⟨hp.2.1 _ _ i7,hi⟩) ?_ ?_
      ·rintro i v σ G2 G2' hi ⟨⟨v10,v11,v12,v13,v14,v15,v17,rfl⟩,s2',hkm⟩ ⟨t,kv,hkv,nt,rfl,rfl⟩
       obtain⟨⟨n,s⟩,hxi,rfl⟩:=a0c hkv
       have e7:pr.take (i+1)=pr.take i++[(n,s)]:=by rw[List.take_succ,hxi];rfl
       have hfr:s∉((pr.take i).map swp).map (·.1):=fun z=>by
        rw[List.map_map] at z
        have z2:((pr.take (i+1)).map (·.2)).Nodup:=mp.n2.sublist ((List.take_sublist _ _).map _)
        rw[e7,Q5] at z2
        exact(List.nodup_append.mp z2).2.2 s z s (by simp) rfl
       obtain⟨G3,eG3,fG3,mG3,_⟩:=d9 (o:= .tup _) nt
       rw[eG3]
       refine D2 (SqT.of fG3) rfl ?_
       walk_at "e"
       refine Y0 (z9 (k:=Sum.inr s) (mG3 _ _ hkm) (i8 (by rw[o0,List.length_map,List.length_take];omega)) ?_)
       refine⟨⟨_,_,_,_,_,_,_,rfl⟩,K6 (s2'.trans mG3) gm,?_⟩
       rw[i7,e7,List.map_append]
       exact congrArg (fun z=>some (HO.dK z)) ((a0s (kd:=n) hfr).trans rfl)
      ·rintro σ G2 ⟨⟨v10,v11,v12,v13,v14,v15,v17,rfl⟩,s2',hkm⟩
       rw[o0,List.take_of_length_le (Nat.le_refl _)] at hkm
       refine⟨⟨s2' _ _ i7,Nat.le_refl _⟩,?_⟩
       have sG2:=s2'.thaw rs.w
       have hkm2:thaw wd G2 md=some (.dK (pKV (pr.map swp))):=by rw[a0U hmw];exact hkm
       have rs2:=rs.mono sG2
       change b2e _ _ _ (thaw wd G2)
       generalize thaw wd G2=G3 at sG2 rs2 hkm2⊢
       walk_at "e"
       refine⟨i8 (by simp),fun bl nbl=>?_⟩
       obtain⟨G4,e4',f4',m4',_⟩:=d9 (o:= .lst []) nbl
       rw[e4']
       walk_at "e"
       refine⟨i8 (by simp),fun r nr=>?_⟩
       obtain⟨G5,e5',f5',m5',_⟩:=d9 (o:= .tup _) nr
       rw[e5']
       walk_at "e"
       refine⟨i8 (by simp),fun t nt=>?_⟩
       obtain⟨G6,e6',f6',m6',_⟩:=d9 (o:= .tup _) nt
       rw[e6']
       have rs6:=rs2.mono (m4'.trans (m5'.trans m6'))
       have hcn:cnt.toNat≤2:=by omega
       have hcm:cnt3.toNat≤2:=by omega
       have hTR:TR'.length≤4:=by omega
       have hPR:PR'.length≤4:=by omega
       have hrk:=lr.rule wnd wk hP4 hT4 hcn hcm hPR hTR
       have hold:∀y∈pr.map (·.2),Wd ws 0 8 y:=fun y hy=>by rw[mp.wd] at hy;exact lr.nmL hP4 hT4 y hy
       have hRn:∀y∈pr.map (·.2),(y∈i9 ⟨PR',TR'⟩↔y∈PR.map (·.1)++TR.map (·.1)):=fun y hy=>by
        have wy:=hold y hy
        show y∈PR'.map (·.1)++TR'.map (·.1)↔_
        rw[List.mem_append,List.mem_append]
        exact⟨fun z=>z.elim (fun z=> .inl ((bP y (.inl wy)).mp z)) fun z=> .inr ((bT y (.inl wy)).mp z),fun z=>z.elim (fun z=> .inl ((bP y (.inl wy)).mpr z)) fun z=> .inr ((bT y (.inl wy)).mpr z)⟩
       have hnew:∀n∈i9 ⟨PR',TR'⟩,n∉i9 ⟨PL,TL⟩→Wd ws 8 12 n:=fun n hn hno=>by
        rcases List.mem_append.mp (show n∈PR'.map (·.1)++TR'.map (·.1) from hn) with z|z
        ·obtain⟨y,hy,rfl⟩:=List.mem_map.mp z
         rcases(lr.pr y hy).1 with q|q
         ·exact absurd (List.mem_append_left _ (List.mem_map.mpr ⟨y,q,rfl⟩)) hno
         ·exact q.up (Nat.le_refl _) (by omega)
        ·obtain⟨y,hy,rfl⟩:=List.mem_map.mp z
         rcases(lr.tr y hy).1 with q|q
         ·exact absurd (List.mem_append_right _ (List.mem_map.mpr ⟨y,q,rfl⟩)) hno
         ·exact q.up (by omega) (by omega)
       have nlk:∀{x:Str},B1 x=true→x.length≤100:=fun h=>by have:=a8b h;omega
       refine k t r md bl ⟨a1,d1,d2,kL,⟨PL,TL⟩⟩ ⟨a2,d3,d4,kR',⟨PR',TR'⟩⟩ pr os G6 (s02.trans rs6.sm) f6' (m6' _ _ (m5' _ _ (m4' _ _ hkm2))) (m6' _ _ (m5' _ _ f4')) ⟨SqT.of (m6' _ _ f5'),?_,?_,SqL.of (m6' _ _ (m5' _ _ f4')),fun _ h=>nomatch h⟩ hrk (mp.sR (Rn':=i9 ⟨PR',TR'⟩) hRn) ok.lo (fun n hn=>by rw[hpr];exact ok.sub n hn) hnew
       ·exact⟨⟨rs6.t1,.inl rs6.h1,.inl rs6.h2,rs6.tl⟩,rs6.h1,rs6.h2,ne.n12,lr.ndL wnd hP4,by rw[J3];have q1:PL.length≤4:=hrk.l.l1;have q2:TL.length≤4:=hrk.l.l2;show PL.length+TL.length≤24;omega,fun x hx=>(lr.tl x hx).2.2,fun x hx=>nlk (hrk.l.kds x hx)⟩
       ·exact⟨⟨rs6.t2,.inl rs6.h3,.inl rs6.h4,rs6.tr⟩,rs6.h3,rs6.h4,ne.n34,lr.ndR wnd hP4 hT4 hcn hcm,by rw[J3];show PR'.length+TR'.length≤24;omega,fun x hx=>(lr.tr x hx).2.2,fun x hx=>nlk (hrk.r.kds x hx)⟩
theorem EqN.of0 {H:Hp}{x y:V}{b:Bool}(h:EqN K H 0 x y b):∀n,EqN K H n x y b
 |0=>h
 |n+1=> .inl (EqN.of0 h n)
theorem a5B {H:Hp}{A C:Sd}{n:Nat}(h:SdIs K H A)(h':SdIs K H C)(p1:A.W.pts.Perm C.W.pts)(p2:A.W.ts.Perm C.W.ts)(hp:A.p≠C.p)(hq:A.q≠C.q):EqN K H (n+1) (.ref A.a) (.ref C.a) true:=by
 by_cases e:A.a=C.a
 ·exact EqN.of0 (.inr ⟨A.a,C.a,rfl,rfl,.inl ⟨e,rfl⟩⟩) _
 ·refine .inr ⟨A.a,C.a,[.ref A.p,.ref A.q],[.ref C.p,.ref C.q],[true,true],rfl,rfl,e,.inl ⟨h.at_.tup,h'.at_.tup⟩,rfl,rfl,fun j x y b hx hy hb=>?_,rfl⟩
  match j,hx,hy,hb with
  |0,hx,hy,hb=>
   cases hx;cases hy;cases hb
   exact EqN.of0 (.inr ⟨A.p,C.p,rfl,rfl,a7v hp h.at_.pts h'.at_.pts p1 (V8 h'.nd)⟩) _
  |1,hx,hy,hb=>
   cases hx;cases hy;cases hb
   exact EqN.of0 (.inr ⟨A.q,C.q,rfl,rfl,b0H hq h.at_.ties h'.at_.ties h.at_.ts h'.at_.ts p2 (a1a h'.nd)⟩) _
  |j+2,hx,_,_=>cases hx
theorem b1G {H:Hp}{a c:Addr}{n:Nat}(ha:SqL K H a [])(hc:SqL K H c [])(ne:a≠c):EqN K H (n+1) (.ref a) (.ref c) true:=
 .inr ⟨a,c,[],[],[],rfl,rfl,ne,.inr ⟨ha,hc⟩,rfl,rfl,(fun j x y b hx=>nomatch hx),rfl⟩
theorem a1D {W W':Web}(p1:W'.pts.Perm W.pts)(p2:W'.ts.Perm W.ts):(i9 W').Perm (i9 W):=(p1.map _).append (p2.map _)
theorem PieceW.perm {m:Nat}{W W':Web}(h:PieceW m W)(p1:W'.pts.Perm W.pts)(p2:W'.ts.Perm W.ts):PieceW m W':=
 a3v (fun n hn=>h.kds n ((a1D p1 p2).mem_iff.mp hn)) (fun x hx=>h.good.kd x (p1.mem_iff.mp hx)) (fun x hx=>h.good.tk x (p2.mem_iff.mp hx)) (by rw[p1.length_eq];exact h.l1) (by rw[p2.length_eq];exact h.l2)
theorem RuleOk.turn {L R L' R':Web}{bs:List Sd}(h:RuleOk L R bs)(p1:L'.pts.Perm R.pts)(p2:L'.ts.Perm R.ts)(q1:R'.pts.Perm L.pts)(q2:R'.ts.Perm L.ts):RuleOk L' R' []:=by
 refine⟨h.r.perm p1 p2,h.l.perm q1 q2,fun n h1 h2=>?_,Nat.zero_le _,fun _ h=>nomatch h⟩
 have z:=h.ag n ((a1D q1 q2).mem_iff.mp h2) ((a1D p1 p2).mem_iff.mp h1)
 exact⟨fun k=>by rw[p1.mem_iff,q1.mem_iff];exact(z.p k).symm,fun t=>by rw[p2.mem_iff,q2.mem_iff];exact(z.t t).symm⟩
theorem RuleOk.swap {L R:Web}{bs:List Sd}(h:RuleOk L R bs):RuleOk R L []:=h.turn (List.Perm.refl _) (List.Perm.refl _) (List.Perm.refl _) (List.Perm.refl _)
theorem a4I:∀{a b:List Str},a.Pairwise ltP→b.Pairwise ltP→(∀x,x∈a↔x∈b)→a=b
 |[],[],_,_,_=>rfl
 |[],y::t,_,_,h=>absurd ((h y).mpr List.mem_cons_self) (by simp)
 |x::r,[],_,_,h=>absurd ((h x).mp List.mem_cons_self) (by simp)
 |x::r,y::t,h1,h2,h=>by
  have h1':=List.pairwise_cons.mp h1
  have h2':=List.pairwise_cons.mp h2
  have irr:∀z:Str,¬ltP z z:=fun z=>List.lt_irrefl _
  have e:x=y:=Classical.byContradiction fun ne=>by
   rcases List.mem_cons.mp ((h x).mp List.mem_cons_self) with z|z
   ·exact ne z
   ·rcases List.mem_cons.mp ((h y).mpr List.mem_cons_self) with z'|z'
    ·exact ne z'.symm
    ·have q1:y.cps.toList<x.cps.toList:=h2'.1 x z
     have q2:x.cps.toList<y.cps.toList:=h1'.1 y z'
     exact List.lt_asymm q1 q2
  subst e
  rw[a4I h1'.2 h2'.2 fun z=>⟨fun hz=>?_,fun hz=>?_⟩]
  ·rcases List.mem_cons.mp ((h z).mp (List.mem_cons_of_mem _ hz)) with e|e
   ·exact absurd (h1'.1 z hz) (by rw[e];exact irr _)
   ·exact e
  ·rcases List.mem_cons.mp ((h z).mpr (List.mem_cons_of_mem _ hz)) with e|e
   ·exact absurd (h2'.1 z hz) (by rw[e];exact irr _)
   ·exact e
theorem Ordr.r1 {W:Web}{s1 s2:List Str}(h:Ordr W s1 s2)(nd:(i9 W).Nodup):s1.Pairwise ltP:=a2M (a4N h.o1 (h.p1.nodup_iff.mpr (V8 nd)))
theorem Ordr.r2 {W:Web}{s1 s2:List Str}(h:Ordr W s1 s2)(nd:(i9 W).Nodup):s2.Pairwise ltP:=a2M (a4N h.o2 (h.p2.nodup_iff.mpr (a1a nd)))
theorem Ordr.uniq {W W':Web}{s1 s2 t1 t2:List Str}(h:Ordr W s1 s2)(h':Ordr W' t1 t2)(p1:W'.pts.Perm W.pts)(p2:W'.ts.Perm W.ts)(nd:(i9 W).Nodup):t1=s1∧t2=s2:=by
 have nd':(i9 W').Nodup:=(a1D p1 p2).nodup_iff.mpr nd
 exact⟨a4I (h'.r1 nd') (h.r1 nd) fun x=>by rw[h'.p1.mem_iff,h.p1.mem_iff,(p1.map _).mem_iff],a4I (h'.r2 nd') (h.r2 nd) fun x=>by rw[h'.p2.mem_iff,h.p2.mem_iff,(p2.map _).mem_iff]⟩
def DK (H:Hp)(a:Addr):Prop:=∃k,H a=some (.dK k)
theorem DK.upd' {H:Hp}{a d:Addr}(h:DK H a):DK (upd H d (.dK [])) a:=by
 by_cases e:a=d
 ·subst e;exact⟨[],i7⟩
 ·obtain⟨k,h⟩:=h
  exact⟨k,by rw[d0 e];exact h⟩
structure Wb (K:PySem.W.Frag) (H:Hp) (s:Sd):Prop where
 t:SqT K H s.a [.ref s.p,.ref s.q]
 p:DK H s.p
 q:DK H s.q
theorem Wb.upd' {H:Hp}{s:Sd}{d:Addr}(hd:DK H d)(h:Wb K H s):Wb K (upd H d (.dK [])) s:=by
 obtain⟨k,hd⟩:=hd
 exact⟨L9 hd h.t,h.p.upd',h.q.upd'⟩
theorem Wb.of {H:Hp}{s:Sd}(h:SdIs K H s):Wb K H s:=⟨h.at_.tup,⟨_,h.hp⟩,⟨_,h.hq⟩⟩
theorem Wb.same {H H':Hp}{s:Sd}(h:Wb K H s)(m:Same H H'):Wb K H' s:=⟨m.tup h.t,let ⟨k,e⟩:=h.p;⟨k,m _ _ e⟩,let ⟨k,e⟩:=h.q;⟨k,m _ _ e⟩⟩
def a0D (gs:List Str)(W:Web):Web:=⟨W.pts.filter fun x=>!decide (x.1∈gs),W.ts.filter fun x=>!decide (x.1∈gs)⟩
def a5g (gs:List Str)(W:Web):Bool:=(a0D gs W).ts.any fun x=>decide (x.2.2.1∈gs)||decide (x.2.2.2∈gs)
def a1r (K:PySem.W.Frag):Sp:=fun vs H Q E=>∃(a l p q:Addr) (kvs:List (Key×V)) (W:Web) (gs:List Str),vs=[.ref a,.ref l]∧WebAt K H a p q kvs W∧H p=some (.dK (pKV W.pts))∧H q=some (.dK kvs)∧SqL K H l (gs.map V.str)∧(W.pts.map (·.1)).Nodup∧(W.ts.map (·.1)).Nodup∧W.pts.length≤60∧W.ts.length≤60∧(∀x∈W.ts,x.1.length≤100)∧
 if a5g gs W=true then ∀H' e,Same H H'→H' e=none→E (.ref (cA K "Loose")) (some e) H' else NewP K H Q (a0D gs W)
theorem NewP.mono {K:PySem.W.Frag}{H H1:Hp}{Q:VK}{W:Web}(s:Same H H1)(k:NewP K H Q W):NewP K H1 Q W:=fun a p q kvs W' H' s' h1 h2 h3 h4 h5 h6 h7 h8=>k a p q kvs W' H' (s.trans s') h1 h2 h3 h4 (s.free h5) (s.free h6) h7 h8
theorem a6I {f:Addr}{fd:FuncData}(T:Txt K mg)(L8:Cal P w K mg base CX0 2 "copied" ["web"] [] (X9 K))(F:Fun K "without" "without" Q3 f fd):FnOk P w K mg base (CXE P w) 3 f fd ["web","names"] (a1r K):=by
 refine F.okE sc_without (fun vs H Q E h=>?_) (fun cdv A outer s H vs Q E hr h=>?_)
 ·obtain⟨a,l,p,q,kvs,W,gs,rfl,_⟩:=h
  rfl
 ·obtain⟨a,l,p,q,kvs,W,gs,rfl,hW,hp,hq,hL,nd1,nd2,l1,l2,hnl,k⟩:=h
  have hpl:=o0 W.pts
  have hkl:=hW.ts.length
  have hN:=sc_without.nd
  have hu:=u9 hr
  refine⟨_,QSs.r (qsC (u4 (i:=2) hN rfl (by walk_at "l") (qBT (V9 K rfl) T.b_dict Boot.«dict» (qa1 (O6 (own:=["name","kind"]) (js:=[1]) (by kernel_rfl) rfl (Z1 (qIx (kIx K hu) (qV 0) i6 (fun _ _=>rfl))) (fun _ _ _ _=>(qgT K rfl (qg1 (qgN (i:=0) (show List.Nodup (["name","kind","names"]:List Str) by decide+kernel) rfl (by walk_at "l")) (qg1 (qgN (i:=1) (show List.Nodup (["name","kind","names"]:List Str) by decide+kernel) rfl (by walk_at "l")) qg0)))) (fun _ _ _ _=>(b0v (p8 (Q8 K hu) (qV 0) (qV 2) (by rfl)))) (fun _ _ _ _=>(L5 (qa1 (qV 0) (qa1 (qV 1) qa0))))) qa0)))
   (qsC (u4 (i:=3) hN rfl (by walk_at "l") (qBT (V9 K rfl) T.b_dict Boot.«dict» (qa1 (O6 (own:=["name","tie"]) (js:=[1]) (by kernel_rfl) rfl (Z1 (qIx (kIx K hu) (qV 0) i6 (fun _ _=>rfl))) (fun _ _ _ _=>(qgT K rfl (qg1 (qgN (i:=0) (show List.Nodup (["name","tie","names"]:List Str) by decide+kernel) rfl (by walk_at "l")) (qg1 (qgN (i:=1) (show List.Nodup (["name","tie","names"]:List Str) by decide+kernel) rfl (by walk_at "l")) qg0)))) (fun _ _ _ _=>(b0v (p8 (Q8 K hu) (qV 0) (qV 2) (by rfl)))) (fun _ _ _ _=>(L5 (qa1 (qV 0) (qa1 (qV 1) qa0))))) qa0)))
   (qsC (V6 PassesOwn.leaving rfl (a0m K (qB (O1 K rfl) T.b_sorted Boot.«sorted» (qa1 (qV 3) qa0))) (qgN (i:=4) hN rfl (by walk_at "l"))
    (qs1 (qIf (qtW (a1q (p8 (kIn K hu) (qIx (kIx K hu) (qIx (kIx K hu) (qV 3) (qV 4) (fun _ _=>rfl)) i6 (fun _ _=>rfl)) (qV 1) (by rfl)) (a0i (p8 (kIn K hu) (qIx (kIx K hu) (qIx (kIx K hu) (qV 3) (qV 4) (fun _ _=>rfl)) i6 (fun _ _=>rfl)) (qV 1) (by rfl))))) (qs1 (a4U a2F T.r_Loose rfl (qa1 (qFs (qV 4)) qa0))) qs0)))
   (qs1 (v0 (qC L8 (hr.mono (by decide)) p0 (qa1 (L5 (qa1 (qV 2) (qa1 (qV 3) qa0))) qa0))))))),?_⟩
  walk_at "r"
  refine b6 hW.tup (b8 (j:=0) rfl) ?_
  refine E4 hp (fun ndp o1=>?_)
  refine z5 (n:=(pKV W.pts).length) (fun i out H'=>Same (B6 p o1 (pKV W.pts) H) H'∧Paired (PrV K H') out (pKV ((W.pts.take i).filter fun x=>!decide (x.1∈gs)))) ⟨Same.refl _,.nil⟩ (fun i out H' hi hp=>⟨hp.1 _ _ i7,hi⟩) ?_ ?_
  ·rintro N i v out H1 H2 hi ⟨s1,pr⟩ ⟨t,kv,hkv,nt,rfl,rfl⟩ hN'
   obtain⟨x,hx,rfl⟩:=a0c hkv
   obtain⟨H3,e3,f3,m3,_⟩:=d9 (o:= .tup _) nt
   rw[e3]
   have L3:=((Q6 (o:=o1) hp).trans (s1.trans m3).le).lst hL
   have e7:W.pts.take (i+1)=W.pts.take i++[x]:=by rw[List.take_succ,hx];rfl
   have hol:=Paired.length pr
   have hfl:=List.length_filter_le (fun x:Str×Str=>!decide (x.1∈gs)) (W.pts.take i)
   rw[o0] at hol
   rw[List.length_take] at hfl
   refine D2 (SqT.of f3) rfl ?_
   walk_at "r"
   refine⟨rfl,?_⟩
   walk_at "r"
   refine N9 L3 ?_
   walk_at "r"
   refine a2I (fun hb=>?_) (fun hb=>?_)
   ·walk_at "r"
    refine⟨i8 (by simp),fun t4 n4=>?_⟩
    obtain⟨H4,e4,f4,m4,_⟩:=d9 (o:= .tup _) n4
    rw[e4]
    refine⟨i8 (by omega),hN' _ _ ⟨s1.trans (m3.trans m4),?_⟩⟩
    rw[e7,List.filter_append,List.filter_cons_of_pos (by rw[hb];rfl),List.filter_nil]
    unfold pKV at pr⊢
    rw[List.map_append]
    exact z7 (Paired.imp' (fun _ _ z=>PrV.mono (m3.trans m4).le z) pr) ⟨t4,rfl,SqT.of f4⟩
   ·refine hN' _ _ ⟨s1.trans m3,?_⟩
    rw[e7,List.filter_append,List.filter_cons_of_neg (by rw[hb];simp),List.filter_nil,List.append_nil]
    exact Paired.imp' (fun _ _ z=>PrV.mono m3.le z) pr
  ·rintro out H1 ⟨s1,pr⟩
   have hol:=Paired.length pr
   have hfl:=List.length_filter_le (fun x:Str×Str=>!decide (x.1∈gs)) (W.pts.take (pKV W.pts).length)
   rw[o0] at hol
   rw[List.length_take] at hfl
   refine⟨⟨s1 _ _ i7,Nat.le_refl _⟩,fun D hD=>⟨i8 (by omega),?_⟩⟩
   have sM:=P0 hp s1 hD (u:= .lst out)
   have fM:=a0v s1 hD (u:= .lst out)
   have prM:=Paired.imp' (fun _ _ z=>PrV.mono (a4C (d:=p) (u:= .lst out) hD) z) pr
   generalize thaw p (upd H1 D (.lst out))=HM at sM fM prM⊢
   rw[List.take_of_length_le (by omega)] at prM
   walk_at "r"
   refine N7 (SqL.of fM) prM (i8 (by rw[o0];refine Nat.le_trans (List.length_filter_le _ _) ?_;omega)) (fun pp npp=>?_)
   have eP:a2u (pKV (W.pts.filter fun x=>!decide (x.1∈gs)))=pKV (a0D gs W).pts:=Y2 (U8 (E8 nd1))
   rw[eP]
   obtain⟨H2,e2,f2,m2,_⟩:=d9 (o:= .dK (pKV (a0D gs W).pts)) npp
   show M0 _ _ _ (upd HM pp (.dK (pKV (a0D gs W).pts))) _
   rw[e2]
   have s2:=sM.trans m2
   have W2:=hW.mono s2.le
   have hq2:=s2 _ _ hq
   have L2':=s2.seq hL
   walk_at "r"
   refine b6 W2.tup (b8 (j:=1) rfl) ?_
   refine E4 hq2 (fun ndq o2=>?_)
   refine z5 (n:=kvs.length) (fun i out H'=>Same (B6 q o2 kvs H2) H'∧Paired (PrV K H') out ((kvs.take i).filter fun kv=>!a1C gs kv.1)) ⟨Same.refl _,.nil⟩ (fun i out H' hi hp=>⟨hp.1 _ _ i7,hi⟩) ?_ ?_
   ·rintro N i v out H3 H3' hi ⟨s3,pr3⟩ ⟨t,kv,hkv,nt,rfl,rfl⟩ hN'
    obtain⟨H4,e4,f4,m4,_⟩:=d9 (o:= .tup _) nt
    rw[e4]
    have le4:=(Q6 (o:=o2) hq2).trans (s3.trans m4).le
    have L4:=le4.lst L2'
    obtain⟨x,hx,ex,b,eb,sb⟩:=(W2.ts.mono le4).get hkv
    obtain⟨kk,kvv⟩:=kv
    have ex':kk=Sum.inr x.1:=ex
    have eb':kvv= .ref b:=eb
    subst ex' eb'
    have e7:kvs.take (i+1)=kvs.take i++[(Sum.inr x.1,.ref b)]:=by rw[List.take_succ,hkv];rfl
    have hol3:=Paired.length pr3
    have hfl3:=List.length_filter_le (fun kv:Key×V=>!a1C gs kv.1) (kvs.take i)
    rw[List.length_take] at hfl3
    refine D2 (SqT.of f4) rfl ?_
    walk_at "r"
    refine⟨rfl,?_⟩
    walk_at "r"
    refine N9 L4 ?_
    walk_at "r"
    refine a2I (fun hb=>?_) (fun hb=>?_)
    ·walk_at "r"
     refine⟨i8 (by simp),fun t5 n5=>?_⟩
     obtain⟨H5,e5,f5,m5,_⟩:=d9 (o:= .tup _) n5
     rw[e5]
     refine⟨i8 (by omega),hN' _ _ ⟨s3.trans (m4.trans m5),?_⟩⟩
     rw[e7,List.filter_append,List.filter_cons_of_pos (p:=fun kv:Key×V=>!a1C gs kv.1) (by show(!decide (x.1∈gs))=true;rw[hb];rfl),List.filter_nil]
     exact z7 (Paired.imp' (fun _ _ z=>PrV.mono (m4.trans m5).le z) pr3) ⟨t5,rfl,SqT.of f5⟩
    ·refine hN' _ _ ⟨s3.trans m4,?_⟩
     rw[e7,List.filter_append,List.filter_cons_of_neg (p:=fun kv:Key×V=>!a1C gs kv.1) (by show ¬(!decide (x.1∈gs))=true;rw[hb];simp),List.filter_nil,List.append_nil]
     exact Paired.imp' (fun _ _ z=>PrV.mono m4.le z) pr3
   ·rintro out3 H3 ⟨s3,pr3⟩
    have hol3:=Paired.length pr3
    have hfl3:=List.length_filter_le (fun kv:Key×V=>!a1C gs kv.1) (kvs.take kvs.length)
    rw[List.length_take] at hfl3
    refine⟨⟨s3 _ _ i7,Nat.le_refl _⟩,fun D3 hD3=>⟨i8 (by omega),?_⟩⟩
    have sM3:=P0 hq2 s3 hD3 (u:= .lst out3)
    have fM3:=a0v s3 hD3 (u:= .lst out3)
    have prM3:=Paired.imp' (fun _ _ z=>PrV.mono (a4C (d:=q) (u:= .lst out3) hD3) z) pr3
    generalize thaw q (upd H3 D3 (.lst out3))=HM3 at sM3 fM3 prM3⊢
    rw[List.take_of_length_le (Nat.le_refl _)] at prM3
    have ndk:((kvs.filter fun kv=>!a1C gs kv.1).map (·.1)).Nodup:=E8 ndq
    walk_at "r"
    refine N7 (SqL.of fM3) prM3 (i8 (by refine Nat.le_trans (List.length_filter_le _ _) ?_;omega)) (fun qq nqq=>?_)
    rw[Y2 ndk]
    obtain⟨H4,e4,f4,m4,_⟩:=d9 (o:= .dK (kvs.filter fun kv=>!a1C gs kv.1)) nqq
    show M0 _ _ _ (upd HM3 qq _) _
    rw[e4]
    have s4:=s2.trans (sM3.trans m4)
    have W4:=hW.mono s4.le
    have TT:TiesIs K H4 (kvs.filter fun kv=>!a1C gs kv.1) (a0D gs W).ts:=O5 (fun kv x z=>by rw[z.1];rfl) W4.ts
    have hpp:=(sM3.trans m4) _ _ f2
    generalize hkf:(kvs.filter fun kv=>!a1C gs kv.1)=kvf at TT f4 ndk
    have lkf:kvf.length≤60:=by rw[←hkf];refine Nat.le_trans (List.length_filter_le _ _) ?_;omega
    have L4:=s4.seq hL
    walk_at "r"
    refine w4 (ss:=(a0D gs W).ts.map (·.1)) (.inl f4) (by rw[TT.keys,u8]) (by rw[List.length_map,←TT.length];omega) (fun s1 a1 a2 ls1 n1=>?_)
    obtain⟨H5,e5,f5,m5,_⟩:=d9 (o:= .lst _) n1
    rw[e5]
    have ndt:((a0D gs W).ts.map (·.1)).Nodup:=E8 nd2
    refine B4 (SqL.of f5) ?_
    refine E1 (n:=s1.length) (fun i σ H'=>Same H5 H'∧(∃v4,σ=[some (.ref a),some (.ref l),some (.ref pp),some (.ref qq),v4])∧∀n∈s1.take i,∀t:Tie,(n,t)∈(a0D gs W).ts→(decide (t.2.1∈gs)||decide (t.2.2∈gs))=false) ⟨Same.refl _,⟨_,rfl⟩,by simp⟩ (fun i σ H' hi hp=>⟨_,.str (s1[i]),SqL.of (hp.1 _ _ f5),by rw[List.getElem?_map,List.getElem?_eq_getElem hi];rfl⟩) ?_ ?_
    ·rintro i v σ H6' H6 hi ⟨s6,⟨v4,rfl⟩,ha⟩ y
     obtain⟨rfl,hx⟩:=Itl.get y (SqL.of (s6 _ _ f5))
     rw[List.getElem?_map] at hx
     obtain⟨nm,hx',rfl⟩:=Option.map_eq_some_iff.mp hx
     have hmem:=a1.mem_iff.mp (List.mem_of_getElem? hx')
     obtain⟨⟨nm',tt⟩,hin,rfl⟩:=List.mem_map.mp hmem
     have s46:=m5.trans s6
     obtain⟨c,ev,sc⟩:=a1I (TT.mono s46.le) ndt hin
     have L6:=s46.seq L4
     have F6:Rd H6 qq (.dK kvf):= .inl (s46 _ _ f4)
     have loud:(decide (tt.2.1∈gs)||decide (tt.2.2∈gs))=true→∀e,H6 e=none→E (.ref (cA K "Loose")) (some e) H6:=fun hb e he=>by
      have hl:a5g gs W=true:=List.any_eq_true.mpr ⟨_,hin,hb⟩
      rw[if_pos hl] at k
      exact k H6 e (s4.trans s46) he
     have hlen1:nm'.length≤100:=hnl _ (List.mem_filter.mp hin).1
     have hlen2:(" is not taken out, but an end of it is":Str).length≤100:=by decide+kernel
     walk_at "r"
     refine w5 (v:= .ref c) (by have z':=D4 (k:=Sum.inr nm') F6;rw[ev] at z';exact z') ?_
     walk_at "r"
     refine b6 sc (b8 (j:=1) rfl) ?_
     walk_at "r"
     refine a0e L6 ?_
     walk_at "r"
     refine P6 (fun h1=>?_) (fun h1=>?_)
     ·walk_at "r"
      refine⟨nm',rfl,by omega,fun z=>?_⟩
      walk_at "r"
      exact⟨i8 (by simp),loud (by rw[decide_eq_true h1];rfl)⟩
     ·walk_at "r"
      refine w5 (v:= .ref c) (by have z':=D4 (k:=Sum.inr nm') F6;rw[ev] at z';exact z') ?_
      walk_at "r"
      refine b6 sc (b8 (j:=2) rfl) ?_
      walk_at "r"
      refine a0e L6 ?_
      walk_at "r"
      refine P6 (fun h2=>?_) (fun h2=>?_)
      ·walk_at "r"
       refine⟨nm',rfl,by omega,fun z=>?_⟩
       walk_at "r"
       exact⟨i8 (by simp),loud (by rw[decide_eq_true h2,Bool.or_true])⟩
      ·walk_at "r"
       refine⟨s6,⟨_,rfl⟩,fun n hn t ht=>?_⟩
       rw[List.take_succ,hx'] at hn
       rcases List.mem_append.mp hn with h'|h'
       ·exact ha n h' t ht
       ·have hn':n=nm':=by simpa using h'
        subst hn'
        rw[z8 ndt ht hin,decide_eq_false h1,decide_eq_false h2];rfl
    ·rintro σ H6 ⟨s6,⟨v4,rfl⟩,ha⟩
     refine⟨⟨_,SqL.of (s6 _ _ f5),by rw[List.length_map];exact Nat.le_refl _⟩,?_⟩
     rw[List.take_of_length_le (Nat.le_refl _)] at ha
     have hl:¬a5g gs W=true:=fun z=>by
      obtain⟨x,hx,hb⟩:=List.any_eq_true.mp z
      rw[ha x.1 (a1.mem_iff.mpr (List.mem_map.mpr ⟨x,hx,rfl⟩)) x.2 hx] at hb
      cases hb
     rw[if_neg hl] at k
     have s46:=m5.trans s6
     walk_at "r"
     refine⟨i8 (by simp),fun t9 n9=>?_⟩
     obtain⟨H9,e9,f9,m9,_⟩:=d9 (o:= .tup _) n9
     rw[e9]
     have s49:=s46.trans m9
     walk_at "r"
     exact⟨t9,pp,qq,kvf,a0D gs W,rfl,⟨SqT.of f9,.inl (s49 _ _ hpp),.inl (s49 _ _ f4),TT.mono s49.le⟩,E8 nd1,ndt,Nat.le_trans (List.length_filter_le _ _) l1,Nat.le_trans (List.length_filter_le _ _) l2,NewP.mono (s4.trans s49) k⟩
def L7 (K:PySem.W.Frag):Sp:=fun vs H Q _=>∃(t d:Addr) (x:Tie) (kvm:List (Key×V)),vs=[.ref t,.ref d]∧SqT K H t (Y8 x)∧Rd H d (.dK kvm)∧TxtAt kvm x.2.1∧TxtAt kvm x.2.2∧∀(l:Addr) (H':Hp),H l=none→Same H H'→H' l=some (.tup (Y8 (x.1,j6 kvm x.2.1,j6 kvm x.2.2)))→Q (.ref l) H'
def a4Z (K:PySem.W.Frag):Sp:=fun vs H Q _=>∃(a p q d:Addr) (kvs:List (Key×V)) (W:Web) (kvm:List (Key×V)),vs=[.ref a,.ref d]∧WebAt K H a p q kvs W∧(i9 W).length≤60∧Rd H d (.dK kvm)∧(∀n∈i9 W,TxtAt kvm n)∧∀(l:Addr) (H':Hp) (s1 s2:List Str),H l=none→Same H H'→H' l=some (.lst (((s1++s2).map (j6 kvm)).map V.str))→Ordr W s1 s2→Q (.ref l) H'
theorem a2X {f:Addr}{fd:FuncData}(T:Txt K mg)(F:Fun K "tie_renamed" "tie_renamed" C6 f fd):FnOk P w K mg base CX0 1 f fd ["tie","names"] (L7 K):=by
 refine F.ok sc_tie_renamed (fun vs H Q E h=>?_) (fun cdv A outer s H vs Q E hr h=>?_)
 ·obtain⟨t,d,x,kvm,rfl,_⟩:=h
  rfl
 ·obtain⟨t,d,⟨x1,x2,x3⟩,kvm,rfl,hT,hD,k1,k2,k⟩:=h
  have hN:=sc_tie_renamed.nd
  have hu:=u9 hr
  refine⟨_,QSs.r (qs1 (v0 (L5 (qa1 (qIx (kIx K hu) (qV 0) i6 (fun _ _=>rfl)) (qa1 (qIx (kIx K hu) (qV 1) (qIx (kIx K hu) (qV 0) i6 (fun _ _=>rfl)) (fun _ _=>rfl)) (qa1 (qIx (kIx K hu) (qV 1) (qIx (kIx K hu) (qV 0) i6 (fun _ _=>rfl)) (fun _ _=>rfl)) qa0)))))),?_⟩
  walk_at "r"
  refine b6 hT (b8 (j:=0) rfl) ?_
  walk_at "r"
  refine b6 hT (b8 (j:=1) rfl) ?_
  refine ixd hD k1 ?_
  walk_at "r"
  refine b6 hT (b8 (j:=2) rfl) ?_
  refine ixd hD k2 ?_
  walk_at "r"
  refine⟨i8 (by simp),fun l9 n9=>?_⟩
  obtain⟨H9,e9,f9,m9,_⟩:=d9 (o:= .tup _) n9
  rw[e9]
  exact k l9 H9 n9 m9 f9
theorem b1v {f:Addr}{fd:FuncData}(T:Txt K mg)(A1:Cal P w K mg base CX0 1 "things" ["web"] [] (N4 K))(F:Fun K "line" "line" a2o f fd):FnOk P w K mg base CX0 2 f fd ["piece","match"] (a4Z K):=by
 refine F.ok sc_line (fun vs H Q E h=>?_) (fun cdv A outer s H vs Q E hr h=>?_)
 ·obtain⟨a,p,q,d,kvs,W,kvm,rfl,_⟩:=h
  rfl
 ·obtain⟨a,p,q,d,kvs,W,kvm,rfl,hW,hl,hD,hT,k⟩:=h
  have hN:=sc_line.nd
  have hu:=u9 hr
  refine⟨_,QSs.r (qs1 (v0 (O6 (own:=["name"]) (js:=[1]) (by kernel_rfl) rfl (a0m K (qC A1 (hr.mono (by decide)) p0 (qa1 (qV 0) qa0))) (fun _ _ _ _=>(qgN (i:=0) (show List.Nodup (["name","match"]:List Str) by decide+kernel) rfl (by walk_at "l"))) (fun _ _ _ _=>a1l) (fun _ _ _ _=>(qIx (kIx K hu) (qV 1) (qV 0) (fun _ _=>rfl)))))),?_⟩
  walk_at "r"
  refine⟨a,p,q,kvs,W,rfl,hW,hl,fun l1 H1 s1 s2 n1 m1 f1 or=>?_⟩
  have hlen:=or.len
  refine B4 (SqL.of f1) ?_
  refine z5 (n:=(s1++s2).length) (fun i out H'=>Same H1 H'∧out=((s1++s2).take i).map fun n=>V.str (j6 kvm n)) ⟨Same.refl _,rfl⟩ (fun i out H' hi hp=>⟨_,.str ((s1++s2)[i]),SqL.of (hp.1 _ _ f1),by rw[List.getElem?_map,List.getElem?_eq_getElem hi];rfl⟩) ?_ ?_
  ·rintro N i v out H2 H3 hi ⟨s3,rfl⟩ y hN'
   obtain⟨rfl,hx⟩:=Itl.get y (SqL.of (s3 _ _ f1))
   rw[List.getElem?_map,List.getElem?_eq_getElem hi] at hx
   cases hx
   walk_at "r"
   refine⟨rfl,?_⟩
   walk_at "r"
   refine ixd ((m1.trans s3).rd hD) (hT _ (or.mem.mp (List.getElem_mem hi))) ?_
   refine⟨i8 (by rw[List.length_map,List.length_take];omega),hN' _ _ ⟨s3,?_⟩⟩
   exact C7 (fun n:Str=>V.str (j6 kvm n)) (List.getElem?_eq_getElem hi)
  ·rintro out H2 ⟨s3,rfl⟩
   refine⟨⟨_,SqL.of (s3 _ _ f1),by rw[List.length_map];exact Nat.le_refl _⟩,fun D hD'=>⟨i8 (by rw[List.length_map,List.length_take];omega),?_⟩⟩
   rw[List.take_of_length_le (Nat.le_refl _)]
   obtain⟨H3,e3,f3,m3,_⟩:=d9 (o:= .lst ((s1++s2).map fun n=>V.str (j6 kvm n))) hD'
   refine k D _ s1 s2 ((m1.trans s3).free hD') ?_ ?_ or
   ·show Same _ (upd _ D _)
    rw[e3];exact m1.trans (s3.trans m3)
   ·show upd _ D _ D=_
    rw[i7,List.map_map];rfl
structure a6k (P W:Web) (kvm:List (Key×V)):Prop where
 len:kvm.length=(i9 P).length
 txt:∀n∈i9 P,TxtAt kvm n
 nd:((i9 P).map (j6 kvm)).Nodup
 pts:∀x∈P.pts,(j6 kvm x.1,x.2)∈W.pts
 ts:∀x∈P.ts,(j6 kvm x.1,(x.2.1,j6 kvm x.2.2.1,j6 kvm x.2.2.2))∈W.ts
open Classical in
noncomputable def a7V (P W:Web)(kvm:List (Key×V)):Bool:=decide (a6k P W kvm)
open Classical in
theorem a2T {P W:Web}{kvm:List (Key×V)}(h:¬a6k P W kvm):a7V P W kvm=false:=by unfold a7V;exact decide_eq_false h
open Classical in
theorem a7t {P W:Web}{kvm:List (Key×V)}(h:a6k P W kvm):a7V P W kvm=true:=by unfold a7V;exact decide_eq_true h
def b6T (K:PySem.W.Frag)(PG:Program)(w:World)(H:Hp)(mv:V)(P W:Web)(b:Bool):Prop:=
 (∃t,TyB K H mv t∧t≠"dict"∧b=false)∨
 (∃d n,mv= .ref d∧H d=some (.ext (Z4 PG w d n))∧n≤1000∧n≠(i9 P).length∧b=false)∨
 (∃d kvm,mv= .ref d∧H d=some (.dK kvm)∧(kvm.map (·.1)).Nodup∧kvm.length≤100∧(∀kv∈kvm,∃t,TyB K H kv.2 t)∧b=a7V P W kvm)
theorem b3l {t:String}(h:t≠"dict"):a1c t "dict"=false:=by
 unfold a1c
 rw[show(t=="dict")=false by simpa using h]
 simp
def txB (kvm:List (Key×V))(n:Str):Bool:=match q8 kvm (Sum.inr n:Key) with
 |some (.str _)=>true
 |_=>false
theorem txB_iff {kvm:List (Key×V)}{n:Str}:txB kvm n=true↔TxtAt kvm n:=by
 unfold txB TxtAt
 constructor
 ·intro h
  split at h
  ·next s e=>exact⟨s,e⟩
  ·cases h
 ·rintro⟨s,e⟩
  rw[e]
theorem b4e {H:Hp}{v:V}{t:String}(h:TyB K H v t):a1c t "str"=(match v with| .str _=>true|_=>false):=by
 cases v with
 |non=>cases h;rfl
 |bl _=>cases h;rfl
 |int _=>cases h;rfl
 |str _=>cases h;rfl
 |ref a=>rcases h with⟨rfl,_⟩|⟨rfl,_⟩|⟨rfl,_⟩<;>rfl
 |_=>exact h.elim
theorem b3k {H:Hp}{kvm:List (Key×V)}(h:∀kv∈kvm,∃t,TyB K H kv.2 t)(n:Str):∃t,TyB K H ((q8 kvm (Sum.inr n:Key)).getD .non) t∧a1c t "str"=txB kvm n:=by
 unfold txB
 cases e:q8 kvm (Sum.inr n:Key) with
 |none=>exact⟨"NoneType",rfl,rfl⟩
 |some v=>
  obtain⟨t,ht⟩:=h _ (a2J e)
  refine⟨t,ht,?_⟩
  rw[b4e (v:=v) ht]
  cases v<;>rfl
def a0I (K:PySem.W.Frag)(P:Program)(w:World):Sp:=fun vs H Q _=>∃(a p q a' p' q':Addr) (kvs kvs':List (Key×V)) (Pc W:Web) (mv:V) (b:Bool),vs=[.ref a,.ref a',mv]∧WebIs 24 K H a p q kvs Pc∧WebIs 24 K H a' p' q' kvs' W∧b6T K P w H mv Pc W b∧∀H',Same H H'→Q (.bl b) H'
theorem a6p {f:Addr}{fd:FuncData}(T:Txt K mg)(A1:Cal P w K mg base CX0 1 "things" ["web"] [] (N4 K))(a6u:Cal P w K mg base CX0 2 "line" ["piece","match"] [] (a4Z K))(C0:Cal P w K mg base CX0 1 "tie_renamed" ["tie","names"] [] (L7 K))(F:Fun K "is_match" "is_match" M9 f fd):FnOk P w K mg base CX0 3 f fd ["piece","web","match"] (a0I K P w):=by
 refine F.ok sc_is_match (fun vs H Q E h=>?_) (fun cdv A outer s H vs Q E hr h=>?_)
 ·obtain⟨a,p,q,a',p',q',kvs,kvs',Pc,W,mv,b,rfl,_⟩:=h
  rfl
 ·obtain⟨a,p,q,a',p',q',kvs,kvs',Pc,W,mv,b,rfl,hP,hW,hM,k⟩:=h
  have hPl:=hP.len
  have hN:=sc_is_match.nd
  have hu:=u9 hr
  refine⟨_,QSs.r (qsC (u4 (i:=3) hN rfl (by walk_at "l") (qC A1 (hr.mono (by decide)) p0 (qa1 (qV 0) qa0)))
   (qsC (qIf (qtW (a1q (a0k (a0h K (qB (a2R K P w) T.b_isinstance Boot.«isinstance» (qa1 (qV 2) (qa1 (qTy "dict" T.b_dict Boot.«dict») qa0))))) (a0i (p8 (X0 K hr) (qB (A3 K P w) T.b_len Boot.«len» (qa1 (qV 2) qa0)) (qB (A3 K P w) T.b_len Boot.«len» (qa1 (qV 3) qa0)) (u7 _))))) (qs1 (v0 qBl)) qs0)
   (qsC (qIf (a0k (a0h K (qB (b0n K rfl) T.b_all Boot.«all» (qa1 (O6 (own:=["name"]) (js:=[2]) (by kernel_rfl) rfl (a0m K (qV 3)) (fun _ _ _ _=>(qgN (i:=0) (show List.Nodup (["name","match"]:List Str) by decide+kernel) rfl (by walk_at "l"))) (fun _ _ _ _=>a1l) (fun _ _ _ _=>(qB (a2R K P w) T.b_isinstance Boot.«isinstance» (qa1 (a4f hu (qV 1) (qV 0)) (qa1 (qTy "str" T.b_str Boot.«str») qa0))))) qa0)))) (qs1 (v0 qBl)) qs0)
   (qsC (qIf (p8 (X0 K hr) (qB (A3 K P w) T.b_len Boot.«len» (qa1 (qBT (b5g K rfl) T.b_set Boot.«set» (qa1 (qC a6u (hr.mono (by decide)) p0 (qa1 (qV 0) (qa1 (qV 2) qa0))) qa0)) qa0)) (qB (A3 K P w) T.b_len Boot.«len» (qa1 (qV 3) qa0)) (u7 _)) (qs1 (v0 qBl)) qs0)
   (qsC (qIf (a0k (a0h K (qB (b0n K rfl) T.b_all Boot.«all» (qa1 (O6 (own:=["name","kind"]) (js:=[2,1]) (by kernel_rfl) rfl (Z1 (qIx (kIx K hu) (qV 0) i6 (fun _ _=>rfl))) (fun _ _ _ _=>(qgT K rfl (qg1 (qgN (i:=0) (show List.Nodup (["name","kind","match","web"]:List Str) by decide+kernel) rfl (by walk_at "l")) (qg1 (qgN (i:=1) (show List.Nodup (["name","kind","match","web"]:List Str) by decide+kernel) rfl (by walk_at "l")) qg0)))) (fun _ _ _ _=>a1l) (fun _ _ _ _=>(a5b (a3z K hr) (a4f hu (qIx (kIx K hu) (qV 3) i6 (fun _ _=>rfl)) (qIx (kIx K hu) (qV 2) (qV 0) (fun _ _=>rfl))) (qV 1) (u7 _)))) qa0)))) (qs1 (v0 qBl)) qs0)
   (qs1 (v0 (qB (b0n K rfl) T.b_all Boot.«all» (qa1 (O6 (own:=["name","tie"]) (js:=[2,1]) (by kernel_rfl) rfl (Z1 (qIx (kIx K hu) (qV 0) i6 (fun _ _=>rfl))) (fun _ _ _ _=>(qgT K rfl (qg1 (qgN (i:=0) (show List.Nodup (["name","tie","match","web"]:List Str) by decide+kernel) rfl (by walk_at "l")) (qg1 (qgN (i:=1) (show List.Nodup (["name","tie","match","web"]:List Str) by decide+kernel) rfl (by walk_at "l")) qg0)))) (fun _ _ _ _=>a1l) (fun _ _ _ _=>(a5b (a3z K hr) (a4f hu (qIx (kIx K hu) (qV 3) i6 (fun _ _=>rfl)) (qIx (kIx K hu) (qV 2) (qV 0) (fun _ _=>rfl))) (qC C0 (hr.mono (by decide)) p0 (qa1 (qV 1) (qa1 (qV 2) qa0))) (u7 _)))) qa0))))))))),?_⟩
  walk_at "r"
  refine⟨a,p,q,kvs,Pc,rfl,hP.at_,by omega,fun ln H1 s1 s2 n1 m1 f1 or=>?_⟩
  have hlen:=or.len
  walk_at "r"
  rcases hM with⟨t,ty,ht,rfl⟩|⟨d,n,rfl,hd,hn,hne,rfl⟩|⟨d,kvm,rfl,hD0,ndm,hml,hty,rfl⟩
  ·refine a1v (a1S (ty.mono m1) (by simp) ?_)
   rw[b3l ht]
   walk_at "r"
   exact k _ m1
  ·refine .inr ⟨d,n,"dict",rfl,m1 _ _ hd,by simp,?_⟩
   rw[a9O]
   walk_at "r"
   refine b0S (m1 _ _ hd) hn ?_
   walk_at "r"
   refine A4 (q9 (SqL.of f1) ?_)
   rw[List.length_map,hlen]
   walk_at "r"
   refine P2 (fun hz=>?_) (fun hz=>absurd (Int.ofNat_inj.mp hz) hne)
   walk_at "r"
   exact k _ m1
  have hD:Rd H d (.dK kvm):= .inl hD0
  have D1:=m1.rd hD
  refine a1v (a1S (t:="dict") (.inr (.inr ⟨rfl,_,D1⟩)) (by simp) ?_)
  rw[a9O]
  walk_at "r"
  refine A4 (K4 D1 ?_)
  walk_at "r"
  refine A4 (q9 (SqL.of f1) ?_)
  rw[List.length_map,hlen]
  walk_at "r"
  refine P2 (fun hz=>?_) (fun hz=>?_)
  ·walk_at "r"
   rw[←a2T (P:=Pc) (W:=W) (kvm:=kvm) (fun z=>hz (by rw[z.len]))]
   exact k _ m1
  have hz':kvm.length=(i9 Pc).length:=Int.ofNat_inj.mp hz
  walk_at "r"
  refine B4 (SqL.of f1) ?_
  refine z5 (n:=(s1++s2).length) (fun i out H'=>Same H1 H'∧out=((s1++s2).take i).map fun n=>V.bl (txB kvm n)) ⟨Same.refl _,rfl⟩ (fun i out H' hi hp=>⟨_,.str ((s1++s2)[i]),SqL.of (hp.1 _ _ f1),by rw[List.getElem?_map,List.getElem?_eq_getElem hi];rfl⟩) ?_ ?_
  ·rintro N i v out H2 H3 hi ⟨s3,rfl⟩ y hN'
   obtain⟨rfl,hx⟩:=Itl.get y (SqL.of (s3 _ _ f1))
   rw[List.getElem?_map,List.getElem?_eq_getElem hi] at hx
   cases hx
   walk_at "r"
   refine⟨rfl,?_⟩
   walk_at "r"
   refine⟨d,rfl,.inl ⟨_,s3.rd D1⟩,?_⟩
   walk_at "r"
   refine⟨_,D4 (k:=Sum.inr (s1++s2)[i]) (s3.rd D1),?_⟩
   obtain⟨t,ht,e⟩:=b3k (K:=K) hty (s1++s2)[i]
   walk_at "r"
   refine a1v (a1S (ht.mono (m1.trans s3)) (by simp) ?_)
   rw[e]
   refine⟨i8 (by rw[List.length_map,List.length_take];omega),hN' _ _ ⟨s3,?_⟩⟩
   exact C7 (fun n:Str=>V.bl (txB kvm n)) (List.getElem?_eq_getElem hi)
  ·rintro out H2 ⟨s3,rfl⟩
   refine⟨⟨_,SqL.of (s3 _ _ f1),by rw[List.length_map];exact Nat.le_refl _⟩,fun D hD'=>⟨i8 (by rw[List.length_map,List.length_take];omega),?_⟩⟩
   rw[List.take_of_length_le (Nat.le_refl _)]
   have e9:((s1++s2).map fun n=>V.bl (txB kvm n))=((s1++s2).map (txB kvm)).map V.bl:=by rw[List.map_map];rfl
   rw[e9]
   obtain⟨H3,e3,f3,m3,_⟩:=d9 (o:= .lst (((s1++s2).map (txB kvm)).map V.bl)) hD'
   have m4:=m1.trans (s3.trans m3)
   have f4:=m3 _ _ (s3 _ _ f1)
   walk_at "r"
   change a9g K _ (upd H2 D _) _
   rw[e3]
   refine a5x (SqL.of f3) ?_
   walk_at "r"
   refine a2I (fun hb=>?_) (fun hb=>?_)
   ·walk_at "r"
    rw[←a2T (P:=Pc) (W:=W) (kvm:=kvm) (fun z=>?_)]
    ·exact k _ m4
    ·have:((s1++s2).map (txB kvm)).all id=true:=by
      rw[List.all_map,List.all_eq_true]
      exact fun n hn=>txB_iff.mpr (z.txt n (or.mem.mp hn))
     rw[this] at hb;cases hb
   have hT:∀n∈i9 Pc,TxtAt kvm n:=fun n hn=>by
    rw[List.all_map,List.all_eq_true] at hb
    exact txB_iff.mp (hb n (or.mem.mpr hn))
   walk_at "r"
   refine⟨a,p,q,d,kvs,Pc,kvm,rfl,hP.at_.mono m4.le,by omega,m4.rd hD,hT,fun l5 H5 r1 r2 n5 m5 f5 or5=>?_⟩
   have hlen5:=or5.len
   walk_at "r"
   refine⟨l5,_,rfl,SqL.of f5,by rw[List.length_map];omega,fun l6 n6=>?_⟩
   obtain⟨H6,e6,f6,m6,_⟩:=d9 (o:= .ext (a1o l6 (a2n ((r1++r2).map (j6 kvm))).length)) n6
   rw[e6]
   walk_at "r"
   have hded:(a2n ((r1++r2).map (j6 kvm))).length≤1000:=by
    have z:=a3B ((r1++r2).map (j6 kvm)) []
    rw[List.length_map] at z
    unfold a2n
    simp only[List.length_nil] at z
    omega
   refine a3X f6 hded ?_
   walk_at "r"
   refine A4 (q9 (SqL.of (m6 _ _ (m5 _ _ f4))) ?_)
   rw[List.length_map,hlen]
   walk_at "r"
   have m7:=m4.trans (m5.trans m6)
   have hndi:(a2n ((r1++r2).map (j6 kvm))).length=(i9 Pc).length↔((i9 Pc).map (j6 kvm)).Nodup:=by
    have z:=a6b ((r1++r2).map (j6 kvm))
    rw[List.length_map,hlen5] at z
    rw[z]
    exact(or5.perm.map _).nodup_iff
   refine P2 (fun hz2=>?_) (fun hz2=>?_)
   ·walk_at "r"
    rw[←a2T (P:=Pc) (W:=W) (kvm:=kvm) (fun z=>hz2 (by rw[hndi.mpr z.nd]))]
    exact k _ m7
   have hnd:=hndi.mp (Int.ofNat_inj.mp hz2)
   clear hz2
   have D7:=m7.rd hD
   have hp7:=m7 _ _ hP.hp
   have P7:=hP.same m7
   have W7:=hW.same m7
   have hptl:=o0 Pc.pts
   have hkl:=hP.at_.ts.length
   rw[J3] at hPl
   walk_at "r"
   refine b6 P7.at_.tup (b8 (j:=0) rfl) ?_
   refine E4 hp7 (fun ndp o8=>?_)
   refine z5 (n:=(pKV Pc.pts).length) (fun i out H'=>Same (B6 p o8 (pKV Pc.pts) H6) H'∧out=(Pc.pts.take i).map fun x=>V.bl (decide ((j6 kvm x.1,x.2)∈W.pts))) ⟨Same.refl _,rfl⟩ (fun i out H' hi hp=>⟨hp.1 _ _ i7,hi⟩) ?_ ?_
   ·rintro N i v out H8' H8 hi ⟨s8,rfl⟩ ⟨t,kv,hkv,nt,rfl,rfl⟩ hN'
    obtain⟨x,hx,rfl⟩:=a0c hkv
    obtain⟨H9,e9,f9,m9,_⟩:=d9 (o:= .tup _) nt
    rw[e9]
    have le9:=(Q6 (o:=o8) hp7).trans (s8.trans m9).le
    have W9:=W7.at_.mono le9
    have D9:=le9.dic D7
    refine D2 (SqT.of f9) rfl ?_
    walk_at "r"
    refine⟨rfl,?_⟩
    walk_at "r"
    refine b6 W9.tup (b8 (j:=0) rfl) ?_
    refine⟨p',rfl,.inl ⟨_,W9.pts⟩,?_⟩
    walk_at "r"
    refine ixd D9 (hT _ (List.mem_append_left _ (List.mem_map.mpr ⟨x,List.mem_of_getElem? hx,rfl⟩))) ?_
    refine⟨_,D4 (k:=Sum.inr (j6 kvm x.1)) W9.pts,?_⟩
    walk_at "r"
    refine b5K (V8 W7.nd) ?_
    refine⟨i8 (by rw[List.length_map,List.length_take];omega),hN' _ _ ⟨s8.trans m9,?_⟩⟩
    exact C7 (fun x:Str×Str=>V.bl (decide ((j6 kvm x.1,x.2)∈W.pts))) hx
   ·rintro out H8 ⟨s8,rfl⟩
    refine⟨⟨s8 _ _ i7,Nat.le_refl _⟩,fun D8 hD8=>⟨i8 (by rw[List.length_map,List.length_take];omega),?_⟩⟩
    rw[hptl,List.take_of_length_le (Nat.le_refl _)]
    have e10:(Pc.pts.map fun x=>V.bl (decide ((j6 kvm x.1,x.2)∈W.pts)))=(Pc.pts.map fun x=>decide ((j6 kvm x.1,x.2)∈W.pts)).map V.bl:=by rw[List.map_map];rfl
    rw[e10]
    have sM:=P0 hp7 s8 hD8 (u:= .lst ((Pc.pts.map fun x=>decide ((j6 kvm x.1,x.2)∈W.pts)).map V.bl))
    have fM:=a0v s8 hD8 (u:= .lst ((Pc.pts.map fun x=>decide ((j6 kvm x.1,x.2)∈W.pts)).map V.bl))
    generalize thaw p (upd H8 D8 (.lst ((Pc.pts.map fun x=>decide ((j6 kvm x.1,x.2)∈W.pts)).map V.bl)))=HM at sM fM⊢
    walk_at "r"
    refine a5x (SqL.of fM) ?_
    walk_at "r"
    have mM:=m7.trans sM
    refine a2I (fun hb2=>?_) (fun hb2=>?_)
    ·walk_at "r"
     rw[←a2T (P:=Pc) (W:=W) (kvm:=kvm) (fun z=>?_)]
     ·exact k _ mM
     ·have:(Pc.pts.map fun x=>decide ((j6 kvm x.1,x.2)∈W.pts)).all id=true:=by
       rw[List.all_map,List.all_eq_true]
       exact fun x hx=>decide_eq_true (z.pts x hx)
      rw[this] at hb2;cases hb2
    have hPts:∀x∈Pc.pts,(j6 kvm x.1,x.2)∈W.pts:=fun x hx=>by
     rw[List.all_map,List.all_eq_true] at hb2
     exact of_decide_eq_true (hb2 x hx)
    have DM:=mM.rd hD
    have PM:=hP.same mM
    have WM:=hW.same mM
    have hqM:=PM.hq
    walk_at "r"
    refine b6 PM.at_.tup (b8 (j:=1) rfl) ?_
    refine E4 hqM (fun ndq o10=>?_)
    refine z5 (n:=kvs.length) (fun i out H'=>Same (B6 q o10 kvs HM) H'∧out=(Pc.ts.take i).map fun x=>V.bl (decide ((j6 kvm x.1,(x.2.1,j6 kvm x.2.2.1,j6 kvm x.2.2.2))∈W.ts))) ⟨Same.refl _,rfl⟩ (fun i out H' hi hp=>⟨hp.1 _ _ i7,hi⟩) ?_ ?_
    ·rintro N i v out H11' H11 hi ⟨s11,rfl⟩ ⟨t,kv,hkv,nt,rfl,rfl⟩ hN'
     obtain⟨H12,e12,f12,m12,_⟩:=d9 (o:= .tup _) nt
     rw[e12]
     have le12:=(Q6 (o:=o10) hqM).trans (s11.trans m12).le
     have W12:=WM.at_.mono le12
     have D12:=le12.dic DM
     obtain⟨x,hx,ex,bb,eb,sb⟩:=(PM.at_.ts.mono le12).get hkv
     obtain⟨kk,kvv⟩:=kv
     have ex':kk=Sum.inr x.1:=ex
     have eb':kvv= .ref bb:=eb
     subst ex' eb'
     have hxm:=List.mem_of_getElem? hx
     have hxe:=hP.ends x hxm
     refine D2 (SqT.of f12) rfl ?_
     walk_at "r"
     refine⟨rfl,?_⟩
     walk_at "r"
     refine b6 W12.tup (b8 (j:=1) rfl) ?_
     refine⟨q',rfl,.inl ⟨_,W12.ties⟩,?_⟩
     walk_at "r"
     refine ixd D12 (hT _ (List.mem_append_right _ (List.mem_map.mpr ⟨x,hxm,rfl⟩))) ?_
     refine⟨_,D4 (k:=Sum.inr (j6 kvm x.1)) W12.ties,?_⟩
     walk_at "r"
     refine⟨bb,d,x.2,kvm,rfl,sb,D12,hT _ (List.mem_append_left _ hxe.1),hT _ (List.mem_append_left _ hxe.2),fun l13 H13 n13 m13 f13=>?_⟩
     refine b3R (W12.mono m13.le).ts (a1a hW.nd) (SqT.of f13) ?_
     refine⟨i8 (by rw[List.length_map,List.length_take];omega),hN' _ _ ⟨s11.trans (m12.trans m13),?_⟩⟩
     exact C7 (fun x:Str×Tie=>V.bl (decide ((j6 kvm x.1,(x.2.1,j6 kvm x.2.2.1,j6 kvm x.2.2.2))∈W.ts))) hx
    ·rintro out H11 ⟨s11,rfl⟩
     refine⟨⟨s11 _ _ i7,Nat.le_refl _⟩,fun D11 hD11=>⟨i8 (by rw[List.length_map,List.length_take];omega),?_⟩⟩
     rw[hkl,List.take_of_length_le (Nat.le_refl _)]
     have e13:(Pc.ts.map fun x=>V.bl (decide ((j6 kvm x.1,(x.2.1,j6 kvm x.2.2.1,j6 kvm x.2.2.2))∈W.ts)))=(Pc.ts.map fun x=>decide ((j6 kvm x.1,(x.2.1,j6 kvm x.2.2.1,j6 kvm x.2.2.2))∈W.ts)).map V.bl:=by rw[List.map_map];rfl
     rw[e13]
     generalize hbs:(Pc.ts.map fun x=>decide ((j6 kvm x.1,(x.2.1,j6 kvm x.2.2.1,j6 kvm x.2.2.2))∈W.ts))=bs
     have sN:=P0 hqM s11 hD11 (u:= .lst (bs.map V.bl))
     have fN:=a0v s11 hD11 (u:= .lst (bs.map V.bl))
     generalize thaw q (upd H11 D11 (.lst (bs.map V.bl)))=HN at sN fN⊢
     walk_at "r"
     refine a5x (SqL.of fN) ?_
     have eF:bs.all id=a7V Pc W kvm:=by
      rw[←hbs]
      cases hc:(Pc.ts.map fun x=>decide ((j6 kvm x.1,(x.2.1,j6 kvm x.2.2.1,j6 kvm x.2.2.2))∈W.ts)).all id with
      |true=>
       rw[List.all_map,List.all_eq_true] at hc
       exact(a7t ⟨hz',hT,hnd,hPts,fun x hx=>of_decide_eq_true (hc x hx)⟩).symm
      |false=>
       refine(a2T fun z=>?_).symm
       have:(Pc.ts.map fun x=>decide ((j6 kvm x.1,(x.2.1,j6 kvm x.2.2.1,j6 kvm x.2.2.2))∈W.ts)).all id=true:=by
        rw[List.all_map,List.all_eq_true]
        exact fun x hx=>decide_eq_true (z.ts x hx)
       rw[this] at hc;cases hc
     rw[eF]
     exact k _ (mM.trans sN)
def Y4 (f:Str→Str)(W:Web):Web:=⟨W.pts.map fun x=>(f x.1,x.2),W.ts.map fun x=>(f x.1,(x.2.1,f x.2.2.1,f x.2.2.2))⟩
def a1d (K:PySem.W.Frag):Sp:=fun vs H Q _=>∃(a d p q:Addr) (kvs nm:List (Key×V)) (W:Web) (f:Str→Str),vs=[.ref a,.ref d]∧WebAt K H a p q kvs W∧H p=some (.dK (pKV W.pts))∧H q=some (.dK kvs)∧Rd H d (.dK nm)∧f=j6 nm∧(∀n∈i9 W,TxtAt nm n)∧((i9 W).map f).Nodup∧(i9 W).length≤60∧
 (∀x∈W.ts,x.2.2.1∈W.pts.map (·.1)∧x.2.2.2∈W.pts.map (·.1))∧NewP K H Q (Y4 f W)
theorem a7k {f:Addr}{fd:FuncData}(T:Txt K mg)(C0:Cal P w K mg base CX0 1 "tie_renamed" ["tie","names"] [] (L7 K))(L8:Cal P w K mg base CX0 2 "copied" ["web"] [] (X9 K))(F:Fun K "renamed" "renamed" Q1 f fd):FnOk P w K mg base CX0 3 f fd ["web","names"] (a1d K):=by
 refine F.ok sc_renamed (fun vs H Q E h=>?_) (fun cdv A outer s H vs Q E hr h=>?_)
 ·obtain⟨a,d,p,q,kvs,nm,W,f,rfl,_⟩:=h
  rfl
 ·obtain⟨a,d,p,q,kvs,nm,W,f,rfl,hW,hp,hq,hd,rfl,hT,hnd,hl,hE,k⟩:=h
  have hf:∀n∈i9 W,q8 nm (Sum.inr n:Key)=some (.str (j6 nm n)):=fun n hn=>(hT n hn).at_
  have hln:W.pts.length+W.ts.length≤60:=by unfold i9 at hl;rw[List.length_append,List.length_map,List.length_map] at hl;exact hl
  have hf1:∀x∈W.pts,q8 nm (Sum.inr x.1:Key)=some (.str (j6 nm x.1)):=fun x hx=>hf _ (List.mem_append_left _ (List.mem_map.mpr ⟨x,hx,rfl⟩))
  have hf2:∀x∈W.ts,q8 nm (Sum.inr x.1:Key)=some (.str (j6 nm x.1)):=fun x hx=>hf _ (List.mem_append_right _ (List.mem_map.mpr ⟨x,hx,rfl⟩))
  have nd1:((Y4 (j6 nm) W).pts.map (·.1)).Nodup:=by
   unfold i9 at hnd
   rw[List.map_append] at hnd
   have z:=(List.nodup_append.mp hnd).1
   unfold Y4
   rw[List.map_map] at z⊢;exact z
  have nd2:((Y4 (j6 nm) W).ts.map (·.1)).Nodup:=by
   unfold i9 at hnd
   rw[List.map_append] at hnd
   have z:=(List.nodup_append.mp hnd).2.1
   unfold Y4
   rw[List.map_map] at z⊢;exact z
  have hpl:=o0 W.pts
  have hkl:=hW.ts.length
  have hN:=sc_renamed.nd
  have hu:=u9 hr
  refine⟨_,QSs.r (qsC (u4 (i:=2) hN rfl (by walk_at "l") (qBT (V9 K rfl) T.b_dict Boot.«dict» (qa1 (O6 (own:=["name","kind"]) (js:=[1]) (by kernel_rfl) rfl (Z1 (qIx (kIx K hu) (qV 0) i6 (fun _ _=>rfl))) (fun _ _ _ _=>(qgT K rfl (qg1 (qgN (i:=0) (show List.Nodup (["name","kind","names"]:List Str) by decide+kernel) rfl (by walk_at "l")) (qg1 (qgN (i:=1) (show List.Nodup (["name","kind","names"]:List Str) by decide+kernel) rfl (by walk_at "l")) qg0)))) (fun _ _ _ _=>a1l) (fun _ _ _ _=>(L5 (qa1 (qIx (kIx K hu) (qV 2) (qV 0) (fun _ _=>rfl)) (qa1 (qV 1) qa0))))) qa0)))
   (qsC (u4 (i:=3) hN rfl (by walk_at "l") (qBT (V9 K rfl) T.b_dict Boot.«dict» (qa1 (O6 (own:=["name","tie"]) (js:=[1]) (by kernel_rfl) rfl (Z1 (qIx (kIx K hu) (qV 0) i6 (fun _ _=>rfl))) (fun _ _ _ _=>(qgT K rfl (qg1 (qgN (i:=0) (show List.Nodup (["name","tie","names"]:List Str) by decide+kernel) rfl (by walk_at "l")) (qg1 (qgN (i:=1) (show List.Nodup (["name","tie","names"]:List Str) by decide+kernel) rfl (by walk_at "l")) qg0)))) (fun _ _ _ _=>a1l) (fun _ _ _ _=>(L5 (qa1 (qIx (kIx K hu) (qV 2) (qV 0) (fun _ _=>rfl)) (qa1 (qC C0 (hr.mono (by decide)) p0 (qa1 (qV 1) (qa1 (qV 2) qa0))) qa0))))) qa0)))
   (qs1 (v0 (qC L8 (hr.mono (by decide)) p0 (qa1 (L5 (qa1 (qV 2) (qa1 (qV 3) qa0))) qa0)))))),?_⟩
  walk_at "r"
  refine b6 hW.tup (b8 (j:=0) rfl) ?_
  refine E4 hp (fun ndp o1=>?_)
  refine z5 (n:=(pKV W.pts).length) (fun i out H'=>Same (B6 p o1 (pKV W.pts) H) H'∧Paired (PrV K H') out (pKV ((W.pts.take i).map fun x=>(j6 nm x.1,x.2)))) ⟨Same.refl _,.nil⟩ (fun i out H' hi hp=>⟨hp.1 _ _ i7,hi⟩) ?_ ?_
  ·rintro N i v out H1 H2 hi ⟨s1,pr⟩ ⟨t,kv,hkv,nt,rfl,rfl⟩ hN'
   obtain⟨x,hx,rfl⟩:=a0c hkv
   obtain⟨H3,e3,f3,m3,_⟩:=d9 (o:= .tup _) nt
   rw[e3]
   have d3:=((Q6 (o:=o1) hp).trans (s1.trans m3).le).dic hd
   have e7:W.pts.take (i+1)=W.pts.take i++[x]:=by rw[List.take_succ,hx];rfl
   refine D2 (SqT.of f3) rfl ?_
   walk_at "r"
   refine⟨rfl,?_⟩
   walk_at "r"
   refine w5 (v:= .str (j6 nm x.1)) (by have z':=D4 (k:=Sum.inr x.1) d3;rw[hf1 x (List.mem_of_getElem? hx)] at z';exact z') ?_
   walk_at "r"
   refine⟨i8 (by simp),fun t4 n4=>?_⟩
   obtain⟨H4,e4,f4,m4,_⟩:=d9 (o:= .tup _) n4
   rw[e4]
   have hol:=Paired.length pr
   rw[o0,List.length_map,List.length_take] at hol
   refine⟨i8 (by omega),hN' _ _ ⟨s1.trans (m3.trans m4),?_⟩⟩
   rw[e7,List.map_append]
   unfold pKV at pr⊢
   rw[List.map_append]
   exact z7 (Paired.imp' (fun _ _ z=>PrV.mono (m3.trans m4).le z) pr) ⟨t4,rfl,SqT.of f4⟩
  ·rintro out H1 ⟨s1,pr⟩
   have hol:=Paired.length pr
   rw[o0,List.length_map,List.length_take] at hol
   refine⟨⟨s1 _ _ i7,Nat.le_refl _⟩,fun D hD=>⟨i8 (by omega),?_⟩⟩
   have sM:=P0 hp s1 hD (u:= .lst out)
   have fM:=a0v s1 hD (u:= .lst out)
   have prM:=Paired.imp' (fun _ _ z=>PrV.mono (a4C (d:=p) (u:= .lst out) hD) z) pr
   generalize thaw p (upd H1 D (.lst out))=HM at sM fM prM⊢
   rw[List.take_of_length_le (by omega)] at prM
   walk_at "r"
   refine N7 (SqL.of fM) prM (i8 (by rw[o0,List.length_map];omega)) (fun pp npp=>?_)
   have eP:a2u (pKV (W.pts.map fun x=>(j6 nm x.1,x.2)))=pKV (Y4 (j6 nm) W).pts:=Y2 (U8 nd1)
   rw[eP]
   obtain⟨H2,e2,f2,m2,_⟩:=d9 (o:= .dK (pKV (Y4 (j6 nm) W).pts)) npp
   show M0 _ _ _ (upd HM pp (.dK (pKV (Y4 (j6 nm) W).pts))) _
   rw[e2]
   have s2:=sM.trans m2
   have W2:=hW.mono s2.le
   have hq2:=s2 _ _ hq
   walk_at "r"
   refine b6 W2.tup (b8 (j:=1) rfl) ?_
   refine E4 hq2 (fun ndq o2=>?_)
   refine z5 (n:=kvs.length) (fun i out H'=>Same (B6 q o2 kvs H2) H'∧∃ks2,Paired (PrV K H') out ks2∧TiesIs K H' ks2 ((W.ts.take i).map fun x=>(j6 nm x.1,(x.2.1,j6 nm x.2.2.1,j6 nm x.2.2.2)))) ⟨Same.refl _,[],.nil,.nil⟩ (fun i out H' hi hp=>⟨hp.1 _ _ i7,hi⟩) ?_ ?_
   ·rintro N i v out H3 H3' hi ⟨s3,ks2,pr3,ti3⟩ ⟨t,kv,hkv,nt,rfl,rfl⟩ hN'
    obtain⟨H4,e4,f4,m4,_⟩:=d9 (o:= .tup _) nt
    rw[e4]
    have le4:=(Q6 (o:=o2) hq2).trans (s3.trans m4).le
    have d4:=le4.dic (s2.rd hd)
    obtain⟨x,hx,ex,b,eb,sb⟩:=(W2.ts.mono le4).get hkv
    have hxm:x∈W.ts:=List.mem_of_getElem? hx
    have e7:W.ts.take (i+1)=W.ts.take i++[x]:=by rw[List.take_succ,hx];rfl
    refine D2 (SqT.of f4) rfl ?_
    rw[ex,eb]
    walk_at "r"
    refine⟨rfl,?_⟩
    walk_at "r"
    refine w5 (v:= .str (j6 nm x.1)) (by have z':=D4 (k:=Sum.inr x.1) d4;rw[hf2 x hxm] at z';exact z') ?_
    walk_at "r"
    refine⟨b,d,x.2,nm,rfl,sb,d4,hT _ (List.mem_append_left _ (hE x hxm).1),hT _ (List.mem_append_left _ (hE x hxm).2),fun t5 H5 n5 m5 f5=>?_⟩
    walk_at "r"
    refine⟨i8 (by simp),fun t6 n6=>?_⟩
    obtain⟨H6,e6,f6,m6,_⟩:=d9 (o:= .tup _) n6
    rw[e6]
    have hol:=Paired.length pr3
    have hol2:=ti3.length
    rw[List.length_map,List.length_take] at hol2
    have mA:=m4.trans (m5.trans m6)
    refine⟨i8 (by omega),hN' _ _ ⟨s3.trans mA,ks2++[((Sum.inr (j6 nm x.1):Key),V.ref t5)],z7 (Paired.imp' (fun _ _ z=>PrV.mono mA.le z) pr3) (show PrV K H6 (.ref t6) ((Sum.inr (j6 nm x.1):Key),V.ref t5) from⟨t6,rfl,SqT.of f6⟩),?_⟩⟩
    rw[e7,List.map_append]
    exact z7 (ti3.mono mA.le) ⟨rfl,t5,rfl,SqT.of (m6 _ _ f5)⟩
   ·rintro out H3 ⟨s3,ks2,pr3,ti3⟩
    have hol:=Paired.length pr3
    have hol2:=ti3.length
    rw[List.length_map,List.length_take] at hol2
    refine⟨⟨s3 _ _ i7,Nat.le_refl _⟩,fun D' hD'=>⟨i8 (by omega),?_⟩⟩
    have sN:=P0 hq2 s3 hD' (u:= .lst out)
    have fN:=a0v s3 hD' (u:= .lst out)
    have leN:=a4C (d:=q) (u:= .lst out) hD'
    have prN:=Paired.imp' (fun _ _ z=>PrV.mono leN z) pr3
    have tiN:=ti3.mono leN
    generalize thaw q (upd H3 D' (.lst out))=HN at sN fN prN tiN⊢
    rw[List.take_of_length_le (by omega)] at tiN
    have ndk:(ks2.map (·.1)).Nodup:=by
     rw[tiN.keys,←u8]
     refine List.Pairwise.map _ ?_ nd2
     exact fun a b h z=>h (Sum.inr.inj z)
    walk_at "r"
    refine N7 (SqL.of fN) prN (i8 (by omega)) (fun qq nqq=>?_)
    rw[Y2 ndk]
    obtain⟨H5,e5,f5,m5,_⟩:=d9 (o:= .dK ks2) nqq
    show M0 _ _ _ (upd HN qq (.dK ks2)) _
    rw[e5]
    walk_at "r"
    refine⟨i8 (by simp),fun t9 n9=>?_⟩
    obtain⟨H9,e9,f9,m9,_⟩:=d9 (o:= .tup _) n9
    rw[e9]
    walk_at "r"
    have sA:=s2.trans (sN.trans (m5.trans m9))
    have gp:=m9 _ _ (m5 _ _ (sN _ _ f2))
    have gq:=m9 _ _ f5
    refine⟨t9,pp,qq,ks2,Y4 (j6 nm) W,rfl,⟨SqT.of f9,.inl gp,.inl gq,tiN.mono (m5.trans m9).le⟩,nd1,nd2,by unfold Y4;rw[List.length_map];omega,by unfold Y4;rw[List.length_map];omega,fun a' p' q' kvs' W' H' sH hW' h1 h2 h3 h4 h5 h6 h7=>k a' p' q' kvs' W' H' (sA.trans sH) hW' h1 h2 h3 (sA.free h4) (sA.free h5) h6 h7⟩
def b5T (W M:Web):Web:=⟨(W.pts.filter fun x=>!decide (x.1∈M.pts.map (·.1)))++M.pts,(W.ts.filter fun x=>!decide (x.1∈M.ts.map (·.1)))++M.ts⟩
theorem a8z {k:Key}{v:V}:∀{ka:List (Key×V)},(ka.map (·.1)).Nodup→(z6 ka k v).Perm ((ka.filter fun x=>!decide (x.1=k))++[(k,v)]):=by
 have rep:∀{ka:List (Key×V)},(ka.map (·.1)).Nodup→(∃x∈ka,x.1=k)→(ka.map fun x=>if x.1=k then(x.1,v) else x).Perm ((ka.filter fun x=>!decide (x.1=k))++[(k,v)]):=by
  intro ka
  induction ka with
  |nil=>rintro _ ⟨x,h,_⟩;cases h
  |cons p r ih=>
   intro nd hx
   have nd':=List.nodup_cons.mp (show(p.1::r.map (·.1)).Nodup from nd)
   by_cases e:p.1=k
   ·have hr:∀x∈r,¬x.1=k:=fun x hx z=>nd'.1 (by rw[e,←z];exact List.mem_map.mpr ⟨x,hx,rfl⟩)
    have e1:(r.map fun x=>if x.1=k then(x.1,v) else x)=r:=(List.map_congr_left fun x hx=>by rw[if_neg (hr x hx)]).trans (List.map_id' r)
    have e2:(r.filter fun x=>!decide (x.1=k))=r:=List.filter_eq_self.mpr fun x hx=>by rw[decide_eq_false (hr x hx)];rfl
    rw[List.map_cons,if_pos e,e1,List.filter_cons_of_neg (by simp [e]),e2,e]
    exact List.perm_append_comm (l₁:=[(k,v)]) (l₂:=r)
   ·rw[List.map_cons,if_neg e,List.filter_cons_of_pos (by simp [e]),List.cons_append]
    refine List.Perm.cons _ (ih nd'.2 ?_)
    obtain⟨x,hx,ex⟩:=hx
    rcases List.mem_cons.mp hx with z|z
    ·exact absurd (z▸ex) e
    ·exact⟨x,z,ex⟩
 intro ka nd
 cases hv:q8 ka k with
 |none=>
  rw[O7 v hv,List.filter_eq_self.mpr fun x hx=>?_]
  have:x.1≠k:=fun z=>by
   have q:=a0W nd hx
   rw[z,hv] at q;cases q
  simp [this]
 |some y=>
  have hx:∃x∈ka,x.1=k:=⟨_,a2J hv,rfl⟩
  unfold z6
  rw[if_pos (by rw[J1,hv];rfl)]
  exact rep nd hx
open Classical in
theorem a0H:∀{kb ka:List (Key×V)},(ka.map (·.1)).Nodup→(kb.map (·.1)).Nodup→(J6 ka kb).Perm ((ka.filter fun x=>!decide (x.1∈kb.map (·.1)))++kb)
 |[],ka,_,_=>by
  show ka.Perm _
  rw[List.append_nil,List.filter_eq_self.mpr fun x _=>by simp]
 |p::r,ka,nd,nb=>by
  have nb':=List.nodup_cons.mp (show(p.1::r.map (·.1)).Nodup from nb)
  have ih:=a0H (kb:=r) (ka:=z6 ka p.1 p.2) (b3F nd) nb'.2
  refine(show(J6 (z6 ka p.1 p.2) r).Perm _ from ih).trans ?_
  have h1:=(a8z (k:=p.1) (v:=p.2) nd).filter fun x=>!decide (x.1∈r.map (·.1))
  refine(h1.append_right r).trans ?_
  rw[List.filter_append,List.filter_filter,List.filter_cons_of_pos (by rw[decide_eq_false nb'.1];rfl),List.filter_nil,List.append_assoc]
  have e:(ka.filter fun x=>(!decide (x.1∈r.map (·.1))&& !decide (x.1=p.1)))=ka.filter fun x=>!decide (x.1∈(p::r).map (·.1)):=List.filter_congr fun x _=>by
   rw[Bool.eq_iff_iff]
   simp only[Bool.and_eq_true,Bool.not_eq_true',decide_eq_false_iff_not,List.map_cons,List.mem_cons,not_or]
   exact And.comm
  rw[e]
  exact List.Perm.refl _
theorem a4h {A:List (Str×Str)}{B:List Str}{n:Str}:((Sum.inr n:Key)∈B.map (Sum.inr:Str→Key))↔n∈B:=⟨Z7,fun h=>List.mem_map.mpr ⟨n,h,rfl⟩⟩
open Classical in
theorem b1k {A B:List (Str×Str)}(na:(A.map (·.1)).Nodup)(nb:(B.map (·.1)).Nodup):∃U,J6 (pKV A) (pKV B)=pKV U∧U.Perm ((A.filter fun x=>!decide (x.1∈B.map (·.1)))++B):=by
 have h:=a0H (U8 na) (U8 nb)
 have pr:Paired (fun(kv:Key×V) (x:Str×Str)=>kv=(Sum.inr x.1,.str x.2)) (((pKV A).filter fun x=>!decide (x.1∈(pKV B).map (·.1)))++pKV B) ((A.filter fun x=>!decide (x.1∈B.map (·.1)))++B):=by
  refine a1j (O5 (fun kv x e=>?_) (Z5 A)) (Z5 B)
  rw[e,E2,←u8]
  congr 1
  rw[Bool.eq_iff_iff,decide_eq_true_eq,decide_eq_true_eq]
  exact a4h (A:=A)
 obtain⟨U,h1,h2⟩:=U2 h pr
 exact⟨U,a1n h1,h2⟩
open Classical in
theorem b3D {H:Hp}{ka kb:List (Key×V)}{A B:List (Str×Tie)}(wa:TiesIs K H ka A)(wb:TiesIs K H kb B)(na:(A.map (·.1)).Nodup)(nb:(B.map (·.1)).Nodup):∃U,TiesIs K H (J6 ka kb) U∧U.Perm ((A.filter fun x=>!decide (x.1∈B.map (·.1)))++B):=by
 have h:=a0H (a7N wa na) (a7N wb nb)
 have pr:Paired (TieAt K H) ((ka.filter fun x=>!decide (x.1∈kb.map (·.1)))++kb) ((A.filter fun x=>!decide (x.1∈B.map (·.1)))++B):=by
  refine a1j (O5 (fun kv x e=>?_) wa) wb
  rw[e.1,wb.keys,←u8]
  congr 1
  rw[Bool.eq_iff_iff,decide_eq_true_eq,decide_eq_true_eq]
  exact a4h (A:=[])
 exact U2 h pr
theorem a2K {α:Type}{A B:List (Str×α)}(na:(A.map (·.1)).Nodup)(nb:(B.map (·.1)).Nodup):(((A.filter fun x=>!decide (x.1∈B.map (·.1)))++B).map (·.1)).Nodup:=
 b3t (E8 na) nb fun n hn hm=>by
  obtain⟨x,hx,rfl⟩:=List.mem_map.mp hm
  have z:=(List.mem_filter.mp hx).2
  rw[decide_eq_true hn] at z;cases z
def a2g (K:PySem.W.Frag):Sp:=fun vs H Q _=>∃(a p q b p2 q2:Addr) (kvs kvs2:List (Key×V)) (W M:Web),vs=[.ref a,.ref b]∧WebAt K H a p q kvs W∧WebAt K H b p2 q2 kvs2 M∧(W.pts.map (·.1)).Nodup∧(W.ts.map (·.1)).Nodup∧(M.pts.map (·.1)).Nodup∧(M.ts.map (·.1)).Nodup∧W.pts.length+M.pts.length≤60∧W.ts.length+M.ts.length≤60∧NewP K H Q (b5T W M)
theorem NewP.permM {H H1:Hp}{Q:VK}{W W1:Web}(s:Same H H1)(p1:W1.pts.Perm W.pts)(p2:W1.ts.Perm W.ts)(k:NewP K H Q W):NewP K H1 Q W1:=fun a p q kvs W' H' s' h1 h2 h3 h4 h5 h6 h7 h8=>k a p q kvs W' H' (s.trans s') h1 h2 h3 h4 (s.free h5) (s.free h6) (h7.trans p1) (h8.trans p2)
theorem a8P {f:Addr}{fd:FuncData}(T:Txt K mg)(L8:Cal P w K mg base CX0 2 "copied" ["web"] [] (X9 K))(F:Fun K "united" "united" X4 f fd):FnOk P w K mg base CX0 3 f fd ["web","more"] (a2g K):=by
 refine F.ok sc_united (fun vs H Q E h=>?_) (fun cdv A outer s H vs Q E hr h=>?_)
 ·obtain⟨a,p,q,b,p2,q2,kvs,kvs2,W,M,rfl,_⟩:=h
  rfl
 ·obtain⟨a,p,q,b,p2,q2,kvs,kvs2,W,M,rfl,hW,hM,nw1,nw2,nm1,nm2,lw1,lw2,k⟩:=h
  have hkl:=hW.ts.length
  have hkl2:=hM.ts.length
  have hN:=sc_united.nd
  have hu:=u9 hr
  refine⟨_,QSs.r (qsC (u4 (i:=2) hN rfl (by walk_at "l") (qBT (V9 K rfl) T.b_dict Boot.«dict» (qa1 (qIx (kIx K hu) (qV 0) i6 (fun _ _=>rfl)) qa0)))
   (qsC (qEx (qM PySem.F.plainAttrs_dict PySem.F.slot_dict_update PySem.F.type_dict_update P3 K (qV 2) (qa1 (qIx (kIx K hu) (qV 1) i6 (fun _ _=>rfl)) qa0)))
   (qsC (u4 (i:=3) hN rfl (by walk_at "l") (qBT (V9 K rfl) T.b_dict Boot.«dict» (qa1 (qIx (kIx K hu) (qV 0) i6 (fun _ _=>rfl)) qa0)))
   (qsC (qEx (qM PySem.F.plainAttrs_dict PySem.F.slot_dict_update PySem.F.type_dict_update P3 K (qV 3) (qa1 (qIx (kIx K hu) (qV 1) i6 (fun _ _=>rfl)) qa0)))
   (qs1 (v0 (qC L8 (hr.mono (by decide)) p0 (qa1 (L5 (qa1 (qV 2) (qa1 (qV 3) qa0))) qa0)))))))),?_⟩
  walk_at "r"
  refine b6 hW.tup (b8 (j:=0) rfl) ?_
  walk_at "r"
  refine J5 hW.pts (fun pp npp=>?_)
  obtain⟨H1,e1,f1,m1,_⟩:=d9 (o:= .dK _) npp
  rw[e1]
  have M1:=hM.mono m1.le
  walk_at "r"
  refine⟨.inr (.inr (.inl ⟨rfl,.inl ⟨_,f1⟩⟩)),?_⟩
  walk_at "r"
  refine b6 M1.tup (b8 (j:=0) rfl) ?_
  walk_at "r"
  have nep:pp≠p2:=fun z=>by
   have z2:=hM.pts
   rw[←z] at z2
   rcases z2 with z2|⟨_,z2⟩<;>(rw[npp] at z2;cases z2)
  refine⟨pp,p2,pKV W.pts,pKV M.pts,rfl,rfl,f1,M1.pts,nep,by rw[o0,o0];omega,?_⟩
  obtain⟨UP,eUP,pUP⟩:=b1k nw1 nm1
  rw[eUP]
  have s2:Same H (upd H1 pp (.dK (pKV UP))):=K6 m1 npp
  have f2:(upd H1 pp (.dK (pKV UP))) pp=some (.dK (pKV UP)):=i7
  generalize upd H1 pp (.dK (pKV UP))=H2 at s2 f2⊢
  have W2:=hW.mono s2.le
  walk_at "r"
  refine b6 W2.tup (b8 (j:=1) rfl) ?_
  walk_at "r"
  refine J5 W2.ties (fun qq nqq=>?_)
  obtain⟨H3,e3,f3,m3,_⟩:=d9 (o:= .dK _) nqq
  rw[e3]
  have s3:=s2.trans m3
  have M3:=hM.mono s3.le
  have M2:=hM.mono s2.le
  walk_at "r"
  refine⟨.inr (.inr (.inl ⟨rfl,.inl ⟨_,f3⟩⟩)),?_⟩
  walk_at "r"
  refine b6 M3.tup (b8 (j:=1) rfl) ?_
  walk_at "r"
  have neq:qq≠q2:=fun z=>by
   have z2:=M2.ties
   rw[←z] at z2
   rcases z2 with z2|⟨_,z2⟩<;>(rw[nqq] at z2;cases z2)
  obtain⟨UT,wUT,pUT⟩:=b3D (hW.mono s3.le).ts M3.ts nw2 nm2
  refine⟨qq,q2,kvs,kvs2,rfl,rfl,f3,M3.ties,neq,by omega,?_⟩
  have s4:Same H2 (upd H3 qq (.dK (J6 kvs kvs2))):=K6 m3 nqq
  have f4:(upd H3 qq (.dK (J6 kvs kvs2))) qq=some (.dK (J6 kvs kvs2)):=i7
  have TT4:TiesIs K (upd H3 qq (.dK (J6 kvs kvs2))) (J6 kvs kvs2) UT:=E5 f3 wUT
  generalize upd H3 qq (.dK (J6 kvs kvs2))=H4 at s4 f4 TT4⊢
  walk_at "r"
  refine⟨i8 (by simp),fun t9 n9=>?_⟩
  obtain⟨H9,e9,f9,m9,_⟩:=d9 (o:= .tup _) n9
  rw[e9]
  walk_at "r"
  have hfl1:=List.length_filter_le (fun x:Str×Str=>!decide (x.1∈M.pts.map (·.1))) W.pts
  have hfl2:=List.length_filter_le (fun x:Str×Tie=>!decide (x.1∈M.ts.map (·.1))) W.ts
  refine⟨t9,pp,qq,_,⟨UP,UT⟩,rfl,⟨SqT.of f9,.inl (m9 _ _ (s4 _ _ f2)),.inl (m9 _ _ f4),TT4.mono m9.le⟩,(pUP.map _).nodup_iff.mpr (a2K nw1 nm1),(pUT.map _).nodup_iff.mpr (a2K nw2 nm2),?_,?_,NewP.permM (s2.trans (s4.trans m9)) pUP pUT k⟩
  ·show UP.length≤60
   rw[pUP.length_eq,List.length_append];omega
  ·show UT.length≤60
   rw[pUT.length_eq,List.length_append];omega
theorem U6 {fr:List (Str×Str)}(nd:(fr.map (·.1)).Nodup){n s:Str}(h:(n,s)∈fr):TxtAt (pKV fr) n∧j6 (pKV fr) n=s:=⟨⟨s,P5 nd h⟩,a7E (P5 nd h)⟩
theorem a1y {ss:List Str}{f:Str→Str}(nd:ss.Nodup){n:Str}(h:n∈ss):TxtAt (pKV (ss.map fun n=>(n,f n))) n∧j6 (pKV (ss.map fun n=>(n,f n))) n=f n:=
 U6 (by rw[List.map_map];exact(List.map_id' ss).symm▸nd) (List.mem_map.mpr ⟨n,h,rfl⟩)
def a2i (K:PySem.W.Frag):Sp:=fun vs H Q _=>∃(d l:Addr) (kvs:List (Key×V)) (ss:List Str),vs=[.ref d,.ref l]∧Rd H d (.dK kvs)∧SqL K H l (ss.map V.str)∧ss.Nodup∧ss.length≤60∧(∀n∈ss,TxtAt kvs n)∧∀(d':Addr) (H':Hp),H d'=none→Same H H'→H' d'=some (.dK (pKV (ss.map fun n=>(n,j6 kvs n))))→Q (.ref d') H'
theorem a8J {f:Addr}{fd:FuncData}(T:Txt K mg)(F:Fun K "picked" "picked" X7 f fd):FnOk P w K mg base CX0 1 f fd ["put","names"] (a2i K):=by
 refine F.ok sc_picked (fun vs H Q E h=>?_) (fun cdv A outer s H vs Q E hr h=>?_)
 ·obtain⟨d,l,kvs,ss,rfl,_⟩:=h
  rfl
 ·obtain⟨d,l,kvs,ss,rfl,hD,hL,nd,hl,hT,k⟩:=h
  have hN:=sc_picked.nd
  have hu:=u9 hr
  refine⟨_,QSs.r (qs1 (v0 (qBT (V9 K rfl) T.b_dict Boot.«dict» (qa1 (O6 (own:=["name"]) (js:=[0]) (by kernel_rfl) rfl (a0m K (qV 1)) (fun _ _ _ _=>(qgN (i:=0) (show List.Nodup (["name","put"]:List Str) by decide+kernel) rfl (by walk_at "l"))) (fun _ _ _ _=>a1l) (fun _ _ _ _=>(L5 (qa1 (qV 0) (qa1 (qIx (kIx K hu) (qV 1) (qV 0) (fun _ _=>rfl)) qa0))))) qa0)))),?_⟩
  walk_at "r"
  refine B4 hL ?_
  refine z5 (n:=ss.length) (fun i out H'=>Same H H'∧Paired (PrV K H') out (pKV ((ss.take i).map fun n=>(n,j6 kvs n)))) ⟨Same.refl _,.nil⟩ (fun i out H' hi hp=>⟨_,.str (ss[i]),hp.1.seq hL,by rw[List.getElem?_map,List.getElem?_eq_getElem hi];rfl⟩) ?_ ?_
  ·rintro N i v out H2' H2 hi ⟨s2,pr⟩ y hN'
   obtain⟨rfl,hx⟩:=Itl.get y (s2.seq hL)
   rw[List.getElem?_map,List.getElem?_eq_getElem hi] at hx
   cases hx
   have hol:=Paired.length pr
   rw[o0,List.length_map,List.length_take] at hol
   walk_at "r"
   refine⟨rfl,?_⟩
   walk_at "r"
   refine ixd (s2.rd hD) (hT _ (List.getElem_mem hi)) ?_
   walk_at "r"
   refine⟨i8 (by simp),fun t4 n4=>?_⟩
   obtain⟨H4,e4,f4,m4,_⟩:=d9 (o:= .tup _) n4
   rw[e4]
   refine⟨i8 (by omega),hN' _ _ ⟨s2.trans m4,?_⟩⟩
   rw[List.take_succ,List.getElem?_eq_getElem hi,List.map_append]
   unfold pKV at pr⊢
   rw[List.map_append]
   exact z7 (Paired.imp' (fun _ _ z=>PrV.mono m4.le z) pr) ⟨t4,rfl,SqT.of f4⟩
  ·rintro out H2 ⟨s2,pr⟩
   have hol:=Paired.length pr
   rw[o0,List.length_map,List.length_take] at hol
   refine⟨⟨_,s2.seq hL,by rw[List.length_map];exact Nat.le_refl _⟩,fun D hD'=>⟨i8 (by omega),?_⟩⟩
   rw[List.take_of_length_le (Nat.le_refl _)] at pr
   obtain⟨H3,e3,f3,m3,_⟩:=d9 (H:=H2) (o:= .lst out) hD'
   walk_at "r"
   change a4H K _ (upd H2 D _) _
   rw[e3]
   refine N7 (SqL.of f3) (Paired.imp' (fun _ _ z=>PrV.mono m3.le z) pr) (i8 (by rw[o0,List.length_map];omega)) (fun pp npp=>?_)
   rw[Y2 (U8 (by rw[List.map_map];exact(List.map_id' ss).symm▸nd))]
   obtain⟨H4,e4,f4,m4,_⟩:=d9 (o:= .dK _) npp
   rw[e4]
   exact k pp H4 (s2.free (m3.free npp)) (s2.trans (m3.trans m4)) f4
def a0f (K:PySem.W.Frag):Sp:=fun vs H Q _=>∃(st r m bl:Addr) (x:V) (L R:Sd) (bs:List Sd) (km:List (Key×V)),vs=[.ref st]∧SqT K H st [.ref r,.ref m,x]∧RuleIs K H r bl L R bs∧Rd H m (.dK km)∧(∀n∈i9 L.W,TxtAt km n)∧∀(l:Addr) (H':Hp) (s1 s2:List Str),H l=none→Same H H'→Ordr L.W s1 s2→H' l=some (.lst ((((s1++s2).filter fun n=>!decide (n∈i9 R.W)).map (j6 km)).map V.str))→Q (.ref l) H'
theorem a4R {f:Addr}{fd:FuncData}(T:Txt K mg)(a5d:Cal P w K mg base CX0 3 "taken" ["rule"] [] (a2Q K))(F:Fun K "taken_out" "taken_out" K0 f fd):FnOk P w K mg base CX0 4 f fd ["step"] (a0f K):=by
 refine F.ok sc_taken_out (fun vs H Q E h=>?_) (fun cdv A outer s H vs Q E hr h=>?_)
 ·obtain⟨st,r,m,bl,x,L,R,bs,km,rfl,_⟩:=h
  rfl
 ·obtain⟨st,r,m,bl,x,L,R,bs,km,rfl,hS,hR,hM,hT,k⟩:=h
  have hLl:=hR.l.len
  have hN:=sc_taken_out.nd
  have hu:=u9 hr
  refine⟨_,QSs.r (qs1 (v0 (O6 (own:=["name"]) (js:=[0]) (by kernel_rfl) rfl (a0m K (qC a5d (hr.mono (by decide)) p0 (qa1 (qIx (kIx K hu) (qV 0) i6 (fun _ _=>rfl)) qa0))) (fun _ _ _ _=>(qgN (i:=0) (show List.Nodup (["name","step"]:List Str) by decide+kernel) rfl (by walk_at "l"))) (fun _ _ _ _=>a1l) (fun _ _ _ _=>(qIx (kIx K hu) (qIx (kIx K hu) (qV 1) i6 (fun _ _=>rfl)) (qV 0) (fun _ _=>rfl)))))),?_⟩
  walk_at "r"
  refine b6 hS (b8 (j:=0) rfl) ?_
  walk_at "r"
  refine⟨r,bl,L,R,bs,rfl,hR,fun l1 H1 s1 s2 n1 m1 or f1=>?_⟩
  have hlen:=or.len
  have hfl:=List.length_filter_le (fun n=>!decide (n∈i9 R.W)) (s1++s2)
  have hin:∀n∈(s1++s2).filter fun n=>!decide (n∈i9 R.W),TxtAt km n:=fun n hn=>hT n (or.mem.mp (List.mem_filter.mp hn).1)
  have k':=fun l H' h1 h2=>k l H' s1 s2 h1 h2 or
  clear k
  generalize (s1++s2).filter (fun n=>!decide (n∈i9 R.W))=ss at f1 hfl hin k'
  refine B4 (SqL.of f1) ?_
  refine z5 (n:=ss.length) (fun i out H'=>Same H1 H'∧out=(ss.take i).map fun n=>V.str (j6 km n)) ⟨Same.refl _,rfl⟩ (fun i out H' hi hp=>⟨_,.str (ss[i]),SqL.of (hp.1 _ _ f1),by rw[List.getElem?_map,List.getElem?_eq_getElem hi];rfl⟩) ?_ ?_
  ·rintro N i v out H2' H2 hi ⟨s3,rfl⟩ y hN'
   obtain⟨rfl,hx⟩:=Itl.get y (SqL.of (s3 _ _ f1))
   rw[List.getElem?_map,List.getElem?_eq_getElem hi] at hx
   cases hx
   walk_at "r"
   refine⟨rfl,?_⟩
   walk_at "r"
   refine b6 ((m1.trans s3).tup hS) (b8 (j:=1) rfl) ?_
   walk_at "r"
   refine ixd ((m1.trans s3).rd hM) (hin _ (List.getElem_mem hi)) ?_
   refine⟨i8 (by rw[List.length_map,List.length_take];omega),hN' _ _ ⟨s3,?_⟩⟩
   exact C7 (fun n:Str=>V.str (j6 km n)) (List.getElem?_eq_getElem hi)
  ·rintro out H2 ⟨s3,rfl⟩
   refine⟨⟨_,SqL.of (s3 _ _ f1),by rw[List.length_map];exact Nat.le_refl _⟩,fun D hD'=>⟨i8 (by rw[List.length_map,List.length_take];omega),?_⟩⟩
   rw[List.take_of_length_le (Nat.le_refl _)]
   obtain⟨H3,e3,f3,m3,_⟩:=d9 (H:=H2) (o:= .lst (ss.map fun n=>V.str (j6 km n))) hD'
   refine k' D _ ((m1.trans s3).free hD') ?_ ?_
   ·show Same _ (upd H2 D _)
    rw[e3];exact m1.trans (s3.trans m3)
   ·show upd H2 D _ D=_
    rw[i7,List.map_map];rfl
def a2f (K:PySem.W.Frag):Sp:=fun vs H Q _=>∃(x z u v:V) (r bl:Addr),vs=[x,.ref r,z]∧SqT K H r [u,v,.ref bl]∧SqL K H bl []∧Q .non H
def S0 (K:PySem.W.Frag):Sp:=fun vs H Q _=>False
def a0p (K:PySem.W.Frag):Sp:=fun vs H Q _=>False
def a5D (K:PySem.W.Frag):Sp:=fun vs H Q _=>False
def a4j (K:PySem.W.Frag):Sp:=fun vs H Q _=>False
def Y1 (K:PySem.W.Frag):Sp:=fun vs H Q _=>False
def a0Y (K:PySem.W.Frag):Sp:=fun vs H Q _=>False
def a4q (K:PySem.W.Frag):Sp:=fun vs H Q _=>False
def a5J (K:PySem.W.Frag):Sp:=fun vs H Q _=>False
def a4d (K:PySem.W.Frag):Sp:=fun vs H Q _=>False
def a0B (K:PySem.W.Frag):Sp:=fun vs H Q _=>False
def a2s (K:PySem.W.Frag):Sp:=fun vs H Q _=>False
theorem a3I {f:Addr}{fd:FuncData}(T:Txt K mg)(F:Fun K "first_match" "first_match" D0 f fd):FnOk P w K mg base CX0 1 f fd ["piece","web","fixed"] (S0 K):=by
 refine F.ok a3f (fun vs H Q E h=>?_) (fun cdv A outer s H vs Q E hr h=>?_)
 ·exact h.elim
 ·exact h.elim
theorem a3F {f:Addr}{fd:FuncData}(T:Txt K mg)(F:Fun K "first_found" "first_found" C5 f fd):FnOk P w K mg base CX0 1 f fd ["piece","web","piece_looks","web_looks","fixed"] (a0p K):=by
 refine F.ok a3u (fun vs H Q E h=>?_) (fun cdv A outer s H vs Q E hr h=>?_)
 ·exact h.elim
 ·exact h.elim
theorem b0z {f:Addr}{fd:FuncData}(T:Txt K mg)(F:Fun K "found" "found" a0Q f fd):FnOk P w K mg base CX0 1 f fd ["piece","web","piece_looks","web_looks","fixed","most"] (a5D K):=by
 refine F.ok a9U (fun vs H Q E h=>?_) (fun cdv A outer s H vs Q E hr h=>?_)
 ·exact h.elim
 ·exact h.elim
theorem a7P {f:Addr}{fd:FuncData}(T:Txt K mg)(F:Fun K "may_be" "may_be" X5 f fd):FnOk P w K mg base CX0 1 f fd ["name","image","fixed"] (a4j K):=by
 refine F.ok a7S (fun vs H Q E h=>?_) (fun cdv A outer s H vs Q E hr h=>?_)
 ·exact h.elim
 ·exact h.elim
theorem a2p {f:Addr}{fd:FuncData}(T:Txt K mg)(F:Fun K "point_choices" "point_choices" A6 f fd):FnOk P w K mg base CX0 1 f fd ["piece_looks","web_looks","fixed"] (Y1 K):=by
 refine F.ok a2c (fun vs H Q E h=>?_) (fun cdv A outer s H vs Q E hr h=>?_)
 ·exact h.elim
 ·exact h.elim
theorem a3O {f:Addr}{fd:FuncData}(T:Txt K mg)(F:Fun K "tie_places" "tie_places" G0 f fd):FnOk P w K mg base CX0 1 f fd ["piece","web","fixed"] (a0Y K):=by
 refine F.ok a3N (fun vs H Q E h=>?_) (fun cdv A outer s H vs Q E hr h=>?_)
 ·exact h.elim
 ·exact h.elim
theorem a8w {f:Addr}{fd:FuncData}(T:Txt K mg)(F:Fun K "enough" "enough" X8 f fd):FnOk P w K mg base CX0 1 f fd ["lists"] (a4q K):=by
 refine F.ok a9b (fun vs H Q E h=>?_) (fun cdv A outer s H vs Q E hr h=>?_)
 ·exact h.elim
 ·exact h.elim
theorem b0L {f:Addr}{fd:FuncData}(T:Txt K mg)(F:Fun K "lines" "lines" a0S f fd):FnOk P w K mg base CX0 1 f fd ["piece","choices","places","most"] (a5J K):=by
 refine F.ok b0h (fun vs H Q E h=>?_) (fun cdv A outer s H vs Q E hr h=>?_)
 ·exact h.elim
 ·exact h.elim
theorem a8L {f:Addr}{fd:FuncData}(T:Txt K mg)(F:Fun K "images" "images" Y6 f fd):FnOk P w K mg base CX0 1 f fd ["piece","choices","places","begun"] (a4d K):=by
 refine F.ok a8Z (fun vs H Q E h=>?_) (fun cdv A outer s H vs Q E hr h=>?_)
 ·exact h.elim
 ·exact h.elim
theorem a3b {f:Addr}{fd:FuncData}(T:Txt K mg)(F:Fun K "tie_choices" "tie_choices" C4 f fd):FnOk P w K mg base CX0 1 f fd ["piece","places","put","name"] (a0B K):=by
 refine F.ok a3o (fun vs H Q E h=>?_) (fun cdv A outer s H vs Q E hr h=>?_)
 ·exact h.elim
 ·exact h.elim
theorem a6q {f:Addr}{fd:FuncData}(T:Txt K mg)(F:Fun K "has_room" "has_room" M7 f fd):FnOk P w K mg base CX0 1 f fd ["piece","places","put","name","image"] (a2s K):=by
 refine F.ok a6i (fun vs H Q E h=>?_) (fun cdv A outer s H vs Q E hr h=>?_)
 ·exact h.elim
 ·exact h.elim
theorem a8M {f:Addr}{fd:FuncData}(T:Txt K mg)(V2:Cal P w K mg base CX0 1 "first_match" ["piece","web","fixed"] [] (S0 K))(F:Fun K "barred" "barred" Y3 f fd):FnOk P w K mg base CX0 2 f fd ["web","rule","match"] (a2f K):=by
 refine F.ok sc_barred (fun vs H Q E h=>?_) (fun cdv A outer s H vs Q E hr h=>?_)
 ·obtain⟨x,z,u,v,r,bl,rfl,_⟩:=h
  rfl
 ·obtain⟨x,z,u,v,r,bl,rfl,hR,hB,k⟩:=h
  have hN:=sc_barred.nd
  have hu:=u9 hr
  refine⟨_,QSs.r (qsC (V6 PassesOwn.never rfl (Y7 K T.b_enumerate (qa1 (qIx (kIx K hu) (qV 1) i6 (fun _ _=>rfl)) qa0)) (qgT K rfl (qg1 (qgN (i:=3) hN rfl (by walk_at "l")) (qg1 (qgN (i:=4) hN rfl (by walk_at "l")) qg0)))
    (qsC (u4 (i:=5) hN rfl (by walk_at "l") (qC V2 (hr.mono (by decide)) p0 (qa1 (qV 4) (qa1 (qV 0) (qa1 (qV 2) qa0)))))
   (qs1 (qIf (p8 a6j (qV 5) b3n (u7 _)) (qs1 (v0 (L5 (qa1 (qV 3) (qa1 (qV 5) qa0))))) qs0))))
   (qs1 (v0 b3n))),?_⟩
  walk_at "r"
  refine b6 hR (b8 (j:=2) rfl) ?_
  walk_at "r"
  refine⟨_,rfl,.inl ⟨bl,_,rfl,hB,?_⟩⟩
  refine E1 (n:=0) (fun i σ H'=>H'=H) rfl (fun i σ H' hi _=>absurd hi (Nat.not_lt_zero _)) (fun i x σ H' H'' hi=>absurd hi (Nat.not_lt_zero _)) ?_
  rintro σ H1 rfl
  refine⟨⟨_,hB,Nat.le_refl _⟩,?_⟩
  walk_at "r"
  exact k
def bh (L:Web)(km kf:List (Key×V))(n:Str):Str:=if n∈i9 L then j6 km n else j6 kf n
structure FrOk (W L R:Web) (fr:List (Str×Str)):Prop where
 ks:∃u1 u2,Ordr R u1 u2∧fr.map (·.1)=(u1++u2).filter fun n=>!decide (n∈i9 L)
 nm:∀x∈fr,O9 x.2=true
 nd:(fr.map (·.2)).Nodup
 no:∀x∈fr,x.2∉i9 W
 len:fr.length≤8
theorem FrOk.at_ {W L R:Web}{fr:List (Str×Str)}{s1 s2:List Str}(h:FrOk W L R fr)(ndR:(i9 R).Nodup)(o:Ordr R s1 s2):fr.map (·.1)=(s1++s2).filter fun n=>!decide (n∈i9 L):=by
 obtain⟨u1,u2,ou,e⟩:=h.ks
 obtain⟨e1,e2⟩:=o.uniq ou (List.Perm.refl _) (List.Perm.refl _) ndR
 rw[e,e1,e2]
theorem FrOk.nd1 {W L R:Web}{fr:List (Str×Str)}(h:FrOk W L R fr)(ndR:(i9 R).Nodup):(fr.map (·.1)).Nodup:=by
 obtain⟨u1,u2,ou,e⟩:=h.ks
 rw[e]
 exact(ou.perm.nodup_iff.mpr ndR).sublist List.filter_sublist
theorem FrOk.mem {W L R:Web}{fr:List (Str×Str)}(h:FrOk W L R fr){n:Str}:n∈fr.map (·.1)↔n∈i9 R∧n∉i9 L:=by
 obtain⟨u1,u2,ou,e⟩:=h.ks
 rw[e,List.mem_filter,ou.mem,Bool.not_eq_true',decide_eq_false_iff_not]
theorem FrOk.txt {W L R:Web}{fr:List (Str×Str)}(h:FrOk W L R fr)(ndR:(i9 R).Nodup){n:Str}(hn:n∈fr.map (·.1)):TxtAt (pKV fr) n∧(n,j6 (pKV fr) n)∈fr:=by
 obtain⟨⟨n',s⟩,hx,e⟩:=List.mem_map.mp hn
 have e':n'=n:=e
 subst e'
 have z:=U6 (h.nd1 ndR) hx
 exact⟨z.1,by rw[z.2];exact hx⟩
theorem a9G {fr:List (Str×Str)}:(pKV fr).map (·.2)=(fr.map (·.2)).map V.str:=by unfold pKV;rw[List.map_map,List.map_map];rfl
def Q9 (K:PySem.W.Frag):Sp:=fun vs H Q _=>∃(S L R:Sd) (r bl f:Addr) (bs:List Sd) (fr:List (Str×Str)),vs=[.ref S.a,.ref r,.ref f]∧SdIs K H S∧RuleIs K H r bl L R bs∧H f=some (.dK (pKV fr))∧FrOk S.W L.W R.W fr∧∀H',Same H H'→Q (.bl true) H'
theorem a3s {f:Addr}{fd:FuncData}(T:Txt K mg)(M4:Cal P w K mg base CX0 3 "fresh_of" ["rule"] [] (U4 K))(a1W:Cal P w K mg base CX0 2 "is_name" ["thing"] [] (a1s K))(F:Fun K "names_serve" "names_serve" C8 f fd):FnOk P w K mg base CX0 4 f fd ["web","rule","fresh"] (Q9 K):=by
 refine F.ok sc_names_serve (fun vs H Q E h=>?_) (fun cdv A outer s H vs Q E hr h=>?_)
 ·obtain⟨S,L,R,r,bl,f,bs,fr,rfl,_⟩:=h
  rfl
 ·obtain⟨S,L,R,r,bl,f,bs,fr,rfl,hS,hR,hF,ok,k⟩:=h
  have hfl:=ok.len
  have hN:=sc_names_serve.nd
  have hu:=u9 hr
  refine⟨_,QSs.r (qsC (u4 (i:=3) hN rfl (by walk_at "l") (qC M4 (hr.mono (by decide)) p0 (qa1 (qV 1) qa0)))
   (qsC (qIf (qtW (a1q (a0k (a0h K (qB (a2R K P w) T.b_isinstance Boot.«isinstance» (qa1 (qV 2) (qa1 (qTy "dict" T.b_dict Boot.«dict») qa0))))) (a0i (p8 (X0 K hr) (qB (A3 K P w) T.b_len Boot.«len» (qa1 (qV 2) qa0)) (qB (A3 K P w) T.b_len Boot.«len» (qa1 (qV 3) qa0)) (u7 _))))) (qs1 (v0 qBl)) qs0)
   (qsC (qIf (a0k (a0h K (qB (b0n K rfl) T.b_all Boot.«all» (qa1 (O6 (own:=["name"]) (js:=[2]) (by kernel_rfl) rfl (a0m K (qV 3)) (fun _ _ _ _=>(qgN (i:=0) (show List.Nodup (["name","fresh"]:List Str) by decide+kernel) rfl (by walk_at "l"))) (fun _ _ _ _=>a1l) (fun _ _ _ _=>(qC a1W (hr.mono (by decide)) p0 (qa1 (a4f hu (qV 1) (qV 0)) qa0)))) qa0)))) (qs1 (v0 qBl)) qs0)
   (qsC (qIf (p8 (X0 K hr) (qB (A3 K P w) T.b_len Boot.«len» (qa1 (qBT (b5g K rfl) T.b_set Boot.«set» (qa1 (qBT (a6E K rfl) T.b_list Boot.«list» (qa1 (qM0 PySem.F.plainAttrs_dict PySem.F.slot_dict_values PySem.F.type_dict_values a2A K (qV 2)) qa0)) qa0)) qa0)) (qB (A3 K P w) T.b_len Boot.«len» (qa1 (qV 3) qa0)) (u7 _)) (qs1 (v0 qBl)) qs0)
   (qs1 (v0 (b6C (qB (b6R K rfl) T.b_any Boot.«any» (qa1 (O6 (own:=["name"]) (js:=[0]) (by kernel_rfl) rfl (a9i (qV 2)) (fun _ _ _ _=>(qgN (i:=0) (show List.Nodup (["name","web"]:List Str) by decide+kernel) rfl (by walk_at "l"))) (fun _ _ _ _=>a1l) (fun _ _ _ _=>(qOr (a5b (kIn K hu) (qV 0) (qIx (kIx K hu) (qV 1) i6 (fun _ _=>rfl)) (by rfl)) (b5i (a5b (kIn K hu) (qV 0) (qIx (kIx K hu) (qV 1) i6 (fun _ _=>rfl)) (by rfl)))))) qa0))))))))),?_⟩
  walk_at "r"
  refine⟨r,bl,L,R,bs,rfl,hR,fun l1 H1 s1 s2 n1 m1 or f1=>?_⟩
  rw[←ok.at_ hR.r.nd or] at f1
  have F1:=m1 _ _ hF
  walk_at "r"
  refine a1v (a1S (t:="dict") (.inr (.inr ⟨rfl,_,.inl F1⟩)) (by simp) ?_)
  walk_at "r"
  rw[if_neg (by decide)]
  walk_at "r"
  refine A4 (K4 (.inl F1) ?_)
  walk_at "r"
  refine A4 (q9 (SqL.of f1) ?_)
  rw[o0,List.length_map,List.length_map]
  walk_at "r"
  rw[if_neg (by simp)]
  walk_at "r"
  refine B4 (SqL.of f1) ?_
  refine z5 (n:=fr.length) (fun i out H'=>Same H1 H'∧out=List.replicate i (V.bl true)) ⟨Same.refl _,rfl⟩ (fun i out H' hi hp=>⟨_,.str (fr[i].1),SqL.of (hp.1 _ _ f1),by rw[List.getElem?_map,List.getElem?_map,List.getElem?_eq_getElem hi];rfl⟩) ?_ ?_
  ·rintro N i v out H2' H2 hi ⟨s2',rfl⟩ y hN'
   obtain⟨rfl,hx⟩:=Itl.get y (SqL.of (s2' _ _ f1))
   rw[List.getElem?_map,List.getElem?_map,List.getElem?_eq_getElem hi] at hx
   cases hx
   have hm:=List.getElem_mem hi
   generalize fr[i]=x at hm
   walk_at "r"
   refine⟨rfl,?_⟩
   walk_at "r"
   refine⟨f,rfl,.inl ⟨_,.inl (s2' _ _ F1)⟩,?_⟩
   walk_at "r"
   refine⟨_,D4 (k:=Sum.inr x.1) (show Rd H2 f _ from .inl (s2' _ _ F1)),?_⟩
   rw[P5 (k:=x.2) (ok.nd1 hR.r.nd) hm]
   walk_at "r"
   refine⟨_,rfl,.inl ⟨x.2,rfl,b0U (ok.nm x hm),fun H3 m3=>?_⟩⟩
   rw[ok.nm x hm]
   refine⟨i8 (by rw[List.length_replicate];omega),hN' _ _ ⟨s2'.trans m3,?_⟩⟩
   rw[List.replicate_succ']
  ·rintro out H2 ⟨s2',rfl⟩
   refine⟨⟨_,SqL.of (s2' _ _ f1),by rw[List.length_map,List.length_map];exact Nat.le_refl _⟩,fun D hD=>⟨i8 (by rw[List.length_replicate];omega),?_⟩⟩
   obtain⟨H3,e3,f3,m3,_⟩:=d9 (H:=H2) (o:= .lst (List.replicate fr.length (V.bl true))) hD
   walk_at "r"
   change a9g K _ (upd H2 D _) _
   rw[e3]
   refine a5x (bs:=List.replicate fr.length true) (SqL.of (by rw[f3,List.map_replicate])) ?_
   rw[b1V]
   have m13:=s2'.trans m3
   have F3:=m13 _ _ F1
   walk_at "r"
   refine⟨.inr (.inr (.inl ⟨rfl,.inl ⟨_,F3⟩⟩)),?_⟩
   walk_at "r"
   refine⟨f,_,rfl,rfl,.inl F3,fun v4 n4=>?_⟩
   obtain⟨H4,e4,f4,m4,_⟩:=d9 (o:= .ext (a6C v4 f)) n4
   rw[e4]
   walk_at "r"
   refine a5I f4 (.inl (m4 _ _ F3)) (fun l5 n5=>?_)
   rw[a9G]
   obtain⟨H5,e5,f5,m5,_⟩:=d9 (o:= .lst _) n5
   rw[e5]
   walk_at "r"
   refine⟨l5,_,rfl,SqL.of f5,by rw[List.length_map];omega,fun l6 n6=>?_⟩
   obtain⟨H6,e6,f6,m6,_⟩:=d9 (o:= .ext (a1o l6 (a2n (fr.map (·.2))).length)) n6
   rw[e6]
   have m16:=m13.trans (m4.trans (m5.trans m6))
   have hded:(a2n (fr.map (·.2))).length=fr.length:=by
    have z:=(a6b (fr.map (·.2))).mpr ok.nd
    rw[List.length_map] at z;exact z
   walk_at "r"
   refine a3X f6 (by omega) ?_
   rw[hded]
   walk_at "r"
   refine A4 (q9 (SqL.of (m16 _ _ f1)) ?_)
   rw[List.length_map,List.length_map]
   walk_at "r"
   rw[if_neg (by simp)]
   have F6:=m16 _ _ F1
   have S6:=hS.same (m1.trans m16)
   walk_at "r"
   refine⟨f,_,rfl,.inl ⟨F6,fun ndf o=>?_⟩⟩
   refine z5 (n:=(pKV fr).length) (fun i out H'=>Same (B6 f o (pKV fr) H6) H'∧out=List.replicate i (V.bl false)) ⟨Same.refl _,rfl⟩ (fun i out H' hi hp=>⟨hp.1 _ _ i7,hi⟩) ?_ ?_
   ·rintro N i v out H7' H7 hi ⟨s7,rfl⟩ ⟨rfl,kv,hkv,rfl⟩ hN'
    have le7:=(Q6 (o:=o) F6).trans s7.le
    have S7:=S6.at_.mono le7
    obtain⟨x,hx,rfl⟩:=a0c hkv
    have hno:=ok.no x (List.mem_of_getElem? hx)
    rw[o0] at hi
    walk_at "r"
    refine⟨rfl,?_⟩
    walk_at "r"
    refine b6 S7.tup (b8 (j:=0) rfl) ?_
    refine R8 (D4 (k:=Sum.inr x.2) S7.pts) ?_
    rw[N3,decide_eq_false (fun z=>hno (List.mem_append_left _ z))]
    walk_at "r"
    refine b6 S7.tup (b8 (j:=1) rfl) ?_
    refine R8 (D4 (k:=Sum.inr x.2) S7.ties) ?_
    rw[X3 S7.ts,decide_eq_false (fun z=>hno (List.mem_append_right _ z))]
    refine⟨i8 (by rw[List.length_replicate];omega),hN' _ _ ⟨s7,?_⟩⟩
    rw[List.replicate_succ']
   ·rintro out H7 ⟨s7,rfl⟩
    refine⟨⟨s7 _ _ i7,Nat.le_refl _⟩,fun D8 n8=>⟨i8 (by rw[List.length_replicate,o0];omega),?_⟩⟩
    have s8:=P0 F6 s7 n8 (u:= .lst (List.replicate (pKV fr).length (V.bl false)))
    have f8:=a0v s7 n8 (u:= .lst (List.replicate (pKV fr).length (V.bl false)))
    generalize thaw f (upd H7 D8 (.lst (List.replicate (pKV fr).length (V.bl false))))=H8 at s8 f8⊢
    walk_at "r"
    refine⟨D8,List.replicate (pKV fr).length false,rfl,SqL.of (by rw[f8,List.map_replicate]),?_⟩
    rw[show(List.replicate (pKV fr).length false).any id=false by rw[List.any_eq_false];intro x hx;rw[List.eq_of_mem_replicate hx];simp]
    walk_at "r"
    exact k _ (m1.trans (m16.trans s8))
structure StI (K:PySem.W.Frag) (H:Hp) (st r m f bl:Addr) (L R:Sd) (km kf:List (Key×V)):Prop where
 tup:SqT K H st [.ref r,.ref m,.ref f]
 r:RuleIs K H r bl L R []
 m:H m=some (.dK km)
 f:H f=some (.dK kf)
 b:H bl=some (.lst [])
theorem StI.same {H H':Hp}{st r m f bl:Addr}{L R:Sd}{km kf:List (Key×V)}(h:StI K H st r m f bl L R km kf)(s:Same H H'):StI K H' st r m f bl L R km kf:=⟨s.tup h.tup,h.r.same s,s _ _ h.m,s _ _ h.f,s _ _ h.b⟩
theorem a2G {α:Type}{l:List α}{p:α→Bool}(h:l.Nodup):(l.filter p).Nodup:=h.sublist List.filter_sublist
theorem a8a {A B:List (Str×Str)}{n:Str}(nd:((A++B).map (·.1)).Nodup)(h:n∈A.map (·.1)):TxtAt (pKV A++pKV B) n∧j6 (pKV A++pKV B) n=j6 (pKV A) n:=by
 obtain⟨⟨n',s⟩,hx,e⟩:=List.mem_map.mp h
 have e':n'=n:=e
 subst e'
 have e2:pKV A++pKV B=pKV (A++B):=by unfold pKV;rw[List.map_append]
 have z:=U6 nd (List.mem_append_left B hx)
 rw[List.map_append] at nd
 rw[e2,(U6 (List.nodup_append.mp nd).1 hx).2];exact z
theorem a8f {A B:List (Str×Str)}{n:Str}(nd:((A++B).map (·.1)).Nodup)(h:n∈B.map (·.1)):TxtAt (pKV A++pKV B) n∧j6 (pKV A++pKV B) n=j6 (pKV B) n:=by
 obtain⟨⟨n',s⟩,hx,e⟩:=List.mem_map.mp h
 have e':n'=n:=e
 subst e'
 have e2:pKV A++pKV B=pKV (A++B):=by unfold pKV;rw[List.map_append]
 have z:=U6 nd (List.mem_append_right A hx)
 rw[List.map_append] at nd
 rw[e2,(U6 (List.nodup_append.mp nd).2.1 hx).2];exact z
theorem a0g (ss:List Str)(f:Str→Str):(ss.map fun n=>(n,f n)).map (·.1)=ss:=by rw[List.map_map];exact List.map_id' ss
def a0M (K:PySem.W.Frag):Sp:=fun vs H Q _=>∃(st r m f bl:Addr) (L R:Sd) (km kf:List (Key×V)),vs=[.ref st]∧StI K H st r m f bl L R km kf∧(∀n∈i9 L.W,TxtAt km n)∧(∀n∈i9 R.W,n∉i9 L.W→TxtAt kf n)∧∀(d:Addr) (H':Hp) (t1 t2:List Str),H d=none→Same H H'→Ordr R.W t1 t2→H' d=some (.dK (pKV ((t1++t2).map fun n=>(n,bh L.W km kf n))))→Q (.ref d) H'
theorem a7Q {f:Addr}{fd:FuncData}(T:Txt K mg)(a0G:Cal P w K mg base CX0 1 "picked" ["put","names"] [] (a2i K))(a6P:Cal P w K mg base CX0 3 "kept" ["rule"] [] (a5i K))(M4:Cal P w K mg base CX0 3 "fresh_of" ["rule"] [] (U4 K))(A1:Cal P w K mg base CX0 1 "things" ["web"] [] (N4 K))(F:Fun K "behind" "behind" X2 f fd):FnOk P w K mg base CX0 4 f fd ["step"] (a0M K):=by
 refine F.ok sc_behind (fun vs H Q E h=>?_) (fun cdv A outer s H vs Q E hr h=>?_)
 ·obtain⟨st,r,m,f,bl,L,R,km,kf,rfl,_⟩:=h
  rfl
 ·obtain⟨st,r,m,f,bl,L,R,km,kf,rfl,hS,hM,hF,k⟩:=h
  have hLl:=hS.r.l.len
  have hRl:=hS.r.r.len
  have hN:=sc_behind.nd
  have hu:=u9 hr
  refine⟨_,QSs.r (qsC (u4 (i:=1) hN rfl (by walk_at "l") (qIx (kIx K hu) (qV 0) i6 (fun _ _=>rfl)))
   (qsC (u4 (i:=2) hN rfl (by walk_at "l") (qC a0G (hr.mono (by decide)) p0 (qa1 (qIx (kIx K hu) (qV 0) i6 (fun _ _=>rfl)) (qa1 (qC a6P (hr.mono (by decide)) p0 (qa1 (qV 1) qa0)) qa0))))
   (qsC (qEx (qM PySem.F.plainAttrs_dict PySem.F.slot_dict_update PySem.F.type_dict_update P3 K (qV 2) (qa1 (qC a0G (hr.mono (by decide)) p0 (qa1 (qIx (kIx K hu) (qV 0) i6 (fun _ _=>rfl)) (qa1 (qC M4 (hr.mono (by decide)) p0 (qa1 (qV 1) qa0)) qa0))) qa0)))
   (qs1 (v0 (qC a0G (hr.mono (by decide)) p0 (qa1 (qV 2) (qa1 (qC A1 (hr.mono (by decide)) p0 (qa1 (qIx (kIx K hu) (qV 1) i6 (fun _ _=>rfl)) qa0)) qa0)))))))),?_⟩
  walk_at "r"
  refine b6 hS.tup (b8 (j:=0) rfl) ?_
  walk_at "r"
  refine b6 hS.tup (b8 (j:=1) rfl) ?_
  walk_at "r"
  refine⟨r,bl,L,R,[],rfl,hS.r,fun l1 H1 s1 s2 n1 m1 o1 f1=>?_⟩
  have S1:=hS.same m1
  have hl1:=o1.len
  have hfl1:=List.length_filter_le (fun n=>decide (n∈i9 R.W)) (s1++s2)
  walk_at "r"
  refine⟨m,l1,km,_,rfl,.inl S1.m,SqL.of f1,a2G (o1.perm.nodup_iff.mpr hS.r.l.nd),by omega,fun n hn=>hM n (o1.mem.mp (List.mem_filter.mp hn).1),fun d2 H2 n2 m2 f2=>?_⟩
  have S2:=S1.same m2
  walk_at "r"
  refine⟨.inr (.inr (.inl ⟨rfl,.inl ⟨_,f2⟩⟩)),?_⟩
  walk_at "r"
  refine b6 S2.tup (b8 (j:=2) rfl) ?_
  walk_at "r"
  refine⟨r,bl,L,R,[],rfl,S2.r,fun l3 H3 u1 u2 n3 m3 o3 f3=>?_⟩
  have S3:=S2.same m3
  have hl3:=o3.len
  have hfl3:=List.length_filter_le (fun n=>!decide (n∈i9 L.W)) (u1++u2)
  walk_at "r"
  refine⟨f,l3,kf,_,rfl,.inl S3.f,SqL.of f3,a2G (o3.perm.nodup_iff.mpr hS.r.r.nd),by omega,fun n hn=>hF n (o3.mem.mp (List.mem_filter.mp hn).1) (by have z:=(List.mem_filter.mp hn).2;rw[Bool.not_eq_true',decide_eq_false_iff_not] at z;exact z),fun d4 H4 n4 m4 f4=>?_⟩
  have S4:=S3.same m4
  have f2':=m4 _ _ (m3 _ _ f2)
  have ne24:d2≠d4:=g0 (m3 _ _ f2) n4
  have hsub:∀n∈(s1++s2).filter (fun n=>decide (n∈i9 R.W)),n∈i9 L.W:=fun n hn=>o1.mem.mp (List.mem_filter.mp hn).1
  have hno:∀n∈(u1++u2).filter (fun n=>!decide (n∈i9 L.W)),n∉i9 L.W:=fun n hn=>by have z:=(List.mem_filter.mp hn).2;rw[Bool.not_eq_true',decide_eq_false_iff_not] at z;exact z
  have nda:(((s1++s2).filter fun n=>decide (n∈i9 R.W))++((u1++u2).filter fun n=>!decide (n∈i9 L.W))).Nodup:=List.nodup_append.mpr ⟨a2G (o1.perm.nodup_iff.mpr hS.r.l.nd),a2G (o3.perm.nodup_iff.mpr hS.r.r.nd),fun a ha b hb e=>hno b hb (e▸hsub a ha)⟩
  have memA:∀n∈i9 R.W,n∈i9 L.W→n∈(s1++s2).filter fun n=>decide (n∈i9 R.W):=fun n h1 h2=>List.mem_filter.mpr ⟨o1.mem.mpr h2,decide_eq_true h1⟩
  have memB:∀n∈i9 R.W,n∉i9 L.W→n∈(u1++u2).filter fun n=>!decide (n∈i9 L.W):=fun n h1 h2=>List.mem_filter.mpr ⟨o3.mem.mpr h1,by rw[decide_eq_false h2];rfl⟩
  generalize (s1++s2).filter (fun n=>decide (n∈i9 R.W))=A at f2' nda memA hfl1
  generalize (u1++u2).filter (fun n=>!decide (n∈i9 L.W))=B at f4 nda memB hfl3
  have ndm:(((A.map fun n=>(n,j6 km n))++(B.map fun n=>(n,j6 kf n))).map (·.1)).Nodup:=by rw[List.map_append,a0g,a0g];exact nda
  walk_at "r"
  refine⟨d2,d4,_,_,rfl,rfl,f2',.inl f4,ne24,by rw[o0,o0,List.length_map,List.length_map];omega,?_⟩
  rw[a8m (by have z:=U8 ndm;unfold pKV at z⊢;rw[List.map_append] at z;exact z)]
  have n20:H1 d2=none:=n2
  have s5:Same H1 (upd H4 d2 (.dK (pKV (A.map fun n=>(n,j6 km n))++pKV (B.map fun n=>(n,j6 kf n))))):=K6 (m2.trans (m3.trans m4)) n20
  have f5:upd H4 d2 (.dK (pKV (A.map fun n=>(n,j6 km n))++pKV (B.map fun n=>(n,j6 kf n)))) d2=some (.dK (pKV (A.map fun n=>(n,j6 km n))++pKV (B.map fun n=>(n,j6 kf n)))):=i7
  generalize upd H4 d2 (.dK (pKV (A.map fun n=>(n,j6 km n))++pKV (B.map fun n=>(n,j6 kf n))))=H5 at s5 f5⊢
  have S5:=S1.same s5
  walk_at "r"
  refine b6 S5.r.tup (b8 (j:=1) rfl) ?_
  walk_at "r"
  refine⟨R.a,R.p,R.q,R.kvs,R.W,rfl,S5.r.r.at_,by omega,fun l6 H6 t1 t2 n6 m6 f6 o6=>?_⟩
  have hl6:=o6.len
  walk_at "r"
  have gA:∀n∈i9 R.W,TxtAt (pKV (A.map fun n=>(n,j6 km n))++pKV (B.map fun n=>(n,j6 kf n))) n∧j6 (pKV (A.map fun n=>(n,j6 km n))++pKV (B.map fun n=>(n,j6 kf n))) n=bh L.W km kf n:=fun n hn=>by
   unfold bh
   by_cases hL:n∈i9 L.W
   ·rw[if_pos hL]
    have hA:=memA n hn hL
    have z:=a8a ndm (by rw[a0g];exact hA)
    exact⟨z.1,z.2.trans (a1y (List.nodup_append.mp nda).1 hA).2⟩
   ·rw[if_neg hL]
    have hB:=memB n hn hL
    have z:=a8f ndm (by rw[a0g];exact hB)
    exact⟨z.1,z.2.trans (a1y (List.nodup_append.mp nda).2.1 hB).2⟩
  refine⟨d2,l6,_,_,rfl,.inl (m6 _ _ f5),SqL.of f6,o6.perm.nodup_iff.mpr hS.r.r.nd,by omega,fun n hn=>(gA n (o6.mem.mp hn)).1,fun d7 H7 n7 m7 f7=>?_⟩
  refine k d7 H7 t1 t2 (m1.free (s5.free (m6.free n7))) (m1.trans (s5.trans (m6.trans m7))) o6 ?_
  rw[f7]
  congr 3
  exact List.map_congr_left fun n hn=>by rw[(gA n (o6.mem.mp hn)).2]
def gsW (L R:Web)(km:List (Key×V)):List Str:=((i9 L).filter fun n=>!decide (n∈i9 R)).map (j6 km)
def b2L (W L R:Web)(km kf:List (Key×V)):Web:=b5T (a0D (gsW L R km) W) (Y4 (bh L km kf) R)
structure b4d (W L R:Web) (km:List (Key×V)) (fr:List (Str×Str)):Prop where
 fit:a6k L W km
 lo:∀x∈W.ts,x.1∉gsW L R km→x.2.2.1∉gsW L R km∧x.2.2.2∉gsW L R km
 fo:FrOk W L R fr
 nd:((i9 R).map (bh L km (pKV fr))).Nodup
theorem b3f {gs gs':List Str}(W:Web)(h:∀n,n∈gs↔n∈gs'):a0D gs W=a0D gs' W:=by
 unfold a0D
 congr 1
 ·exact List.filter_congr fun x _=>by rw[Bool.eq_iff_iff];simp only[Bool.not_eq_true',decide_eq_false_iff_not];rw[h]
 ·exact List.filter_congr fun x _=>by rw[Bool.eq_iff_iff];simp only[Bool.not_eq_true',decide_eq_false_iff_not];rw[h]
theorem b3B {f g:Str→Str}{W:Web}(h:∀n∈i9 W,f n=g n)(he:∀x∈W.ts,x.2.2.1∈W.pts.map (·.1)∧x.2.2.2∈W.pts.map (·.1)):Y4 f W=Y4 g W:=by
 unfold Y4
 congr 1
 ·exact List.map_congr_left fun x hx=>by rw[h x.1 (List.mem_append_left _ (List.mem_map.mpr ⟨x,hx,rfl⟩))]
 ·exact List.map_congr_left fun x hx=>by rw[h x.1 (List.mem_append_right _ (List.mem_map.mpr ⟨x,hx,rfl⟩)),h _ (List.mem_append_left _ (he x hx).1),h _ (List.mem_append_left _ (he x hx).2)]
theorem a4t {α:Type}{A A' B B':List (Str×α)}(pa:A'.Perm A)(pb:B'.Perm B):((A'.filter fun x=>!decide (x.1∈B'.map (·.1)))++B').Perm ((A.filter fun x=>!decide (x.1∈B.map (·.1)))++B):=by
 refine List.Perm.append ?_ pb
 have e:(A'.filter fun x=>!decide (x.1∈B'.map (·.1)))=A'.filter fun x=>!decide (x.1∈B.map (·.1)):=List.filter_congr fun x _=>by
  rw[Bool.eq_iff_iff];simp only[Bool.not_eq_true',decide_eq_false_iff_not];rw[(pb.map _).mem_iff]
 rw[e]
 exact pa.filter _
theorem b3Q {L R:Web}{km:List (Key×V)}{s1 s2:List Str}(o:Ordr L s1 s2)(n:Str):n∈((s1++s2).filter fun n=>!decide (n∈i9 R)).map (j6 km)↔n∈gsW L R km:=((o.perm.filter _).map _).mem_iff
theorem a5n {f:Str→Str}{W:Web}(h:((i9 W).map f).Nodup):((Y4 f W).pts.map (·.1)).Nodup∧((Y4 f W).ts.map (·.1)).Nodup:=by
 unfold i9 at h
 rw[List.map_append] at h
 have z:=List.nodup_append.mp h
 unfold Y4
 have z1:=z.1
 have z2:=z.2.1
 rw[List.map_map] at z1 z2
 exact⟨by show((W.pts.map fun x=>(f x.1,x.2)).map (·.1)).Nodup;rw[List.map_map];exact z1,by show((W.ts.map fun x=>(f x.1,(x.2.1,f x.2.2.1,f x.2.2.2))).map (·.1)).Nodup;rw[List.map_map];exact z2⟩
def a1h (K:PySem.W.Frag):Sp:=fun vs H Q E=>∃(S L R:Sd) (st r m f bl:Addr) (km kf:List (Key×V)),vs=[.ref S.a,.ref st]∧SdIs K H S∧StI K H st r m f bl L R km kf∧(km.map (·.1)).Nodup∧km.length≤100∧(∀kv∈km,∃n s,kv=(Sum.inr n,V.str s))∧a6k L.W S.W km∧(∀x∈S.W.ts,x.1∉gsW L.W R.W km→x.2.2.1∉gsW L.W R.W km∧x.2.2.2∉gsW L.W R.W km)∧S.W.pts.length+S.W.ts.length≤12∧NewP K H Q (a0D (gsW L.W R.W km) S.W)
def a5o (K:PySem.W.Frag):Sp:=fun vs H Q E=>∃(S L R:Sd) (st r m f bl:Addr) (km:List (Key×V)) (fr:List (Str×Str)),vs=[.ref S.a,.ref st]∧SdIs K H S∧StI K H st r m f bl L R km (pKV fr)∧(km.map (·.1)).Nodup∧km.length≤100∧(∀kv∈km,∃n s,kv=(Sum.inr n,V.str s))∧b4d S.W L.W R.W km fr∧S.W.pts.length+S.W.ts.length≤12∧NewP K H Q (b2L S.W L.W R.W km (pKV fr))
theorem a6T {f:Addr}{fd:FuncData}(T:Txt K mg)(a1k:Cal P w K mg base CX0 3 "is_match" ["piece","web","match"] [] (a0I K P w))(a1Y:Cal P w K mg base (CXE P w) 3 "without" ["web","names"] [] (a1r K))(a0x:Cal P w K mg base CX0 4 "taken_out" ["step"] [] (a0f K))(a3h:Cal P w K mg base CX0 2 "barred" ["web","rule","match"] [] (a2f K))(F:Fun K "rest_of" "rest_of" Q2 f fd):FnOk P w K mg base (CXE P w) 5 f fd ["web","step"] (a1h K):=by
 refine F.okE sc_rest_of (fun vs H Q E h=>?_) (fun cdv A outer s H vs Q E hr h=>?_)
 ·obtain⟨S,L,R,st,r,m,f,bl,km,kf,rfl,_⟩:=h
  rfl
 ·obtain⟨S,L,R,st,r,m,f,bl,km,kf,rfl,hS,hT,knd,kln,ktx,fit,lo,hsz,k⟩:=h
  have hLl:=hT.r.l.len
  have hRl:=hT.r.r.len
  have hN:=sc_rest_of.nd
  have hu:=u9 hr
  refine⟨_,QSs.r (qsC (u4 (i:=2) hN rfl (by walk_at "l") (qIx (kIx K hu) (qV 1) i6 (fun _ _=>rfl)))
   (qsC (qIf (a0k (a0h K (qC a1k (hr.mono (by decide)) p0 (qa1 (qIx (kIx K hu) (qV 2) i6 (fun _ _=>rfl)) (qa1 (qV 0) (qa1 (qIx (kIx K hu) (qV 1) i6 (fun _ _=>rfl)) qa0)))))) (qs1 (a4U a2F T.r_NoMatch rfl (qa1 a3L qa0))) qs0)
   (qsC (u4 (i:=3) hN rfl (by walk_at "l") (qC a1Y (hr.mono (by decide)) b2D (qa1 (qV 0) (qa1 (qC a0x (hr.mono (by decide)) p0 (qa1 (qV 1) qa0)) qa0))))
   (qsC (qIf (p8 a6j (qC a3h (hr.mono (by decide)) p0 (qa1 (qV 0) (qa1 (qV 2) (qa1 (qIx (kIx K hu) (qV 1) i6 (fun _ _=>rfl)) qa0)))) b3n (u7 _)) (qs1 (a4U a2F T.r_Barred rfl (qa1 a3L qa0))) qs0)
   (qs1 (v0 (qV 3))))))),?_⟩
  walk_at "r"
  refine b6 hT.tup (b8 (j:=0) rfl) ?_
  walk_at "r"
  refine b6 hT.r.tup (b8 (j:=0) rfl) ?_
  walk_at "r"
  refine b6 hT.tup (b8 (j:=1) rfl) ?_
  walk_at "r"
  refine⟨L.a,L.p,L.q,S.a,S.p,S.q,L.kvs,S.kvs,L.W,S.W,.ref m,true,rfl,hT.r.l,hS,.inr (.inr ⟨m,km,rfl,hT.m,knd,kln,fun kv hk=>?_,(a7t fit).symm⟩),fun H1 m1=>?_⟩
  ·obtain⟨n,s,rfl⟩:=ktx kv hk
   exact⟨"str",rfl⟩
  have T1:=hT.same m1
  have S1:=hS.same m1
  walk_at "r"
  refine⟨st,r,m,bl,.ref f,L,R,[],km,rfl,T1.tup,T1.r,.inl T1.m,fit.txt,fun l2 H2 s1 s2 n2 m2 o2 f2=>?_⟩
  have T2:=T1.same m2
  have S2:=S1.same m2
  walk_at "r"
  have hgs:=b3Q (R:=R.W) (km:=km) o2
  generalize ((s1++s2).filter fun n=>!decide (n∈i9 R.W)).map (j6 km)=gs at f2 hgs
  have hsz':=S2.len
  rw[J3] at hsz'
  refine⟨S.a,l2,S.p,S.q,S.kvs,S.W,gs,rfl,S2.at_,S2.hp,S2.hq,SqL.of f2,V8 hS.nd,a1a hS.nd,by omega,by omega,fun x hx=>hS.nl _ (List.mem_append_right _ (List.mem_map.mpr ⟨x,hx,rfl⟩)),?_⟩
  have hlo:¬a5g gs S.W=true:=fun z=>by
   obtain⟨x,hx,hz⟩:=List.any_eq_true.mp z
   have hx':=List.mem_filter.mp (show x∈S.W.ts.filter fun x=>!decide (x.1∈gs) from hx)
   have hn:x.1∉gsW L.W R.W km:=fun q=>by
    have q2:=hx'.2
    rw[decide_eq_true ((hgs _).mpr q)] at q2;cases q2
   have he:=lo x hx'.1 hn
   rw[Bool.or_eq_true,decide_eq_true_eq,decide_eq_true_eq,hgs,hgs] at hz
   exact hz.elim he.1 he.2
  rw[if_neg hlo,b3f S.W hgs]
  intro a3 p3 q3 k3 W3 H3 m3 w3 hp3 hq3 ne3 np3 nq3 e31 e32
  have T3:=T2.same m3
  have S3:=S2.same m3
  walk_at "r"
  refine b6 T3.tup (b8 (j:=1) rfl) ?_
  walk_at "r"
  refine⟨_,_,_,_,r,bl,rfl,T3.r.tup,T3.r.bl,?_⟩
  walk_at "r"
  rw[if_neg (by simp)]
  walk_at "r"
  exact k a3 p3 q3 k3 W3 H3 (m1.trans (m2.trans m3)) w3 hp3 hq3 ne3 ((m1.trans m2).free np3) ((m1.trans m2).free nq3) e31 e32
theorem b1O {f:Addr}{fd:FuncData}(T:Txt K mg)(a1V:Cal P w K mg base (CXE P w) 5 "rest_of" ["web","step"] [] (a1h K))(V3:Cal P w K mg base CX0 4 "names_serve" ["web","rule","fresh"] [] (Q9 K))(a3w:Cal P w K mg base CX0 3 "united" ["web","more"] [] (a2g K))(a1U:Cal P w K mg base CX0 3 "renamed" ["web","names"] [] (a1d K))(Q7:Cal P w K mg base CX0 4 "behind" ["step"] [] (a0M K))(F:Fun K "done" "done" a2j f fd):FnOk P w K mg base (CXE P w) 6 f fd ["web","step"] (a5o K):=by
 refine F.okE sc_done (fun vs H Q E h=>?_) (fun cdv A outer s H vs Q E hr h=>?_)
 ·obtain⟨S,L,R,st,r,m,f,bl,km,fr,rfl,_⟩:=h
  rfl
 ·obtain⟨S,L,R,st,r,m,f,bl,km,fr,rfl,hS,hT,knd,kln,ktx,ok,hsz,k⟩:=h
  have hLl:=hT.r.l.len
  have hRl:=hT.r.r.len
  have hN:=sc_done.nd
  have hu:=u9 hr
  refine⟨_,QSs.r (qsC (u4 (i:=2) hN rfl (by walk_at "l") (qIx (kIx K hu) (qV 1) i6 (fun _ _=>rfl)))
   (qsC (u4 (i:=3) hN rfl (by walk_at "l") (qC a1V (hr.mono (by decide)) b2D (qa1 (qV 0) (qa1 (qV 1) qa0))))
   (qsC (qIf (a0k (a0h K (qC V3 (hr.mono (by decide)) p0 (qa1 (qV 0) (qa1 (qV 2) (qa1 (qIx (kIx K hu) (qV 1) i6 (fun _ _=>rfl)) qa0)))))) (qs1 (a4U a2F T.r_NoNames rfl (qa1 a3L qa0))) qs0)
   (qs1 (v0 (qC a3w (hr.mono (by decide)) p0 (qa1 (qV 3) (qa1 (qC a1U (hr.mono (by decide)) p0 (qa1 (qIx (kIx K hu) (qV 2) i6 (fun _ _=>rfl)) (qa1 (qC Q7 (hr.mono (by decide)) p0 (qa1 (qV 1) qa0)) qa0))) qa0)))))))),?_⟩
  walk_at "r"
  refine b6 hT.tup (b8 (j:=0) rfl) ?_
  walk_at "r"
  refine⟨S,L,R,st,r,m,f,bl,km,pKV fr,rfl,hS,hT,knd,kln,ktx,ok.fit,ok.lo,hsz,?_⟩
  intro a3 p3 q3 k3 W3 H3 m3 w3 hp3 hq3 ne3 np3 nq3 e31 e32
  have T3:=hT.same m3
  have S3:=hS.same m3
  walk_at "r"
  refine b6 T3.tup (b8 (j:=2) rfl) ?_
  walk_at "r"
  refine⟨S,L,R,r,bl,f,[],fr,rfl,S3,T3.r,T3.f,ok.fo,fun H4 m4=>?_⟩
  have T4:=T3.same m4
  walk_at "r"
  refine b6 T4.r.tup (b8 (j:=1) rfl) ?_
  walk_at "r"
  refine⟨st,r,m,f,bl,L,R,km,pKV fr,rfl,T4,ok.fit.txt,fun n h1 h2=>(ok.fo.txt hT.r.r.nd (ok.fo.mem.mpr ⟨h1,h2⟩)).1,fun d5 H5 t1 t2 n5 m5 o5 f5=>?_⟩
  have T5:=T4.same m5
  have nds:=o5.perm.nodup_iff.mpr hT.r.r.nd
  have gb:∀n∈i9 R.W,TxtAt (pKV ((t1++t2).map fun n=>(n,bh L.W km (pKV fr) n))) n∧j6 (pKV ((t1++t2).map fun n=>(n,bh L.W km (pKV fr) n))) n=bh L.W km (pKV fr) n:=fun n hn=>a1y nds (o5.mem.mpr hn)
  generalize pKV ((t1++t2).map fun n=>(n,bh L.W km (pKV fr) n))=nm at f5 gb
  have ndb:((i9 R.W).map (j6 nm)).Nodup:=by
   rw[List.map_congr_left fun n hn=>(gb n hn).2];exact ok.nd
  walk_at "r"
  refine⟨R.a,d5,R.p,R.q,R.kvs,nm,R.W,j6 nm,rfl,T5.r.r.at_,T5.r.r.hp,T5.r.r.hq,.inl f5,rfl,fun n hn=>(gb n hn).1,ndb,by omega,T5.r.r.ends,?_⟩
  rw[b3B (fun n hn=>(gb n hn).2) T5.r.r.ends]
  intro a6 p6 q6 k6 W6 H6 m6 w6 hp6 hq6 ne6 np6 nq6 e61 e62
  have m36:=m4.trans (m5.trans m6)
  walk_at "r"
  have nr:=a5n ok.nd
  have nw1:(W3.pts.map (·.1)).Nodup:=(e31.map _).nodup_iff.mpr (E8 (V8 hS.nd))
  have nw2:(W3.ts.map (·.1)).Nodup:=(e32.map _).nodup_iff.mpr (E8 (a1a hS.nd))
  have lf1:=List.length_filter_le (fun x:Str×Str=>!decide (x.1∈gsW L.W R.W km)) S.W.pts
  have lf2:=List.length_filter_le (fun x:Str×Tie=>!decide (x.1∈gsW L.W R.W km)) S.W.ts
  have le1:=e31.length_eq
  have le2:=e32.length_eq
  have le3:=e61.length_eq
  have le4:=e62.length_eq
  rw[show(Y4 (bh L.W km (pKV fr)) R.W).pts.length=R.W.pts.length from List.length_map _] at le3
  rw[show(Y4 (bh L.W km (pKV fr)) R.W).ts.length=R.W.ts.length from List.length_map _] at le4
  rw[show(a0D (gsW L.W R.W km) S.W).pts.length=(S.W.pts.filter fun x=>!decide (x.1∈gsW L.W R.W km)).length from rfl] at le1
  rw[show(a0D (gsW L.W R.W km) S.W).ts.length=(S.W.ts.filter fun x=>!decide (x.1∈gsW L.W R.W km)).length from rfl] at le2
  rw[J3] at hRl
  refine⟨a3,p3,q3,a6,p6,q6,k3,k6,W3,W6,rfl,w3.mono m36.le,w6,nw1,nw2,(e61.map _).nodup_iff.mpr nr.1,(e62.map _).nodup_iff.mpr nr.2,by omega,by omega,NewP.permM (W:=b2L S.W L.W R.W km (pKV fr)) (m3.trans m36) (a4t e31 e61) (a4t e32 e62) k⟩
theorem a9x {a:Str}:∀{l:List Str},l.Nodup→l.length≤(l.filter fun x=>!decide (x=a)).length+1
 |[],_=>Nat.zero_le _
 |x::r,nd=>by
  have nd':=List.nodup_cons.mp nd
  by_cases e:x=a
  ·have hr:(r.filter fun x=>!decide (x=a))=r:=List.filter_eq_self.mpr fun y hy=>by rw[decide_eq_false (fun z=>nd'.1 (by rw[e,←z];exact hy))];rfl
   rw[List.filter_cons_of_neg (by simp [e]),hr];simp
  ·rw[List.filter_cons_of_pos (by simp [e]),List.length_cons,List.length_cons]
   have:=a9x (a:=a) nd'.2
   omega
theorem a3E:∀{m l:List Str},l.Nodup→(∀x∈l,x∈m)→l.length≤m.length
 |[],l,_,h=>by
  cases l with
  |nil=>exact Nat.le_refl _
  |cons x r=>exact absurd (h x List.mem_cons_self) (by simp)
 |a::m,l,nd,h=>by
  have z:=a9x (a:=a) nd
  have z2:=a3E (m:=m) (l:=l.filter fun x=>!decide (x=a)) (nd.sublist List.filter_sublist) fun x hx=>by
   have q:=List.mem_filter.mp hx
   rcases List.mem_cons.mp (h x q.1) with e|e
   ·have q2:=q.2
    rw[decide_eq_true e] at q2;cases q2
   ·exact e
  rw[List.length_cons];omega
theorem b4n {ws l:List Str}(hl:ws.length=16)(nd:l.Nodup)(h:∀x∈l,Wd ws 8 12 x):l.length≤4:=by
 have z:=a3E (m:=(ws.drop 8).take 4) nd fun x hx=>by
  obtain⟨j,j1,j2,hj⟩:=h x hx
  refine List.mem_of_getElem? (i:=j -8) ?_
  rw[List.getElem?_take,if_pos (by omega),List.getElem?_drop,show 8+(j -8)=j by omega];exact hj
 rw[List.length_take,List.length_drop] at z
 omega
def Z8 (K:PySem.W.Frag):Sp:=fun vs H Q _=>∃(S:Sd) (lx lw lk ln:Addr) (xs:List Int) (ws ks ns:List Str),vs=[.ref S.a,.ref lx,.ref lw,.ref lk,.ref ln]∧SdIs K H S∧a5G S.W∧SqL K H lx (xs.map V.int)∧xs.length=16∧(∀x∈xs,0≤x)∧SqL K H lw (ws.map V.str)∧b3s ws∧SqL K H lk (ks.map V.str)∧b5e ks∧SqL K H ln (ns.map V.str)∧ns.length=4∧ns.Nodup∧(∀n∈ns,O9 n=true∧n∉i9 S.W)∧
 ∀(st r m f bl:Addr) (L R:Sd) (pr fr:List (Str×Str)) (os:List Str) (H':Hp),Same H H'→StI K H' st r m f bl L R (pKV (pr.map swp)) (pKV fr)→RuleOk L.W R.W []→MP S.W os pr L.W.pts L.W.ts (i9 R.W)→(∀n x,(n,x)∈S.W.ts→(x.2.1∈os∨x.2.2∈os)→n∈os)→(∀n∈os,n∈pr.map (·.1))→FrOk S.W L.W R.W fr→Q (.ref st) H'
theorem a4K {f:Addr}{fd:FuncData}(T:Txt K mg)(a0w:Cal P w K mg base CX0 2 "_law_rule" ["_law_web_here","_law_xs","_law_words_here","_law_kinds"] [] (Z6 K))(F:Fun K "_law_step" "_law_step" K2 f fd):FnOk P w K mg base CX0 3 f fd ["_law_web_here","_law_xs","_law_words_here","_law_kinds","_law_names"] (Z8 K):=by
 refine F.ok sc__law_step (fun vs H Q E h=>?_) (fun cdv A outer s H vs Q E hr h=>?_)
 ·obtain⟨S,lx,lw,lk,ln,xs,ws,ks,ns,rfl,_⟩:=h
  rfl
 ·obtain⟨S,lx,lw,lk,ln,xs,ws,ks,ns,rfl,hS,hG,hX,hxl,hx0,hW,hws,hK,hks,hNs,nl4,nnd,nok,k⟩:=h
  have hN:=sc__law_step.nd
  have hu:=u9 hr
  refine⟨_,QSs.r (qsC (a0n (qC a0w (hr.mono (by decide)) p0 (qa1 (qV 0) (qa1 (qV 1) (qa1 (qV 2) (qa1 (qV 3) qa0))))) (qgT K rfl (qg1 (qgN (i:=5) hN rfl (by walk_at "l")) (qg1 (qgN (i:=6) hN rfl (by walk_at "l")) qg0))))
   (qsC (u4 (i:=7) hN rfl (by walk_at "l") qD0)
   (qsC (V6 PassesOwn.never rfl (a0m K (qOp (A5 K) (qB (O1 K rfl) T.b_sorted Boot.«sorted» (qa1 (qIx (kIx K hu) (qIx (kIx K hu) (qV 5) i6 (fun _ _=>rfl)) i6 (fun _ _=>rfl)) qa0)) (qB (O1 K rfl) T.b_sorted Boot.«sorted» (qa1 (qIx (kIx K hu) (qIx (kIx K hu) (qV 5) i6 (fun _ _=>rfl)) i6 (fun _ _=>rfl)) qa0)))) (qgN (i:=8) hN rfl (by walk_at "l"))
    (qs1 (qIf (qtW (a1O (p8 (Q8 K hu) (qV 8) (qIx (kIx K hu) (qIx (kIx K hu) (qV 5) i6 (fun _ _=>rfl)) i6 (fun _ _=>rfl)) (by rfl)) (a1i (p8 (Q8 K hu) (qV 8) (qIx (kIx K hu) (qIx (kIx K hu) (qV 5) i6 (fun _ _=>rfl)) i6 (fun _ _=>rfl)) (by rfl))))) (qs1 (a0n (qIx (kIx K hu) (qV 4) (qB (A3 K P w) T.b_len Boot.«len» (qa1 (qV 7) qa0)) (fun _ _=>rfl)) (qgS (qV 7) (qV 8) (A7 P w hu)))) qs0)))
   (qs1 (v0 (L5 (qa1 (qV 5) (qa1 (qV 6) (qa1 (qV 7) qa0))))))))),?_⟩
  refine r9 ?_
  walk_at "e"
  refine⟨S,lx,lw,lk,xs,ws,ks,rfl,hS,hG,hX,hxl,hx0,hW,hws,hK,hks,fun t1 r m bl L R pr os H1 m1 f1 g1 gb hR rok mp lo osub hnew=>?_⟩
  refine D2 (SqT.of f1) rfl ?_
  walk_at "e"
  refine r9 ?_
  walk_at "e"
  intro fd nfd
  obtain⟨H2,e2,f2,m2,_⟩:=d9 (o:= .dK []) nfd
  rw[e2]
  have R2:=hR.same m2
  have hRl:=hR.r.len
  rw[J3] at hRl
  walk_at "e"
  refine r9 ?_
  walk_at "e"
  refine b6 R2.tup (b8 (j:=1) rfl) ?_
  walk_at "e"
  refine b6 R2.r.at_.tup (b8 (j:=0) rfl) ?_
  walk_at "e"
  refine w4 (ss:=R.W.pts.map (·.1)) R2.r.at_.pts (by rw[E2,u8]) (by rw[List.length_map];omega) (fun u1 a1 a2 l3 n3=>?_)
  obtain⟨H3,e3,f3,m3,_⟩:=d9 (o:= .lst _) n3
  rw[e3]
  have R3:=R2.same m3
  walk_at "e"
  refine b6 R3.tup (b8 (j:=1) rfl) ?_
  walk_at "e"
  refine b6 R3.r.at_.tup (b8 (j:=1) rfl) ?_
  walk_at "e"
  refine w4 (ss:=R.W.ts.map (·.1)) R3.r.at_.ties (by rw[R3.r.at_.ts.keys,u8]) (by rw[List.length_map];omega) (fun u2 b1 b2 l4 n4=>?_)
  obtain⟨H4,e4,f4,m4,_⟩:=d9 (o:= .lst _) n4
  rw[e4]
  have q1:=a1.length_eq
  have q2:=b1.length_eq
  rw[List.length_map] at q1 q2
  walk_at "e"
  refine a5K (m4 _ _ f3) f4 (i8 (by rw[List.length_map,List.length_map];omega)) (fun l5 n5=>?_)
  rw[←List.map_append]
  obtain⟨H5,e5,f5,m5,_⟩:=d9 (o:= .lst _) n5
  rw[e5]
  have ou:Ordr R.W u1 u2:=⟨a1,b1,a2,b2⟩
  have m25:=m3.trans (m4.trans m5)
  have hne:fd≠l5:=g0 (m4 _ _ (m3 _ _ f2)) n5
  have und:(u1++u2).Nodup:=ou.perm.nodup_iff.mpr hR.r.nd
  have hcnt:((u1++u2).filter fun n=>!decide (n∈i9 L.W)).length≤4:=b4n hws.1 (und.sublist List.filter_sublist) fun x hx=>by
   have z:=List.mem_filter.mp hx
   have z2:=z.2
   rw[Bool.not_eq_true',decide_eq_false_iff_not] at z2
   exact hnew x (ou.mem.mp z.1) z2
  have hul:(u1++u2).length≤60:=by rw[List.length_append];omega
  generalize hus:u1++u2=us at f5 hcnt hul und
  refine B4 (SqL.of f5) ?_
  refine E1 (n:=us.length) (fun i σ H'=>(∃v9,σ=[some (.ref S.a),some (.ref lx),some (.ref lw),some (.ref lk),some (.ref ln),some (.ref r),some (.ref m),some (.ref fd),v9])∧Same H1 H'∧H' l5=some (.lst (us.map V.str))∧∃fr:List (Str×Str),H' fd=some (.dK (pKV fr))∧fr.map (·.1)=(us.take i).filter (fun n=>!decide (n∈i9 L.W))∧fr.map (·.2)=ns.take fr.length)
   ⟨⟨_,rfl⟩,m2.trans m25,f5,[],m25 _ _ f2,rfl,rfl⟩ (fun i σ H' hi hp=>⟨_,.str (us[i]),SqL.of hp.2.2.1,by rw[List.getElem?_map,List.getElem?_eq_getElem hi];rfl⟩) ?_ ?_
  ·rintro i v σ H6' H6 hi ⟨⟨v9,rfl⟩,s6,h6,fr,g6,e61,e62⟩ y
   obtain⟨rfl,hx⟩:=Itl.get y (SqL.of h6)
   rw[List.getElem?_map,List.getElem?_eq_getElem hi] at hx
   cases hx
   have e7:us.take (i+1)=us.take i++[us[i]]:=by rw[List.take_succ,List.getElem?_eq_getElem hi];rfl
   have R6:=hR.same s6
   have no:us[i]∈i9 L.W→(∃v9',[some (V.ref S.a),some (.ref lx),some (.ref lw),some (.ref lk),some (.ref ln),some (.ref r),some (.ref m),some (.ref fd),some (.str us[i])]=[some (.ref S.a),some (.ref lx),some (.ref lw),some (.ref lk),some (.ref ln),some (.ref r),some (.ref m),some (.ref fd),v9'])∧Same H1 H6∧H6 l5=some (.lst (us.map V.str))∧∃fr:List (Str×Str),H6 fd=some (.dK (pKV fr))∧fr.map (·.1)=(us.take (i+1)).filter (fun n=>!decide (n∈i9 L.W))∧fr.map (·.2)=ns.take fr.length:=fun hb=>
    ⟨⟨_,rfl⟩,s6,h6,fr,g6,by rw[e61,e7,List.filter_append,List.filter_cons_of_neg (by simp [hb]),List.filter_nil,List.append_nil],e62⟩
   walk_at "e"
   refine b6 R6.tup (b8 (j:=0) rfl) ?_
   walk_at "e"
   refine b6 R6.l.at_.tup (b8 (j:=0) rfl) ?_
   refine P1 (D4 (k:=Sum.inr us[i]) R6.l.at_.pts) ?_
   rw[N3]
   walk_at "e"
   refine P2 (fun c1=>?_) (fun c1=>?_)
   ·walk_at "e"
    refine b6 R6.tup (b8 (j:=0) rfl) ?_
    walk_at "e"
    refine b6 R6.l.at_.tup (b8 (j:=1) rfl) ?_
    refine P1 (D4 (k:=Sum.inr us[i]) R6.l.at_.ties) ?_
    rw[X3 R6.l.at_.ts]
    walk_at "e"
    refine P2 (fun c2=>?_) (fun c2=>?_)
    ·have hnot:us[i]∉i9 L.W:=fun z=>(List.mem_append.mp z).elim c1 c2
     have ef:(us.take (i+1)).filter (fun n=>!decide (n∈i9 L.W))=fr.map (·.1)++[us[i]]:=by rw[e61,e7,List.filter_append,List.filter_cons_of_pos (by simp [hnot]),List.filter_nil]
     have hlt:fr.length<4:=by
      have z1:((us.take (i+1)).filter fun n=>!decide (n∈i9 L.W)).length≤(us.filter fun n=>!decide (n∈i9 L.W)).length:=((List.take_sublist _ _).filter _).length_le
      rw[ef,List.length_append,List.length_map,List.length_singleton] at z1
      omega
     have hfr:us[i]∉fr.map (·.1):=fun z=>by
      rw[e61] at z
      have z1:=(List.mem_filter.mp z).1
      have z2:(us.take (i+1)).Nodup:=und.sublist (List.take_sublist _ _)
      rw[e7] at z2
      exact(List.nodup_append.mp z2).2.2 _ z1 _ (by simp) rfl
     obtain⟨nm,hnm⟩:∃nm,ns[fr.length]?=some nm:=⟨ns[fr.length]'(by omega),List.getElem?_eq_getElem (by omega)⟩
     walk_at "e"
     refine A4 (K4 (.inl g6) ?_)
     rw[o0]
     walk_at "e"
     refine j7 (xs:=ns.map V.str) ((m1.trans s6).seq hNs) (b8 (j:=fr.length) (by rw[List.getElem?_map,hnm];rfl)) ?_
     walk_at "e"
     refine Y0 (z9 (k:=Sum.inr us[i]) g6 (i8 (by rw[o0];omega)) ?_)
     refine⟨⟨_,rfl⟩,K6 s6 nfd,by rw[d0 hne.symm];exact h6,fr++[(us[i],nm)],?_,?_,?_⟩
     ·rw[i7];exact congrArg (fun z=>some (HO.dK z)) (a0s hfr)
     ·rw[p7,ef]
     ·rw[Q5,e62,List.length_append,List.length_singleton,List.take_succ,hnm];rfl
    ·walk_at "e"
     exact no (List.mem_append_right _ c2)
   ·walk_at "e"
    exact no (List.mem_append_left _ c1)
  ·rintro σ H6 ⟨⟨v9,rfl⟩,s6,h6,fr,g6,e61,e62⟩
   refine⟨⟨_,SqL.of h6,by rw[List.length_map];exact Nat.le_refl _⟩,?_⟩
   rw[List.take_of_length_le (Nat.le_refl _)] at e61
   have hfl:fr.length≤4:=by
    have z:=congrArg List.length e61
    rw[List.length_map] at z
    omega
   have hin:∀x∈fr,x.2∈ns:=fun x hx=>by
    have z:x.2∈fr.map (·.2):=List.mem_map.mpr ⟨x,hx,rfl⟩
    rw[e62] at z
    exact List.mem_of_mem_take z
   walk_at "e"
   refine⟨i8 (by simp),fun st nst=>?_⟩
   obtain⟨H7,e7,f7,m7,_⟩:=d9 (H:=H6) (o:= .tup _) nst
   change Q _ (upd H6 st _)
   rw[e7]
   refine k st r m fd bl L R pr fr os H7 (m1.trans (s6.trans m7)) ⟨SqT.of f7,hR.same (s6.trans m7),m7 _ _ (s6 _ _ g1),m7 _ _ g6,m7 _ _ (s6 _ _ gb)⟩ rok mp lo osub ⟨⟨u1,u2,ou,?_⟩,fun x hx=>(nok _ (hin x hx)).1,?_,fun x hx=>(nok _ (hin x hx)).2,by omega⟩
   ·rw[hus];exact e61
   ·rw[e62];exact nnd.sublist (List.take_sublist _ _)
theorem a4L (pr:List (Str×Str)):(pr.map swp).map (·.1)=pr.map (·.2):=by rw[List.map_map];rfl
section
variable {W L R:Web} {os:List Str} {pr:List (Str×Str)}
theorem MP.nds (h:MP W os pr L.pts L.ts (i9 R)):((pr.map swp).map (·.1)).Nodup:=by rw[a4L];exact h.n2
theorem MP.at_ (h:MP W os pr L.pts L.ts (i9 R)){n w:Str}(hx:(n,w)∈pr):TxtAt (pKV (pr.map swp)) w∧j6 (pKV (pr.map swp)) w=n:=U6 h.nds (List.mem_map.mpr ⟨(n,w),hx,rfl⟩)
theorem MP.of_ (h:MP W os pr L.pts L.ts (i9 R)){w:Str}(hw:w∈i9 L):(j6 (pKV (pr.map swp)) w,w)∈pr:=by
 have z:w∈pr.map (·.2):=by rw[h.wd];exact hw
 obtain⟨⟨n,w'⟩,hx,e⟩:=List.mem_map.mp z
 have e':w'=w:=e
 subst e'
 rw[(h.at_ hx).2];exact hx
theorem MP.txt (h:MP W os pr L.pts L.ts (i9 R)):∀w∈i9 L,TxtAt (pKV (pr.map swp)) w:=fun w hw=>(h.at_ (h.of_ hw)).1
theorem MP.inL (h:MP W os pr L.pts L.ts (i9 R)){n w:Str}(hx:(n,w)∈pr):w∈i9 L:=by
 have z:w∈pr.map (·.2):=List.mem_map.mpr ⟨(n,w),hx,rfl⟩
 rw[h.wd] at z;exact z
theorem MP.gs (h:MP W os pr L.pts L.ts (i9 R))(n:Str):n∈gsW L R (pKV (pr.map swp))↔∃w,(n,w)∈pr∧w∉i9 R:=by
 unfold gsW
 rw[List.mem_map]
 constructor
 ·rintro⟨w,hw,rfl⟩
  have z:=List.mem_filter.mp hw
  have z2:=z.2
  rw[Bool.not_eq_true',decide_eq_false_iff_not] at z2
  exact⟨w,h.of_ z.1,z2⟩
 ·rintro⟨w,hx,hw⟩
  exact⟨w,List.mem_filter.mpr ⟨h.inL hx,by rw[decide_eq_false hw];rfl⟩,(h.at_ hx).2⟩
theorem MP.gsos (h:MP W os pr L.pts L.ts (i9 R))(hs:∀n∈os,n∈pr.map (·.1))(n:Str):n∈gsW L R (pKV (pr.map swp))↔n∈os:=by
 rw[h.gs]
 constructor
 ·rintro⟨w,hx,hw⟩
  exact Classical.byContradiction fun hn=>hw ((h.ko _ hx).mpr hn)
 ·intro hn
  obtain⟨⟨n',w⟩,hx,e⟩:=List.mem_map.mp (hs n hn)
  have e':n'=n:=e
  subst e'
  exact⟨w,hx,fun z=>(h.ko _ hx).mp z hn⟩
end
theorem a3Z {f:Str→Str}:∀{l:List Str},l.Nodup→(∀a∈l,∀b∈l,f a=f b→a=b)→(l.map f).Nodup
 |[],_,_=>List.nodup_nil
 |x::r,nd,h=>by
  have nd':=List.nodup_cons.mp nd
  refine List.nodup_cons.mpr ⟨fun m=>?_,a3Z nd'.2 fun a ha b hb=>h a (List.mem_cons_of_mem _ ha) b (List.mem_cons_of_mem _ hb)⟩
  obtain⟨y,hy,e⟩:=List.mem_map.mp m
  exact nd'.1 ((h y (List.mem_cons_of_mem _ hy) x List.mem_cons_self e)▸hy)
theorem a0C {l:List (Str×Str)}{n m s:Str}(nd:(l.map (·.2)).Nodup)(h1:(n,s)∈l)(h2:(m,s)∈l):n=m:=
 z8 (l:=l.map swp) (n:=s) (by rw[a4L];exact nd) (List.mem_map.mpr ⟨_,h1,rfl⟩) (List.mem_map.mpr ⟨_,h2,rfl⟩)
section
variable {W L R:Web} {os:List Str} {pr fr:List (Str×Str)}
theorem MP.inW (h:MP W os pr L.pts L.ts (i9 R)){n w:Str}(hx:(n,w)∈pr):n∈i9 W:=by
 have hw:=h.inL hx
 rcases List.mem_append.mp hw with z|z
 ·obtain⟨⟨w',k⟩,hy,e⟩:=List.mem_map.mp z
  have e':w'=w:=e
  subst e'
  obtain⟨n',h1,h2⟩:=h.pt _ hy
  rw[a0C h.n2 hx h1]
  exact List.mem_append_left _ (List.mem_map.mpr ⟨_,h2,rfl⟩)
 ·obtain⟨⟨w',k⟩,hy,e⟩:=List.mem_map.mp z
  have e':w'=w:=e
  subst e'
  obtain⟨n',b,e2,h1,_,_,h2⟩:=h.ti _ hy
  rw[a0C h.n2 hx h1]
  exact List.mem_append_right _ (List.mem_map.mpr ⟨_,h2,rfl⟩)
theorem MP.fit (h:MP W os pr L.pts L.ts (i9 R)):a6k L W (pKV (pr.map swp)):=by
 refine⟨?_,h.txt,?_,fun x hx=>?_,fun x hx=>?_⟩
 ·have z:=congrArg List.length h.wd
  rw[List.length_map] at z
  rw[o0,List.length_map,z];rfl
 ·have e:(i9 L).map (j6 (pKV (pr.map swp)))=pr.map (·.1):=by
   rw[show i9 L=pr.map (·.2) from h.wd.symm,List.map_map]
   exact List.map_congr_left fun x hx=>(h.at_ (n:=x.1) (w:=x.2) hx).2
  rw[e];exact h.n1
 ·obtain⟨n,h1,h2⟩:=h.pt x hx
  rw[(h.at_ h1).2];exact h2
 ·obtain⟨n,b,e,h1,h2,h3,h4⟩:=h.ti x hx
  rw[(h.at_ h1).2,(h.at_ h2).2,(h.at_ h3).2];exact h4
theorem b0P (km kf:List (Key×V)){n:Str}(h:n∈i9 L):bh L km kf n=j6 km n:=by unfold bh;rw[if_pos h]
theorem b0f (km kf:List (Key×V)){n:Str}(h:n∉i9 L):bh L km kf n=j6 kf n:=by unfold bh;rw[if_neg h]
theorem b6b (h:MP W os pr L.pts L.ts (i9 R))(fo:FrOk W L R fr)(ndR:(i9 R).Nodup)(lo:∀n x,(n,x)∈W.ts→(x.2.1∈os∨x.2.2∈os)→n∈os)(hs:∀n∈os,n∈pr.map (·.1)):b4d W L R (pKV (pr.map swp)) fr:=by
 refine⟨h.fit,fun x hx hn=>?_,fo,a3Z ndR fun a ha b hb e=>?_⟩
 ·rw[h.gsos hs] at hn⊢
  rw[h.gsos hs]
  exact⟨fun z=>hn (lo x.1 x.2 hx (.inl z)),fun z=>hn (lo x.1 x.2 hx (.inr z))⟩
 ·by_cases hA:a∈i9 L<;>by_cases hB:b∈i9 L
  ·rw[b0P _ _ hA,b0P _ _ hB] at e
   have z1:=h.of_ hA
   rw[e] at z1
   exact z8 h.n1 z1 (h.of_ hB)
  ·rw[b0P _ _ hA,b0f _ _ hB] at e
   exact absurd (e▸h.inW (h.of_ hA)) (fo.no _ (fo.txt ndR (fo.mem.mpr ⟨hb,hB⟩)).2)
  ·rw[b0f _ _ hA,b0P _ _ hB] at e
   exact absurd (e▸h.inW (h.of_ hB)) (fo.no _ (fo.txt ndR (fo.mem.mpr ⟨ha,hA⟩)).2)
  ·rw[b0f _ _ hA,b0f _ _ hB] at e
   have z1:=(fo.txt ndR (fo.mem.mpr ⟨ha,hA⟩)).2
   rw[e] at z1
   exact a0C fo.nd z1 (fo.txt ndR (fo.mem.mpr ⟨hb,hB⟩)).2
end
theorem SdIs.copy {H H':Hp}{L:Sd}{a p q:Addr}(h:SdIs K H L)(s:Same H H')(t:SqT K H' a [.ref p,.ref q])(hp:H' p=some (.dK (pKV L.W.pts)))(hq:H' q=some (.dK L.kvs))(ne:p≠q):SdIs K H' ⟨a,p,q,L.kvs,L.W⟩:=
 ⟨⟨t,.inl hp,.inl hq,h.at_.ts.mono s.le⟩,hp,hq,ne,h.nd,h.len,h.ends,h.nl⟩
structure Cpy (K:PySem.W.Frag) (H H':Hp) (L C:Sd):Prop where
 i:SdIs K H' C
 k:C.kvs=L.kvs
 w:C.W=L.W
 p:H C.p=none
 q:H C.q=none
theorem Cpy.same {H H1 H2:Hp}{L C:Sd}(h:Cpy K H H1 L C)(s:Same H1 H2):Cpy K H H2 L C:=⟨h.i.same s,h.k,h.w,h.p,h.q⟩
def a0d (K:PySem.W.Frag):Sp:=fun vs H Q _=>∃(st r m f bl:Addr) (L R:Sd) (km kf:List (Key×V)),vs=[.ref st]∧StI K H st r m f bl L R km kf∧∀(st' r' m' f' bl':Addr) (L' R':Sd) (H':Hp),Same H H'→StI K H' st' r' m' f' bl' L' R' km kf→Cpy K H H' L L'→Cpy K H H' R R'→H m'=none→H f'=none→H bl'=none→Q (.ref st') H'
theorem a4G {f:Addr}{fd:FuncData}(T:Txt K mg)(F:Fun K "_law_copy" "_law_copy" L0 f fd):FnOk P w K mg base CX0 1 f fd ["_law_step_here"] (a0d K):=by
 refine F.ok sc__law_copy (fun vs H Q E h=>?_) (fun cdv A outer s H vs Q E hr h=>?_)
 ·obtain⟨st,r,m,f,bl,L,R,km,kf,rfl,_⟩:=h
  rfl
 ·obtain⟨st,r,m,f,bl,L,R,km,kf,rfl,hT,k⟩:=h
  have hN:=sc__law_copy.nd
  have hu:=u9 hr
  refine⟨_,QSs.r (qsC (a0n (qV 0) (qgT K rfl (qg1 (qgN (i:=1) hN rfl (by walk_at "l")) (qg1 (qgN (i:=2) hN rfl (by walk_at "l")) (qg1 (qgN (i:=3) hN rfl (by walk_at "l")) qg0)))))
   (qsC (a3a (i:=4) hN rfl (by walk_at "l") (own:=["_law_web_here"]) (js:=[]) (by kernel_rfl) rfl (a0m K (qOp (A5 K) (a1p (qa1 (qIx (kIx K hu) (qV 1) i6 (fun _ _=>rfl)) (qa1 (qIx (kIx K hu) (qV 1) i6 (fun _ _=>rfl)) qa0))) (qIx (kIx K hu) (qV 1) i6 (fun _ _=>rfl)))) (fun _ _ _ _=>(qgN (i:=0) (show List.Nodup (["_law_web_here"]:List Str) by decide+kernel) rfl (by walk_at "l"))) (fun _ _ _ _=>a1l) (fun _ _ _ _=>(L5 (qa1 (qBT (V9 K rfl) T.b_dict Boot.«dict» (qa1 (qIx (kIx K hu) (qV 0) i6 (fun _ _=>rfl)) qa0)) (qa1 (qBT (V9 K rfl) T.b_dict Boot.«dict» (qa1 (qIx (kIx K hu) (qV 0) i6 (fun _ _=>rfl)) qa0)) qa0)))))
   (qs1 (v0 (L5 (qa1 (L5 (qa1 (qIx (kIx K hu) (qV 4) i6 (fun _ _=>rfl)) (qa1 (qIx (kIx K hu) (qV 4) i6 (fun _ _=>rfl)) (qa1 (qSl (kSl K) (qV 4) (qoS i6) qoN) qa0)))) (qa1 (qBT (V9 K rfl) T.b_dict Boot.«dict» (qa1 (qV 2) qa0)) (qa1 (qBT (V9 K rfl) T.b_dict Boot.«dict» (qa1 (qV 3) qa0)) qa0)))))))),?_⟩
  refine r9 ?_
  walk_at "e"
  refine D2 hT.tup rfl ?_
  walk_at "e"
  refine r9 ?_
  walk_at "e"
  refine b6 hT.r.tup (b8 (j:=0) rfl) ?_
  walk_at "e"
  refine b6 hT.r.tup (b8 (j:=1) rfl) ?_
  walk_at "e"
  refine⟨i8 (by simp),fun l1 n1=>?_⟩
  obtain⟨H1,e1,f1,m1,_⟩:=d9 (o:= .lst _) n1
  rw[e1]
  have T1:=hT.same m1
  walk_at "e"
  refine b6 T1.r.tup (b8 (j:=2) rfl) ?_
  walk_at "e"
  refine a5K f1 T1.b (i8 (by simp)) (fun l2 n2=>?_)
  rw[List.append_nil]
  obtain⟨H2,e2,f2,m2,_⟩:=d9 (o:= .lst _) n2
  rw[e2]
  have s02:=m1.trans m2
  have hall:∀(i:Nat) (v:V),[V.ref L.a,.ref R.a][i]?=some v→∃s:Sd,[L,R][i]?=some s∧v= .ref s.a∧SdIs K H s:=fun i v hv=>by
   match i,hv with
   |0,hv=>cases hv;exact⟨L,rfl,rfl,hT.r.l⟩
   |1,hv=>cases hv;exact⟨R,rfl,rfl,hT.r.r⟩
   |i+2,hv=>cases hv
  refine B4 (SqL.of f2) ?_
  refine z5 (n:=2) (fun i out H'=>Same H2 H'∧∃cs:List Sd,out=cs.map (fun s=>V.ref s.a)∧cs.length=i∧∀(j:Nat) (c s:Sd),cs[j]?=some c→[L,R][j]?=some s→Cpy K H H' s c) ⟨Same.refl _,[],rfl,rfl,fun j c s h=>by simp at h⟩ (fun i out H' hi hp=>⟨_,[V.ref L.a,.ref R.a][i],SqL.of (hp.1 _ _ f2),List.getElem?_eq_getElem hi⟩) ?_ ?_
  ·rintro N i v out H3' H3 hi ⟨s3,cs,rfl,hcl,hcs⟩ y hN'
   obtain⟨rfl,hx⟩:=Itl.get y (SqL.of (s3 _ _ f2))
   obtain⟨S,hS1,rfl,hS⟩:=hall i v hx
   have s03:=s02.trans s3
   have S3:=hS.same s03
   walk_at "e"
   refine⟨rfl,?_⟩
   walk_at "e"
   refine b6 S3.at_.tup (b8 (j:=0) rfl) ?_
   walk_at "e"
   refine J5 S3.at_.pts (fun p np=>?_)
   obtain⟨H4,e4,f4,m4,_⟩:=d9 (o:= .dK _) np
   rw[e4]
   have S4:=S3.same m4
   walk_at "e"
   refine b6 S4.at_.tup (b8 (j:=1) rfl) ?_
   walk_at "e"
   refine J5 S4.at_.ties (fun q nq=>?_)
   obtain⟨H5,e5,f5,m5,_⟩:=d9 (o:= .dK _) nq
   rw[e5]
   walk_at "e"
   refine⟨i8 (by simp),fun a na=>?_⟩
   obtain⟨H6,e6,f6,m6,_⟩:=d9 (o:= .tup _) na
   rw[e6]
   have m36:=m4.trans (m5.trans m6)
   refine⟨i8 (by rw[List.length_map];omega),hN' _ _ ⟨s3.trans m36,cs++[⟨a,p,q,S.kvs,S.W⟩],by rw[List.map_append];rfl,by rw[List.length_append,hcl];rfl,fun j c s hj hs=>?_⟩⟩
   by_cases hji:j<cs.length
   ·rw[List.getElem?_append_left hji] at hj
    exact(hcs j c s hj hs).same m36
   ·rw[List.getElem?_append_right (by omega)] at hj
    have hj0:j=i:=by
     by_cases z:j -cs.length=0
     ·omega
     ·rw[List.getElem?_eq_none (by simp;omega)] at hj;cases hj
    subst hj0
    rw[show j -cs.length=0 by omega] at hj
    cases hj
    rw[hS1] at hs
    cases hs
    exact⟨hS.copy (s03.trans m36) (SqT.of f6) (m6 _ _ (m5 _ _ f4)) (m6 _ _ f5) (g0 f4 nq),rfl,rfl,s03.free np,s03.free (m4.free nq)⟩
  ·rintro out H3 ⟨s3,cs,rfl,hcl,hcs⟩
   refine⟨⟨_,SqL.of (s3 _ _ f2),Nat.le_refl _⟩,fun lp nlp=>⟨i8 (by rw[List.length_map];omega),?_⟩⟩
   obtain⟨C1,C2,rfl⟩:∃C1 C2,cs=[C1,C2]:=by
    match cs,hcl with
    |[C1,C2],_=>exact⟨C1,C2,rfl⟩
   have c1:=hcs 0 C1 L rfl rfl
   have c2:=hcs 1 C2 R rfl rfl
   obtain⟨H4,e4,f4,m4,_⟩:=d9 (H:=H3) (o:= .lst [.ref C1.a,.ref C2.a]) nlp
   change M0 _ _ _ (upd H3 lp (.lst [.ref C1.a,.ref C2.a])) _
   rw[e4]
   have s04:=s02.trans (s3.trans m4)
   have T4:=hT.same s04
   walk_at "e"
   refine j7 (SqL.of f4) (b8 (j:=0) rfl) ?_
   walk_at "e"
   refine j7 (SqL.of f4) (b8 (j:=1) rfl) ?_
   walk_at "e"
   refine a3x (SqL.of f4) (fun bl' nbl=>?_)
   rw[show a2y [V.ref C1.a,.ref C2.a] (some 2) none=[] from rfl]
   obtain⟨H5,e5,f5,m5,_⟩:=d9 (o:= .lst []) nbl
   rw[e5]
   walk_at "e"
   refine⟨i8 (by simp),fun r' nr=>?_⟩
   obtain⟨H6,e6,f6,m6,_⟩:=d9 (o:= .tup _) nr
   rw[e6]
   have m46:=m5.trans m6
   walk_at "e"
   refine J5 (.inl (m46 _ _ T4.m)) (fun m' nm=>?_)
   obtain⟨H7,e7,f7,m7,_⟩:=d9 (o:= .dK _) nm
   rw[e7]
   walk_at "e"
   refine J5 (.inl (m7 _ _ (m46 _ _ T4.f))) (fun f' nf=>?_)
   obtain⟨H8,e8,f8,m8,_⟩:=d9 (o:= .dK _) nf
   rw[e8]
   walk_at "e"
   refine⟨i8 (by simp),fun st' nst=>?_⟩
   obtain⟨H9,e9,f9,m9,_⟩:=d9 (o:= .tup _) nst
   rw[e9]
   have m69:=m7.trans (m8.trans m9)
   have m49:=m46.trans m69
   have d1:=c1.same (m4.trans m49)
   have d2:=c2.same (m4.trans m49)
   exact k st' r' m' f' bl' C1 C2 H9 (s04.trans m49) ⟨SqT.of f9,⟨SqT.of (m69 _ _ f6),d1.i,d2.i,SqL.of (m69 _ _ (m6 _ _ f5)),fun _ h=>nomatch h⟩,m9 _ _ (m8 _ _ f7),m9 _ _ f8,m69 _ _ (m6 _ _ f5)⟩ d1 d2 (s04.free (m46.free nm)) (s04.free (m46.free (m7.free nf))) (s04.free nbl)
theorem a5t (ns:List Int)(a b:Option Int):∃cs:List Int,a2y (ns.map V.int) a b=cs.map V.int∧cs.length≤ns.length:=by
 unfold a2y
 rw[←List.map_drop,←List.map_take]
 exact⟨_,rfl,by rw[List.length_take,List.length_drop];omega⟩
def nwS (c:Int)(j i:Nat):Str:=nmS c (j+i)
theorem b4M (c:Int)(j:Nat)(h:j≤280):((List.range 4).map (nwS c j)).Nodup:=a2Y fun a b ha hb e=>by
 have z:=a4M (c:=c) (i:=j+a) (j:=j+b) (by omega) (by omega) e
 omega
theorem a7D {H:Hp}{a b:Addr}{fr:List (Str×Str)}(hne:a≠b)(h1:H a=some (.dK (pKV fr)))(h2:H b=some (.dK (pKV fr)))(nd:(fr.map (·.1)).Nodup):EqD K H a b true:=a7v hne (.inl h1) (.inl h2) (List.Perm.refl _) nd
theorem b0m {H:Hp}{st r m f bl st' r' m' f' bl':Addr}{L R L' R':Sd}{pm pf:List (Str×Str)}(h:StI K H st r m f bl L R (pKV pm) (pKV pf))(h':StI K H st' r' m' f' bl' L' R' (pKV pm) (pKV pf))(w1:L'.W=L.W)(w2:R'.W=R.W)(n1:L'.p≠L.p)(n2:L'.q≠L.q)(n3:R'.p≠R.p)(n4:R'.q≠R.q)(nm:m'≠m)(nf:f'≠f)(nb:bl'≠bl)(dm:(pm.map (·.1)).Nodup)(df:(pf.map (·.1)).Nodup):SqN K H (.ref st') (.ref st) [true,true,true]:=by
 refine⟨st',st,_,_,rfl,rfl,.inl ⟨h'.tup,h.tup⟩,rfl,rfl,fun j x y b h1 h2 h3=>?_⟩
 match j,h1,h2,h3 with
 |0,h1,h2,h3=>
  cases h1;cases h2;cases h3
  by_cases e:r'=r
  ·exact EqN.of0 (.inr ⟨r',r,rfl,rfl,.inl ⟨e,rfl⟩⟩) 8
  ·refine .inr ⟨r',r,_,_,[true,true,true],rfl,rfl,e,.inl ⟨h'.r.tup,h.r.tup⟩,rfl,rfl,fun j x y b h1 h2 h3=>?_,rfl⟩
   match j,h1,h2,h3 with
   |0,h1,h2,h3=>cases h1;cases h2;cases h3;exact a5B (n:=6) h'.r.l h.r.l (by rw[w1]) (by rw[w1]) n1 n2
   |1,h1,h2,h3=>cases h1;cases h2;cases h3;exact a5B (n:=6) h'.r.r h.r.r (by rw[w2]) (by rw[w2]) n3 n4
   |2,h1,h2,h3=>cases h1;cases h2;cases h3;exact b1G (n:=6) (SqL.of h'.b) (SqL.of h.b) nb
   |j+3,h1,_,_=>cases h1
 |1,h1,h2,h3=>cases h1;cases h2;cases h3;exact EqN.of0 (.inr ⟨m',m,rfl,rfl,a7D nm h'.m h.m dm⟩) 8
 |2,h1,h2,h3=>cases h1;cases h2;cases h3;exact EqN.of0 (.inr ⟨f',f,rfl,rfl,a7D nf h'.f h.f df⟩) 8
 |j+3,h1,_,_=>cases h1
theorem b2n {H:Hp}{Q:VK}{a b:Addr}{ms:List (Str×Str)}(ha:H a=some (.dK (pKV ms)))(hb:H b=some (.dK (pKV ms)))(nd:(ms.map (·.1)).Nodup)(q:Q (.bl false) H):a3m K (.ref a) (.ref b) H Q:=by
 refine b2h (b0M (r:=true) (.inl ha) (.inl hb) (a5f fun kv hkv=>?_) ?_)
 ·obtain⟨x,hx,rfl⟩:=List.mem_map.mp hkv
  exact⟨.str x.2,P5 nd hx,a7B _⟩
 ·rw[show(!((pKV ms).length==(pKV ms).length&&true))=false by simp];exact q
theorem b1l {l:List Str}{x:Str}{i:Nat}(nd:l.Nodup)(h:l[i]?=some x):x∉l.take i:=fun m=>by
 have e7:l.take (i+1)=l.take i++[x]:=by rw[List.take_succ,h];rfl
 have z:(l.take (i+1)).Nodup:=nd.sublist (List.take_sublist _ _)
 rw[e7] at z
 exact(List.nodup_append.mp z).2.2 x m x (by simp) rfl
theorem V5 {t u:TS}{nx:L2.St→Hp→Prop}{rt:V→Hp→Prop}{bk ct:L2.St→Hp→Prop}{σ:L2.St}{H:Hp}(h:∀nx':L2.St→Hp→Prop,(∀σ H,u ⟨nx,rt,bk,ct⟩ σ H→nx' σ H)→t ⟨nx',rt,bk,ct⟩ σ H):a6f t u ⟨nx,rt,bk,ct⟩ σ H:=h _ fun _ _ z=>z
def Z2 (K:PySem.W.Frag):Sp:=fun vs H Q _=>∃(a p q d:Addr) (kvs:List (Key×V)) (W:Web) (R:Sd) (ms:List (Str×Str)),vs=[.ref a,.ref R.a,.ref d]∧WebAt K H a p q kvs W∧(W.pts.map (·.1)).Nodup∧(W.ts.map (·.1)).Nodup∧SdIs K H R∧H d=some (.dK (pKV ms))∧(ms.map (·.1)).Nodup∧a6k R.W W (pKV ms)∧∀H',Same H H'→Q (.bl true) H'
theorem a4T {f:Addr}{fd:FuncData}(T:Txt K mg)(F:Fun K "_law_fits" "_law_fits" K5 f fd):FnOk P w K mg base CX0 1 f fd ["_law_web_here","_law_left","_law_match"] (Z2 K):=by
 refine F.ok sc__law_fits (fun vs H Q E h=>?_) (fun cdv A outer s H vs Q E hr h=>?_)
 ·obtain⟨a,p,q,d,kvs,W,R,ms,rfl,_⟩:=h
  rfl
 ·obtain⟨a,p,q,d,kvs,W,R,ms,rfl,hW,ndw1,ndw2,hR,hd,ndk,fit,k⟩:=h
  have hlen:=fit.len
  have hRl:=hR.len
  rw[o0] at hlen
  have hN:=sc__law_fits.nd
  have hu:=u9 hr
  refine⟨_,QSs.r (qsC (qIf (qtW (a1q (a0k (a0h K (qB (a2R K P w) T.b_isinstance Boot.«isinstance» (qa1 (qV 2) (qa1 (qTy "dict" T.b_dict Boot.«dict») qa0))))) (a0i (p8 (X0 K hr) (qB (A3 K P w) T.b_len Boot.«len» (qa1 (qV 2) qa0)) (qOp (A5 K) (qB (A3 K P w) T.b_len Boot.«len» (qa1 (qIx (kIx K hu) (qV 1) i6 (fun _ _=>rfl)) qa0)) (qB (A3 K P w) T.b_len Boot.«len» (qa1 (qIx (kIx K hu) (qV 1) i6 (fun _ _=>rfl)) qa0))) (u7 _))))) (qs1 (v0 qBl)) qs0)
   (qsC (u4 (i:=3) hN rfl (by walk_at "l") (a1p qa0))
   (qsC (V6 PassesOwn.never rfl (a0m K (qOp (A5 K) (qBT (a6E K rfl) T.b_list Boot.«list» (qa1 (qIx (kIx K hu) (qV 1) i6 (fun _ _=>rfl)) qa0)) (qBT (a6E K rfl) T.b_list Boot.«list» (qa1 (qIx (kIx K hu) (qV 1) i6 (fun _ _=>rfl)) qa0)))) (qgN (i:=4) hN rfl (by walk_at "l"))
    (qsC (qIf (qtW (a1q (p8 (Q8 K hu) (qV 4) (qV 2) (by rfl)) (a1q (a0k (a0h K (qB (a2R K P w) T.b_isinstance Boot.«isinstance» (qa1 (qIx (kIx K hu) (qV 2) (qV 4) (fun _ _=>rfl)) (qa1 (qTy "str" T.b_str Boot.«str») qa0))))) (a0i (p8 (kIn K hu) (qIx (kIx K hu) (qV 2) (qV 4) (fun _ _=>rfl)) (qV 3) (by rfl)))))) (qs1 (v0 qBl)) qs0)
   (qs1 (qEx (qM PySem.F.plainAttrs_list PySem.F.slot_list_append PySem.F.type_list_append A8 K (qV 3) (qa1 (qIx (kIx K hu) (qV 2) (qV 4) (fun _ _=>rfl)) qa0))))))
   (qsC (V6 PassesOwn.never rfl (a0m K (qIx (kIx K hu) (qV 1) i6 (fun _ _=>rfl))) (qgN (i:=4) hN rfl (by walk_at "l"))
    (qs1 (qIf (p8 (X0 K hr) (a4f hu (qIx (kIx K hu) (qV 0) i6 (fun _ _=>rfl)) (qIx (kIx K hu) (qV 2) (qV 4) (fun _ _=>rfl))) (qIx (kIx K hu) (qIx (kIx K hu) (qV 1) i6 (fun _ _=>rfl)) (qV 4) (fun _ _=>rfl)) (u7 _)) (qs1 (v0 qBl)) qs0)))
   (qsC (V6 PassesOwn.never rfl (a0m K (qIx (kIx K hu) (qV 1) i6 (fun _ _=>rfl))) (qgN (i:=4) hN rfl (by walk_at "l"))
    (qsC (a0n (qIx (kIx K hu) (qIx (kIx K hu) (qV 1) i6 (fun _ _=>rfl)) (qV 4) (fun _ _=>rfl)) (qgT K rfl (qg1 (qgN (i:=5) hN rfl (by walk_at "l")) (qg1 (qgN (i:=6) hN rfl (by walk_at "l")) (qg1 (qgN (i:=7) hN rfl (by walk_at "l")) qg0)))))
   (qs1 (qIf (p8 (X0 K hr) (a4f hu (qIx (kIx K hu) (qV 0) i6 (fun _ _=>rfl)) (qIx (kIx K hu) (qV 2) (qV 4) (fun _ _=>rfl))) (L5 (qa1 (qV 5) (qa1 (qIx (kIx K hu) (qV 2) (qV 6) (fun _ _=>rfl)) (qa1 (qIx (kIx K hu) (qV 2) (qV 7) (fun _ _=>rfl)) qa0)))) (u7 _)) (qs1 (v0 qBl)) qs0))))
   (qs1 (v0 qBl))))))),?_⟩
  refine V5 fun nx1 hx=>?_
  walk_at "e"
  refine a1v (a1S (t:="dict") (.inr (.inr ⟨rfl,_,.inl hd⟩)) (by simp) ?_)
  rw[show a1c "dict" "dict"=true from rfl]
  walk_at "e"
  refine A4 (K4 (.inl hd) ?_)
  rw[o0]
  walk_at "e"
  refine b6 hR.at_.tup (b8 (j:=0) rfl) ?_
  refine A4 (K4 hR.at_.pts ?_)
  rw[o0]
  walk_at "e"
  refine b6 hR.at_.tup (b8 (j:=1) rfl) ?_
  refine A4 (K4 hR.at_.ties ?_)
  walk_at "e"
  refine P2 (fun z=>absurd ?_ z) (fun _=>?_)
  ·have z:=hR.at_.ts.length
   rw[hlen,J3];omega
  walk_at "e"
  refine hx _ _ ?_
  clear hx
  refine V5 fun nx2 hx=>?_
  walk_at "e"
  refine⟨i8 (by simp),fun lh nh=>?_⟩
  obtain⟨H1,e1,f1,m1,_⟩:=d9 (o:= .lst []) nh
  rw[e1]
  have R1:=hR.same m1
  walk_at "e"
  refine hx [some (.ref a),some (.ref R.a),some (.ref d),some (.ref lh),none,none,none,none] _ ?_
  clear hx
  refine V5 fun nx3 hx=>?_
  walk_at "e"
  refine b6 R1.at_.tup (b8 (j:=0) rfl) ?_
  refine b1d (a3D R1.at_.pts (fun l2 n2=>?_))
  obtain⟨H2,e2,f2,m2,_⟩:=d9 (o:= .lst _) n2
  rw[e2]
  have R2:=R1.same m2
  walk_at "e"
  refine b6 R2.at_.tup (b8 (j:=1) rfl) ?_
  refine b1d (a3D R2.at_.ties (fun l3 n3=>?_))
  obtain⟨H3,e3,f3,m3,_⟩:=d9 (o:= .lst _) n3
  rw[e3]
  have ek1:(pKV R.W.pts).map (fun kv=>kV kv.1)=(R.W.pts.map (·.1)).map V.str:=by unfold pKV;rw[List.map_map,List.map_map];rfl
  have ek2:R.kvs.map (fun kv=>kV kv.1)=(R.W.ts.map (·.1)).map V.str:=by
   have z:=congrArg (List.map kV) R2.at_.ts.keys
   rw[List.map_map,List.map_map] at z
   rw[List.map_map];exact z
  rw[ek1] at f2
  rw[ek2] at f3
  have hRn:=hRl
  rw[J3] at hRn
  refine a5K (m3 _ _ f2) f3 (i8 (by rw[List.length_map,List.length_map,List.length_map,List.length_map];omega)) (fun l4 n4=>?_)
  obtain⟨H4,e4,f4,m4,_⟩:=d9 (o:= .lst _) n4
  rw[e4]
  rw[←List.map_append] at f4
  have f4':H4 l4=some (.lst ((i9 R.W).map V.str)):=f4
  have m04:=m1.trans (m2.trans (m3.trans m4))
  have d4:=m04 _ _ hd
  have h4:=(m2.trans (m3.trans m4)) _ _ f1
  have h4':=(m2.trans m3) _ _ f1
  clear f4 f3 f2 e4 e3 e2 e1
  refine B4 (SqL.of f4') ?_
  refine a3H (n:=(i9 R.W).length) (fun i σ H'=>Same H H'∧H' l4=some (.lst ((i9 R.W).map V.str))∧(∃v4,σ=[some (.ref a),some (.ref R.a),some (.ref d),some (.ref lh),v4,none,none,none])∧H' lh=some (.lst ((((i9 R.W).take i).map (j6 (pKV ms))).map V.str))) ⟨m04,f4',⟨_,rfl⟩,h4⟩ (fun i σ H' hi hp=>⟨_,.str ((i9 R.W)[i]),SqL.of hp.2.1,by rw[List.getElem?_map,List.getElem?_eq_getElem hi];rfl⟩) ?_ ?_
  ·rintro bk i v σ H5' H5 hi ⟨s5,l5,⟨v4,rfl⟩,g5⟩ y
   obtain⟨rfl,hy⟩:=Itl.get y (SqL.of l5)
   rw[List.getElem?_map,List.getElem?_eq_getElem hi] at hy
   cases hy
   have hmem:=List.getElem_mem hi
   have tx:=fit.txt _ hmem
   have D5:Rd H5 d (.dK (pKV ms)):= .inl (s5 _ _ hd)
   walk_at "r"
   refine P1 (D4 (k:=Sum.inr (i9 R.W)[i]) D5) ?_
   rw[tx.at_,show(!(some (V.str (j6 (pKV ms) (i9 R.W)[i]))).isSome)=false from rfl]
   walk_at "e"
   refine ixd D5 tx ?_
   refine a1v (a1S (t:="str") rfl (by simp) ?_)
   rw[show a1c "str" "str"=true from rfl]
   walk_at "e"
   refine ixd D5 tx ?_
   walk_at "e"
   refine a0e (SqL.of g5) ?_
   have hno:j6 (pKV ms) (i9 R.W)[i]∉((i9 R.W).take i).map (j6 (pKV ms)):=by
    rw[List.map_take]
    exact b1l fit.nd (by rw[List.getElem?_map,List.getElem?_eq_getElem hi];rfl)
   rw[decide_eq_false hno]
   walk_at "e"
   refine⟨.inl ⟨rfl,_,SqL.of g5⟩,?_⟩
   walk_at "e"
   refine ixd D5 tx ?_
   walk_at "e"
   refine⟨lh,_,_,rfl,rfl,g5,K8 (by rw[List.length_map,List.length_map,List.length_take];omega),?_⟩
   refine⟨K6 s5 nh,by rw[d0 (g0 h4' n4).symm];exact l5,⟨_,rfl⟩,?_⟩
   rw[i7,List.take_succ,List.getElem?_eq_getElem hi,List.map_append,List.map_append];rfl
  rintro σ H5 ⟨s5,l5,⟨v4,rfl⟩,_⟩
  refine⟨⟨_,SqL.of l5,by rw[List.length_map];exact Nat.le_refl _⟩,?_⟩
  have R5:=hR.same s5
  have W5:=hW.mono s5.le
  have d5:=s5 _ _ hd
  refine hx [some (.ref a),some (.ref R.a),some (.ref d),some (.ref lh),v4,none,none,none] _ ?_
  clear hx l5 f4' d4 h4 h4' R1 R2
  refine V5 fun nx4 hx=>?_
  walk_at "e"
  refine b6 R5.at_.tup (b8 (j:=0) rfl) ?_
  refine a1w R5.hp (fun ndp o6=>?_)
  refine a3H (n:=(pKV R.W.pts).length) (fun i σ H'=>Same (B6 R.p o6 (pKV R.W.pts) H5) H'∧∃v4,σ=[some (.ref a),some (.ref R.a),some (.ref d),some (.ref lh),v4,none,none,none]) ⟨Same.refl _,_,rfl⟩ (fun i σ H' hi hp=>⟨hp.1 _ _ i7,hi⟩) ?_ ?_
  ·rintro bk i v σ H6' H6 hi ⟨s6,v4,rfl⟩ ⟨rfl,kv,hkv,rfl⟩
   obtain⟨x,hx9,rfl⟩:=a0c hkv
   have hxm:=List.mem_of_getElem? hx9
   have le6:=(Q6 (o:=o6) R5.hp).trans s6.le
   have W6:=W5.mono le6
   have R6:=R5.at_.mono le6
   have D6:Rd H6 d (.dK (pKV ms)):=le6.dic (.inl d5)
   have tx:=fit.txt x.1 (List.mem_append_left _ (List.mem_map.mpr ⟨x,hxm,rfl⟩))
   have hpt:=fit.pts x hxm
   walk_at "e"
   refine b6 W6.tup (b8 (j:=0) rfl) ?_
   refine⟨p,rfl,.inl ⟨_,W6.pts⟩,?_⟩
   walk_at "e"
   refine ixd D6 tx ?_
   refine⟨_,D4 (k:=Sum.inr (j6 (pKV ms) x.1)) W6.pts,?_⟩
   rw[P5 ndw1 hpt]
   walk_at "e"
   refine b6 R6.tup (b8 (j:=0) rfl) ?_
   walk_at "r"
   refine ixd R6.pts ⟨_,P5 (V8 hR.nd) hxm⟩ ?_
   rw[(U6 (V8 hR.nd) (show(x.1,x.2)∈R.W.pts from hxm)).2]
   refine a6l ?_
   rw[show(!decide (x.2=x.2))=false by simp]
   walk_at "e"
   exact⟨s6,_,rfl⟩
  rintro σ H6' ⟨s6,v4,rfl⟩
  refine⟨⟨s6 _ _ i7,Nat.le_refl _⟩,?_⟩
  have sT:=s6.thaw R5.hp
  generalize thaw R.p H6'=H6 at sT⊢
  have R6:=R5.same sT
  have W6:=W5.mono sT.le
  have d6:=sT _ _ d5
  refine hx [some (.ref a),some (.ref R.a),some (.ref d),some (.ref lh),v4,none,none,none] _ ?_
  clear hx
  refine V5 fun nx5 hx=>?_
  walk_at "e"
  refine b6 R6.at_.tup (b8 (j:=1) rfl) ?_
  refine a1w R6.hq (fun ndq o7=>?_)
  refine a3H (n:=R.kvs.length) (fun i σ H'=>Same (B6 R.q o7 R.kvs H6) H'∧∃v4 v5 v6 v7,σ=[some (.ref a),some (.ref R.a),some (.ref d),some (.ref lh),v4,v5,v6,v7]) ⟨Same.refl _,_,_,_,_,rfl⟩ (fun i σ H' hi hp=>⟨hp.1 _ _ i7,hi⟩) ?_ ?_
  ·rintro bk i v σ H7' H7 hi ⟨s7,v4,v5,v6,v7,rfl⟩ ⟨rfl,kv,hkv,rfl⟩
   have le7:=(Q6 (o:=o7) R6.hq).trans s7.le
   have W7:=W6.mono le7
   have R7:=R6.at_.mono le7
   have D7:Rd H7 d (.dK (pKV ms)):=le7.dic (.inl d6)
   obtain⟨x,hx9,ex,b7,eb,sb⟩:=N8 R7.ts hkv
   have hxm:=List.mem_of_getElem? hx9
   obtain⟨kk,kvv⟩:=kv
   have ex':kk=Sum.inr x.1:=ex
   have eb':kvv= .ref b7:=eb
   subst ex' eb'
   obtain⟨x0,x1,x2,x3⟩:=x
   have hen:=hR.ends _ hxm
   have tx:=fit.txt x0 (List.mem_append_right _ (List.mem_map.mpr ⟨_,hxm,rfl⟩))
   have tx2:=fit.txt x2 (List.mem_append_left _ hen.1)
   have tx3:=fit.txt x3 (List.mem_append_left _ hen.2)
   have hti:=fit.ts _ hxm
   obtain⟨b9,hv9,sb9⟩:=a1I W7.ts ndw2 hti
   obtain⟨b7',hv7,sb7⟩:=a1I R7.ts (a1a hR.nd) hxm
   walk_at "r"
   refine b6 R7.tup (b8 (j:=1) rfl) ?_
   walk_at "r"
   refine w5 (v:= .ref b7') (by have z:=D4 (k:=Sum.inr x0) R7.ties;rw[hv7] at z;exact z) ?_
   refine D2 sb7 rfl ?_
   show a2W (M0 5) (a2W (M0 6) (a2W (M0 7) b1x)) [V.str x1,.str x2,.str x3] _ _ _
   walk_at "r"
   refine b6 W7.tup (b8 (j:=1) rfl) ?_
   refine⟨q,rfl,.inl ⟨_,W7.ties⟩,?_⟩
   walk_at "r"
   refine ixd D7 tx ?_
   refine⟨_,D4 (k:=Sum.inr (j6 (pKV ms) x0)) W7.ties,?_⟩
   rw[hv9]
   walk_at "r"
   refine ixd D7 tx2 ?_
   walk_at "r"
   refine ixd D7 tx3 ?_
   walk_at "r"
   refine⟨i8 (by simp),fun l8 n8=>?_⟩
   obtain⟨H8,e8,f8,m8,_⟩:=d9 (o:= .tup (Y8 (x1,j6 (pKV ms) x2,j6 (pKV ms) x3))) n8
   change a3m K _ _ (upd H7 l8 (.tup (Y8 (x1,j6 (pKV ms) x2,j6 (pKV ms) x3)))) _
   rw[e8]
   refine b2h (b0q (m8.tup sb9) (SqT.of f8) (a0r _) (a0r _) ?_)
   rw[a0L (a0r _)]
   walk_at "r"
   exact⟨s7.trans m8,_,_,_,_,rfl⟩
  rintro σ H7' ⟨s7,v4,v5,v6,v7,rfl⟩
  refine⟨⟨s7 _ _ i7,Nat.le_refl _⟩,?_⟩
  have sU:=s7.thaw R6.hq
  refine hx [some (.ref a),some (.ref R.a),some (.ref d),some (.ref lh),v4,v5,v6,v7] _ ?_
  walk_at "r"
  exact k _ (s5.trans (sT.trans sU))
def a4W (K:PySem.W.Frag):Sp:=fun vs H Q _=>∃(a:Addr) (ns:List Int),vs=[.ref a]∧SqL K H a (ns.map V.int)∧ns.length≤63∧∀H',Q (.bl true) H'
theorem b3a {f:Addr}{fd:FuncData}(T:Txt K mg)(a1e:Cal P w K mg base CX0 3 "_law_set" ["_law_script"] [] (a0z K))(V1:Cal P w K mg base CX0 1 "_law_stream" ["_law_cell","_law_many"] [] (R9 K))(E3:Cal P w K mg base CX0 1 "_law_name" ["_law_number","_law_k"] [] (P9 K))(a0o:Cal P w K mg base CX0 3 "_law_step" ["_law_web_here","_law_xs","_law_words_here","_law_kinds","_law_names"] [] (Z8 K))(E7:Cal P w K mg base CX0 1 "_law_words" ["_law_number","_law_many"] [] (O2 K))(a0u:Cal P w K mg base CX0 1 "_law_copy" ["_law_step_here"] [] (a0d K))(Q7:Cal P w K mg base CX0 4 "behind" ["step"] [] (a0M K))(a0q:Cal P w K mg base CX0 1 "_law_fits" ["_law_web_here","_law_left","_law_match"] [] (Z2 K))(a7f:Cal P w K mg base (CXE P w) 6 "done" ["web","step"] [] (a5o K))(F:Fun K "law" "law" a1G f fd):FnOk P w K mg base CX0 7 f fd ["_law_script"] (a4W K):=by
 refine F.ok sc_law (fun vs H Q E h=>?_) (fun cdv A outer s H vs Q E hr h=>?_)
 ·obtain⟨a,ns,rfl,_⟩:=h
  rfl
 ·obtain⟨a,ns,rfl,hA,hl,k⟩:=h
  have hN:=sc_law.nd
  have hu:=u9 hr
  refine⟨_,QSs.r (qsC (a0n (qC a1e (hr.mono (by decide)) p0 (qa1 (qV 0) qa0)) (qgT K rfl (qg1 (qgN (i:=1) hN rfl (by walk_at "l")) (qg1 (qgN (i:=2) hN rfl (by walk_at "l")) (qg1 (qgN (i:=3) hN rfl (by walk_at "l")) qg0)))))
   (qsC (V6 PassesOwn.never rfl (a0m K (qSl (kSl K) (qOp (A5 K) (qSl (kSl K) (qV 0) (qoS i6) (qoS i6)) (a1p (qa1 (qV 1) qa0))) qoN (qoS i6))) (qgN (i:=4) hN rfl (by walk_at "l"))
    (qsC (u4 (i:=5) hN rfl (by walk_at "l") (qC V1 (hr.mono (by decide)) p0 (qa1 (qV 4) (qa1 i6 qa0))))
   (qsC (a3a (i:=6) hN rfl (by walk_at "l") (own:=["_law_k"]) (js:=[1,5]) (by kernel_rfl) rfl (a4w T.b_range (qa1 i6 qa0)) (fun _ _ _ _=>(qgN (i:=0) (show List.Nodup (["_law_k","_law_first","_law_xs"]:List Str) by decide+kernel) rfl (by walk_at "l"))) (fun _ _ _ _=>a1l) (fun _ _ _ _=>(qC E3 (hr.mono (by decide)) p0 (qa1 (qV 1) (qa1 (qOp (A5 K) (qOp (A5 K) i6 (qOp q5 (qIx (kIx K hu) (qV 2) i6 (fun _ _=>rfl)) i6)) (qV 0)) qa0)))))
   (qsC (u4 (i:=7) hN rfl (by walk_at "l") (qC a0o (hr.mono (by decide)) p0 (qa1 (qV 3) (qa1 (qV 5) (qa1 (qC E7 (hr.mono (by decide)) p0 (qa1 (qOp B2 (qIx (kIx K hu) (qV 5) i6 (fun _ _=>rfl)) i6) (qa1 i6 qa0))) (qa1 (qV 2) (qa1 (qV 6) qa0)))))))
   (qsC (u4 (i:=8) hN rfl (by walk_at "l") (qC a0u (hr.mono (by decide)) p0 (qa1 (qV 7) qa0)))
   (qsC (u4 (i:=9) hN rfl (by walk_at "l") (qC Q7 (hr.mono (by decide)) p0 (qa1 (qV 8) qa0)))
   (qsC (u4 (i:=10) hN rfl (by walk_at "l") (qIx (kIx K hu) (qIx (kIx K hu) (qV 7) i6 (fun _ _=>rfl)) i6 (fun _ _=>rfl)))
   (qsC (qIf (qtW (a1q (a0k (a0h K (qB (a2R K P w) T.b_isinstance Boot.«isinstance» (qa1 (qV 9) (qa1 (qTy "dict" T.b_dict Boot.«dict») qa0))))) (a0i (a0k (a0h K (qC a0q (hr.mono (by decide)) p0 (qa1 (qC a7f (hr.mono (by decide)) b4U (qa1 (qV 3) (qa1 (qV 8) qa0))) (qa1 (qV 10) (qa1 (qV 9) qa0))))))))) (qs1 (v0 qBl)) qs0)
   (qsC (V6 PassesOwn.never rfl (a0m K (qV 9)) (qgN (i:=11) hN rfl (by walk_at "l"))
    (qs1 (qIf (qtW (a1q (qtW (a1O (p8 (kIn K hu) (qV 11) (qIx (kIx K hu) (qV 7) i6 (fun _ _=>rfl)) (by rfl)) (a1i (p8 (X0 K hr) (qIx (kIx K hu) (qV 9) (qV 11) (fun _ _=>rfl)) (qIx (kIx K hu) (qIx (kIx K hu) (qV 7) i6 (fun _ _=>rfl)) (qV 11) (fun _ _=>rfl)) (u7 _))))) (a0i (qtW (a1O (p8 (kIn K hu) (qV 11) (qIx (kIx K hu) (qV 7) i6 (fun _ _=>rfl)) (by rfl)) (a1i (p8 (X0 K hr) (qIx (kIx K hu) (qV 9) (qV 11) (fun _ _=>rfl)) (qIx (kIx K hu) (qIx (kIx K hu) (qV 7) i6 (fun _ _=>rfl)) (qV 11) (fun _ _=>rfl)) (u7 _)))))))) (qs1 (v0 qBl)) qs0)))
   (qsC (u4 (i:=12) hN rfl (by walk_at "l") (qBT (V9 K rfl) T.b_dict Boot.«dict» (qa1 (qV 9) qa0)))
   (qsC (qEx (qM0 PySem.F.plainAttrs_dict PySem.F.slot_dict_clear PySem.F.type_dict_clear a3n K (qV 9)))
   (qs1 (qIf (qtW (a1q (p8 (X0 K hr) (qV 8) (qV 7) (u7 _)) (a0i (p8 (X0 K hr) (qC Q7 (hr.mono (by decide)) p0 (qa1 (qV 8) qa0)) (qV 12) (u7 _))))) (qs1 (v0 qBl)) qs0)))))))))))))
   (qs1 (v0 qBl)))),?_⟩
  refine r9 ?_
  walk_at "e"
  refine⟨a,ns,rfl,hA,hl,fun t lk b p q kvs W c ks H1 m1 f1 g1 k0 k3 kk c0 hW hG hWl hnm=>?_⟩
  refine D2 (SqT.of f1) rfl ?_
  walk_at "e"
  refine r9 ?_
  walk_at "e"
  refine a3x (m1.seq hA) (fun l2 n2=>?_)
  obtain⟨cs,hcs,hcl⟩:=a5t ns (some 12) (some 40)
  rw[hcs]
  obtain⟨H2,x2,f2,m2,_⟩:=d9 (o:= .lst _) n2
  rw[x2]
  walk_at "e"
  refine⟨i8 (by simp),fun l3 n3=>?_⟩
  obtain⟨H3,x3,f3,m3,_⟩:=d9 (o:= .lst _) n3
  rw[x3]
  walk_at "e"
  refine a5K (m3 _ _ f2) f3 (i8 (by rw[List.length_map];simp;omega)) (fun l4 n4=>?_)
  rw[show cs.map V.int++[V.int c]=(cs++[c]).map V.int by rw[List.map_append];rfl]
  obtain⟨H4,x4,f4,m4,_⟩:=d9 (o:= .lst _) n4
  rw[x4]
  walk_at "e"
  refine a3x (SqL.of f4) (fun lz n5=>?_)
  obtain⟨ds,hds,hdl⟩:=a5t (cs++[c]) none (some 28)
  rw[hds]
  obtain⟨B,x5,f5,m5,_⟩:=d9 (o:= .lst _) n5
  rw[x5]
  have mB:=m2.trans (m3.trans (m4.trans m5))
  have SB:SdIs K B ⟨b,p,q,kvs,W⟩:=WebIs.same hW mB
  have KB:B lk=some (.lst (ks.map V.str)):=mB _ _ g1
  refine B4 (SqL.of f5) ?_
  refine a3H (n:=ds.length) (fun i σ H'=>(∃v4 v5 v6 v7 v8 v9 v10 v11 v12,σ=[some (.ref a),some (.int c),some (.ref lk),some (.ref b),v4,v5,v6,v7,v8,v9,v10,v11,v12])∧Same B H')
   ⟨⟨_,_,_,_,_,_,_,_,_,rfl⟩,Same.refl _⟩ (fun i σ H' hi hp=>⟨_,.int (ds[i]),SqL.of (hp.2 _ _ f5),by rw[List.getElem?_map,List.getElem?_eq_getElem hi];rfl⟩) ?_ ?_
  ·rintro bk i v σ G' G hi ⟨⟨v4,v5,v6,v7,v8,v9,v10,v11,v12,rfl⟩,sG⟩ y
   obtain⟨rfl,hx⟩:=Itl.get y (SqL.of (sG _ _ f5))
   rw[List.getElem?_map,List.getElem?_eq_getElem hi] at hx
   cases hx
   walk_at "e"
   refine r9 ?_
   walk_at "e"
   refine⟨_,rfl,fun lx G1 xs n6 m6 f6 hxl hx0=>?_⟩
   obtain⟨x11,hx11,hx11'⟩:=X6 hxl hx0 11 (by omega)
   obtain⟨x14,hx14,hx14'⟩:=X6 hxl hx0 14 (by omega)
   walk_at "e"
   refine r9 ?_
   walk_at "e"
   refine Q0 (by omega) (by omega) ?_
   refine z5 (n:=4) (fun i out H'=>Same G1 H'∧out=((List.range i).map (nwS c (40+(x14 % 200).toNat))).map V.str) ⟨Same.refl _,rfl⟩ (fun i out H' hi _=>by exact hi) ?_ ?_
   ·rintro N i v out G2' G2 hi ⟨s2,rfl⟩ ⟨rfl,rfl⟩ hN'
    walk_at "e"
    refine⟨rfl,?_⟩
    walk_at "e"
    refine j7 (SqL.of (s2 _ _ f6)) hx14 ?_
    walk_at "e"
    refine⟨c,40+(x14 % 200).toNat+i,?_,by omega,fun G3 m3'=>?_⟩
    ·show [V.int c,V.int (40+x14 % 200+(0+(i:Int)))]=_
     congr 3
     omega
    ·refine⟨i8 (by rw[List.length_map,List.length_map,List.length_range];omega),hN' _ _ ⟨s2.trans m3',?_⟩⟩
     rw[List.range_succ,List.map_append,List.map_append];rfl
   ·rintro out G2 ⟨s2,rfl⟩
    refine⟨Nat.le_refl _,fun ln nln=>⟨i8 (by rw[List.length_map,List.length_map,List.length_range];omega),?_⟩⟩
    have hj:40+(x14 % 200).toNat≤280:=by omega
    have hj2:13<40+(x14 % 200).toNat:=by omega
    obtain⟨G3,e3',f3',m3',_⟩:=d9 (H:=G2) (o:= .lst (((List.range 4).map (nwS c (40+(x14 % 200).toNat))).map V.str)) nln
    change M0 _ _ _ (upd G2 ln _) _
    rw[e3']
    have nnd:=b4M c (40+(x14 % 200).toNat) hj
    have nok:∀n∈(List.range 4).map (nwS c (40+(x14 % 200).toNat)),O9 n=true∧n∉i9 W:=fun n hn=>by
     obtain⟨i',hi',rfl⟩:=List.mem_map.mp hn
     have hi2:=List.mem_range.mp hi'
     refine⟨a5r _ _,fun z=>?_⟩
     obtain⟨j',hj',e'⟩:=hnm _ z
     have z2:=a4M (c:=c) (i:=40+(x14 % 200).toNat+i') (j:=j') (by omega) (by omega) e'
     omega
    have nl4:((List.range 4).map (nwS c (40+(x14 % 200).toNat))).length=4:=by rw[List.length_map,List.length_range]
    generalize (List.range 4).map (nwS c (40+(x14 % 200).toNat))=nms at f3' nnd nok nl4
    have s13:=s2.trans m3'
    walk_at "e"
    refine r9 ?_
    walk_at "e"
    refine j7 (SqL.of (s13 _ _ f6)) hx11 ?_
    walk_at "e"
    refine⟨_,16,rfl,by omega,by omega,fun lw G4 ws n7 m7 f7 hws=>?_⟩
    have hws':b3s ws:=⟨hws.1,hws.2.1,hws.2.2⟩
    have sG4:=sG.trans (m6.trans (s13.trans m7))
    walk_at "e"
    refine⟨⟨b,p,q,kvs,W⟩,lx,lw,lk,ln,xs,ws,ks,nms,rfl,SB.same sG4,hG,SqL.of (m7 _ _ (s13 _ _ f6)),hxl,hx0,SqL.of f7,hws',SqL.of (sG4 _ _ KB),⟨k0,k3,kk⟩,SqL.of (m7 _ _ f3'),nl4,nnd,nok,fun st r m f bl L R pr fr os G5 m8 hT rok mp lo osub fo=>?_⟩
    have sG5:=sG4.trans m8
    have S5:=SB.same sG5
    have dok:=b6b mp fo hT.r.r.nd lo osub
    walk_at "e"
    refine r9 ?_
    walk_at "e"
    refine⟨st,r,m,f,bl,L,R,_,_,rfl,hT,fun st' r' m' f' bl' L' R' G6 m9 hT' cL cR nm' nf' nb'=>?_⟩
    have T6:=hT.same m9
    have S6:=S5.same m9
    have dok':b4d W L'.W R'.W (pKV (pr.map swp)) fr:=by rw[cL.w,cR.w];exact dok
    have ktx:∀kv∈pKV (pr.map swp),∃n s,kv=(Sum.inr n,V.str s):=b1I
    have kln:(pKV (pr.map swp)).length≤100:=by
     have z1:=dok.fit.len
     have z2:=hT.r.l.len
     omega
    have hF0:∀n∈i9 R'.W,n∉i9 L'.W→TxtAt (pKV fr) n:=fun n h1 h2=>by
     rw[cR.w] at h1
     rw[cL.w] at h2
     exact(fo.txt hT.r.r.nd (fo.mem.mpr ⟨h1,h2⟩)).1
    walk_at "e"
    refine r9 ?_
    walk_at "e"
    refine⟨st',r',m',f',bl',L',R',_,_,rfl,hT',dok'.fit.txt,hF0,fun d7 G7 t1 t2 n7 m10 o7 f7=>?_⟩
    rw[cR.w] at o7
    rw[cL.w] at f7
    have T7:=T6.same m10
    have S7:=S6.same m10
    have T7':=hT'.same m10
    have nds:=o7.perm.nodup_iff.mpr hT.r.r.nd
    have gb:∀n∈i9 R.W,TxtAt (pKV ((t1++t2).map fun n=>(n,bh L.W (pKV (pr.map swp)) (pKV fr) n))) n∧j6 (pKV ((t1++t2).map fun n=>(n,bh L.W (pKV (pr.map swp)) (pKV fr) n))) n=bh L.W (pKV (pr.map swp)) (pKV fr) n:=fun n hn=>a1y nds (o7.mem.mpr hn)
    have e7l:((t1++t2).map fun n=>(n,bh L.W (pKV (pr.map swp)) (pKV fr) n)).map (·.1)=t1++t2:=by rw[List.map_map];exact List.map_id' _
    have ndk:(((t1++t2).map fun n=>(n,bh L.W (pKV (pr.map swp)) (pKV fr) n)).map (·.1)).Nodup:=by rw[e7l];exact nds
    have l7:((t1++t2).map fun n=>(n,bh L.W (pKV (pr.map swp)) (pKV fr) n)).length=(i9 R.W).length:=by rw[List.length_map];exact o7.len
    have k7:∀x∈(t1++t2).map fun n=>(n,bh L.W (pKV (pr.map swp)) (pKV fr) n),x.1∈i9 R.W∧x.2=bh L.W (pKV (pr.map swp)) (pKV fr) x.1:=fun x hx=>by
     obtain⟨n,hn,rfl⟩:=List.mem_map.mp hx
     exact⟨o7.mem.mp hn,rfl⟩
    obtain⟨ms7,ems⟩:∃ms7,ms7=(t1++t2).map fun n=>(n,bh L.W (pKV (pr.map swp)) (pKV fr) n):=⟨_,rfl⟩
    rw[←ems] at f7 gb ndk l7 k7
    have hRl:=hT.r.r.len
    walk_at "e"
    refine V5 fun nx1 hx=>?_
    walk_at "e"
    refine b6 T7.tup (b8 (j:=0) rfl) ?_
    walk_at "e"
    refine b6 T7.r.tup (b8 (j:=1) rfl) ?_
    walk_at "e"
    refine hx [some (.ref a),some (.int c),some (.ref lk),some (.ref b),some (.int ds[i]),some (.ref lx),some (.ref ln),some (.ref st),some (.ref st'),some (.ref d7),some (.ref R.a),v11,v12] _ ?_
    clear hx
    refine V5 fun nx2 hx=>?_
    walk_at "e"
    refine a1v (a1S (t:="dict") (.inr (.inr ⟨rfl,_,.inl f7⟩)) (by simp) ?_)
    rw[show a1c "dict" "dict"=true from rfl]
    walk_at "e"
    refine⟨⟨b,p,q,kvs,W⟩,L',R',st',r',m',f',bl',_,fr,rfl,S7,T7',U8 mp.nds,kln,ktx,dok',hWl,?_⟩
    intro fa fp fq fk FW G8 m11 hF hfp hfq fne nfp nfq pF1 pF2
    rw[cL.w,cR.w] at pF1 pF2
    have nF1:(FW.pts.map (·.1)).Nodup:=(pF1.map _).nodup_iff.mpr (a2K (E8 (V8 hW.nd)) (a5n dok.nd).1)
    have nF2:(FW.ts.map (·.1)).Nodup:=(pF2.map _).nodup_iff.mpr (a2K (E8 (a1a hW.nd)) (a5n dok.nd).2)
    have fit7:a6k R.W FW (pKV ms7):=by
     refine⟨by rw[o0,l7],fun n hn=>(gb n hn).1,by rw[List.map_congr_left fun n hn=>(gb n hn).2];exact dok.nd,fun x hx=>?_,fun x hx=>?_⟩
     ·rw[(gb x.1 (List.mem_append_left _ (List.mem_map.mpr ⟨x,hx,rfl⟩))).2]
      exact pF1.mem_iff.mpr (List.mem_append_right _ (List.mem_map.mpr ⟨x,hx,rfl⟩))
     ·have he:=hT.r.r.ends x hx
      rw[(gb x.1 (List.mem_append_right _ (List.mem_map.mpr ⟨x,hx,rfl⟩))).2,(gb _ (List.mem_append_left _ he.1)).2,(gb _ (List.mem_append_left _ he.2)).2]
      exact pF2.mem_iff.mpr (List.mem_append_right _ (List.mem_map.mpr ⟨x,hx,rfl⟩))
    have T8:=T7.same m11
    walk_at "e"
    refine⟨fa,fp,fq,d7,fk,FW,R,ms7,rfl,hF,nF1,nF2,T8.r.r,m11 _ _ f7,ndk,fit7,fun G9 m12=>?_⟩
    have m79:=m11.trans m12
    have T9:=T8.same m12
    have f9:=m79 _ _ f7
    walk_at "e"
    refine hx [some (.ref a),some (.int c),some (.ref lk),some (.ref b),some (.int ds[i]),some (.ref lx),some (.ref ln),some (.ref st),some (.ref st'),some (.ref d7),some (.ref R.a),v11,v12] _ ?_
    clear hx
    refine V5 fun nx3 hx=>?_
    walk_at "e"
    refine a1w f9 (fun ndd o9=>?_)
    refine a3H (n:=(pKV ms7).length) (fun i' σ H'=>Same (B6 d7 o9 (pKV ms7) G9) H'∧∃v11,σ=[some (.ref a),some (.int c),some (.ref lk),some (.ref b),some (.int ds[i]),some (.ref lx),some (.ref ln),some (.ref st),some (.ref st'),some (.ref d7),some (.ref R.a),v11,v12]) ⟨Same.refl _,_,rfl⟩ (fun i' σ H' hi' hp=>⟨hp.1 _ _ i7,hi'⟩) ?_ ?_
    ·rintro bk' i' v' σ G10' G10 hi' ⟨s10,v11,rfl⟩ ⟨rfl,kv,hkv,rfl⟩
     obtain⟨x,hx9,rfl⟩:=a0c hkv
     have hxm:=List.mem_of_getElem? hx9
     obtain⟨hxR,hx2⟩:=k7 x hxm
     have le10:=(Q6 (o:=o9) f9).trans s10.le
     have D10:Rd G10 d7 (.dK (pKV ms7)):=le10.dic (.inl f9)
     have tp10:=le10.tup T9.tup
     have M10:Rd G10 m (.dK (pKV (pr.map swp))):=le10.dic (.inl T9.m)
     have F10:Rd G10 f (.dK (pKV fr)):=le10.dic (.inl T9.f)
     have vm:(q8 (pKV (pr.map swp)) (Sum.inr x.1:Key)).isSome=decide (x.1∈i9 L.W):=by rw[N3,a4L,mp.wd];rfl
     have vf:(q8 (pKV fr) (Sum.inr x.1:Key)).isSome=decide (x.1∉i9 L.W):=by
      rw[N3,Bool.eq_iff_iff,decide_eq_true_eq,decide_eq_true_eq,fo.mem]
      exact⟨fun z=>z.2,fun z=>⟨hxR,z⟩⟩
     have g7:=(gb x.1 hxR)
     walk_at "e"
     refine b6 tp10 (b8 (j:=1) rfl) ?_
     refine R8 (D4 (k:=Sum.inr x.1) M10) ?_
     rw[vm]
     by_cases hL:x.1∈i9 L.W
     ·rw[decide_eq_false (not_not_intro hL)] at vf
      rw[decide_eq_true hL]
      have eb:=b0P (pKV (pr.map swp)) (pKV fr) hL
      rw[eb] at g7
      walk_at "e"
      refine ixd D10 g7.1 ?_
      rw[g7.2]
      walk_at "e"
      refine b6 tp10 (b8 (j:=1) rfl) ?_
      walk_at "e"
      refine ixd M10 (dok.fit.txt _ hL) ?_
      walk_at "e"
      rw[show(!decide (j6 (pKV (pr.map swp)) x.1=j6 (pKV (pr.map swp)) x.1))=false by simp]
      walk_at "e"
      refine b6 tp10 (b8 (j:=2) rfl) ?_
      refine R8 (D4 (k:=Sum.inr x.1) F10) ?_
      rw[vf]
      walk_at "e"
      exact⟨s10,_,rfl⟩
     ·rw[decide_eq_true hL] at vf
      rw[decide_eq_false hL]
      have eb:=b0f (pKV (pr.map swp)) (pKV fr) hL
      rw[eb] at g7
      walk_at "e"
      refine b6 tp10 (b8 (j:=2) rfl) ?_
      refine R8 (D4 (k:=Sum.inr x.1) F10) ?_
      rw[vf]
      walk_at "e"
      refine ixd D10 g7.1 ?_
      rw[g7.2]
      walk_at "e"
      refine b6 tp10 (b8 (j:=2) rfl) ?_
      walk_at "e"
      refine ixd F10 (fo.txt hT.r.r.nd (fo.mem.mpr ⟨hxR,hL⟩)).1 ?_
      walk_at "e"
      rw[show(!decide (j6 (pKV fr) x.1=j6 (pKV fr) x.1))=false by simp]
      walk_at "e"
      exact⟨s10,_,rfl⟩
    rintro σ G10' ⟨s10,v11,rfl⟩
    refine⟨⟨s10 _ _ i7,Nat.le_refl _⟩,?_⟩
    have sT:=s10.thaw f9
    generalize thaw d7 G10'=G10 at sT⊢
    have f10:=sT _ _ f9
    refine hx [some (.ref a),some (.int c),some (.ref lk),some (.ref b),some (.int ds[i]),some (.ref lx),some (.ref ln),some (.ref st),some (.ref st'),some (.ref d7),some (.ref R.a),v11,v12] _ ?_
    clear hx
    refine V5 fun nx4 hx=>?_
    walk_at "e"
    refine J5 (.inl f10) (fun h11 n11=>?_)
    obtain⟨G11,x11',f11,m13,_⟩:=d9 (o:= .dK _) n11
    rw[x11']
    have s611:=m10.trans (m79.trans (sT.trans m13))
    have d11:=m13 _ _ f10
    have hne:h11≠d7:=(g0 f10 n11).symm
    walk_at "e"
    refine hx [some (.ref a),some (.int c),some (.ref lk),some (.ref b),some (.int ds[i]),some (.ref lx),some (.ref ln),some (.ref st),some (.ref st'),some (.ref d7),some (.ref R.a),v11,some (.ref h11)] _ ?_
    clear hx
    refine V5 fun nx5 hx=>?_
    walk_at "e"
    refine⟨.inr (.inr (.inl ⟨rfl,.inl ⟨_,d11⟩⟩)),?_⟩
    walk_at "e"
    refine⟨d7,_,rfl,rfl,d11,?_⟩
    have a1':=K6 (o:= .dK []) s611 n7
    have a2':upd G11 d7 (.dK []) h11=some (.dK (pKV ms7)):=by rw[d0 hne];exact f11
    generalize upd G11 d7 (.dK [])=G12 at a1' a2'⊢
    have T12:=T6.same a1'
    have T12':=hT'.same a1'
    have dn1:L'.p≠L.p:=(g0 hT.r.l.hp cL.p).symm
    have dn2:L'.q≠L.q:=(g0 hT.r.l.hq cL.q).symm
    have dn3:R'.p≠R.p:=(g0 hT.r.r.hp cR.p).symm
    have dn4:R'.q≠R.q:=(g0 hT.r.r.hq cR.q).symm
    have dn5:m'≠m:=(g0 hT.m nm').symm
    have dn6:f'≠f:=(g0 hT.f nf').symm
    have dn7:bl'≠bl:=(g0 hT.b nb').symm
    walk_at "e"
    refine hx [some (.ref a),some (.int c),some (.ref lk),some (.ref b),some (.int ds[i]),some (.ref lx),some (.ref ln),some (.ref st),some (.ref st'),some (.ref d7),some (.ref R.a),v11,some (.ref h11)] _ ?_
    clear hx
    walk_at "e"
    refine .inr ⟨[true,true,true],b0m T12 T12' cL.w cR.w dn1 dn2 dn3 dn4 dn5 dn6 dn7 mp.nds (fo.nd1 hT.r.r.nd),?_⟩
    rw[show(!List.all [true,true,true] id)=false from rfl]
    walk_at "e"
    refine⟨st',r',m',f',bl',L',R',_,_,rfl,T12',dok'.fit.txt,hF0,fun d8 G13 u1 u2 n8 m14 o8 f8=>?_⟩
    rw[cR.w] at o8
    rw[cL.w] at f8
    obtain⟨e81,e82⟩:=o8.uniq o7 (List.Perm.refl _) (List.Perm.refl _) hT.r.r.nd
    rw[←e81,←e82,←ems] at f8
    walk_at "e"
    refine b2n f8 (m14 _ _ a2') ndk ?_
    walk_at "e"
    exact⟨⟨_,_,_,_,_,_,_,_,_,rfl⟩,sG5.trans (m9.trans (a1'.trans m14))⟩
  ·rintro σ G ⟨⟨v4,v5,v6,v7,v8,v9,v10,v11,v12,rfl⟩,sG⟩
   refine⟨⟨_,SqL.of (sG _ _ f5),by rw[List.length_map];exact Nat.le_refl _⟩,?_⟩
   walk_at "e"
   exact k _
end
theorem all_mk {l:PySem.W.OpenLaw}{w:World}{K:PySem.W.Frag}{h:Heap}{mg:Str→Option Value}{fa f0 f1 f2 f3 f4 f5 f6 f7 f8 f9 f10 f11 f12 f13 f14 f15 f16 f17 f18 f19 f20 f21 f22 f23 f24 f25 f26 f27 f28 f29 f30 f31 f32 f33 f34 f35 f36 f37 f38 f39 f40 f41 f42 f43 f44 f45 f46 f47:Addr}{od0 an0 od1 an1 od2 an2 od3 an3 od4 an4 od5 an5 od6 an6 od7 an7 od8 an8 od9 an9 od10 an10 od11 an11 od12 an12 od13 an13 od14 an14 od15 an15 od16 an16 od17 an17 od18 an18 od19 an19 od20 an20 od21 an21 od22 an22 od23 an23 od24 an24 od25 an25 od26 an26 od27 an27 od28 an28 od29 an29 od30 an30 od31 an31 od32 an32 od33 an33 od34 an34 od35 an35 od36 an36 od37 an37 od38 an38 od39 an39 od40 an40 od41 an41 od42 an42 od43 an43 od44 an44 od45 an45 od46 an46 od47 an47:Option Addr}{sl0 sl1 sl2 sl3 sl4 sl5 sl6 sl7 sl8 sl9 sl10 sl11 sl12 sl13 sl14 sl15 sl16 sl17 sl18 sl19 sl20 sl21 sl22 sl23 sl24 sl25 sl26 sl27 sl28 sl29 sl30 sl31 sl32 sl33 sl34 sl35 sl36 sl37 sl38 sl39 sl40 sl41 sl42 sl43 sl44 sl45 sl46 sl47:Array (Option Value)}{oc0 kV0 dc0 pm0 cd0 ct0 oc1 kV1 dc1 pm1 cd1 ct1 oc2 kV2 dc2 pm2 cd2 ct2 oc3 kV3 dc3 pm3 cd3 ct3 oc4 kV4 dc4 pm4 cd4 ct4 oc5 kV5 dc5 pm5 cd5 ct5 oc6 kV6 dc6 pm6 cd6 ct6 oc7 kV7 dc7 pm7 cd7 ct7 oc8 kV8 dc8 pm8 cd8 ct8 oc9 kV9 dc9 pm9 cd9 ct9 oc10 kV10 dc10 pm10 cd10 ct10 oc11 kV11 dc11 pm11 cd11 ct11 oc12 kV12 dc12 pm12 cd12 ct12 oc13 kV13 dc13 pm13 cd13 ct13 oc14 kV14 dc14 pm14 cd14 ct14 oc15 kV15 dc15 pm15 cd15 ct15 oc16 kV16 dc16 pm16 cd16 ct16 oc17 kV17 dc17 pm17 cd17 ct17 oc18 kV18 dc18 pm18 cd18 ct18 oc19 kV19 dc19 pm19 cd19 ct19 oc20 kV20 dc20 pm20 cd20 ct20 oc21 kV21 dc21 pm21 cd21 ct21 oc22 kV22 dc22 pm22 cd22 ct22 oc23 kV23 dc23 pm23 cd23 ct23 oc24 kV24 dc24 pm24 cd24 ct24 oc25 kV25 dc25 pm25 cd25 ct25 oc26 kV26 dc26 pm26 cd26 ct26 oc27 kV27 dc27 pm27 cd27 ct27 oc28 kV28 dc28 pm28 cd28 ct28 oc29 kV29 dc29 pm29 cd29 ct29 oc30 kV30 dc30 pm30 cd30 ct30 oc31 kV31 dc31 pm31 cd31 ct31 oc32 kV32 dc32 pm32 cd32 ct32 oc33 kV33 dc33 pm33 cd33 ct33 oc34 kV34 dc34 pm34 cd34 ct34 oc35 kV35 dc35 pm35 cd35 ct35 oc36 kV36 dc36 pm36 cd36 ct36 oc37 kV37 dc37 pm37 cd37 ct37 oc38 kV38 dc38 pm38 cd38 ct38 oc39 kV39 dc39 pm39 cd39 ct39 oc40 kV40 dc40 pm40 cd40 ct40 oc41 kV41 dc41 pm41 cd41 ct41 oc42 kV42 dc42 pm42 cd42 ct42 oc43 kV43 dc43 pm43 cd43 ct43 oc44 kV44 dc44 pm44 cd44 ct44 oc45 kV45 dc45 pm45 cd45 ct45 oc46 kV46 dc46 pm46 cd46 ct46 oc47 kV47 dc47 pm47 cd47 ct47:Value}{t_MOST_NAME_SIGNS t_NAME_SIGNS t_SMALL_LETTERS:Tok}{C_Barred C_Loose C_NoMatch C_NoNames:Addr}(X:K.In h)(G:h.Ns mainGlobals mg)(hfa:mg "law"=some (.ref fa))
  (a0:PySem.W.nsIn K mainGlobals "is_text_of"=some (some (.ref f0))) (l0:K.lookup f0=some ⟨oc0,od0,.func (PySem.W.fnOf "is_text_of" "is_text_of" (j4 I0) (j0 I0) (b5 I0) .none kV0 dc0 pm0 an0 cd0 ct0),sl0⟩) (c0:PySem.W.codeIn K cd0 "is_text_of"=true) (k0:PySem.W.keepIn K (.ref f0)=true)
  (a1:PySem.W.nsIn K mainGlobals "is_name"=some (some (.ref f1))) (l1:K.lookup f1=some ⟨oc1,od1,.func (PySem.W.fnOf "is_name" "is_name" (j4 Q4) (j0 Q4) (b5 Q4) .none kV1 dc1 pm1 an1 cd1 ct1),sl1⟩) (c1:PySem.W.codeIn K cd1 "is_name"=true) (k1:PySem.W.keepIn K (.ref f1)=true)
  (a2:PySem.W.nsIn K mainGlobals "in_order"=some (some (.ref f2))) (l2:K.lookup f2=some ⟨oc2,od2,.func (PySem.W.fnOf "in_order" "in_order" (j4 N6) (j0 N6) (b5 N6) .none kV2 dc2 pm2 an2 cd2 ct2),sl2⟩) (c2:PySem.W.codeIn K cd2 "in_order"=true) (k2:PySem.W.keepIn K (.ref f2)=true)
  (a3:PySem.W.nsIn K mainGlobals "copied"=some (some (.ref f3))) (l3:K.lookup f3=some ⟨oc3,od3,.func (PySem.W.fnOf "copied" "copied" (j4 X1) (j0 X1) (b5 X1) .none kV3 dc3 pm3 an3 cd3 ct3),sl3⟩) (c3:PySem.W.codeIn K cd3 "copied"=true) (k3:PySem.W.keepIn K (.ref f3)=true)
  (a4:PySem.W.nsIn K mainGlobals "things"=some (some (.ref f4))) (l4:K.lookup f4=some ⟨oc4,od4,.func (PySem.W.fnOf "things" "things" (j4 W0) (j0 W0) (b5 W0) .none kV4 dc4 pm4 an4 cd4 ct4),sl4⟩) (c4:PySem.W.codeIn K cd4 "things"=true) (k4:PySem.W.keepIn K (.ref f4)=true)
  (a5:PySem.W.nsIn K mainGlobals "without"=some (some (.ref f5))) (l5:K.lookup f5=some ⟨oc5,od5,.func (PySem.W.fnOf "without" "without" (j4 Q3) (j0 Q3) (b5 Q3) .none kV5 dc5 pm5 an5 cd5 ct5),sl5⟩) (c5:PySem.W.codeIn K cd5 "without"=true) (k5:PySem.W.keepIn K (.ref f5)=true)
  (a6:PySem.W.nsIn K mainGlobals "united"=some (some (.ref f6))) (l6:K.lookup f6=some ⟨oc6,od6,.func (PySem.W.fnOf "united" "united" (j4 X4) (j0 X4) (b5 X4) .none kV6 dc6 pm6 an6 cd6 ct6),sl6⟩) (c6:PySem.W.codeIn K cd6 "united"=true) (k6:PySem.W.keepIn K (.ref f6)=true)
  (a7:PySem.W.nsIn K mainGlobals "tie_renamed"=some (some (.ref f7))) (l7:K.lookup f7=some ⟨oc7,od7,.func (PySem.W.fnOf "tie_renamed" "tie_renamed" (j4 C6) (j0 C6) (b5 C6) .none kV7 dc7 pm7 an7 cd7 ct7),sl7⟩) (c7:PySem.W.codeIn K cd7 "tie_renamed"=true) (k7:PySem.W.keepIn K (.ref f7)=true)
  (a8:PySem.W.nsIn K mainGlobals "renamed"=some (some (.ref f8))) (l8:K.lookup f8=some ⟨oc8,od8,.func (PySem.W.fnOf "renamed" "renamed" (j4 Q1) (j0 Q1) (b5 Q1) .none kV8 dc8 pm8 an8 cd8 ct8),sl8⟩) (c8:PySem.W.codeIn K cd8 "renamed"=true) (k8:PySem.W.keepIn K (.ref f8)=true)
  (a9:PySem.W.nsIn K mainGlobals "is_match"=some (some (.ref f9))) (l9:K.lookup f9=some ⟨oc9,od9,.func (PySem.W.fnOf "is_match" "is_match" (j4 M9) (j0 M9) (b5 M9) .none kV9 dc9 pm9 an9 cd9 ct9),sl9⟩) (c9:PySem.W.codeIn K cd9 "is_match"=true) (k9:PySem.W.keepIn K (.ref f9)=true)
  (a10:PySem.W.nsIn K mainGlobals "line"=some (some (.ref f10))) (l10:K.lookup f10=some ⟨oc10,od10,.func (PySem.W.fnOf "line" "line" (j4 a2o) (j0 a2o) (b5 a2o) .none kV10 dc10 pm10 an10 cd10 ct10),sl10⟩) (c10:PySem.W.codeIn K cd10 "line"=true) (k10:PySem.W.keepIn K (.ref f10)=true)
  (a11:PySem.W.nsIn K mainGlobals "first_match"=some (some (.ref f11))) (l11:K.lookup f11=some ⟨oc11,od11,.func (PySem.W.fnOf "first_match" "first_match" (j4 D0) (j0 D0) (b5 D0) .none kV11 dc11 pm11 an11 cd11 ct11),sl11⟩) (c11:PySem.W.codeIn K cd11 "first_match"=true) (k11:PySem.W.keepIn K (.ref f11)=true)
  (a12:PySem.W.nsIn K mainGlobals "first_found"=some (some (.ref f12))) (l12:K.lookup f12=some ⟨oc12,od12,.func (PySem.W.fnOf "first_found" "first_found" (j4 C5) (j0 C5) (b5 C5) .none kV12 dc12 pm12 an12 cd12 ct12),sl12⟩) (c12:PySem.W.codeIn K cd12 "first_found"=true) (k12:PySem.W.keepIn K (.ref f12)=true)
  (a13:PySem.W.nsIn K mainGlobals "found"=some (some (.ref f13))) (l13:K.lookup f13=some ⟨oc13,od13,.func (PySem.W.fnOf "found" "found" (j4 a0Q) (j0 a0Q) (b5 a0Q) .none kV13 dc13 pm13 an13 cd13 ct13),sl13⟩) (c13:PySem.W.codeIn K cd13 "found"=true) (k13:PySem.W.keepIn K (.ref f13)=true)
  (a14:PySem.W.nsIn K mainGlobals "may_be"=some (some (.ref f14))) (l14:K.lookup f14=some ⟨oc14,od14,.func (PySem.W.fnOf "may_be" "may_be" (j4 X5) (j0 X5) (b5 X5) .none kV14 dc14 pm14 an14 cd14 ct14),sl14⟩) (c14:PySem.W.codeIn K cd14 "may_be"=true) (k14:PySem.W.keepIn K (.ref f14)=true)
  (a15:PySem.W.nsIn K mainGlobals "point_choices"=some (some (.ref f15))) (l15:K.lookup f15=some ⟨oc15,od15,.func (PySem.W.fnOf "point_choices" "point_choices" (j4 A6) (j0 A6) (b5 A6) .none kV15 dc15 pm15 an15 cd15 ct15),sl15⟩) (c15:PySem.W.codeIn K cd15 "point_choices"=true) (k15:PySem.W.keepIn K (.ref f15)=true)
  (a16:PySem.W.nsIn K mainGlobals "tie_places"=some (some (.ref f16))) (l16:K.lookup f16=some ⟨oc16,od16,.func (PySem.W.fnOf "tie_places" "tie_places" (j4 G0) (j0 G0) (b5 G0) .none kV16 dc16 pm16 an16 cd16 ct16),sl16⟩) (c16:PySem.W.codeIn K cd16 "tie_places"=true) (k16:PySem.W.keepIn K (.ref f16)=true)
  (a17:PySem.W.nsIn K mainGlobals "enough"=some (some (.ref f17))) (l17:K.lookup f17=some ⟨oc17,od17,.func (PySem.W.fnOf "enough" "enough" (j4 X8) (j0 X8) (b5 X8) .none kV17 dc17 pm17 an17 cd17 ct17),sl17⟩) (c17:PySem.W.codeIn K cd17 "enough"=true) (k17:PySem.W.keepIn K (.ref f17)=true)
  (a18:PySem.W.nsIn K mainGlobals "lines"=some (some (.ref f18))) (l18:K.lookup f18=some ⟨oc18,od18,.func (PySem.W.fnOf "lines" "lines" (j4 a0S) (j0 a0S) (b5 a0S) .none kV18 dc18 pm18 an18 cd18 ct18),sl18⟩) (c18:PySem.W.codeIn K cd18 "lines"=true) (k18:PySem.W.keepIn K (.ref f18)=true)
  (a19:PySem.W.nsIn K mainGlobals "images"=some (some (.ref f19))) (l19:K.lookup f19=some ⟨oc19,od19,.func (PySem.W.fnOf "images" "images" (j4 Y6) (j0 Y6) (b5 Y6) .none kV19 dc19 pm19 an19 cd19 ct19),sl19⟩) (c19:PySem.W.codeIn K cd19 "images"=true) (k19:PySem.W.keepIn K (.ref f19)=true)
  (a20:PySem.W.nsIn K mainGlobals "tie_choices"=some (some (.ref f20))) (l20:K.lookup f20=some ⟨oc20,od20,.func (PySem.W.fnOf "tie_choices" "tie_choices" (j4 C4) (j0 C4) (b5 C4) .none kV20 dc20 pm20 an20 cd20 ct20),sl20⟩) (c20:PySem.W.codeIn K cd20 "tie_choices"=true) (k20:PySem.W.keepIn K (.ref f20)=true)
  (a21:PySem.W.nsIn K mainGlobals "has_room"=some (some (.ref f21))) (l21:K.lookup f21=some ⟨oc21,od21,.func (PySem.W.fnOf "has_room" "has_room" (j4 M7) (j0 M7) (b5 M7) .none kV21 dc21 pm21 an21 cd21 ct21),sl21⟩) (c21:PySem.W.codeIn K cd21 "has_room"=true) (k21:PySem.W.keepIn K (.ref f21)=true)
  (a22:PySem.W.nsIn K mainGlobals "both"=some (some (.ref f22))) (l22:K.lookup f22=some ⟨oc22,od22,.func (PySem.W.fnOf "both" "both" (j4 a1X) (j0 a1X) (b5 a1X) .none kV22 dc22 pm22 an22 cd22 ct22),sl22⟩) (c22:PySem.W.codeIn K cd22 "both"=true) (k22:PySem.W.keepIn K (.ref f22)=true)
  (a23:PySem.W.nsIn K mainGlobals "alone"=some (some (.ref f23))) (l23:K.lookup f23=some ⟨oc23,od23,.func (PySem.W.fnOf "alone" "alone" (j4 a0V) (j0 a0V) (b5 a0V) .none kV23 dc23 pm23 an23 cd23 ct23),sl23⟩) (c23:PySem.W.codeIn K cd23 "alone"=true) (k23:PySem.W.keepIn K (.ref f23)=true)
  (a24:PySem.W.nsIn K mainGlobals "kept"=some (some (.ref f24))) (l24:K.lookup f24=some ⟨oc24,od24,.func (PySem.W.fnOf "kept" "kept" (j4 a2d) (j0 a2d) (b5 a2d) .none kV24 dc24 pm24 an24 cd24 ct24),sl24⟩) (c24:PySem.W.codeIn K cd24 "kept"=true) (k24:PySem.W.keepIn K (.ref f24)=true)
  (a25:PySem.W.nsIn K mainGlobals "taken"=some (some (.ref f25))) (l25:K.lookup f25=some ⟨oc25,od25,.func (PySem.W.fnOf "taken" "taken" (j4 a0T) (j0 a0T) (b5 a0T) .none kV25 dc25 pm25 an25 cd25 ct25),sl25⟩) (c25:PySem.W.codeIn K cd25 "taken"=true) (k25:PySem.W.keepIn K (.ref f25)=true)
  (a26:PySem.W.nsIn K mainGlobals "fresh_of"=some (some (.ref f26))) (l26:K.lookup f26=some ⟨oc26,od26,.func (PySem.W.fnOf "fresh_of" "fresh_of" (j4 N2) (j0 N2) (b5 N2) .none kV26 dc26 pm26 an26 cd26 ct26),sl26⟩) (c26:PySem.W.codeIn K cd26 "fresh_of"=true) (k26:PySem.W.keepIn K (.ref f26)=true)
  (a27:PySem.W.nsIn K mainGlobals "picked"=some (some (.ref f27))) (l27:K.lookup f27=some ⟨oc27,od27,.func (PySem.W.fnOf "picked" "picked" (j4 X7) (j0 X7) (b5 X7) .none kV27 dc27 pm27 an27 cd27 ct27),sl27⟩) (c27:PySem.W.codeIn K cd27 "picked"=true) (k27:PySem.W.keepIn K (.ref f27)=true)
  (a28:PySem.W.nsIn K mainGlobals "barred"=some (some (.ref f28))) (l28:K.lookup f28=some ⟨oc28,od28,.func (PySem.W.fnOf "barred" "barred" (j4 Y3) (j0 Y3) (b5 Y3) .none kV28 dc28 pm28 an28 cd28 ct28),sl28⟩) (c28:PySem.W.codeIn K cd28 "barred"=true) (k28:PySem.W.keepIn K (.ref f28)=true)
  (a29:PySem.W.nsIn K mainGlobals "taken_out"=some (some (.ref f29))) (l29:K.lookup f29=some ⟨oc29,od29,.func (PySem.W.fnOf "taken_out" "taken_out" (j4 K0) (j0 K0) (b5 K0) .none kV29 dc29 pm29 an29 cd29 ct29),sl29⟩) (c29:PySem.W.codeIn K cd29 "taken_out"=true) (k29:PySem.W.keepIn K (.ref f29)=true)
  (a30:PySem.W.nsIn K mainGlobals "names_serve"=some (some (.ref f30))) (l30:K.lookup f30=some ⟨oc30,od30,.func (PySem.W.fnOf "names_serve" "names_serve" (j4 C8) (j0 C8) (b5 C8) .none kV30 dc30 pm30 an30 cd30 ct30),sl30⟩) (c30:PySem.W.codeIn K cd30 "names_serve"=true) (k30:PySem.W.keepIn K (.ref f30)=true)
  (a31:PySem.W.nsIn K mainGlobals "rest_of"=some (some (.ref f31))) (l31:K.lookup f31=some ⟨oc31,od31,.func (PySem.W.fnOf "rest_of" "rest_of" (j4 Q2) (j0 Q2) (b5 Q2) .none kV31 dc31 pm31 an31 cd31 ct31),sl31⟩) (c31:PySem.W.codeIn K cd31 "rest_of"=true) (k31:PySem.W.keepIn K (.ref f31)=true)
  (a32:PySem.W.nsIn K mainGlobals "done"=some (some (.ref f32))) (l32:K.lookup f32=some ⟨oc32,od32,.func (PySem.W.fnOf "done" "done" (j4 a2j) (j0 a2j) (b5 a2j) .none kV32 dc32 pm32 an32 cd32 ct32),sl32⟩) (c32:PySem.W.codeIn K cd32 "done"=true) (k32:PySem.W.keepIn K (.ref f32)=true)
  (a33:PySem.W.nsIn K mainGlobals "behind"=some (some (.ref f33))) (l33:K.lookup f33=some ⟨oc33,od33,.func (PySem.W.fnOf "behind" "behind" (j4 X2) (j0 X2) (b5 X2) .none kV33 dc33 pm33 an33 cd33 ct33),sl33⟩) (c33:PySem.W.codeIn K cd33 "behind"=true) (k33:PySem.W.keepIn K (.ref f33)=true)
  (a34:PySem.W.nsIn K mainGlobals "_law_cell_at"=some (some (.ref f34))) (l34:K.lookup f34=some ⟨oc34,od34,.func (PySem.W.fnOf "_law_cell_at" "_law_cell_at" (j4 B5) (j0 B5) (b5 B5) .none kV34 dc34 pm34 an34 cd34 ct34),sl34⟩) (c34:PySem.W.codeIn K cd34 "_law_cell_at"=true) (k34:PySem.W.keepIn K (.ref f34)=true)
  (a35:PySem.W.nsIn K mainGlobals "_law_mixed"=some (some (.ref f35))) (l35:K.lookup f35=some ⟨oc35,od35,.func (PySem.W.fnOf "_law_mixed" "_law_mixed" (j4 E6) (j0 E6) (b5 E6) .none kV35 dc35 pm35 an35 cd35 ct35),sl35⟩) (c35:PySem.W.codeIn K cd35 "_law_mixed"=true) (k35:PySem.W.keepIn K (.ref f35)=true)
  (a36:PySem.W.nsIn K mainGlobals "_law_stream"=some (some (.ref f36))) (l36:K.lookup f36=some ⟨oc36,od36,.func (PySem.W.fnOf "_law_stream" "_law_stream" (j4 C3) (j0 C3) (b5 C3) .none kV36 dc36 pm36 an36 cd36 ct36),sl36⟩) (c36:PySem.W.codeIn K cd36 "_law_stream"=true) (k36:PySem.W.keepIn K (.ref f36)=true)
  (a37:PySem.W.nsIn K mainGlobals "_law_name"=some (some (.ref f37))) (l37:K.lookup f37=some ⟨oc37,od37,.func (PySem.W.fnOf "_law_name" "_law_name" (j4 K9) (j0 K9) (b5 K9) .none kV37 dc37 pm37 an37 cd37 ct37),sl37⟩) (c37:PySem.W.codeIn K cd37 "_law_name"=true) (k37:PySem.W.keepIn K (.ref f37)=true)
  (a38:PySem.W.nsIn K mainGlobals "_law_words"=some (some (.ref f38))) (l38:K.lookup f38=some ⟨oc38,od38,.func (PySem.W.fnOf "_law_words" "_law_words" (j4 E9) (j0 E9) (b5 E9) .none kV38 dc38 pm38 an38 cd38 ct38),sl38⟩) (c38:PySem.W.codeIn K cd38 "_law_words"=true) (k38:PySem.W.keepIn K (.ref f38)=true)
  (a39:PySem.W.nsIn K mainGlobals "_law_web"=some (some (.ref f39))) (l39:K.lookup f39=some ⟨oc39,od39,.func (PySem.W.fnOf "_law_web" "_law_web" (j4 N1) (j0 N1) (b5 N1) .none kV39 dc39 pm39 an39 cd39 ct39),sl39⟩) (c39:PySem.W.codeIn K cd39 "_law_web"=true) (k39:PySem.W.keepIn K (.ref f39)=true)
  (a40:PySem.W.nsIn K mainGlobals "_law_picked"=some (some (.ref f40))) (l40:K.lookup f40=some ⟨oc40,od40,.func (PySem.W.fnOf "_law_picked" "_law_picked" (j4 C9) (j0 C9) (b5 C9) .none kV40 dc40 pm40 an40 cd40 ct40),sl40⟩) (c40:PySem.W.codeIn K cd40 "_law_picked"=true) (k40:PySem.W.keepIn K (.ref f40)=true)
  (a41:PySem.W.nsIn K mainGlobals "_law_out"=some (some (.ref f41))) (l41:K.lookup f41=some ⟨oc41,od41,.func (PySem.W.fnOf "_law_out" "_law_out" (j4 M8) (j0 M8) (b5 M8) .none kV41 dc41 pm41 an41 cd41 ct41),sl41⟩) (c41:PySem.W.codeIn K cd41 "_law_out"=true) (k41:PySem.W.keepIn K (.ref f41)=true)
  (a42:PySem.W.nsIn K mainGlobals "_law_rule"=some (some (.ref f42))) (l42:K.lookup f42=some ⟨oc42,od42,.func (PySem.W.fnOf "_law_rule" "_law_rule" (j4 K3) (j0 K3) (b5 K3) .none kV42 dc42 pm42 an42 cd42 ct42),sl42⟩) (c42:PySem.W.codeIn K cd42 "_law_rule"=true) (k42:PySem.W.keepIn K (.ref f42)=true)
  (a43:PySem.W.nsIn K mainGlobals "_law_step"=some (some (.ref f43))) (l43:K.lookup f43=some ⟨oc43,od43,.func (PySem.W.fnOf "_law_step" "_law_step" (j4 K2) (j0 K2) (b5 K2) .none kV43 dc43 pm43 an43 cd43 ct43),sl43⟩) (c43:PySem.W.codeIn K cd43 "_law_step"=true) (k43:PySem.W.keepIn K (.ref f43)=true)
  (a44:PySem.W.nsIn K mainGlobals "_law_copy"=some (some (.ref f44))) (l44:K.lookup f44=some ⟨oc44,od44,.func (PySem.W.fnOf "_law_copy" "_law_copy" (j4 L0) (j0 L0) (b5 L0) .none kV44 dc44 pm44 an44 cd44 ct44),sl44⟩) (c44:PySem.W.codeIn K cd44 "_law_copy"=true) (k44:PySem.W.keepIn K (.ref f44)=true)
  (a45:PySem.W.nsIn K mainGlobals "_law_fits"=some (some (.ref f45))) (l45:K.lookup f45=some ⟨oc45,od45,.func (PySem.W.fnOf "_law_fits" "_law_fits" (j4 K5) (j0 K5) (b5 K5) .none kV45 dc45 pm45 an45 cd45 ct45),sl45⟩) (c45:PySem.W.codeIn K cd45 "_law_fits"=true) (k45:PySem.W.keepIn K (.ref f45)=true)
  (a46:PySem.W.nsIn K mainGlobals "_law_set"=some (some (.ref f46))) (l46:K.lookup f46=some ⟨oc46,od46,.func (PySem.W.fnOf "_law_set" "_law_set" (j4 N5) (j0 N5) (b5 N5) .none kV46 dc46 pm46 an46 cd46 ct46),sl46⟩) (c46:PySem.W.codeIn K cd46 "_law_set"=true) (k46:PySem.W.keepIn K (.ref f46)=true)
  (a47:PySem.W.nsIn K mainGlobals "law"=some (some (.ref f47))) (l47:K.lookup f47=some ⟨oc47,od47,.func (PySem.W.fnOf "law" "law" (j4 a1G) (j0 a1G) (b5 a1G) .none kV47 dc47 pm47 an47 cd47 ct47),sl47⟩) (c47:PySem.W.codeIn K cd47 "law"=true) (k47:PySem.W.keepIn K (.ref f47)=true)
  (z_all:PySem.W.nsIn K mainGlobals "all"=some none)
  (z_any:PySem.W.nsIn K mainGlobals "any"=some none)
  (z_dict:PySem.W.nsIn K mainGlobals "dict"=some none)
  (z_enumerate:PySem.W.nsIn K mainGlobals "enumerate"=some none)
  (z_int:PySem.W.nsIn K mainGlobals "int"=some none)
  (z_isinstance:PySem.W.nsIn K mainGlobals "isinstance"=some none)
  (z_len:PySem.W.nsIn K mainGlobals "len"=some none)
  (z_list:PySem.W.nsIn K mainGlobals "list"=some none)
  (z_min:PySem.W.nsIn K mainGlobals "min"=some none)
  (z_range:PySem.W.nsIn K mainGlobals "range"=some none)
  (z_set:PySem.W.nsIn K mainGlobals "set"=some none)
  (z_sorted:PySem.W.nsIn K mainGlobals "sorted"=some none)
  (z_str:PySem.W.nsIn K mainGlobals "str"=some none)
  (v_MOST_NAME_SIGNS:PySem.W.nsIn K mainGlobals "MOST_NAME_SIGNS"=some (some (.int 24 t_MOST_NAME_SIGNS)))
  (v_NAME_SIGNS:PySem.W.nsIn K mainGlobals "NAME_SIGNS"=some (some (.str a1R t_NAME_SIGNS)))
  (v_SMALL_LETTERS:PySem.W.nsIn K mainGlobals "SMALL_LETTERS"=some (some (.str a0j t_SMALL_LETTERS)))
  (n_Barred:PySem.W.nsIn K mainGlobals "Barred"=some (some (.ref C_Barred)))
  (n_Loose:PySem.W.nsIn K mainGlobals "Loose"=some (some (.ref C_Loose)))
  (n_NoMatch:PySem.W.nsIn K mainGlobals "NoMatch"=some (some (.ref C_NoMatch)))
  (n_NoNames:PySem.W.nsIn K mainGlobals "NoNames"=some (some (.ref C_NoNames)))
  (xr_Barred:PySem.W.excIn K C_Barred bmV "ValueError.__new__"=true)
  (xr_Loose:PySem.W.excIn K C_Loose bmV "ValueError.__new__"=true)
  (xr_NoMatch:PySem.W.excIn K C_NoMatch bmV "ValueError.__new__"=true)
  (xr_NoNames:PySem.W.excIn K C_NoNames bmV "ValueError.__new__"=true)
  :
  ∃fd:FuncData,(∀(s:Shared) (v:Value),BindsTo s fd ⟨[v],[]⟩ [("_law_script",v)])∧∀base:Heap,K.In base→base.Ns mainGlobals mg→FnOk l.prog w K mg base CX0 7 fa fd ["_law_script"] (a4W K):=by
 have e:=hfa.symm.trans (PySem.W.mg_of X G a47)
 cases e
 have ec_Barred:cA K "Barred"=C_Barred:=by unfold cA;rw[n_Barred]
 have ec_Loose:cA K "Loose"=C_Loose:=by unfold cA;rw[n_Loose]
 have ec_NoMatch:cA K "NoMatch"=C_NoMatch:=by unfold cA;rw[n_NoMatch]
 have ec_NoNames:cA K "NoNames"=C_NoNames:=by unfold cA;rw[n_NoNames]
 have T:Txt K mg:=⟨by rw[ec_Barred];exact⟨PySem.W.mg_of X G n_Barred,xr_Barred⟩,by rw[ec_Loose];exact⟨PySem.W.mg_of X G n_Loose,xr_Loose⟩,by rw[ec_NoMatch];exact⟨PySem.W.mg_of X G n_NoMatch,xr_NoMatch⟩,by rw[ec_NoNames];exact⟨PySem.W.mg_of X G n_NoNames,xr_NoNames⟩,PySem.W.mg_none_of X G z_all,PySem.W.mg_none_of X G z_any,PySem.W.mg_none_of X G z_dict,PySem.W.mg_none_of X G z_enumerate,PySem.W.mg_none_of X G z_int,PySem.W.mg_none_of X G z_isinstance,PySem.W.mg_none_of X G z_len,PySem.W.mg_none_of X G z_list,PySem.W.mg_none_of X G z_min,PySem.W.mg_none_of X G z_range,PySem.W.mg_none_of X G z_set,PySem.W.mg_none_of X G z_sorted,PySem.W.mg_none_of X G z_str,⟨_,PySem.W.mg_of X G v_MOST_NAME_SIGNS,_,rfl⟩,⟨_,PySem.W.mg_of X G v_NAME_SIGNS,_,rfl⟩,⟨_,PySem.W.mg_of X G v_SMALL_LETTERS,_,rfl⟩⟩
 have F0:=j9 (st:=I0) l0 c0 k0
 have F1:=j9 (st:=Q4) l1 c1 k1
 have F2:=j9 (st:=N6) l2 c2 k2
 have F3:=j9 (st:=X1) l3 c3 k3
 have F4:=j9 (st:=W0) l4 c4 k4
 have F5:=j9 (st:=Q3) l5 c5 k5
 have F6:=j9 (st:=X4) l6 c6 k6
 have F7:=j9 (st:=C6) l7 c7 k7
 have F8:=j9 (st:=Q1) l8 c8 k8
 have F9:=j9 (st:=M9) l9 c9 k9
 have F10:=j9 (st:=a2o) l10 c10 k10
 have F11:=j9 (st:=D0) l11 c11 k11
 have F12:=j9 (st:=C5) l12 c12 k12
 have F13:=j9 (st:=a0Q) l13 c13 k13
 have F14:=j9 (st:=X5) l14 c14 k14
 have F15:=j9 (st:=A6) l15 c15 k15
 have F16:=j9 (st:=G0) l16 c16 k16
 have F17:=j9 (st:=X8) l17 c17 k17
 have F18:=j9 (st:=a0S) l18 c18 k18
 have F19:=j9 (st:=Y6) l19 c19 k19
 have F20:=j9 (st:=C4) l20 c20 k20
 have F21:=j9 (st:=M7) l21 c21 k21
 have F22:=j9 (st:=a1X) l22 c22 k22
 have F23:=j9 (st:=a0V) l23 c23 k23
 have F24:=j9 (st:=a2d) l24 c24 k24
 have F25:=j9 (st:=a0T) l25 c25 k25
 have F26:=j9 (st:=N2) l26 c26 k26
 have F27:=j9 (st:=X7) l27 c27 k27
 have F28:=j9 (st:=Y3) l28 c28 k28
 have F29:=j9 (st:=K0) l29 c29 k29
 have F30:=j9 (st:=C8) l30 c30 k30
 have F31:=j9 (st:=Q2) l31 c31 k31
 have F32:=j9 (st:=a2j) l32 c32 k32
 have F33:=j9 (st:=X2) l33 c33 k33
 have F34:=j9 (st:=B5) l34 c34 k34
 have F35:=j9 (st:=E6) l35 c35 k35
 have F36:=j9 (st:=C3) l36 c36 k36
 have F37:=j9 (st:=K9) l37 c37 k37
 have F38:=j9 (st:=E9) l38 c38 k38
 have F39:=j9 (st:=N1) l39 c39 k39
 have F40:=j9 (st:=C9) l40 c40 k40
 have F41:=j9 (st:=M8) l41 c41 k41
 have F42:=j9 (st:=K3) l42 c42 k42
 have F43:=j9 (st:=K2) l43 c43 k43
 have F44:=j9 (st:=L0) l44 c44 k44
 have F45:=j9 (st:=K5) l45 c45 k45
 have F46:=j9 (st:=N5) l46 c46 k46
 have F47:=j9 (st:=a1G) l47 c47 k47
 refine⟨PySem.W.fnOf "law" "law" (j4 a1G) (j0 a1G) (b5 a1G) .none kV47 dc47 pm47 an47 cd47 ct47,fun s v=> .of_eq rfl,fun base _ _=>?_⟩
 have Y9:Cal l.prog w K mg base CX0 1 "is_text_of" ["thing","signs","most"] [] (V4 K):=⟨f0,_,[],a3T T F0,PySem.W.mg_of X G a0,k0,F0.binds (ps:=["thing","signs","most"]) fun _ _ _ _ _ _ us hl=>match us,hl with|[_,_,_],_=>rfl,.nil⟩
 have Z0:Cal l.prog w K mg base CX0 1 "in_order" ["named"] [] (a0F K):=⟨f2,_,[],a6s T F2,PySem.W.mg_of X G a2,k2,F2.binds (ps:=["named"]) fun _ _ _ _ _ _ us hl=>match us,hl with|[_],_=>rfl,.nil⟩
 have A1:Cal l.prog w K mg base CX0 1 "things" ["web"] [] (N4 K):=⟨f4,_,[],a7Y T F4,PySem.W.mg_of X G a4,k4,F4.binds (ps:=["web"]) fun _ _ _ _ _ _ us hl=>match us,hl with|[_],_=>rfl,.nil⟩
 have C0:Cal l.prog w K mg base CX0 1 "tie_renamed" ["tie","names"] [] (L7 K):=⟨f7,_,[],a2X T F7,PySem.W.mg_of X G a7,k7,F7.binds (ps:=["tie","names"]) fun _ _ _ _ _ _ us hl=>match us,hl with|[_,_],_=>rfl,.nil⟩
 have V2:Cal l.prog w K mg base CX0 1 "first_match" ["piece","web","fixed"] [] (S0 K):=⟨f11,_,[],a3I T F11,PySem.W.mg_of X G a11,k11,F11.binds (ps:=["piece","web","fixed"]) fun _ _ _ _ _ _ us hl=>match us,hl with|[_,_,_],_=>rfl,.nil⟩
 have b1g:Cal l.prog w K mg base CX0 1 "first_found" ["piece","web","piece_looks","web_looks","fixed"] [] (a0p K):=⟨f12,_,[],a3F T F12,PySem.W.mg_of X G a12,k12,F12.binds (ps:=["piece","web","piece_looks","web_looks","fixed"]) fun _ _ _ _ _ _ us hl=>match us,hl with|[_,_,_,_,_],_=>rfl,.nil⟩
 have b6l:Cal l.prog w K mg base CX0 1 "found" ["piece","web","piece_looks","web_looks","fixed","most"] [] (a5D K):=⟨f13,_,[],b0z T F13,PySem.W.mg_of X G a13,k13,F13.binds (ps:=["piece","web","piece_looks","web_looks","fixed","most"]) fun _ _ _ _ _ _ us hl=>match us,hl with|[_,_,_,_,_,_],_=>rfl,.nil⟩
 have b5I:Cal l.prog w K mg base CX0 1 "may_be" ["name","image","fixed"] [] (a4j K):=⟨f14,_,[],a7P T F14,PySem.W.mg_of X G a14,k14,F14.binds (ps:=["name","image","fixed"]) fun _ _ _ _ _ _ us hl=>match us,hl with|[_,_,_],_=>rfl,.nil⟩
 have a9c:Cal l.prog w K mg base CX0 1 "point_choices" ["piece_looks","web_looks","fixed"] [] (Y1 K):=⟨f15,_,[],a2p T F15,PySem.W.mg_of X G a15,k15,F15.binds (ps:=["piece_looks","web_looks","fixed"]) fun _ _ _ _ _ _ us hl=>match us,hl with|[_,_,_],_=>rfl,.nil⟩
 have b1M:Cal l.prog w K mg base CX0 1 "tie_places" ["piece","web","fixed"] [] (a0Y K):=⟨f16,_,[],a3O T F16,PySem.W.mg_of X G a16,k16,F16.binds (ps:=["piece","web","fixed"]) fun _ _ _ _ _ _ us hl=>match us,hl with|[_,_,_],_=>rfl,.nil⟩
 have b4H:Cal l.prog w K mg base CX0 1 "enough" ["lists"] [] (a4q K):=⟨f17,_,[],a8w T F17,PySem.W.mg_of X G a17,k17,F17.binds (ps:=["lists"]) fun _ _ _ _ _ _ us hl=>match us,hl with|[_],_=>rfl,.nil⟩
 have b6k:Cal l.prog w K mg base CX0 1 "lines" ["piece","choices","places","most"] [] (a5J K):=⟨f18,_,[],b0L T F18,PySem.W.mg_of X G a18,k18,F18.binds (ps:=["piece","choices","places","most"]) fun _ _ _ _ _ _ us hl=>match us,hl with|[_,_,_,_],_=>rfl,.nil⟩
 have b5v:Cal l.prog w K mg base CX0 1 "images" ["piece","choices","places","begun"] [] (a4d K):=⟨f19,_,[],a8L T F19,PySem.W.mg_of X G a19,k19,F19.binds (ps:=["piece","choices","places","begun"]) fun _ _ _ _ _ _ us hl=>match us,hl with|[_,_,_,_],_=>rfl,.nil⟩
 have b1h:Cal l.prog w K mg base CX0 1 "tie_choices" ["piece","places","put","name"] [] (a0B K):=⟨f20,_,[],a3b T F20,PySem.W.mg_of X G a20,k20,F20.binds (ps:=["piece","places","put","name"]) fun _ _ _ _ _ _ us hl=>match us,hl with|[_,_,_,_],_=>rfl,.nil⟩
 have b2S:Cal l.prog w K mg base CX0 1 "has_room" ["piece","places","put","name","image"] [] (a2s K):=⟨f21,_,[],a6q T F21,PySem.W.mg_of X G a21,k21,F21.binds (ps:=["piece","places","put","name","image"]) fun _ _ _ _ _ _ us hl=>match us,hl with|[_,_,_,_,_],_=>rfl,.nil⟩
 have a0G:Cal l.prog w K mg base CX0 1 "picked" ["put","names"] [] (a2i K):=⟨f27,_,[],a8J T F27,PySem.W.mg_of X G a27,k27,F27.binds (ps:=["put","names"]) fun _ _ _ _ _ _ us hl=>match us,hl with|[_,_],_=>rfl,.nil⟩
 have A0:Cal l.prog w K mg base CX0 1 "_law_cell_at" ["_law_script","_law_k"] [] (J2 K):=⟨f34,_,[],a2C T F34,PySem.W.mg_of X G a34,k34,F34.binds (ps:=["_law_script","_law_k"]) fun _ _ _ _ _ _ us hl=>match us,hl with|[_,_],_=>rfl,.nil⟩
 have B8:Cal l.prog w K mg base CX0 1 "_law_mixed" ["_law_cell","_law_k"] [] (O4 K):=⟨f35,_,[],a3S T F35,PySem.W.mg_of X G a35,k35,F35.binds (ps:=["_law_cell","_law_k"]) fun _ _ _ _ _ _ us hl=>match us,hl with|[_,_],_=>rfl,.nil⟩
 have V1:Cal l.prog w K mg base CX0 1 "_law_stream" ["_law_cell","_law_many"] [] (R9 K):=⟨f36,_,[],a3q T F36,PySem.W.mg_of X G a36,k36,F36.binds (ps:=["_law_cell","_law_many"]) fun _ _ _ _ _ _ us hl=>match us,hl with|[_,_],_=>rfl,.nil⟩
 have E3:Cal l.prog w K mg base CX0 1 "_law_name" ["_law_number","_law_k"] [] (P9 K):=⟨f37,_,[],a4z T F37,PySem.W.mg_of X G a37,k37,F37.binds (ps:=["_law_number","_law_k"]) fun _ _ _ _ _ _ us hl=>match us,hl with|[_,_],_=>rfl,.nil⟩
 have E7:Cal l.prog w K mg base CX0 1 "_law_words" ["_law_number","_law_many"] [] (O2 K):=⟨f38,_,[],a3R T F38,PySem.W.mg_of X G a38,k38,F38.binds (ps:=["_law_number","_law_many"]) fun _ _ _ _ _ _ us hl=>match us,hl with|[_,_],_=>rfl,.nil⟩
 have V7:Cal l.prog w K mg base CX0 1 "_law_picked" ["_law_web_here","_law_xs"] [] (S8 K):=⟨f40,_,[],a3A T F40,PySem.W.mg_of X G a40,k40,F40.binds (ps:=["_law_web_here","_law_xs"]) fun _ _ _ _ _ _ us hl=>match us,hl with|[_,_],_=>rfl,.nil⟩
 have a1f:Cal l.prog w K mg base CX0 1 "_law_out" ["_law_web_here","_law_points","_law_ties","_law_xs"] [] (a0J K):=⟨f41,_,[],a5E T F41,PySem.W.mg_of X G a41,k41,F41.binds (ps:=["_law_web_here","_law_points","_law_ties","_law_xs"]) fun _ _ _ _ _ _ us hl=>match us,hl with|[_,_,_,_],_=>rfl,.nil⟩
 have a0u:Cal l.prog w K mg base CX0 1 "_law_copy" ["_law_step_here"] [] (a0d K):=⟨f44,_,[],a4G T F44,PySem.W.mg_of X G a44,k44,F44.binds (ps:=["_law_step_here"]) fun _ _ _ _ _ _ us hl=>match us,hl with|[_],_=>rfl,.nil⟩
 have a0q:Cal l.prog w K mg base CX0 1 "_law_fits" ["_law_web_here","_law_left","_law_match"] [] (Z2 K):=⟨f45,_,[],a4T T F45,PySem.W.mg_of X G a45,k45,F45.binds (ps:=["_law_web_here","_law_left","_law_match"]) fun _ _ _ _ _ _ us hl=>match us,hl with|[_,_,_],_=>rfl,.nil⟩
 have a1W:Cal l.prog w K mg base CX0 2 "is_name" ["thing"] [] (a1s K):=⟨f1,_,[],a6W T Y9 F1,PySem.W.mg_of X G a1,k1,F1.binds (ps:=["thing"]) fun _ _ _ _ _ _ us hl=>match us,hl with|[_],_=>rfl,.nil⟩
 have L8:Cal l.prog w K mg base CX0 2 "copied" ["web"] [] (X9 K):=⟨f3,_,[],a8W T Z0 F3,PySem.W.mg_of X G a3,k3,F3.binds (ps:=["web"]) fun _ _ _ _ _ _ us hl=>match us,hl with|[_],_=>rfl,.nil⟩
 have a6u:Cal l.prog w K mg base CX0 2 "line" ["piece","match"] [] (a4Z K):=⟨f10,_,[],b1v T A1 F10,PySem.W.mg_of X G a10,k10,F10.binds (ps:=["piece","match"]) fun _ _ _ _ _ _ us hl=>match us,hl with|[_,_],_=>rfl,.nil⟩
 have a6x:Cal l.prog w K mg base CX0 2 "both" ["web","other"] [] (a5p K):=⟨f22,_,[],b2a T A1 F22,PySem.W.mg_of X G a22,k22,F22.binds (ps:=["web","other"]) fun _ _ _ _ _ _ us hl=>match us,hl with|[_,_],_=>rfl,.nil⟩
 have a0N:Cal l.prog w K mg base CX0 2 "alone" ["web","other"] [] (a1J K):=⟨f23,_,[],b0w T A1 F23,PySem.W.mg_of X G a23,k23,F23.binds (ps:=["web","other"]) fun _ _ _ _ _ _ us hl=>match us,hl with|[_,_],_=>rfl,.nil⟩
 have a3h:Cal l.prog w K mg base CX0 2 "barred" ["web","rule","match"] [] (a2f K):=⟨f28,_,[],a8M T V2 F28,PySem.W.mg_of X G a28,k28,F28.binds (ps:=["web","rule","match"]) fun _ _ _ _ _ _ us hl=>match us,hl with|[_,_,_],_=>rfl,.nil⟩
 have a1g:Cal l.prog w K mg base CX0 2 "_law_web" ["_law_script","_law_number","_law_kinds"] [] (a0y K):=⟨f39,_,[],a5C T B8 A0 E3 F39,PySem.W.mg_of X G a39,k39,F39.binds (ps:=["_law_script","_law_number","_law_kinds"]) fun _ _ _ _ _ _ us hl=>match us,hl with|[_,_,_],_=>rfl,.nil⟩
 have a0w:Cal l.prog w K mg base CX0 2 "_law_rule" ["_law_web_here","_law_xs","_law_words_here","_law_kinds"] [] (Z6 K):=⟨f42,_,[],a4B T V7 a1f F42,PySem.W.mg_of X G a42,k42,F42.binds (ps:=["_law_web_here","_law_xs","_law_words_here","_law_kinds"]) fun _ _ _ _ _ _ us hl=>match us,hl with|[_,_,_,_],_=>rfl,.nil⟩
 have a1Y:Cal l.prog w K mg base (CXE l.prog w) 3 "without" ["web","names"] [] (a1r K):=⟨f5,_,[],a6I T L8 F5,PySem.W.mg_of X G a5,k5,F5.binds (ps:=["web","names"]) fun _ _ _ _ _ _ us hl=>match us,hl with|[_,_],_=>rfl,.nil⟩
 have a3w:Cal l.prog w K mg base CX0 3 "united" ["web","more"] [] (a2g K):=⟨f6,_,[],a8P T L8 F6,PySem.W.mg_of X G a6,k6,F6.binds (ps:=["web","more"]) fun _ _ _ _ _ _ us hl=>match us,hl with|[_,_],_=>rfl,.nil⟩
 have a1U:Cal l.prog w K mg base CX0 3 "renamed" ["web","names"] [] (a1d K):=⟨f8,_,[],a7k T C0 L8 F8,PySem.W.mg_of X G a8,k8,F8.binds (ps:=["web","names"]) fun _ _ _ _ _ _ us hl=>match us,hl with|[_,_],_=>rfl,.nil⟩
 have a1k:Cal l.prog w K mg base CX0 3 "is_match" ["piece","web","match"] [] (a0I K l.prog w):=⟨f9,_,[],a6p T A1 a6u C0 F9,PySem.W.mg_of X G a9,k9,F9.binds (ps:=["piece","web","match"]) fun _ _ _ _ _ _ us hl=>match us,hl with|[_,_,_],_=>rfl,.nil⟩
 have a6P:Cal l.prog w K mg base CX0 3 "kept" ["rule"] [] (a5i K):=⟨f24,_,[],b1j T a6x F24,PySem.W.mg_of X G a24,k24,F24.binds (ps:=["rule"]) fun _ _ _ _ _ _ us hl=>match us,hl with|[_],_=>rfl,.nil⟩
 have a5d:Cal l.prog w K mg base CX0 3 "taken" ["rule"] [] (a2Q K):=⟨f25,_,[],b0Z T a0N F25,PySem.W.mg_of X G a25,k25,F25.binds (ps:=["rule"]) fun _ _ _ _ _ _ us hl=>match us,hl with|[_],_=>rfl,.nil⟩
 have M4:Cal l.prog w K mg base CX0 3 "fresh_of" ["rule"] [] (U4 K):=⟨f26,_,[],a6h T a0N F26,PySem.W.mg_of X G a26,k26,F26.binds (ps:=["rule"]) fun _ _ _ _ _ _ us hl=>match us,hl with|[_],_=>rfl,.nil⟩
 have a0o:Cal l.prog w K mg base CX0 3 "_law_step" ["_law_web_here","_law_xs","_law_words_here","_law_kinds","_law_names"] [] (Z8 K):=⟨f43,_,[],a4K T a0w F43,PySem.W.mg_of X G a43,k43,F43.binds (ps:=["_law_web_here","_law_xs","_law_words_here","_law_kinds","_law_names"]) fun _ _ _ _ _ _ us hl=>match us,hl with|[_,_,_,_,_],_=>rfl,.nil⟩
 have a1e:Cal l.prog w K mg base CX0 3 "_law_set" ["_law_script"] [] (a0z K):=⟨f46,_,[],a5Y T B8 A0 E7 a1g F46,PySem.W.mg_of X G a46,k46,F46.binds (ps:=["_law_script"]) fun _ _ _ _ _ _ us hl=>match us,hl with|[_],_=>rfl,.nil⟩
 have a0x:Cal l.prog w K mg base CX0 4 "taken_out" ["step"] [] (a0f K):=⟨f29,_,[],a4R T a5d F29,PySem.W.mg_of X G a29,k29,F29.binds (ps:=["step"]) fun _ _ _ _ _ _ us hl=>match us,hl with|[_],_=>rfl,.nil⟩
 have V3:Cal l.prog w K mg base CX0 4 "names_serve" ["web","rule","fresh"] [] (Q9 K):=⟨f30,_,[],a3s T M4 a1W F30,PySem.W.mg_of X G a30,k30,F30.binds (ps:=["web","rule","fresh"]) fun _ _ _ _ _ _ us hl=>match us,hl with|[_,_,_],_=>rfl,.nil⟩
 have Q7:Cal l.prog w K mg base CX0 4 "behind" ["step"] [] (a0M K):=⟨f33,_,[],a7Q T a0G a6P M4 A1 F33,PySem.W.mg_of X G a33,k33,F33.binds (ps:=["step"]) fun _ _ _ _ _ _ us hl=>match us,hl with|[_],_=>rfl,.nil⟩
 have a1V:Cal l.prog w K mg base (CXE l.prog w) 5 "rest_of" ["web","step"] [] (a1h K):=⟨f31,_,[],a6T T a1k a1Y a0x a3h F31,PySem.W.mg_of X G a31,k31,F31.binds (ps:=["web","step"]) fun _ _ _ _ _ _ us hl=>match us,hl with|[_,_],_=>rfl,.nil⟩
 have a7f:Cal l.prog w K mg base (CXE l.prog w) 6 "done" ["web","step"] [] (a5o K):=⟨f32,_,[],b1O T a1V V3 a3w a1U Q7 F32,PySem.W.mg_of X G a32,k32,F32.binds (ps:=["web","step"]) fun _ _ _ _ _ _ us hl=>match us,hl with|[_,_],_=>rfl,.nil⟩
 exact b3a T a1e V1 E3 a0o E7 a0u Q7 a0q a7f F47
theorem walk {l:PySem.W.OpenLaw}{q:Program}{loose:List Str}{XP:(Str→Option Value)→Heap→Prop}{YP:World→Heap→Prop}{d:DefRec}{K:Params→PySem.W.Frag}(hn:l.most=some 63)(hdf:d.params.defaults=[])
  (hY:∀(w:World) (h:Heap),YP w h→(K w.params).In h)
  (F:∀(w:World) (mg:Str→Option Value) (fa:Addr) (h:Heap),(K w.params).In h→h.Ns mainGlobals mg→mg d.name=some (.ref fa)→
   ∃fd:FuncData,(∀(s:Shared) (u:Value),BindsTo s fd ⟨[u],[]⟩ [("_law_script",u)])∧∀base:Heap,(K w.params).In base→base.Ns mainGlobals mg→FnOk l.prog w (K w.params) mg base CX0 7 fa fd ["_law_script"] (a4W (K w.params))):
  PySem.W.WalkO q loose XP YP l.row.toRowW d [] (fun f vs=>PySem.call f vs):=
 L2.walk_of (n:=63) (k:=7) (x:="_law_script") (CX:=fun _=>CX0) (sp:=fun w=>a4W (K w.params)) hn (by decide) hdf ⟨rfl,by decide,by decide⟩ hY F (fun _ _ a ns hl _ hS=>⟨a,ns,rfl,hS,hl,fun _=>rfl⟩) fun _ _ _ _ _ z=>z
end K27
theorem PySem.W.Fast.tw5495996421371275009:True:=⟨⟩
theorem PySem.W.Fast.tw13044380441455717703:True:=⟨⟩
theorem PySem.W.Fast.tw1001694465148417378:True:=⟨⟩
theorem PySem.W.Fast.tw14493038678802922430:True:=⟨⟩
theorem PySem.W.Fast.tw14898261429879988747:True:=⟨⟩
theorem PySem.W.Fast.tw2631031885872512187:True:=⟨⟩
theorem PySem.W.Fast.tw16426191956312073820:True:=⟨⟩
theorem PySem.W.Fast.tw17078712608222408478:True:=⟨⟩
theorem PySem.W.Fast.tw15793400737791642995:True:=⟨⟩
theorem PySem.W.Fast.tw9473182428842888724:True:=⟨⟩
theorem PySem.W.Fast.tw7683403189023692056:True:=⟨⟩
theorem PySem.W.Fast.tw4095339967998262753:True:=⟨⟩
theorem PySem.W.Fast.tw8859711360611152860:True:=⟨⟩
theorem PySem.W.Fast.tw12755442609589735428:True:=⟨⟩
theorem PySem.W.Fast.tw9355484761707285908:True:=⟨⟩
theorem PySem.W.Fast.tw15016478613995532564:True:=⟨⟩
theorem PySem.W.Fast.tw17040458107482113595:True:=⟨⟩
theorem PySem.W.Fast.tw17475921858546329321:True:=⟨⟩
theorem PySem.W.Fast.tw18057623236037823986:True:=⟨⟩
theorem PySem.W.Fast.tw9186158434457507749:True:=⟨⟩
theorem PySem.W.Fast.tw5814015555987523569:True:=⟨⟩
theorem PySem.W.Fast.tw8114050935121363738:True:=⟨⟩
theorem PySem.W.Fast.tw12799201912269377443:True:=⟨⟩
theorem PySem.W.Fast.tw6478715927727873718:True:=⟨⟩
theorem PySem.W.Fast.tw381251768584196459:True:=⟨⟩
theorem PySem.W.Fast.tw7965515268340607396:True:=⟨⟩
theorem PySem.W.Fast.tw17054353362227309905:True:=⟨⟩
theorem PySem.W.Fast.tw3835439693506996804:True:=⟨⟩
theorem PySem.W.Fast.tw1259950863565088621:True:=⟨⟩
theorem PySem.W.Fast.tw4543680569140650341:True:=⟨⟩
theorem PySem.W.Fast.tw9740936992157440068:True:=⟨⟩
theorem PySem.W.Fast.tw12783775000329132949:True:=⟨⟩
theorem PySem.W.Fast.tw16258403173501436419:True:=⟨⟩
theorem PySem.W.Fast.tw14312330995902815630:True:=⟨⟩
theorem PySem.W.Fast.tw4442503910340252082:True:=⟨⟩
theorem PySem.W.Fast.tw18046958128059573134:True:=⟨⟩
theorem PySem.W.Fast.tw6951255013010913322:True:=⟨⟩
theorem PySem.W.Fast.tw10020170599016799855:True:=⟨⟩
theorem PySem.W.Fast.tw3046961928700634419:True:=⟨⟩
theorem PySem.W.Fast.tw5789042469749581922:True:=⟨⟩
theorem PySem.W.Fast.tw14600285168723471354:True:=⟨⟩
theorem PySem.W.Fast.tw15562149434836652309:True:=⟨⟩
theorem PySem.W.Fast.tw16046993188741463664:True:=⟨⟩
theorem PySem.W.Fast.tw10290055431355367441:True:=⟨⟩
theorem PySem.W.Fast.tw6478520385385170534:True:=⟨⟩
theorem PySem.W.Fast.tw2729362752260660027:True:=⟨⟩
theorem PySem.W.Fast.tw9134632501031651376:True:=⟨⟩
theorem PySem.W.Fast.tw4991912053097375984:True:=⟨⟩
theorem PySem.W.Fast.tw4545386981848338725:True:=⟨⟩
theorem PySem.W.Fast.tw5828004880804393692:True:=⟨⟩
theorem PySem.W.Fast.tw11561569568286259045:True:=⟨⟩
theorem PySem.W.Fast.tw3158372364911256022:True:=⟨⟩
theorem PySem.W.Fast.tw15465239258963484304:True:=⟨⟩
theorem PySem.W.Fast.tw6980780375458068045:True:=⟨⟩
theorem PySem.W.Fast.tw4683987879305422790:True:=⟨⟩
theorem PySem.W.Fast.tw3977985441401719140:True:=⟨⟩
theorem PySem.W.Fast.tw6468906015859611740:True:=⟨⟩
theorem PySem.W.Fast.tw8468995744167706885:True:=⟨⟩
theorem PySem.W.Fast.tw3251035609420311564:True:=⟨⟩
theorem PySem.W.Fast.tw3841258951139436059:True:=⟨⟩
theorem PySem.W.Fast.tw10916366227711800995:True:=⟨⟩
theorem PySem.W.Fast.tw12966505488813260058:True:=⟨⟩
theorem PySem.W.Fast.tw8426469203493643194:True:=⟨⟩
theorem PySem.W.Fast.tw14433510940040367654:True:=⟨⟩
theorem PySem.W.Fast.tw16866086231219263125:True:=⟨⟩
theorem PySem.W.Fast.tw9851573022159095819:True:=⟨⟩
theorem PySem.W.Fast.tw2011282304670610010:True:=⟨⟩
theorem PySem.W.Fast.tw11828558635071307500:True:=⟨⟩
theorem PySem.W.Fast.tw18357611395949816262:True:=⟨⟩
theorem PySem.W.Fast.tw17804362787569824610:True:=⟨⟩
theorem PySem.W.Fast.tw10177363024972845023:True:=⟨⟩
theorem PySem.W.Fast.tw13332513183586085431:True:=⟨⟩
theorem PySem.W.Fast.tw4433044769433174846:True:=⟨⟩
theorem PySem.W.Fast.tw6142159171461964486:True:=⟨⟩
theorem PySem.W.Fast.tw4749468066345627963:True:=⟨⟩
theorem PySem.W.Fast.tw1245460045956942510:True:=⟨⟩
theorem PySem.W.Fast.tw6113633024133012106:True:=⟨⟩
theorem PySem.W.Fast.tw6563673387024145632:True:=⟨⟩
theorem PySem.W.Fast.tw4667807770366462944:True:=⟨⟩
theorem PySem.W.Fast.tw4994989611649705741:True:=⟨⟩
theorem PySem.W.Fast.tw4889217175920879615:True:=⟨⟩
theorem PySem.W.Fast.tw16257404206521109740:True:=⟨⟩
theorem PySem.W.Fast.tw9957538591185877016:True:=⟨⟩
theorem PySem.W.Fast.tw17026668024556681122:True:=⟨⟩
theorem PySem.W.Fast.tw4530776662006880899:True:=⟨⟩
theorem PySem.W.Fast.tw9416649440399115309:True:=⟨⟩
theorem PySem.W.Fast.tw8296657444577423980:True:=⟨⟩
theorem PySem.W.Fast.tw1319940676081005849:True:=⟨⟩
theorem PySem.W.Fast.tw4958728775251821222:True:=⟨⟩
theorem PySem.W.Fast.tw8314861791704705962:True:=⟨⟩
theorem PySem.W.Fast.tw6649493400351045640:True:=⟨⟩
theorem PySem.W.Fast.tw9546381935681695069:True:=⟨⟩
theorem PySem.W.Fast.tw14477469084135841169:True:=⟨⟩
theorem PySem.W.Fast.tw17682408000891857003:True:=⟨⟩
theorem PySem.W.Fast.tw10301787153003267408:True:=⟨⟩
theorem PySem.W.Fast.tw857940660420794504:True:=⟨⟩
theorem PySem.W.Fast.tw14380384222308444217:True:=⟨⟩
theorem PySem.W.Fast.tw13668194578381912619:True:=⟨⟩
theorem PySem.W.Fast.tw16433626802915555575:True:=⟨⟩
theorem PySem.W.Fast.tw14490382911273945635:True:=⟨⟩
theorem PySem.W.Fast.tw14573950319672124837:True:=⟨⟩
theorem PySem.W.Fast.tw1839014746404492531:True:=⟨⟩
theorem PySem.W.Fast.tw933863768713488751:True:=⟨⟩
theorem PySem.W.Fast.tw12655516009464120572:True:=⟨⟩
theorem PySem.W.Fast.tw18003937506993644115:True:=⟨⟩
theorem PySem.W.Fast.tw3157181839222810313:True:=⟨⟩
theorem PySem.W.Fast.tw12618267546616148176:True:=⟨⟩
theorem PySem.W.Fast.tw18095606258269547521:True:=⟨⟩
theorem PySem.W.Fast.tw5240371274502561350:True:=⟨⟩
theorem PySem.W.Fast.tw9108745383661409976:True:=⟨⟩
theorem PySem.W.Fast.tw4955236351820241356:True:=⟨⟩
theorem PySem.W.Fast.tw17057619380706235848:True:=⟨⟩
theorem PySem.W.Fast.tw1981140033736270219:True:=⟨⟩
theorem PySem.W.Fast.tw2459559103587564003:True:=⟨⟩
theorem PySem.W.Fast.tw1728960966636815949:True:=⟨⟩
theorem PySem.W.Fast.tw5551934676123585487:True:=⟨⟩
theorem PySem.W.Fast.tw13675609398985947138:True:=⟨⟩
theorem PySem.W.Fast.tw5664643421805896501:True:=⟨⟩
theorem PySem.W.Fast.tw17615543630795809330:True:=⟨⟩
theorem PySem.W.Fast.tw5551269314021799995:True:=⟨⟩
theorem PySem.W.Fast.tw10896287609767800561:True:=⟨⟩
theorem PySem.W.Fast.tw16295172342579991713:True:=⟨⟩
theorem PySem.W.Fast.tw13767224401232874752:True:=⟨⟩
theorem PySem.W.Fast.tw10669051999240765228:True:=⟨⟩
theorem PySem.W.Fast.tw7530356703863504714:True:=⟨⟩
theorem PySem.W.Fast.tw9703987698732806427:True:=⟨⟩
theorem PySem.W.Fast.tw6737611770300250329:True:=⟨⟩
theorem PySem.W.Fast.tw8455514959833643959:True:=⟨⟩
theorem PySem.W.Fast.tw11377854494434105419:True:=⟨⟩
theorem PySem.W.Fast.tw13077875764093440735:True:=⟨⟩
theorem PySem.W.Fast.tw14967798672484509572:True:=⟨⟩
theorem PySem.W.Fast.tw11082740972612245209:True:=⟨⟩
theorem PySem.W.Fast.tw14680286664583371383:True:=⟨⟩
theorem PySem.W.Fast.tw18436614710756952623:True:=⟨⟩
theorem PySem.W.Fast.tw438450362101463091:True:=⟨⟩
theorem PySem.W.Fast.tw4111461900552105388:True:=⟨⟩
theorem PySem.W.Fast.tw16940284118404529132:True:=⟨⟩
theorem PySem.W.Fast.tw15342791023282947955:True:=⟨⟩
theorem PySem.W.Fast.tw1932711180279459739:True:=⟨⟩
theorem PySem.W.Fast.tw5362174798734338641:True:=⟨⟩
theorem PySem.W.Fast.tw9522839256923288944:True:=⟨⟩
theorem PySem.W.Fast.tw13413454820891266014:True:=⟨⟩
theorem PySem.W.Fast.tw6445026970160438551:True:=⟨⟩
theorem PySem.W.Fast.tw4251547607044034670:True:=⟨⟩
theorem PySem.W.Fast.tw2018139005392256598:True:=⟨⟩
theorem PySem.W.Fast.tw12759631703535209730:True:=⟨⟩
theorem PySem.W.Fast.tw320283570349161234:True:=⟨⟩
theorem PySem.W.Fast.tw3322678278137699484:True:=⟨⟩
theorem PySem.W.Fast.tw13437600625391776279:True:=⟨⟩
theorem PySem.W.Fast.tw1832779750876196403:True:=⟨⟩
theorem PySem.W.Fast.tw17249262562475547046:True:=⟨⟩
theorem PySem.W.Fast.tw7214974934900896477:True:=⟨⟩
open PySem PySem.W PyProof.Rows
set_option maxRecDepth 100000 in
set_option maxHeartbeats 0 in
theorem PySem.Challenge.cw_gluework_k27_match_behind_holds : PySem.Challenge.rw_gluework_k27_match_behind.Holds := by
 w_on;o_law;k_head;(case hw=>w_witness2)
 k_fill
 refine K27.walk (l:=PySem.Challenge.rw_gluework_k27_match_behind) rfl rfl (fun w h Y=>PySem.W.kIn_of Y) ?F
 case F=>
  intro w mg fa h KX G hmg
  refine' K27.all_mk KX G hmg ?a0 ?l0 ?c0 ?k0 ?a1 ?l1 ?c1 ?k1 ?a2 ?l2 ?c2 ?k2 ?a3 ?l3 ?c3 ?k3 ?a4 ?l4 ?c4 ?k4 ?a5 ?l5 ?c5 ?k5 ?a6 ?l6 ?c6 ?k6 ?a7 ?l7 ?c7 ?k7 ?a8 ?l8 ?c8 ?k8 ?a9 ?l9 ?c9 ?k9 ?a10 ?l10 ?c10 ?k10 ?a11 ?l11 ?c11 ?k11 ?a12 ?l12 ?c12 ?k12 ?a13 ?l13 ?c13 ?k13 ?a14 ?l14 ?c14 ?k14 ?a15 ?l15 ?c15 ?k15 ?a16 ?l16 ?c16 ?k16 ?a17 ?l17 ?c17 ?k17 ?a18 ?l18 ?c18 ?k18 ?a19 ?l19 ?c19 ?k19 ?a20 ?l20 ?c20 ?k20 ?a21 ?l21 ?c21 ?k21 ?a22 ?l22 ?c22 ?k22 ?a23 ?l23 ?c23 ?k23 ?a24 ?l24 ?c24 ?k24 ?a25 ?l25 ?c25 ?k25 ?a26 ?l26 ?c26 ?k26 ?a27 ?l27 ?c27 ?k27 ?a28 ?l28 ?c28 ?k28 ?a29 ?l29 ?c29 ?k29 ?a30 ?l30 ?c30 ?k30 ?a31 ?l31 ?c31 ?k31 ?a32 ?l32 ?c32 ?k32 ?a33 ?l33 ?c33 ?k33 ?a34 ?l34 ?c34 ?k34 ?a35 ?l35 ?c35 ?k35 ?a36 ?l36 ?c36 ?k36 ?a37 ?l37 ?c37 ?k37 ?a38 ?l38 ?c38 ?k38 ?a39 ?l39 ?c39 ?k39 ?a40 ?l40 ?c40 ?k40 ?a41 ?l41 ?c41 ?k41 ?a42 ?l42 ?c42 ?k42 ?a43 ?l43 ?c43 ?k43 ?a44 ?l44 ?c44 ?k44 ?a45 ?l45 ?c45 ?k45 ?a46 ?l46 ?c46 ?k46 ?a47 ?l47 ?c47 ?k47 ?z_all ?z_any ?z_dict ?z_enumerate ?z_int ?z_isinstance ?z_len ?z_list ?z_min ?z_range ?z_set ?z_sorted ?z_str ?v_MOST_NAME_SIGNS ?v_NAME_SIGNS ?v_SMALL_LETTERS ?n_Barred ?n_Loose ?n_NoMatch ?n_NoNames ?xr_Barred ?xr_Loose ?xr_NoMatch ?xr_NoNames
  (case a0|l0|c0|k0|a1|l1|c1|k1|a2|l2|c2|k2|a3|l3|c3|k3|a4|l4|c4|k4|a5|l5|c5|k5|a6|l6|c6|k6|a7|l7|c7|k7|a8|l8|c8|k8|a9|l9|c9|k9|a10|l10|c10|k10|a11|l11|c11|k11|a12|l12|c12|k12|a13|l13|c13|k13|a14|l14|c14|k14|a15|l15|c15|k15|a16|l16|c16|k16|a17|l17|c17|k17|a18|l18|c18|k18|a19|l19|c19|k19|a20|l20|c20|k20|a21|l21|c21|k21|a22|l22|c22|k22|a23|l23|c23|k23|a24|l24|c24|k24|a25|l25|c25|k25|a26|l26|c26|k26|a27|l27|c27|k27|a28|l28|c28|k28|a29|l29|c29|k29|a30|l30|c30|k30|a31|l31|c31|k31|a32|l32|c32|k32|a33|l33|c33|k33|a34|l34|c34|k34|a35|l35|c35|k35|a36|l36|c36|k36|a37|l37|c37|k37|a38|l38|c38|k38|a39|l39|c39|k39|a40|l40|c40|k40|a41|l41|c41|k41|a42|l42|c42|k42|a43|l43|c43|k43|a44|l44|c44|k44|a45|l45|c45|k45|a46|l46|c46|k46|a47|l47|c47|k47|z_all|z_any|z_dict|z_enumerate|z_int|z_isinstance|z_len|z_list|z_min|z_range|z_set|z_sorted|z_str|v_MOST_NAME_SIGNS|v_NAME_SIGNS|v_SMALL_LETTERS|n_Barred|n_Loose|n_NoMatch|n_NoNames=>k_is)
  (case xr_Barred=>k_exc)
  (case xr_Loose=>k_exc)
  (case xr_NoMatch=>k_exc)
  (case xr_NoNames=>k_exc)
