import PyProof.Rows.All
import Wide.All
import OpenK.AllK
import Wide.FinOn
import PyProof.EqAt
import PyProof.EqKinds
import PyProof.TupleCall
import PyProof.NeKinds
import PyProof.AttrMissHeap
import PyProof.ExcClass3
import PyProof.RulesAs
import PyProof.Rows.FStr
import OpenK.KOwn
import PyProof.NsDelKeeps
import PyProof.Rows.Catch
import PyProof.Rows.SetFrom
import PyProof.SetRoads
import PyProof.FactsAll.NoneType
import PyProof.Rows.StrNews2
import PyProof.StrLawsTight
import PyProof.StrLawsNeg
import PySem.Challenge.RW_gluework_k72_rules_written
set_option Elab.async false
set_option linter.all false
set_option maxRecDepth 100000
namespace L2
open PySem PySem.Spec PyProof.Rows
abbrev g7:=Sum Int Str
def aE:g7→Value→Bool
 | .inl k,v=>Value.isInt k v
 | .inr x,v=>Value.isStrOf x v
def xc (w:World):g7→Int
 | .inl k=>hashInt k
 | .inr x=>hashStr w x
theorem p9:∀{k:g7} {v:Value},aE k v=true→(∃i t,k=Sum.inl i∧v=Value.int i t)∨(∃x t,k=Sum.inr x∧v=Value.str x t)
 | .inl i,v,h=>by
  obtain⟨t,e⟩:=Value.isInt_shape (k:=i) (v:=v) h
  exact .inl ⟨i,t,rfl,e⟩
 | .inr x,v,h=>by
  obtain⟨t,e⟩:=Value.isStrOf_shape (x:=x) (v:=v) h
  exact .inr ⟨x,t,rfl,e⟩
theorem lG (i:Int)(t:Tok):aE (.inl i) (.int i t)=true:=by simp [aE,Value.isInt]
theorem kS (x:Str)(t:Tok):aE (.inr x) (.str x t)=true:=by simp [aE,Value.isStrOf]
theorem mK (a b:Int):decide ((Sum.inl a:g7)=Sum.inl b)=(a==b):=by
 by_cases e:a=b
 ·subst e;simp
 ·have h:¬(Sum.inl a:g7)=Sum.inl b:=fun q=>e (Sum.inl.inj q)
  rw[decide_eq_false h]
  exact(beq_eq_false_iff_ne.mpr e).symm
theorem pJ (a b:Str):decide ((Sum.inr a:g7)=Sum.inr b)=decide (a=b):=by
 by_cases e:a=b
 ·subst e;simp
 ·have h:¬(Sum.inr a:g7)=Sum.inr b:=fun q=>e (Sum.inr.inj q)
  rw[decide_eq_false h,decide_eq_false e]
theorem mQ (a:Int)(b:Str):decide ((Sum.inl a:g7)=Sum.inr b)=false:=decide_eq_false (fun q=>nomatch q)
theorem nV (a:Str)(b:Int):decide ((Sum.inr a:g7)=Sum.inl b)=false:=decide_eq_false (fun q=>nomatch q)
def j2 (prog:Program)(w:World):PySem.KeyKind prog w g7 where
 is:=aE
 hash:=xc w
 inj:=fun v a b ha hb=>by
  rcases p9 ha with⟨i,t,rfl,rfl⟩|⟨x,t,rfl,rfl⟩
  ·rcases p9 hb with⟨j,u,rfl,e⟩|⟨y,u,rfl,e⟩
   ·injection e with e1 _;rw[e1]
   ·exact nomatch e
  ·rcases p9 hb with⟨j,u,rfl,e⟩|⟨y,u,rfl,e⟩
   ·exact nomatch e
   ·injection e with e1 _;rw[e1]
 byValue:=fun k v h=>by
  rcases p9 h with⟨i,t,rfl,rfl⟩|⟨x,t,rfl,rfl⟩<;>rfl
 pyHash:=fun hv h=>by
  rcases p9 hv with⟨i,t,rfl,rfl⟩|⟨x,t,rfl,rfl⟩
  ·exact wpAny_pyHash_int h
  ·exact wpAny_pyHash_str h
 eqBool:=fun hu hv h=>by
  rcases p9 hu with⟨i,t,rfl,rfl⟩|⟨x,t,rfl,rfl⟩
  ·rcases p9 hv with⟨j,u,rfl,rfl⟩|⟨y,u,rfl,rfl⟩
   ·rw[mK] at h;exact wpAny_eqBool_int h
   ·rw[mQ] at h;exact SeqAt.EqAt.int_str i t y u _ _ _ _ h
  ·rcases p9 hv with⟨j,u,rfl,rfl⟩|⟨y,u,rfl,rfl⟩
   ·rw[nV] at h;exact SeqAt.EqAt.str_int x t j u _ _ _ _ h
   ·rw[pJ] at h;exact wpAny_eqBool_str h
 «strs»:=fun k x t v h=>by
  rcases p9 h with⟨i,u,rfl,e⟩|⟨y,u,rfl,e⟩
  ·exact nomatch e
  ·injection e with e1 _
   subst e1
   cases v<;>rfl
theorem gM (prog:Program)(w:World)(i:Int)(t:Tok):(j2 prog w).is (.inl i) (.int i t)=true:=lG i t
theorem gN (prog:Program)(w:World)(x:Str)(t:Tok):(j2 prog w).is (.inr x) (.str x t)=true:=kS x t
end L2
namespace L2
open PySem PySem.Spec PyProof.Rows
inductive V where
 |non|bl (b:Bool)|int (i:Int)|str (x:Str)|byt (b:Array UInt8)|flt (b:UInt64)|ref (a:Addr)|ty (n:String)
 deriving DecidableEq
def RelV:V→Value→Prop
 | .non,u=>u=Value.none
 | .bl b,u=>u=Value.bool b
 | .int i,u=>∃t,u=Value.int i t
 | .str x,u=>∃t,u=Value.str x t
 | .byt b,u=>∃t,u=Value.bytes b t
 | .flt b,u=>∃t,u=Value.float b t
 | .ref a,u=>u=Value.ref a
 | .ty n,u=>u=Value.type n
abbrev Vals:List V→List Value→Prop:=Paired RelV
theorem Vals.length {xs:List V}{us:List Value}(r:Vals xs us):xs.length=us.length:=Paired.length r
theorem Vals.get:∀{xs:List V} {us:List Value} {i:Nat} {x:V},Vals xs us→xs[i]?=some x→∃u,us[i]?=some u∧RelV x u
 |_,_,_,_,.nil,e=>by simp at e
 |_,_,0,_,.cons r _,e=>by simp at e;subst e;exact⟨_,rfl,r⟩
 |_,_,i+1,x,.cons _ t,e=>by
  obtain⟨u,h1,h2⟩:=Vals.get (i:=i) (x:=x) t (by simpa using e)
  exact⟨u,by simpa using h1,h2⟩
theorem Vals.set {x:V}{u:Value}(r:RelV x u):∀{xs:List V} {us:List Value} (i:Nat),Vals xs us→Vals (xs.set i x) (us.set i u)
 |_,_,_,.nil=> .nil
 |_,_,0,.cons _ t=> .cons r t
 |_,_,i+1,.cons q t=> .cons q (Vals.set r i t)
theorem Vals.append:∀{xs ys:List V} {us ws:List Value},Vals xs us→Vals ys ws→Vals (xs++ys) (us++ws)
 |_,_,_,_,.nil,s=>s
 |_,_,_,_,.cons r t,s=> .cons r (Vals.append t s)
theorem Vals.take:∀{xs:List V} {us:List Value} (n:Nat),Vals xs us→Vals (xs.take n) (us.take n)
 |_,_,0,_=> .nil
 |_,_,_+1,.nil=> .nil
 |_,_,n+1,.cons r t=> .cons r (Vals.take n t)
theorem Vals.drop:∀{xs:List V} {us:List Value} (n:Nat),Vals xs us→Vals (xs.drop n) (us.drop n)
 |_,_,0,r=>r
 |_,_,_+1,.nil=> .nil
 |_,_,n+1,.cons _ t=>Vals.drop n t
theorem Vals.none_of:∀{xs:List V} {us:List Value} {i:Nat},Vals xs us→xs[i]?=none→us[i]?=none:=fun{xs us i} r e=>by
 have h1:=r.length
 have h2:xs.length≤i:=List.getElem?_eq_none_iff.mp e
 exact List.getElem?_eq_none_iff.mpr (by omega)
def RelO:Option V→Option Value→Prop
 |some v,some u=>RelV v u
 |none,none=>True
 |_,_=>False
def KV {κ:Type}:List (κ×V)→List (κ×Value)→Prop:=Paired fun(p:κ×V) (q:κ×Value)=>p.1=q.1∧RelV p.2 q.2
def kV:g7→V
 | .inl i=> .int i
 | .inr x=> .str x
inductive HO where
 |lst (xs:List V)
 |tup (xs:List V)
 |dK (kvs:List (g7×V))|dT (kvs:List (List g7×V))
 |set (S:Int→Bool) (n:Nat)
 |ins (C dx:Addr) (fs:List (Str×V))
 |own (x:Addr)
 |xd (fs:List (Str×V))
 |met (f x:Addr)
 |rng (lo hi:Int)
 |frz (o:Obj) (u:HO)
 |tbl (ps:Array Value)
 |ext (φ:Heap→Prop)
abbrev Hp:=Addr→Option HO
def n0 (H:Hp)(a:Addr)(o:HO):Hp:=fun b=>if b=a then some o else H b
theorem d9 {H:Hp}{a:Addr}{o:HO}:n0 H a o a=some o:=by unfold n0;rw[if_pos rfl]
theorem b9 {H:Hp}{a b:Addr}{o:HO}(h:b≠a):n0 H a o b=H b:=by unfold n0;rw[if_neg h]
theorem xt {H:Hp}{a b:Addr}{o u:HO}(h:H a=some o)(h':H b=some u)(d:o≠u):a≠b:=by
 intro e;subst e;rw[h] at h';exact d (Option.some.inj h')
theorem d8 {H:Hp}{a b:Addr}{o:HO}(h:H a=some o)(h':H b=none):a≠b:=by
 intro e;subst e;rw[h] at h';cases h'
section
variable (P:Program) (w:World)
def ObjOk (H:Hp)(h:Heap)(a:Addr):HO→Prop
 | .lst xs=>xs.length≤sizeLine∧∃(its:List Value) (n:Nat),Vals xs its∧h.get? a=some {cls:= .type "list",data:= .seq its.toArray n}
 | .tup xs=>xs.length≤sizeLine∧∃its:List Value,Vals xs its∧IsTup h a its.toArray
 | .dK kvs=>kvs.length≤sizeLine∧(a==sysModules)=false∧∃vs,KV kvs vs∧h.DictOf (j2 P w) a vs
 | .dT kvs=>kvs.length≤sizeLine∧(a==sysModules)=false∧∃xs:List (List g7×Addr×Value),
   Paired (fun(p:List g7×V) (q:List g7×Addr×Value)=>p.1=q.1∧H q.2.1=some (.tup (p.1.map kV))∧RelV p.2 q.2.2) kvs xs∧
   ∃o es ep,h.get? a=some o∧o.ExactDict∧o.data= .dict es ep∧es.toList=xs.map (entryOfKey (tupleKind (j2 P w)))∧(xs.map (·.1)).Nodup
 | .set S n=>h.SetOf (intKind P w) a S n
 | .ins C dx fs=>H dx=some (.own a)∧fs.length≤1000∧dx≠a∧h.get? a=some (PySem.W.instObj C dx)∧
   ∃mA,h.Ns1 dx mA∧(∀f,RelO (fs.lookup f) (mA f))∧PySem.Within mA (fs.map (·.1))
 | .own _=>∃o,h.get? a=some o
 | .xd fs=>∃mA,h.Ns1 a mA∧∀f,RelO (fs.lookup f) (mA f)
 | .rng lo hi=>∃t u v,h.get? a=some {cls:= .type "range",data:= .fields #[.int lo t,.int hi u,.int 1 v]}
 | .frz o u=>h.get? a=some o∧ObjOk H h a u
 | .tbl ps=>h.get? a=some {cls:= .none,data:= .fields ps}
 | .met f x=>h.get? a=some (PySem.W.methodObj (.ref f) (.ref x))
 | .ext φ=>φ h∧(∃o,h.get? a=some o)∧∀h1 h2:Heap,φ h1→(∀o,h1.get? a=some o→h2.get? a=some o)→φ h2
def HOk (H:Hp)(h:Heap):Prop:=∀a o,H a=some o→ObjOk P w H h a o
end
section
variable {P:Program} {w:World} {H H':Hp} {h h':Heap} {a:Addr} {o:HO}
theorem ObjOk.lt (x:ObjOk P w H h a o):a<h.objs.size:=by
 cases o with
 |lst xs=>obtain⟨_,_,_,_,e⟩:=x;exact Heap.lt_size e
 |tup xs=>obtain⟨_,_,_,p⟩:=x;exact p.lt
 |dK kvs=>obtain⟨_,_,_,_,o,_,_,e,_⟩:=x;exact Heap.lt_size e
 |dT kvs=>obtain⟨_,_,_,_,o,_,_,e,_⟩:=x;exact Heap.lt_size e
 |set S n=>obtain⟨o,_,_,_,e,_⟩:=x;exact Heap.lt_size e
 |ins C dx fs=>obtain⟨_,_,_,e,_⟩:=x;exact Heap.lt_size e
 |own y=>obtain⟨_,e⟩:=x;exact Heap.lt_size e
 |xd fs=>obtain⟨_,⟨_,_,_,e,_⟩,_⟩:=x;exact Heap.lt_size e
 |rng lo hi=>obtain⟨_,_,_,e⟩:=x;exact Heap.lt_size e
 |frz ob u=>obtain⟨e,_⟩:=x;exact Heap.lt_size e
 |tbl ps=>exact Heap.lt_size (show h.get? a=some _ from x)
 |met f y=>exact Heap.lt_size (show h.get? a=some _ from x)
 |ext φ=>obtain⟨_,⟨_,e⟩,_⟩:=x;exact Heap.lt_size e
theorem Paired.mapP {α β:Type}{F G:α→β→Prop}:∀{l₁:List α} {l₂:List β},Paired F l₁ l₂→(∀a b,F a b→G a b)→Paired G l₁ l₂
 |_,_,.nil,_=> .nil
 |_,_,.cons r t,f=> .cons (f _ _ r) (Paired.mapP t f)
theorem Paired.imp' {α β:Type}{F G:α→β→Prop}(f:∀a b,F a b→G a b){l₁:List α}{l₂:List β}(r:Paired F l₁ l₂):Paired G l₁ l₂:=Paired.mapP r f
theorem ObjOk.stay (x:ObjOk P w H h a o)(k:∀b u,(b=a∨H b=some (.own a))→h.get? b=some u→h'.get? b=some u)
  (ho:∀b,H b=some (.own a)→H' b=some (.own a)) (ht:∀b xs,H b=some (.tup xs)→H' b=some (.tup xs)):ObjOk P w H' h' a o:=by
 induction o with
 |lst xs=>obtain⟨z,its,n,r,e⟩:=x;exact⟨z,its,n,r,k _ _ (.inl rfl) e⟩
 |tup xs=>obtain⟨z,its,r,ob,e,c⟩:=x;exact⟨z,its,r,ob,k _ _ (.inl rfl) e,c⟩
 |dK kvs=>obtain⟨z,y,vs,r,ob,es,ep,e,c⟩:=x;exact⟨z,y,vs,r,ob,es,ep,k _ _ (.inl rfl) e,c⟩
 |dT kvs=>
  obtain⟨z,y,xs,r,ob,es,ep,e,c⟩:=x
  exact⟨z,y,xs,Paired.mapP r fun p q z=>⟨z.1,ht _ _ z.2.1,z.2.2⟩,ob,es,ep,k _ _ (.inl rfl) e,c⟩
 |set S n=>obtain⟨ob,es,ep,t,e,c⟩:=x;exact⟨ob,es,ep,t,k _ _ (.inl rfl) e,c⟩
 |ins C dx fs=>
  obtain⟨d,z,ne,e,mA,⟨od,es,ep,e2,c⟩,r⟩:=x
  exact⟨ho _ d,z,ne,k _ _ (.inl rfl) e,mA,⟨od,es,ep,k _ _ (.inr d) e2,c⟩,r⟩
 |own y=>obtain⟨ob,e⟩:=x;exact⟨ob,k _ _ (.inl rfl) e⟩
 |xd fs=>obtain⟨mA,⟨od,es,ep,e,c⟩,r⟩:=x;exact⟨mA,⟨od,es,ep,k _ _ (.inl rfl) e,c⟩,r⟩
 |rng lo hi=>obtain⟨t,u,v,e⟩:=x;exact⟨t,u,v,k _ _ (.inl rfl) e⟩
 |frz ob u ih=>obtain⟨e,q⟩:=x;exact⟨k _ _ (.inl rfl) e,ih q⟩
 |tbl ps=>
  have e:h.get? a=some {cls:= .none,data:= .fields ps}:=x
  show h'.get? a=some {cls:= .none,data:= .fields ps}
  exact k a _ (.inl rfl) e
 |met f y=>
  have e:h.get? a=some (PySem.W.methodObj (.ref f) (.ref y)):=x
  show h'.get? a=some (PySem.W.methodObj (.ref f) (.ref y))
  exact k a _ (.inl rfl) e
 |ext φ=>obtain⟨p,⟨o,e⟩,st⟩:=x;exact⟨st _ _ p fun o q=>k _ _ (.inl rfl) q,⟨o,k _ _ (.inl rfl) e⟩,st⟩
theorem HOk.lt (x:HOk P w H h)(e:H a=some o):a<h.objs.size:=(x a o e).lt
theorem HOk.fresh (x:HOk P w H h)(e:h.objs.size≤a):H a=none:=by
 cases q:H a with
 |none=>rfl
 |some u=>exact absurd (Nat.lt_of_lt_of_le (x.lt q) e) (Nat.lt_irrefl _)
theorem HOk.kept (x:HOk P w H h)(k:∀b u,h.get? b=some u→h'.get? b=some u):HOk P w H h':=fun a o e=>
 (x a o e).stay (fun b u _ q=>k b u q) (fun _ q=>q) fun _ _ q=>q
theorem HOk.laid (x:HOk P w H h)(k:∀b u,h.get? b=some u→h'.get? b=some u)(hp:h.objs.size≤a)(new:ObjOk P w (n0 H a o) h' a o):HOk P w (n0 H a o) h':=fun b u e=>by
 have hn:=x.fresh hp
 by_cases hb:b=a
 ·subst hb;rw[d9] at e;cases e;exact new
 ·rw[b9 hb] at e
  exact(x b u e).stay (fun c v _ q=>k c v q) (fun c q=>by rw[b9 (d8 q hn)];exact q) fun c xs q=>by rw[b9 (d8 q hn)];exact q
end
def Rd (H:Hp)(a:Addr)(u:HO):Prop:=H a=some u∨∃o,H a=some (.frz o u)
theorem Rd.of {H:Hp}{a:Addr}{u:HO}(h:H a=some u):Rd H a u:= .inl h
theorem Rd.ok {P:Program}{w:World}{H:Hp}{h:Heap}{a:Addr}{u:HO}(r:Rd H a u)(x:HOk P w H h):ObjOk P w H h a u:=by
 rcases r with r|⟨o,r⟩
 ·exact x a u r
 ·obtain⟨_,q⟩:=x a _ r
  exact q
def vR:Option HO→Prop
 |some (.lst _)=>True
 |some (.dK _)=>True
 |some (.dT _)=>True
 |some (.set _ _)=>True
 |some (.ins _ _ _)=>True
 |some (.ext _)=>True
 |_=>False
section
variable {P:Program} {w:World} {H:Hp} {h h':Heap} {x e:Addr} {o':HO}
theorem HOk.write (ok:HOk P w H h)(mu:vR (H x))(he:e=x∨H e=some (.own x))(k:∀b u,b≠e→h.get? b=some u→h'.get? b=some u)(heo:∃u,h'.get? e=some u)
  (new:ObjOk P w (n0 H x o') h' x o'):HOk P w (n0 H x o') h':=fun b u q=>by
 have nown:∀c y,H c=some (.own y)→c≠x:=fun c y r z=>by subst z;rw[r] at mu;exact mu
 have ntup:∀c xs,H c=some (.tup xs)→c≠x:=fun c xs r z=>by subst z;rw[r] at mu;exact mu
 by_cases hb:b=x
 ·subst hb;rw[d9] at q;cases q;exact new
 ·rw[b9 hb] at q
  by_cases hbe:b=e
  ·have q':H b=some (.own x):=by
    rcases he with z|z
    ·exact absurd (hbe.trans z) hb
    ·rw[hbe];exact z
   rw[q] at q';cases q'
   obtain⟨v,hv⟩:=heo
   exact⟨v,by rw[hbe];exact hv⟩
  ·refine(ok b u q).stay (fun c v hc r=>k c v ?_ r) (fun c r=>by rw[b9 (nown c b r)];exact r) fun c xs r=>by rw[b9 (ntup c xs r)];exact r
   rcases hc with rfl|hc
   ·exact hbe
   ·rintro rfl
    rcases he with z|z
    ·exact nown c b hc z
    ·rw[hc] at z;cases z;exact hb rfl
end
structure Un (fs ex:List Addr) (H H':Hp) (h h':Heap):Prop where
 keep:∀b o,h.get? b=some o→H b=none→b∉fs→b∉ex→h'.get? b=some o
 slot:∀b o,h.get? b=some o→H b=none→b∈fs→b∉ex→∃sl,h'.get? b=some {o with slots:=sl}
 free:∀b o,h.get? b=some o→H b=none→b∉ex→H' b=none
 there:∀b o,h.get? b=some o→b∉ex→∃o',h'.get? b=some o'
 tups:∀b xs,H b=some (.tup xs)→H' b=some (.tup xs)
 frzs:∀b o u,H b=some (.frz o u)→H' b=some (.frz o u)
 tbls:∀b ps,H b=some (.tbl ps)→∃more,H' b=some (.tbl (ps++more))
section
variable {fs fs' ex ex':List Addr} {H H1 H2:Hp} {h h1 h2 h':Heap} {a x e:Addr} {o:HO}
theorem Un.any (u:Un fs ex H H1 h h1){b:Addr}{ob:Obj}(q:h.get? b=some ob)(n:H b=none)(hx:b∉ex):∃sl,h1.get? b=some {ob with slots:=sl}:=by
 by_cases hb:b∈fs
 ·exact u.slot b ob q n hb hx
 ·exact⟨ob.slots,u.keep b ob q n hb hx⟩
theorem Un.trans (a:Un fs ex H H1 h h1)(b:Un fs ex H1 H2 h1 h2):Un fs ex H H2 h h2 where
 keep:=fun c ob q n hc hx=>b.keep c ob (a.keep c ob q n hc hx) (a.free c ob q n hx) hc hx
 slot:=fun c ob q n hc hx=>by
  obtain⟨sl,e1⟩:=a.slot c ob q n hc hx
  obtain⟨sl',e2⟩:=b.slot c _ e1 (a.free c ob q n hx) hc hx
  exact⟨sl',e2⟩
 free:=fun c ob q n hx=>by
  obtain⟨o',e1⟩:=a.there c ob q hx
  exact b.free c o' e1 (a.free c ob q n hx) hx
 there:=fun c ob q hx=>by
  obtain⟨o',e1⟩:=a.there c ob q hx
  exact b.there c o' e1 hx
 tups:=fun c xs q=>b.tups c xs (a.tups c xs q)
 frzs:=fun c ob xs q=>b.frzs c ob xs (a.frzs c ob xs q)
 tbls:=fun c ps q=>by
  obtain⟨m1,e1⟩:=a.tbls c ps q
  obtain⟨m2,e2⟩:=b.tbls c _ e1
  exact⟨m1++m2,by rw[e2,Array.append_assoc]⟩
theorem Un.kept (k:∀b u,h.get? b=some u→h'.get? b=some u):Un fs ex H H h h':=
 ⟨fun b ob q _ _ _=>k b ob q,fun b ob q _ _ _=>⟨ob.slots,k b ob q⟩,fun _ _ _ n _=>n,fun b ob q _=>⟨ob,k b ob q⟩,fun _ _ q=>q,fun _ _ _ q=>q,fun _ ps q=>⟨#[],by rw[q];simp⟩⟩
theorem Un.refl:Un fs ex H H h h:=Un.kept fun _ _ q=>q
theorem Un.laid (k:∀b u,h.get? b=some u→h'.get? b=some u)(hp:h.objs.size≤a)(hn:H a=none):Un fs ex H (n0 H a o) h h' where
 keep:=fun b u q _ _ _=>k b u q
 slot:=fun b u q _ _ _=>⟨u.slots,k b u q⟩
 free:=fun b u q n _=>by rw[b9 (Nat.ne_of_lt (Nat.lt_of_lt_of_le (Heap.lt_size q) hp))];exact n
 there:=fun b u q _=>⟨u,k b u q⟩
 tups:=fun b xs q=>by rw[b9 (d8 q hn)];exact q
 frzs:=fun b u xs q=>by rw[b9 (d8 q hn)];exact q
 tbls:=fun b ps q=>⟨#[],by rw[b9 (d8 q hn),q];simp⟩
theorem Un.write (mu:vR (H x))(he:e=x∨H e=some (.own x))(k:∀b u,b≠e→h.get? b=some u→h'.get? b=some u)(heo:∃u,h'.get? e=some u):Un fs ex H (n0 H x o) h h':=by
 have hx:∀b,H b=none→b≠x:=fun b n z=>by subst z;rw[n] at mu;exact mu
 have hb:∀b,H b=none→b≠e:=fun b n z=>by
  subst z
  rcases he with r|r
  ·exact hx b n r
  ·rw[n] at r;cases r
 have hm:∀b u,H b=some u→¬vR (some u)→b≠x:=fun b u q nm z=>by subst z;rw[q] at mu;exact nm mu
 refine⟨fun b u q n _ _=>k b u (hb b n) q,fun b u q n _ _=>⟨u.slots,k b u (hb b n) q⟩,fun b u q n _=>by rw[b9 (hx b n)];exact n,fun b u q _=>?_,
  fun b xs q=>by rw[b9 (hm b _ q fun z=>z)];exact q,fun b u xs q=>by rw[b9 (hm b _ q fun z=>z)];exact q,fun b ps q=>⟨#[],by rw[b9 (hm b _ q fun z=>z),q];simp⟩⟩
 by_cases hbe:b=e
 ·subst hbe;exact heo
 ·exact⟨u,k b u hbe q⟩
theorem Un.mono (u:Un fs ex H H1 h h1)(hs:∀b∈fs,b∈fs')(hx:∀b∈ex,b∈ex'):Un fs' ex' H H1 h h1:=
 ⟨fun b ob q n hb he=>u.keep b ob q n (fun z=>hb (hs b z)) fun z=>he (hx b z),fun _ _ q n _ he=>u.any q n fun z=>he (hx _ z),fun b ob q n he=>u.free b ob q n fun z=>he (hx b z),fun b ob q he=>u.there b ob q fun z=>he (hx b z),u.tups,u.frzs,u.tbls⟩
end
def xD (h:Heap)(H:Hp):List Addr:=(List.range h.objs.size).filter fun a=>(H a).isSome
def fR (h:Heap)(H:Hp):Heap:=PySem.W.hideAll h (xD h H)
theorem lK (h:Heap)(H:Hp):(fR h H).objs.size=h.objs.size:=PySem.W.hideAll_size _ _
theorem nP {h:Heap}{H:Hp}{b:Addr}{o:Obj}(e:h.get? b=some o)(n:H b=none):(fR h H).get? b=some o:=
 PySem.W.hideAll_get _ e fun hm=>by
  have q:(H b).isSome=true:=(List.mem_filter.mp hm).2
  rw[n] at q;simp at q
theorem rm {h:Heap}{H:Hp}{b:Addr}{o:Obj}(e:(fR h H).get? b=some o):h.get? b=some o∧H b=none:=by
 have e':h.get? b=some o:=PySem.W.of_hideAll (xD h H) e
 refine⟨e',?_⟩
 cases q:H b with
 |none=>rfl
 |some x=>
  have hm:b∈xD h H:=List.mem_filter.mpr ⟨List.mem_range.mpr (Heap.lt_size e'),by simp [q]⟩
  have z:(fR h H).get? b=none:=PySem.W.hideAll_none (xD h H) hm
  rw[z] at e;cases e
def qR (g h:Heap)(L:Addr):List (Addr×Obj):=(List.range h.objs.size).filterMap fun a=>if a=L∨(g.get? a).isSome=true then none else(h.get? a).map fun o=>(a,o)
def R0 (g h:Heap)(L d:Addr):List (Addr×Obj):=(qR g h L).filter fun p=>decide (p.1≠d)
end L2
namespace L2
open PySem PySem.Spec PyProof.Rows
structure Mod (K:PySem.W.Frag) (mg:Str→Option Value) (base:Heap):Prop where
 kin:K.In base
 glob:base.Ns mainGlobals mg
 blt:∃mb,base.Ns builtinsNs mb∧∀x:Str,x≠"__name__"→mb x=bootBuiltins x
 nolimit:base.NoLimit
structure Cx where
 prog:Program
 w:World
 K:PySem.W.Frag
 mg:Str→Option Value
 base:Heap
 A:Around
 N:List Str
 s₀:Shared
 H₀:Hp
 env:Env
 outer:List Env
 stack:List Env
 ex:List Addr
 fn:Str→Bool
 calm:Bool
 pn:List (Addr×Obj)
 xe:Value→Shared→Prop
def aC (l:List Env):List Addr:=l.filterMap (·.frame)
abbrev Cx.fs (X:Cx):List Addr:=aC X.outer
def xY (sc:Scope)(x:Str):Prop:=sc.names.lookup x=some .local∨sc.names.lookup x=some .cell∨sc.names.lookup x=some .free
def rL (sc:Scope)(x:Str):Prop:=sc.names.lookup x=some .local∨sc.names.lookup x=some .cell
def ya (env:Env)(h:Heap)(m:Str→Option Value)(x:Str)(u:Value):Prop:=
 (env.kindOf x=some .local∧m x=some u)∨((env.kindOf x=some .cell∨env.kindOf x=some .free)∧∃c,env.cells.lookup x=some c∧h.IsCell c (some u))
structure Cx.Ok (X:Cx):Prop where
 mod:Mod X.K X.mg X.base
 kind:X.env.scope.kind= .function
 glob:X.env.globals=mainGlobals
 blt:X.env.builtins=builtinsNs
 above:X.s₀.heap.objs.size≤X.env.locals
 inj:∀x y c,X.env.cells.lookup x=some c→X.env.cells.lookup y=some c→x=y
 has:∀x,(X.env.kindOf x=some .cell∨X.env.kindOf x=some .free)→∃c,X.env.cells.lookup x=some c
 cab:∀x c,X.fn x=true→X.env.cells.lookup x=some c→X.s₀.heap.objs.size≤c
 hd:X.calm=true→X.A.handled=none
 frames:X.A.frames=some X.stack
 stk:X.stack=X.outer∨(X.stack=X.env::X.outer∧X.env.frame=some X.env.locals)
 exf:∀b∈X.ex,b≠X.env.locals∧∀x c,X.env.cells.lookup x=some c→c≠b
 bs:∀b o,X.base.get? b=some o→X.s₀.heap.get? b=some o∧X.H₀ b=none
 bsz:X.base.objs.size≤X.s₀.heap.objs.size
 noex:∀b o,X.base.get? b=some o→b∉X.ex
 exfs:∀b∈X.ex,b∉X.fs
 funs:X.s₀.heap.FunFrames X.base X.outer
 frf:∀b∈X.fs,X.H₀ b=none
structure Inv (X:Cx) (pins:List (Addr×Obj)) (σ:List (Option V)) (H:Hp) (s:Shared):Prop where
 ok:X.Ok
 os:s.os=X.s₀.os
 bare:AllBare s.gens
 base:Un X.fs X.ex X.H₀ H X.s₀.heap s.heap
 loc:∃m,s.heap.Ns X.env.locals m∧∀(i:Nat) (x:Str) (v:V),X.N[i]?=some x→σ[i]?=some (some v)→xY X.env.scope x→∃u,RelV v u∧ya X.env s.heap m x u
 cell:∀x c,X.env.cells.lookup x=some c→∃v,s.heap.IsCell c v
 free:H X.env.locals=none
 freeC:∀x c,X.env.cells.lookup x=some c→H c=none
 pin:∀p∈X.pn++pins,s.heap.get? p.1=some p.2∧H p.1=none∧p.1≠X.env.locals∧p.1∉X.fs∧∀v,p.2.data≠ .cell v
 hok:HOk X.prog X.w H s.heap
 len:σ.length=X.N.length
section
variable {X:Cx} {pins:List (Addr×Obj)} {σ:List (Option V)} {H H':Hp} {s:Shared} {h':Heap}
theorem Cx.Ok.nofr (ok:X.Ok){b:Addr}{o:Obj}(e:X.base.get? b=some o):b∉X.fs:=fun hb=>by
 have:=(ok.funs.mem hb).1
 rw[e] at this;cases this
theorem Inv.bs (I:Inv X pins σ H s):∀b o,X.base.get? b=some o→s.heap.get? b=some o∧H b=none:=fun b o e=>
 ⟨I.base.keep b o (I.ok.bs b o e).1 (I.ok.bs b o e).2 (I.ok.nofr e) (I.ok.noex b o e),I.base.free b o (I.ok.bs b o e).1 (I.ok.bs b o e).2 (I.ok.noex b o e)⟩
theorem Inv.bk (I:Inv X pins σ H s):∀b o,X.base.get? b=some o→s.heap.get? b=some o:=fun b o e=>(I.bs b o e).1
theorem Inv.mod (I:Inv X pins σ H s):Mod X.K X.mg X.base:=I.ok.mod
theorem Inv.kIn (I:Inv X pins σ H s):X.K.In s.heap:=I.ok.mod.kin.keeps I.bk
theorem Inv.nolimit (I:Inv X pins σ H s):s.heap.NoLimit:=I.ok.mod.nolimit.keeps I.bk
theorem Inv.fr (I:Inv X pins σ H s):∃m,Fr X.base X.env.locals s.heap m:=
 let ⟨m,hn,_⟩:=I.loc
 ⟨m,hn,I.bk,Nat.le_trans I.ok.bsz I.ok.above⟩
theorem Inv.lt (I:Inv X pins σ H s):X.env.locals<s.heap.objs.size:=let ⟨_,hn,_⟩:=I.loc;hn.lt
theorem Inv.sz (I:Inv X pins σ H s):X.s₀.heap.objs.size≤s.heap.objs.size:=Nat.le_trans I.ok.above (Nat.le_of_lt I.lt)
theorem Inv.nofs (I:Inv X pins σ H s){a:Addr}(h:s.heap.objs.size≤a):a∉X.fs:=fun hb=>by
 obtain⟨_,o,ho,_⟩:=I.ok.funs.mem hb
 exact absurd (Nat.lt_of_lt_of_le (Heap.lt_size ho) (Nat.le_trans I.sz h)) (Nat.lt_irrefl _)
theorem Inv.cne (I:Inv X pins σ H s):∀x c,X.env.cells.lookup x=some c→c≠X.env.locals:=fun x c e z=>by
 obtain⟨v,o,ho,hd⟩:=I.cell x c e
 obtain⟨m,⟨o',es,ep,ho',hd',_⟩,_⟩:=I.loc
 rw[z,ho'] at ho;cases ho;rw[hd'] at hd;cases hd
theorem Inv.funs (I:Inv X pins σ H s):s.heap.FunFrames X.base X.outer:=by
 have all:∀(l:List Env),(∀b∈aC l,b∈X.fs)→X.s₀.heap.FunFrames X.base l→s.heap.FunFrames X.base l:=by
  intro l
  induction l with
  |nil=>intro _ _;trivial
  |cons env r ih=>
   intro hs hl
   obtain⟨hk,⟨L,o,hf,hn,ho,hd⟩,hr⟩:=hl
   have hL:L∈X.fs:=hs L (by unfold aC;rw[List.filterMap_cons,hf];exact List.mem_cons_self)
   obtain⟨sl,e⟩:=I.base.slot L o ho (I.ok.frf L hL) hL fun z=>I.ok.exfs L z hL
   exact⟨hk,⟨L,_,hf,hn,e,hd⟩,ih (fun b hb=>hs b (by unfold aC;rw[List.filterMap_cons,hf];exact List.mem_cons_of_mem _ hb)) hr⟩
 exact all X.outer (fun _ hb=>hb) I.ok.funs
theorem Inv.stack (I:Inv X pins σ H s):s.heap.FunFrames X.base X.stack:=by
 rcases I.ok.stk with e|⟨e,hf⟩
 ·rw[e];exact I.funs
 ·rw[e]
  obtain⟨m,hn,_⟩:=I.loc
  refine .cons (by rw[I.ok.kind];decide) hf hn ?_ I.funs
  exact Heap.get?_none_of_le (Nat.le_trans I.ok.bsz I.ok.above)
theorem Inv.stkSub (I:Inv X pins σ H s):∀b∈aC X.stack,b∈X.env.locals::X.fs:=fun b hb=>by
 rcases I.ok.stk with e|⟨e,hf⟩
 ·rw[e] at hb;exact List.mem_cons_of_mem _ hb
 ·rw[e] at hb
  unfold aC at hb
  rw[List.filterMap_cons,hf] at hb
  exact hb
theorem Inv.stkFree (I:Inv X pins σ H s):∀b∈aC X.stack,H b=none:=fun b hb=>by
 rcases List.mem_cons.mp (I.stkSub b hb) with e|hb
 ·rw[e];exact I.free
 ·obtain⟨_,o,ho,_⟩:=I.ok.funs.mem hb
  exact I.base.free b o ho (I.ok.frf b hb) fun z=>I.ok.exfs b z hb
theorem Inv.step {g':Array GenState}{t':Nat}{d':Drawn}{ch:List Addr}(I:Inv X pins σ H s)
  (hch:∀b∈ch,(b∈X.ex∨X.s₀.heap.objs.size≤b)∧b≠X.env.locals∧(∀x c,X.env.cells.lookup x=some c→c≠b)∧∀p∈X.pn++pins,p.1≠b)
  (keep:∀b o,b≠X.env.locals→b∉X.fs→b∉ch→s.heap.get? b=some o→H b=none→h'.get? b=some o)
  (slot:∀b o,b≠X.env.locals→b∈X.fs→b∉ch→s.heap.get? b=some o→H b=none→∃sl,h'.get? b=some {o with slots:=sl}) (free:∀b o,b∉ch→s.heap.get? b=some o→H b=none→H' b=none)
  (there:∀b o,b∉ch→s.heap.get? b=some o→∃o',h'.get? b=some o')
  (tups:∀b xs,H b=some (.tup xs)→H' b=some (.tup xs)) (frzs:∀b o u,H b=some (.frz o u)→H' b=some (.frz o u)) (tbls:∀b ps,H b=some (.tbl ps)→∃more,H' b=some (.tbl (ps++more)))
  (ns:∀m,s.heap.Ns X.env.locals m→h'.Ns X.env.locals m) (hok:HOk X.prog X.w H' h') (hg:AllBare g'):
  Inv X pins σ H' {s with heap:=h',gens:=g',drawn:=d',toks:=t'}:=by
 have neL:∀b o,X.s₀.heap.get? b=some o→b≠X.env.locals:=fun b o e=>Nat.ne_of_lt (Nat.lt_of_lt_of_le (Heap.lt_size e) I.ok.above)
 have neC:∀b o,X.s₀.heap.get? b=some o→b∉X.ex→b∉ch:=fun b o e hx hb=>by
  rcases(hch b hb).1 with z|z
  ·exact hx z
  ·exact absurd (Nat.lt_of_lt_of_le (Heap.lt_size e) z) (Nat.lt_irrefl _)
 have cellK:∀x c,X.env.cells.lookup x=some c→∀v,s.heap.IsCell c v→h'.IsCell c v:=fun x c e v ⟨o,ho,hd⟩=>by
  have nch:c∉ch:=fun z=>(hch c z).2.2.1 x c e rfl
  by_cases hc:c∈X.fs
  ·obtain⟨sl,q⟩:=slot c o (I.cne x c e) hc nch ho (I.freeC x c e)
   exact⟨_,q,hd⟩
  ·exact⟨o,keep c o (I.cne x c e) hc nch ho (I.freeC x c e),hd⟩
 refine⟨I.ok,I.os,hg,⟨fun b o e n hb hx=>?_,fun b o e n hb hx=>?_,fun b o e n hx=>?_,fun b o e hx=>?_,fun b xs e=>tups b xs (I.base.tups b xs e),fun b o xs e=>frzs b o xs (I.base.frzs b o xs e),fun b ps e=>?_⟩,?_,fun x c e=>?_,?_,fun x c e=>?_,fun p hp=>?_,hok,I.len⟩
 ·exact keep b o (neL b o e) hb (neC b o e hx) (I.base.keep b o e n hb hx) (I.base.free b o e n hx)
 ·obtain⟨sl,e1⟩:=I.base.slot b o e n hb hx
  obtain⟨sl',e2⟩:=slot b _ (neL b o e) hb (neC b o e hx) e1 (I.base.free b o e n hx)
  exact⟨sl',e2⟩
 ·obtain⟨o',e1⟩:=I.base.there b o e hx
  exact free b o' (neC b o e hx) e1 (I.base.free b o e n hx)
 ·obtain⟨o',e1⟩:=I.base.there b o e hx
  exact there b o' (neC b o e hx) e1
 ·obtain⟨m1,e1⟩:=I.base.tbls b ps e
  obtain⟨m2,e2⟩:=tbls b _ e1
  exact⟨m1++m2,by rw[e2,Array.append_assoc]⟩
 ·obtain⟨m,hn,hl⟩:=I.loc
  refine⟨m,ns m hn,fun i x v e1 e2 e3=>?_⟩
  obtain⟨u,r,l⟩:=hl i x v e1 e2 e3
  refine⟨u,r,?_⟩
  rcases l with l|⟨k,c,e,z⟩
  ·exact .inl l
  ·exact .inr ⟨k,c,e,cellK x c e _ z⟩
 ·obtain⟨v,z⟩:=I.cell x c e
  exact⟨v,cellK x c e v z⟩
 ·obtain⟨m,⟨o,_,_,ho,_⟩,_⟩:=I.loc
  exact free _ o (fun z=>(hch _ z).2.1 rfl) ho I.free
 ·obtain⟨v,o,ho,hd⟩:=I.cell x c e
  exact free c o (fun z=>(hch c z).2.2.1 x c e rfl) ho (I.freeC x c e)
 ·obtain⟨e,n,ne,nf,d⟩:=I.pin p hp
  have nch:p.1∉ch:=fun z=>(hch p.1 z).2.2.2 p hp rfl
  exact⟨keep p.1 p.2 ne nf nch e n,free p.1 p.2 nch e n,ne,nf,d⟩
theorem Inv.un {t':Nat}(I:Inv X pins σ H s)(u:Un X.fs [] H H' s.heap h')(hok:HOk X.prog X.w H' h'):Inv X pins σ H' {s with heap:=h',toks:=t'}:=by
 obtain⟨m,⟨o,es,ep,ho,r⟩,_⟩:=id I.loc
 obtain⟨sl,hL⟩:=u.any ho I.free (by simp)
 exact I.step (g':=s.gens) (d':=s.drawn) (ch:=[]) (fun _ z=>nomatch z) (fun b o _ hb _ e n=>u.keep b o e n hb (by simp)) (fun b o _ hb _ e n=>u.slot b o e n hb (by simp)) (fun b o _ e n=>u.free b o e n (by simp)) (fun b o _ e=>u.there b o e (by simp)) u.tups u.frzs u.tbls (fun m' hm=>by
  obtain⟨o',es',ep',ho',r'⟩:=hm
  rw[ho] at ho';cases ho'
  exact⟨_,es',ep',hL,r'⟩) hok I.bare
theorem Inv.call {g':Array GenState}{t':Nat}{d':Drawn}{ch:List Addr}(I:Inv X pins σ H s)(u:Un (aC X.stack) ch H H' s.heap h')(hok:HOk X.prog X.w H' h')(hg:AllBare g')
  (hch:∀b∈ch,(b∈X.ex∨X.s₀.heap.objs.size≤b)∧b≠X.env.locals∧(∀x c,X.env.cells.lookup x=some c→c≠b)∧∀p∈X.pn++pins,p.1≠b):
  Inv X pins σ H' {s with heap:=h',gens:=g',drawn:=d',toks:=t'}:=by
 obtain⟨m,⟨o,es,ep,ho,r⟩,_⟩:=id I.loc
 obtain⟨sl,hL⟩:=u.any ho I.free fun z=>(hch _ z).2.1 rfl
 exact I.step (ch:=ch) hch (fun b o hL hb hc e n=>u.keep b o e n (fun z=>(List.mem_cons.mp (I.stkSub b z)).elim hL hb) hc) (fun b o _ _ hc e n=>u.any e n hc) (fun b o hc e n=>u.free b o e n hc) (fun b o hc e=>u.there b o e hc) u.tups u.frzs u.tbls (fun m' hm=>by
  obtain⟨o',es',ep',ho',r'⟩:=hm
  rw[ho] at ho';cases ho'
  exact⟨_,es',ep',hL,r'⟩) hok hg
theorem Inv.turned {t':Nat}{it:Addr}(I:Inv X pins σ H s)(k:∀b o,b≠it→s.heap.get? b=some o→h'.get? b=some o)(hn:H it=none)(hL:it≠X.env.locals)
  (h1:it∈X.ex∨X.s₀.heap.objs.size≤it) (h2:∀x c,X.env.cells.lookup x=some c→c≠it) (h3:∀p∈X.pn++pins,p.1≠it):Inv X pins σ H {s with heap:=h',toks:=t'}:=by
 have nit:∀b u,H b=some u→b≠it:=fun b u e z=>by rw[z,hn] at e;cases e
 refine I.step (g':=s.gens) (d':=s.drawn) (ch:=[it]) (fun b hb=>?_) (fun b o _ _ hc e _=>k b o (fun z=>hc (by simp [z])) e) (fun b o _ _ hc e _=>⟨o.slots,k b o (fun z=>hc (by simp [z])) e⟩) (fun _ _ _ _ n=>n)
  (fun b o hc e=>⟨o,k b o (fun z=>hc (by simp [z])) e⟩) (fun _ _ e=>e) (fun _ _ _ e=>e) (fun b ps e=>⟨#[],by rw[e];simp⟩) (fun m hm=>?_) (fun b u e=>?_) I.bare
 ·have e:b=it:=by simpa using hb
  subst e
  exact⟨h1,hL,h2,h3⟩
 ·obtain⟨o,es,ep,ho,r⟩:=hm
  exact⟨o,es,ep,k _ o (Ne.symm hL) ho,r⟩
 ·refine(I.hok b u e).stay (fun c v hc q=>k c v ?_ q) (fun _ q=>q) fun _ _ q=>q
  rcases hc with z|z
  ·rw[z];exact nit b u e
  ·exact nit c _ z
theorem Inv.tok (I:Inv X pins σ H s)(t:Nat):Inv X pins σ H {s with toks:=t}:=I.un (h':=s.heap) (t':=t) Un.refl I.hok
theorem Inv.kept {t':Nat}(I:Inv X pins σ H s)(k:∀b u,s.heap.get? b=some u→h'.get? b=some u):Inv X pins σ H {s with heap:=h',toks:=t'}:=I.un (Un.kept k) (I.hok.kept k)
theorem Inv.laid {a:Addr}{o:HO}{t':Nat}(I:Inv X pins σ H s)(k:∀b u,s.heap.get? b=some u→h'.get? b=some u)(hp:s.heap.objs.size≤a)(new:ObjOk X.prog X.w (n0 H a o) h' a o):
  Inv X pins σ (n0 H a o) {s with heap:=h',toks:=t'}:=I.un (Un.laid k hp (I.hok.fresh hp)) (I.hok.laid k hp new)
theorem Inv.write {x e:Addr}{o:HO}{t':Nat}(I:Inv X pins σ H s)(mu:vR (H x))(he:e=x∨H e=some (.own x))(k:∀b u,b≠e→s.heap.get? b=some u→h'.get? b=some u)(heo:∃u,h'.get? e=some u)
  (new:ObjOk X.prog X.w (n0 H x o) h' x o):Inv X pins σ (n0 H x o) {s with heap:=h',toks:=t'}:=I.un (Un.write mu he k heo) (I.hok.write mu he k heo new)
theorem Inv.weak {σ':List (Option V)}(I:Inv X pins σ H s)(hl:σ'.length=σ.length)(w:∀(i:Nat) v,σ'[i]?=some (some v)→σ[i]?=some (some v)):Inv X pins σ' H s:=
 ⟨I.ok,I.os,I.bare,I.base,let ⟨m,hn,hl'⟩:=I.loc;⟨m,hn,fun i x v e1 e2 e3=>hl' i x v e1 (w i v e2) e3⟩,I.cell,I.free,I.freeC,I.pin,I.hok,hl.trans I.len⟩
theorem Inv.pins_of {pins':List (Addr×Obj)}(I:Inv X pins σ H s)(h:∀p∈pins',s.heap.get? p.1=some p.2∧H p.1=none∧p.1≠X.env.locals∧p.1∉X.fs∧∀v,p.2.data≠ .cell v):Inv X pins' σ H s:=
 ⟨I.ok,I.os,I.bare,I.base,I.loc,I.cell,I.free,I.freeC,fun p hp=>(List.mem_append.mp hp).elim (fun z=>I.pin p (List.mem_append_left _ z)) (h p),I.hok,I.len⟩
theorem gZ {N:List Str}(hN:N.Nodup){i j:Nat}{x:Str}(a:N[i]?=some x)(b:N[j]?=some x):i=j:=by
 obtain⟨h1,e1⟩:=List.getElem?_eq_some_iff.mp a
 obtain⟨h2,e2⟩:=List.getElem?_eq_some_iff.mp b
 exact(List.getElem_inj hN).mp (e1.trans e2.symm)
theorem eG {M:Model}{A:Around}{E:Value→Shared→Prop}{i:Nat}{x:Str}{v:V}{u:Value}{Q:Unit→Shared→Prop}(I:Inv X pins σ H s)(hN:X.N.Nodup)(hi:X.N[i]?=some x)(hx:rL X.env.scope x)(r:RelV v u)
  (h:∀s',Inv X pins (σ.set i (some v)) H s'→(∃a,Heap.SameBut a s.heap s'.heap∧(a=X.env.locals∨X.env.cells.lookup x=some a))→Q () s') (hf:X.fn x=true∨X.env.scope.names.lookup x=some .local:=by first|exact .inl rfl|exact .inr rfl|assumption):wpAny M A (storeName X.env x u) Q E s:=by
 obtain⟨m,hn,hl⟩:=id I.loc
 have hcls:(X.env.scope.kind== .class||(X.env.scope.kind== .module&&X.env.locals !=X.env.globals))=false:=by rw[I.ok.kind];rfl
 have hiσ:i<σ.length:=by rw[I.len];exact(List.getElem?_eq_some_iff.mp hi).1
 have cne:=I.cne
 have tracked:∀{a:Addr} {h':Heap},(∃o,s.heap.get? a=some o∧H a=none)→Heap.SameBut a s.heap h'→HOk X.prog X.w H h':=fun{a h'} ha hs b ob e=>by
  obtain⟨_,_,hfree⟩:=ha
  refine(I.hok b ob e).stay (fun c w' hc q=>(hs.2 c ?_).trans q) (fun _ q=>q) fun _ _ q=>q
  rintro rfl
  rcases hc with rfl|hc
  ·rw[hfree] at e;cases e
  ·rw[hfree] at hc;cases hc
 rcases hx with hk|hk
 ·refine wpAny_storeName_local hk hn (fun h' hn' hs=>?_) hcls
  obtain⟨oL,_,_,hoL,_⟩:=id hn
  refine h _ ⟨I.ok,I.os,I.bare,⟨fun b o e n hb hx=>?_,fun b o e n hb hx=>?_,I.base.free,fun b o e hx=>?_,I.base.tups,I.base.frzs,I.base.tbls⟩,⟨_,hn',fun j y v' e1 e2 e3=>?_⟩,fun y c e=>?_,I.free,I.freeC,fun p hp=>?_,tracked ⟨oL,hoL,I.free⟩ hs,by simpa using I.len⟩ ⟨_,hs,.inl rfl⟩
  ·exact(hs.2 b (Nat.ne_of_lt (Nat.lt_of_lt_of_le (Heap.lt_size e) I.ok.above))).trans (I.base.keep b o e n hb hx)
  ·obtain⟨sl,e1⟩:=I.base.slot b o e n hb hx
   exact⟨sl,(hs.2 b (Nat.ne_of_lt (Nat.lt_of_lt_of_le (Heap.lt_size e) I.ok.above))).trans e1⟩
  ·obtain⟨o',e1⟩:=I.base.there b o e hx
   exact⟨o',(hs.2 b (Nat.ne_of_lt (Nat.lt_of_lt_of_le (Heap.lt_size e) I.ok.above))).trans e1⟩
  ·by_cases hj:j=i
   ·subst hj
    rw[hi] at e1;cases e1
    rw[List.getElem?_set_self hiσ] at e2
    cases e2
    exact⟨u,r,.inl ⟨hk,by simp⟩⟩
   ·rw[List.getElem?_set_ne (Ne.symm hj)] at e2
    obtain⟨u',r',q⟩:=hl j y v' e1 e2 e3
    refine⟨u',r',?_⟩
    rcases q with⟨k,e⟩|⟨k,c,e,z⟩
    ·refine .inl ⟨k,?_⟩
     have:y≠x:=fun e=>hj (gZ hN e1 (e▸hi))
     simp [this,e]
    ·exact .inr ⟨k,c,e,z.sameBut hs (cne y c e)⟩
  ·obtain⟨w',z⟩:=I.cell y c e
   exact⟨w',z.sameBut hs (cne y c e)⟩
  ·obtain⟨e,n,ne,nf,d⟩:=I.pin p hp
   exact⟨(hs.2 p.1 ne).trans e,n,ne,nf,d⟩
 ·have hfn:X.fn x=true:=by
   rcases hf with z|z
   ·exact z
   ·rw[z] at hk;cases hk
  obtain⟨c,hc⟩:=I.ok.has x (.inl hk)
  obtain⟨w',z⟩:=I.cell x c hc
  refine wpAny_storeName_cell I.ok.kind hk hc z (fun h' hc' hs=>?_)
  obtain⟨oc,hoc,hocd⟩:=id z
  refine h {s with heap:=h'} ⟨I.ok,I.os,I.bare,⟨fun b o e n hb hx=>?_,fun b o e n hb hx=>?_,I.base.free,fun b o e hx=>?_,I.base.tups,I.base.frzs,I.base.tbls⟩,⟨m,hn.sameBut hs (Ne.symm (cne x c hc)),fun j y v' e1 e2 e3=>?_⟩,fun y c' e=>?_,I.free,I.freeC,fun p hp=>?_,tracked ⟨oc,hoc,I.freeC x c hc⟩ hs,by simpa using I.len⟩ ⟨c,hs,.inr hc⟩
  ·exact(hs.2 b (Nat.ne_of_lt (Nat.lt_of_lt_of_le (Heap.lt_size e) (I.ok.cab x c hfn hc)))).trans (I.base.keep b o e n hb hx)
  ·obtain⟨sl,e1⟩:=I.base.slot b o e n hb hx
   exact⟨sl,(hs.2 b (Nat.ne_of_lt (Nat.lt_of_lt_of_le (Heap.lt_size e) (I.ok.cab x c hfn hc)))).trans e1⟩
  ·obtain⟨o',e1⟩:=I.base.there b o e hx
   exact⟨o',(hs.2 b (Nat.ne_of_lt (Nat.lt_of_lt_of_le (Heap.lt_size e) (I.ok.cab x c hfn hc)))).trans e1⟩
  ·by_cases hj:j=i
   ·subst hj
    rw[hi] at e1;cases e1
    rw[List.getElem?_set_self hiσ] at e2
    cases e2
    exact⟨u,r,.inr ⟨.inl hk,c,hc,hc'⟩⟩
   ·rw[List.getElem?_set_ne (Ne.symm hj)] at e2
    obtain⟨u',r',q⟩:=hl j y v' e1 e2 e3
    refine⟨u',r',?_⟩
    rcases q with q|⟨k,c',e,z'⟩
    ·exact .inl q
    ·refine .inr ⟨k,c',e,z'.sameBut hs ?_⟩
     rintro rfl
     exact hj (gZ hN e1 (I.ok.inj _ _ _ e hc▸hi))
  ·by_cases hcc:c'=c
   ·subst hcc;exact⟨_,hc'⟩
   ·obtain⟨w2,z2⟩:=I.cell y c' e
    exact⟨w2,z2.sameBut hs hcc⟩
  ·obtain⟨e,n,ne,nf,d⟩:=I.pin p hp
   refine⟨(hs.2 p.1 ?_).trans e,n,ne,nf,d⟩
   intro q
   rw[q,hoc] at e
   have q':oc=p.2:=Option.some.inj e
   exact d w' (by rw[←q'];exact hocd)
theorem gJ {M:Model}{A:Around}{E:Value→Shared→Prop}{i:Nat}{x:Str}{v:V}{u:Value}{Q:Unit→Shared→Prop}(I:Inv X pins σ H s)(hN:X.N.Nodup)(hi:X.N[i]?=some x)(hx:rL X.env.scope x)(r:RelV v u)
  (h:∀s',Inv X pins (σ.set i (some v)) H s'→Q () s') (hf:X.fn x=true∨X.env.scope.names.lookup x=some .local:=by first|exact .inl rfl|exact .inr rfl|assumption):wpAny M A (storeName X.env x u) Q E s:=
 eG I hN hi hx r (fun s' I' _=>h s' I') hf
theorem Inv.call' {s':Shared}{ch:List Addr}(I:Inv X pins σ H s)(ho:s'.os=s.os)(u:Un (aC X.stack) ch H H' s.heap s'.heap)(hok:HOk X.prog X.w H' s'.heap)(hg:AllBare s'.gens)
  (hch:∀b∈ch,(b∈X.ex∨X.s₀.heap.objs.size≤b)∧b≠X.env.locals∧(∀x c,X.env.cells.lookup x=some c→c≠b)∧∀p∈X.pn++pins,p.1≠b):Inv X pins σ H' s':=by
 obtain⟨h',g',d',t',o'⟩:=s'
 have e:o'=s.os:=ho
 subst e
 exact I.call (g':=g') (t':=t') (d':=d') u hok hg hch
end
abbrev XK:=Value→Option Addr→Hp→Prop
abbrev St:=List (Option V)
abbrev VK:=V→Hp→Prop
abbrev TE:=St→Hp→VK→Prop
abbrev TT:=St→Hp→(Bool→Hp→Prop)→Prop
abbrev TA:=St→Hp→(List V→Hp→Prop)→Prop
structure iA where
 nx:St→Hp→Prop
 rt:VK
 bk:St→Hp→Prop:=fun _ _=>False
 ct:St→Hp→Prop:=fun _ _=>False
abbrev TS:=iA→St→Hp→Prop
def EP (X:Cx)(pins:List (Addr×Obj))(σ:St)(Q:VK)(u:Value)(s':Shared):Prop:=∃v H',Inv X pins σ H' s'∧RelV v u∧Q v H'
def TP (X:Cx)(pins:List (Addr×Obj))(σ:St)(Q:Bool→Hp→Prop)(b:Bool)(s':Shared):Prop:=∃H',Inv X pins σ H' s'∧Q b H'
def AP (X:Cx)(pins:List (Addr×Obj))(σ:St)(Q:List V→Hp→Prop)(us:List Value)(s':Shared):Prop:=∃vs H',Inv X pins σ H' s'∧Vals vs us∧Q vs H'
def SP (X:Cx)(pins:List (Addr×Obj))(D:iA)(f:Flow)(s':Shared):Prop:=
 match f with
 | .next=>∃σ' H',Inv X pins σ' H' s'∧D.nx σ' H'
 | .brk=>∃σ' H',Inv X pins σ' H' s'∧D.bk σ' H'
 | .cont=>∃σ' H',Inv X pins σ' H' s'∧D.ct σ' H'
 | .ret u=>∃v σ' H',Inv X pins σ' H' s'∧RelV v u∧D.rt v H'
def PE (X:Cx)(e:Expr)(t:TE):Prop:=
 ∀(pins:List (Addr×Obj)) (s:Shared) (σ:St) (H:Hp) (Q:VK),Inv X pins σ H s→t σ H Q→wpAny (model X.prog X.w) X.A (eval e X.env) (EP X pins σ Q) X.xe s
def PT (X:Cx)(e:Expr)(t:TT):Prop:=
 ∀(pins:List (Addr×Obj)) (s:Shared) (σ:St) (H:Hp) (Q:Bool→Hp→Prop),Inv X pins σ H s→t σ H Q→wpAny (model X.prog X.w) X.A (isTrue e X.env (eval e X.env)) (TP X pins σ Q) X.xe s
def PW (X:Cx)(e:Expr)(t:TT):Prop:=
 ∀(whole:Sem Value) (pins:List (Addr×Obj)) (s:Shared) (σ:St) (H:Hp) (Q:Bool→Hp→Prop),Inv X pins σ H s→t σ H Q→wpAny (model X.prog X.w) X.A (isTrue e X.env whole) (TP X pins σ Q) X.xe s
theorem PW.pt {X:Cx}{e:Expr}{t:TT}(h:PW X e t):PT X e t:=h _
def PA (X:Cx)(es:List Expr)(t:TA):Prop:=
 ∀(pos:Pos) (pins:List (Addr×Obj)) (s:Shared) (σ:St) (H:Hp) (Q:List V→Hp→Prop),Inv X pins σ H s→t σ H Q→wpAny (model X.prog X.w) X.A (spliced (backTo pos (starEach es X.env))) (AP X pins σ Q) X.xe s
def PS (X:Cx)(st:Stmt)(t:TS):Prop:=
 ∀(pins:List (Addr×Obj)) (s:Shared) (σ:St) (H:Hp) (D:iA),Inv X pins σ H s→t D σ H→wpAny (model X.prog X.w) X.A (exec st X.env) (SP X pins D) X.xe s
def PSs (X:Cx)(st:List Stmt)(t:TS):Prop:=
 ∀(pins:List (Addr×Obj)) (s:Shared) (σ:St) (H:Hp) (D:iA),Inv X pins σ H s→t D σ H→wpAny (model X.prog X.w) X.A (execs st X.env) (SP X pins D) X.xe s
theorem G3 {α:Type}{t:Sem α}{Q Q':α→Shared→Prop}{M:Model}{A:Around}{E:Value→Shared→Prop}{s:Shared}(h:wpAny M A t Q E s)(hQ:∀a s,Q a s→Q' a s):wpAny M A t Q' E s:=wpAny_mono h hQ fun _ _ x=>x
end L2
namespace L2
open PySem PySem.Spec PyProof.Rows
section
variable {X:Cx}
def sg (i:Nat):TE:=fun σ H Q=>∃v,σ[i]?=some (some v)∧Q v H
def tC (v:V):TE:=fun _ H Q=>Q v H
theorem ui {i:Nat}{x:Str}{pos:Pos}(hN:X.N[i]?=some x)(hv:xY X.env.scope x)(hd:(x==("__debug__":Str))=false:=by decide)(hcd:(x==("__classdict__":Str))=false:=by decide):PE X (.Name x pos) (sg i):=by
 intro pins s σ H Q I h
 obtain⟨v,e,h⟩:=h
 obtain⟨m,hn,hl⟩:=I.loc
 obtain⟨u,r,l⟩:=hl i x v hN e hv
 have fin:EP X pins σ Q u s:=⟨v,H,I,r,h⟩
 rcases l with⟨hk,hm⟩|⟨hk,c,hc,hcell⟩
 ·exact wpAny_Name (wpAny_loadName_local I.ok.kind hk hn hm fin) hd
 ·rcases hk with hk|hk
  ·exact wpAny_Name (wpAny_loadName_cell I.ok.kind hk hc hcell fin) hd
  ·exact wpAny_Name (wpAny_loadName_free I.ok.kind hk hc hcell fin hcd) hd
theorem uw {i j pos}:PE X (.Constant (.int i) j pos) (tC (.int i)):=fun _ _ _ H _ I h=>wpAny_Constant_int ⟨.int i,H,I.tok _,⟨_,rfl⟩,h⟩
theorem wD {b j pos}:PE X (.Constant (.bool b) j pos) (tC (.bl b)):=fun _ _ _ H _ I h=>Constant_bool ⟨.bl b,H,I,rfl,h⟩
theorem uo {x j pos}:PE X (.Constant (.str x) j pos) (tC (.str x)):=fun _ _ _ H _ I h=>Calls.Constant_str ⟨.str x,H,I.tok _,⟨_,rfl⟩,h⟩
def Gl (X:Cx)(x:Str):Prop:=X.env.kindOf x=some .globalImplicit
theorem fW {E:Value→Shared→Prop}{pins:List (Addr×Obj)}{s:Shared}{σ:St}{H:Hp}{x:Str}{u:Value}{pos:Pos}{Q:Value→Shared→Prop}(I:Inv X pins σ H s)(hg:Gl X x)(hm:X.mg x=some u)(h:Q u s)
  (hd:(x==("__debug__":Str))=false:=by decide):wpAny (model X.prog X.w) X.A (eval (.Name x pos) X.env) Q E s:=
 Calls.Name_function_global I.ok.kind hg (Calls.loadGlobal_global (by rw[I.ok.glob];exact I.mod.glob.keeps I.bk) hm h) hd
theorem bL {E:Value→Shared→Prop}{pins:List (Addr×Obj)}{s:Shared}{σ:St}{H:Hp}{x:Str}{u:Value}{pos:Pos}{Q:Value→Shared→Prop}(I:Inv X pins σ H s)(hg:Gl X x)(hm:X.mg x=none)(hv:bootBuiltins x=some u)(h:Q u s)
  (hn:x≠"__name__":=by decide) (hd:(x==("__debug__":Str))=false:=by decide):wpAny (model X.prog X.w) X.A (eval (.Name x pos) X.env) Q E s:=by
 obtain⟨mb,h1,h2⟩:=I.mod.blt
 exact Calls.Name_function_global I.ok.kind hg (Calls.loadGlobal_builtin (by rw[I.ok.glob];exact I.mod.glob.keeps I.bk) hm (by rw[I.ok.blt];exact h1.keeps I.bk) ((h2 x hn).trans hv) h) hd
theorem qh {x:Str}{v:V}{u:Value}{pos:Pos}(hg:Gl X x)(hm:X.mg x=some u)(r:RelV v u)(hd:(x==("__debug__":Str))=false:=by decide):PE X (.Name x pos) (tC v):=
 fun _ _ _ H _ I h=>fW I hg hm ⟨v,H,I,r,h⟩ hd
theorem qc {x:Str}{v:V}{u:Value}{pos:Pos}(hg:Gl X x)(hm:X.mg x=none)(hv:bootBuiltins x=some u)(r:RelV v u)(hn:x≠"__name__":=by decide)(hd:(x==("__debug__":Str))=false:=by decide):PE X (.Name x pos) (tC v):=
 fun _ _ _ H _ I h=>bL I hg hm hv ⟨v,H,I,r,h⟩ hn hd
variable {a b:Expr} {ta tb:TE} {pos:Pos}
def tB (t:TE):TT:=fun σ H Q=>t σ H fun x H1=>∃c,x= .bl c∧Q c H1
variable {tA tB':TT} {R0:List Expr}
def sO (t u:TT):TT:=fun σ H Q=>t σ H fun c H1=>if c=true then u σ H1 Q else Q false H1
def yA (t u:TT):TT:=fun σ H Q=>t σ H fun c H1=>if c=true then Q true H1 else u σ H1 Q
def sS (t:TT):TT:=fun σ H Q=>t σ H fun c H1=>Q (!c) H1
theorem rj (ha:PT X a tA):PW X (.BoolOp .And [a] pos) tA:=by
 intro wh pins s σ H Q I h
 refine isTrue_and (G3 (ha pins s σ H Q I h) fun c s1 e=>?_)
 cases c with
 |true=>exact isTrue_and_nil e
 |false=>exact e
theorem uF (ha:PT X a tA):PW X (.BoolOp .Or [a] pos) tA:=by
 intro wh pins s σ H Q I h
 refine isTrue_or (G3 (ha pins s σ H Q I h) fun c s1 e=>?_)
 cases c with
 |false=>exact isTrue_or_nil e
 |true=>exact e
theorem tZ (ha:PT X a tA)(hb:PW X (.BoolOp .And (b::R0) pos) tB'):PW X (.BoolOp .And (a::b::R0) pos) (sO tA tB'):=by
 intro wh pins s σ H Q I h
 refine isTrue_and (G3 (ha pins s σ H _ I h) fun c s1 ⟨H1,I1,q1⟩=>?_)
 cases c with
 |true=>exact hb wh pins s1 σ H1 Q I1 q1
 |false=>exact⟨H1,I1,q1⟩
theorem vF (ha:PT X a tA)(hb:PW X (.BoolOp .Or (b::R0) pos) tB'):PW X (.BoolOp .Or (a::b::R0) pos) (yA tA tB'):=by
 intro wh pins s σ H Q I h
 refine isTrue_or (G3 (ha pins s σ H _ I h) fun c s1 ⟨H1,I1,q1⟩=>?_)
 cases c with
 |true=>exact⟨H1,I1,q1⟩
 |false=>exact hb wh pins s1 σ H1 Q I1 q1
theorem sx (ha:PT X a tA):PT X (.UnaryOp .Not a pos) (sS tA):=by
 intro pins s σ H Q I h
 exact isTrue_not (ha pins s σ H (fun c H1=>Q (!c) H1) I h)
def oS (ta tb:TE):TE:=fun σ H Q=>ta σ H fun x H1=>∃c,x= .bl c∧if c=true then tb σ H1 Q else Q (.bl false) H1
def xM (ta tb:TE):TE:=fun σ H Q=>ta σ H fun x H1=>∃c,x= .bl c∧if c=true then Q (.bl true) H1 else tb σ H1 Q
def vU (ta:TE):TE:=fun σ H Q=>ta σ H fun x H1=>∃c,x= .bl c∧Q (.bl (!c)) H1
theorem uZ {op}{t:TE}(h:PE X a t):PE X (.BoolOp op [a] pos) t:=fun pins s σ H Q I hw=>BoolOp_one (h pins s σ H Q I hw)
theorem tH (ha:PE X a ta)(hb:PE X (.BoolOp .And (b::R0) pos) tb):PE X (.BoolOp .And (a::b::R0) pos) (oS ta tb):=by
 intro pins s σ H Q I h
 refine BoolOp_and (G3 (ha pins s σ H _ I h) fun v s1 ⟨x,H1,I1,r1,q1⟩=>?_)
 obtain⟨c,rfl,q1⟩:=q1
 cases r1
 refine wpAny_truthy_bool ?_
 cases c with
 |true=>exact hb pins s1 σ H1 Q I1 q1
 |false=>exact⟨.bl false,H1,I1,rfl,q1⟩
def xK (t:TT)(ta tb:TE):TE:=fun σ H Q=>t σ H fun c H1=>if c=true then ta σ H1 Q else tb σ H1 Q
theorem pG {c:Expr}(hc:PT X c tA)(ha:PE X a ta)(hb:PE X b tb):PE X (.IfExp c a b pos) (xK tA ta tb):=by
 intro pins s σ H Q I h
 refine wpAny_IfExp (G3 (hc pins s σ H _ I h) fun d s1 ⟨H1,I1,q1⟩=>?_)
 cases d with
 |true=>exact ha pins s1 σ H1 Q I1 q1
 |false=>exact hb pins s1 σ H1 Q I1 q1
end
end L2
namespace L2
open PySem PySem.Spec PyProof.Rows
def SqL (K:PySem.W.Frag)(H:Hp)(a:Addr)(xs:List V):Prop:=
 Rd H a (.lst xs)∨
  ∃(o:Obj) (its:Array Value) (n:Nat),K.lookup a=some o∧o.cls= .type "list"∧o.dict=none∧o.data= .seq its n∧its.size≤sizeLine∧Vals xs its.toList
def SqT (K:PySem.W.Frag)(H:Hp)(a:Addr)(xs:List V):Prop:=
 Rd H a (.tup xs)∨
  ∃(o:Obj) (its:Array Value) (n:Nat),K.lookup a=some o∧o.cls= .type "tuple"∧o.data= .seq its n∧its.size≤sizeLine∧Vals xs its.toList
def xR:Value→Option V
 | .none=>some .non
 | .bool b=>some (.bl b)
 | .int i _=>some (.int i)
 | .str x _=>some (.str x)
 | .bytes b _=>some (.byt b)
 | .float b _=>some (.flt b)
 | .ref a=>some (.ref a)
 | .type n=>some (.ty n)
 |_=>none
theorem RelV.abs {x:V}{u:Value}(r:RelV x u):xR u=some x:=by
 cases x with
 |non=>cases r;rfl
 |bl _=>cases r;rfl
 |int _=>obtain⟨t,rfl⟩:=r;rfl
 |str _=>obtain⟨t,rfl⟩:=r;rfl
 |byt _=>obtain⟨t,rfl⟩:=r;rfl
 |flt _=>obtain⟨t,rfl⟩:=r;rfl
 |ref _=>cases r;rfl
 |ty _=>cases r;rfl
theorem RelV.inj {x y:V}{u:Value}(r:RelV x u)(q:RelV y u):x=y:=Option.some.inj (r.abs.symm.trans q.abs)
theorem Vals.inj:∀{xs ys:List V} {us:List Value},Vals xs us→Vals ys us→xs=ys
 |_,_,_,.nil,.nil=>rfl
 |_,_,_,.cons r t,.cons r' t'=>by rw[r.inj r',Vals.inj t t']
section
variable {X:Cx} {pins:List (Addr×Obj)} {σ:St} {H:Hp} {s:Shared} {a:Addr} {xs ys:List V}
theorem SqL.of {K:PySem.W.Frag}(h:H a=some (.lst xs)):SqL K H a xs:= .inl (.inl h)
theorem SqT.of {K:PySem.W.Frag}(h:H a=some (.tup xs)):SqT K H a xs:= .inl (.inl h)
theorem Inv.list (I:Inv X pins σ H s)(h:SqL X.K H a xs):∃its:List Value,Vals xs its∧PlainL s.heap a its.toArray∧xs.length≤sizeLine:=by
 rcases h with h|⟨o,its,n,hk,hc,hd,hs,hz,r⟩
 ·obtain⟨z,its,n,r,e⟩:=h.ok I.hok
  exact⟨its,r,⟨_,n,e,rfl,rfl,rfl⟩,z⟩
 ·refine⟨its.toList,r,⟨o,n,I.kIn a o hk,hc,hd,by simpa using hs⟩,?_⟩
  have e:=r.length
  simp only[Array.length_toList] at e
  omega
theorem Inv.tuple (I:Inv X pins σ H s)(h:SqT X.K H a xs):∃its:List Value,Vals xs its∧IsTup s.heap a its.toArray∧xs.length≤sizeLine:=by
 rcases h with h|⟨o,its,n,hk,hc,hs,hz,r⟩
 ·obtain⟨z,its,r,p⟩:=h.ok I.hok
  exact⟨its,r,p,z⟩
 ·refine⟨its.toList,r,⟨o,I.kIn a o hk,hc,n,by simpa using hs⟩,?_⟩
  have e:=r.length
  simp only[Array.length_toList] at e
  omega
theorem Inv.list_inj (I:Inv X pins σ H s)(h:SqL X.K H a xs)(h':SqL X.K H a ys):xs=ys:=by
 obtain⟨its,r,⟨o,n,e,_,_,d⟩,_⟩:=I.list h
 obtain⟨its',r',⟨o',n',e',_,_,d'⟩,_⟩:=I.list h'
 rw[e] at e';cases e'
 rw[d] at d'
 injection d' with d1 _
 have:its=its':=by simpa using congrArg Array.toList d1
 subst this
 exact r.inj r'
theorem Inv.tuple_inj (I:Inv X pins σ H s)(h:SqT X.K H a xs)(h':SqT X.K H a ys):xs=ys:=by
 obtain⟨its,r,⟨o,e,_,n,d⟩,_⟩:=I.tuple h
 obtain⟨its',r',⟨o',e',_,n',d'⟩,_⟩:=I.tuple h'
 rw[e] at e';cases e'
 rw[d] at d'
 injection d' with d1 _
 have:its=its':=by simpa using congrArg Array.toList d1
 subst this
 exact r.inj r'
end
abbrev Cx.wish (X:Cx)(E:Value→Shared→Prop):Cx:={X with xe:=E}
abbrev Cx.nox (X:Cx):Cx:=X.wish fun _ _=>False
theorem Cx.Ok.wish {X:Cx}(ok:X.Ok)(E:Value→Shared→Prop):(X.wish E).Ok:=
 ⟨ok.mod,ok.kind,ok.glob,ok.blt,ok.above,ok.inj,ok.has,ok.cab,ok.hd,ok.frames,ok.stk,ok.exf,ok.bs,ok.bsz,ok.noex,ok.exfs,ok.funs,ok.frf⟩
theorem Cx.Ok.unwish {X:Cx}{E:Value→Shared→Prop}(ok:(X.wish E).Ok):X.Ok:=
 ⟨ok.mod,ok.kind,ok.glob,ok.blt,ok.above,ok.inj,ok.has,ok.cab,ok.hd,ok.frames,ok.stk,ok.exf,ok.bs,ok.bsz,ok.noex,ok.exfs,ok.funs,ok.frf⟩
section
variable {X:Cx} {pins:List (Addr×Obj)} {σ:St} {H:Hp} {s:Shared} {E:Value→Shared→Prop}
theorem Inv.wish (I:Inv X pins σ H s)(E:Value→Shared→Prop):Inv (X.wish E) pins σ H s:=⟨I.ok.wish E,I.os,I.bare,I.base,I.loc,I.cell,I.free,I.freeC,I.pin,I.hok,I.len⟩
theorem Inv.unwish (I:Inv (X.wish E) pins σ H s):Inv X pins σ H s:=⟨I.ok.unwish,I.os,I.bare,I.base,I.loc,I.cell,I.free,I.freeC,I.pin,I.hok,I.len⟩
theorem SP.unwish {D:iA}{f:Flow}{s':Shared}(h:SP (X.wish E) pins D f s'):SP X pins D f s':=by
 cases f with
 |next=>obtain⟨σ',H',I,q⟩:=h;exact⟨σ',H',I.unwish,q⟩
 |brk=>obtain⟨σ',H',I,q⟩:=h;exact⟨σ',H',I.unwish,q⟩
 |cont=>obtain⟨σ',H',I,q⟩:=h;exact⟨σ',H',I.unwish,q⟩
 |ret u=>obtain⟨v,σ',H',I,r,q⟩:=h;exact⟨v,σ',H',I.unwish,r,q⟩
theorem PE.nox {e:Expr}{t:TE}(h:PE X.nox e t):PE X e t:=fun pins s σ H Q I hw=>
 wpAny_mono (h pins s σ H Q (I.wish _) hw) (fun _ _ ⟨v,H',I',r,q⟩=>⟨v,H',I'.unwish,r,q⟩) fun _ _ z=>False.elim z
theorem PT.nox {e:Expr}{t:TT}(h:PT X.nox e t):PT X e t:=fun pins s σ H Q I hw=>
 wpAny_mono (h pins s σ H Q (I.wish _) hw) (fun _ _ ⟨H',I',q⟩=>⟨H',I'.unwish,q⟩) fun _ _ z=>False.elim z
theorem PSs.nox {st:List Stmt}{t:TS}(h:PSs X.nox st t):PSs X st t:=fun pins s σ H D I hw=>
 wpAny_mono (h pins s σ H D (I.wish _) hw) (fun _ _ q=>q.unwish) fun _ _ z=>False.elim z
end
section
variable {X:Cx} {st:Stmt} {R0:List Stmt} {t u:TS} {e:Expr} {te:TE} {pos:Pos}
def ny:TS:=fun D σ H=>D.nx σ H
def og (t u:TS):TS:=fun D σ H=>t {D with nx:=u D} σ H
theorem qT:PSs X [] ny:=fun _ _ σ H _ I h=>wpAny_execs_nil ⟨σ,H,I,h⟩
theorem oR (h1:PS X st t)(h2:PSs X R0 u):PSs X (st::R0) (og t u):=by
 intro pins s σ H D I h
 refine wpAny_execs_cons (G3 (h1 pins s σ H {D with nx:=u D} I h) fun f s1 q=>?_)
 cases f with
 |next=>
  obtain⟨σ',H',I',q⟩:=q
  exact h2 pins s1 σ' H' D I' q
 |ret v=>exact q
 |brk=>exact q
 |cont=>exact q
theorem qD (h1:PS X st t):PSs X [st] t:=by
 intro pins s σ H D I h
 refine wpAny_execs_cons (G3 (h1 pins s σ H D I h) fun f s1 q=>?_)
 cases f with
 |next=>exact wpAny_execs_nil q
 |ret v=>exact q
 |brk=>exact q
 |cont=>exact q
theorem Inv.quiet {pins:List (Addr×Obj)}{σ:St}{H:Hp}{s:Shared}(I:Inv X pins σ H s):interactive X.env=false:=by simp [interactive,I.ok.kind]
def oB (te:TE):TS:=fun D σ H=>te σ H fun _ H1=>D.nx σ H1
theorem qY (he:PE X e te)(hs:swapsWith e none pos.line X.env=pure false:=by rfl):PS X (.Expr e pos) (oB te):=by
 intro pins s σ H D I h
 exact wpAny_Expr_any (G3 (he pins s σ H _ I h) fun v s1 ⟨x,H1,I1,r1,q1⟩=>⟨σ,H1,I1,q1⟩) I.quiet hs
def sW (te:TE):TS:=fun D σ H=>te σ H D.rt
theorem ub (he:PE X e te):PS X (.Return (some e) pos) (sW te):=by
 intro pins s σ H D I h
 exact wpAny_Return_some (G3 (he pins s σ H _ I h) fun v s1 ⟨x,H1,I1,r1,q1⟩=>⟨x,σ,H1,I1,r1,q1⟩)
def sQ (c:TT)(t u:TS):TS:=fun D σ H=>c σ H fun b H1=>if b=true then t D σ H1 else u D σ H1
theorem wj {c:Expr}{a b:List Stmt}{tc:TT}(hc:PT X c tc)(ha:PSs X a t)(hb:PSs X b u):PS X (.If c a b pos) (sQ tc t u):=by
 intro pins s σ H D I h
 refine wpAny_If (G3 (hc pins s σ H _ I h) fun d s1 ⟨H1,I1,q1⟩=>?_)
 cases d with
 |true=>exact ha pins s1 σ H1 D I1 q1
 |false=>exact hb pins s1 σ H1 D I1 q1
end
abbrev TG:=V→St→Hp→(St→Hp→Prop)→Prop
abbrev jC:=List V→St→Hp→(St→Hp→Prop)→Prop
def PG (X:Cx)(target:Expr)(t:TG):Prop:=
 ∀(pins:List (Addr×Obj)) (s:Shared) (σ:St) (H:Hp) (v:V) (u:Value) (Q:St→Hp→Prop),Inv X pins σ H s→RelV v u→t v σ H Q→
  wpAny (model X.prog X.w) X.A (assign target X.env u) (fun _ s'=>∃σ' H',Inv X pins σ' H' s'∧Q σ' H') X.xe s
def pV (X:Cx)(ts:List Expr)(t:jC):Prop:=
 ∀(pins:List (Addr×Obj)) (s:Shared) (σ:St) (H:Hp) (vs:List V) (us:List Value) (Q:St→Hp→Prop),Inv X pins σ H s→Vals vs us→t vs σ H Q→
  wpAny (model X.prog X.w) X.A (assignInOrder ((assignEach ts X.env).map (·.2)) us) (fun _ s'=>∃σ' H',Inv X pins σ' H' s'∧Q σ' H') X.xe s
abbrev iN:=V→V→V→Hp→(Hp→Prop)→Prop
def lU (X:Cx)(t:iN):Prop:=
 ∀(pins:List (Addr×Obj)) (s:Shared) (σ:St) (H:Hp) (o i v:V) (ov iv u:Value) (Q:Hp→Prop),Inv X pins σ H s→RelV o ov→RelV i iv→RelV v u→t o i v H Q→
  wpAny (model X.prog X.w) X.A (setItem ov iv u) (fun _ s'=>∃H',Inv X pins σ H' s'∧Q H') X.xe s
section
variable {X:Cx} {pos:Pos}
def Z8 (i:Nat):TG:=fun v σ H Q=>Q (σ.set i (some v)) H
theorem rp {i:Nat}{x:Str}(hN:X.N.Nodup)(hi:X.N[i]?=some x)(hx:rL X.env.scope x)(hf:X.fn x=true∨X.env.scope.names.lookup x=some .local:=by first|exact .inl rfl|exact .inr rfl|assumption):PG X (.Name x pos) (Z8 i):=by
 intro pins s σ H v u Q I r h
 exact wpAny_assign_Name (gJ I hN hi hx r (fun s' I'=>⟨_,H,I',h⟩) hf)
def sJ:jC:=fun vs σ H Q=>vs=[]∧Q σ H
def jY (t:TG)(u:jC):jC:=fun vs σ H Q=>∃v r,vs=v::r∧t v σ H fun σ' H'=>u r σ' H' Q
theorem qG:pV X [] sJ:=by
 intro pins s σ H vs us Q I r h
 obtain⟨e,h⟩:=h
 subst e
 cases r
 exact assignInOrder_nil ⟨σ,H,I,h⟩
theorem oz {e:Expr}{es:List Expr}{t:TG}{u:jC}(h1:PG X e t)(h2:pV X es u)
  (hs:(assignEach (e::es) X.env).map (·.2)=assign e X.env::(assignEach es X.env).map (·.2):=by rfl):pV X (e::es) (jY t u):=by
 intro pins s σ H vs us Q I r h
 obtain⟨v,vr,e1,h⟩:=h
 subst e1
 cases r with
 |cons r rr=>
  rw[hs]
  refine assignInOrder_cons (G3 (h1 pins s σ H _ _ _ I r h) fun _ s1 ⟨σ1,H1,I1,q1⟩=>?_)
  exact h2 pins s1 σ1 H1 _ _ Q I1 rr q1
def oM (K:PySem.W.Frag)(n:Nat)(t:jC):TG:=fun v σ H Q=>∃a xs,v= .ref a∧SqT K H a xs∧xs.length=n∧t xs σ H Q
theorem tf {es:List Expr}{k:Nat}{t:jC}{n:Nat}(hc:X.calm=true)(h:pV X es t)
  (hn:(assignEach es X.env).length=n:=by rfl) (hst:(assignEach es X.env).findIdx? (·.1)=none:=by rfl):PG X (.Tuple es k pos) (oM X.K n t):=by
 intro pins s σ H v u Q I r hw
 obtain⟨a,xs,e1,hq,hl,hw⟩:=hw
 subst e1
 cases r
 obtain⟨its,rv,ht,hz⟩:=I.tuple hq
 refine assign_Tuple_tuple (I.ok.hd hc) ht (by simp [hn,←hl,rv.length]) hst fun h' hx=>?_
 have I1:Inv X pins σ H {s with heap:=h'}:=I.kept (t':=s.toks) fun b o e=>hx b o (Nat.ne_of_lt (Heap.lt_size e)) e
 exact h pins _ σ H xs _ Q I1 (by simpa using rv) hw
def ur (to ti:TE)(t:iN):TG:=fun v σ H Q=>to σ H fun o H1=>ti σ H1 fun i H2=>t o i v H2 fun H3=>Q σ H3
theorem sV {o i:Expr}{to ti:TE}{t:iN}(ho:PE X o to)(hi:PE X i ti)(hs:lU X t)
  (ha:∀v,assign (.Subscript o i pos) X.env v=(do
   let ov←holding [v] (eval o X.env)
   let iv←holding [v,ov] (eval i X.env)
   standAt pos
   holding [v,ov,iv] (setItem ov iv v)
   release [v,ov,iv] []):=by intro _;rfl):PG X (.Subscript o i pos) (ur to ti t):=by
 intro pins s σ H v u Q I r h
 rw[ha]
 refine wpAny_bind (wpAny_holding (G3 (ho pins s σ H _ I h) fun ov s1 ⟨x,H1,I1,r1,q1⟩=>?_))
 refine wpAny_bind (wpAny_holding (G3 (hi pins s1 σ H1 _ I1 q1) fun iv s2 ⟨y,H2,I2,r2,q2⟩=>?_))
 refine wpAny_bind (wpAny_standAt (wpAny_bind (wpAny_holding (G3 (hs pins s2 σ H2 x y v ov iv u _ I2 r1 r2 r q2) fun _ s3 ⟨H3,I3,q3⟩=>?_))))
 exact wpAny_release ⟨σ,H3,I3,q3⟩
def iu (te:TE)(g:TG):TS:=fun D σ H=>te σ H fun x H1=>g x σ H1 D.nx
theorem sE {tg e:Expr}{te:TE}{g:TG}(he:PE X e te)(hg:PG X tg g)(hs:swapsWithSole [tg] e pos.line X.env=pure false:=by rfl)(hw:swappedStores [tg] e X.env=pure none:=by rfl)
  (h1:(assignEach [tg] X.env).map (·.2)=[assign tg X.env]:=by rfl):PS X (.Assign [tg] e pos) (iu te g):=by
 intro pins s σ H D I h
 refine wpAny_Assign_stores (G3 (he pins s σ H _ I h) fun v s1 ⟨x,H1,I1,r1,q1⟩=>?_) hs hw
 rw[h1]
 exact G3 (hg pins s1 σ H1 x v _ I1 r1 q1) fun _ s2 q=>q
theorem sZ {i:Nat}{x:Str}{e:Expr}{te:TE}{pos':Pos}(hN:X.N.Nodup)(hi:X.N[i]?=some x)(hx:rL X.env.scope x)(he:PE X e te)(hs:swapsWith e (some (.Name x pos')) pos.line X.env=pure false:=by rfl)(hf:X.fn x=true∨X.env.scope.names.lookup x=some .local:=by first|exact .inl rfl|exact .inr rfl|assumption):
  PS X (.Assign [.Name x pos'] e pos) (iu te (Z8 i)):=by
 intro pins s σ H D I h
 refine wpAny_Assign_Name (G3 (he pins s σ H _ I h) fun v s1 ⟨y,H1,I1,r1,q1⟩=>?_) hs
 exact gJ I1 hN hi hx r1 (fun s2 I2=>⟨_,H1,I2,q1⟩) hf
def ym (i j:Nat)(ta:TA):TS:=fun D σ H=>ta σ H fun vs H1=>∃v w,vs=[v,w]∧D.nx ((σ.set i (some v)).set j (some w)) H1
end
section
variable {X:Cx} {pos:Pos}
end
structure It where
 go:Nat→Hp→Prop
 yld:Nat→Hp→V→Hp→Prop
 stop:Nat→Hp→Prop
def bA (X:Cx)(pins:List (Addr×Obj))(H:Hp)(b:Addr):Prop:=
 H b=none∧b≠X.env.locals∧b∉X.fs∧(b∈X.ex∨X.s₀.heap.objs.size≤b)∧(∀x c,X.env.cells.lookup x=some c→c≠b)∧∀p∈X.pn++pins,p.1≠b
theorem Inv.fpOk {X:Cx}{pins:List (Addr×Obj)}{σ:St}{H H':Hp}{s:Shared}{b:Addr}(I:Inv X pins σ H s)(hb:s.heap.objs.size≤b)(hn:H' b=none):bA X pins H' b:=by
 refine⟨hn,Nat.ne_of_gt (Nat.lt_of_lt_of_le I.lt hb),I.nofs hb,.inr (Nat.le_trans I.sz hb),fun x c e z=>?_,fun p hp z=>?_⟩
 ·obtain⟨v,q⟩:=I.cell x c e
  exact absurd (Nat.lt_of_lt_of_le q.lt (by rw[z];exact hb)) (Nat.lt_irrefl _)
 ·exact absurd (Nat.lt_of_lt_of_le (Heap.lt_size (I.pin p hp).1) (by rw[z];exact hb)) (Nat.lt_irrefl _)
structure bU (P:Program) (w:World) (K:PySem.W.Frag) (tg:Expr) (J:It) (fp:List Addr) (it:Addr) (tn:Nat→Heap→Prop):Prop where
 mem:it∈fp
 obj:∀i h,tn i h→∀b∈fp,∃o,h.get? b=some o∧∀v,o.data≠ .cell v
 keep:∀i h h',tn i h→(∀b∈fp,∀o,h.get? b=some o→h'.get? b=some o)→tn i h'
 item:∀(X:Cx),X.prog=P→X.w=w→X.K=K→X.calm=true→∀(i:Nat) (pins:List (Addr×Obj)) (s:Shared) (σ:St) (H:Hp) (E:Value→Shared→Prop),Inv X pins σ H s→(∀b∈fp,bA X pins H b)→tn i s.heap→J.go i H→
  wpAny (model P w) X.A (pyNext (.ref it)) (fun r s1=>∃u,r=some u∧
   wpAny (model P w) X.A (letOwnedTupleGo tg (.ref it) u) (fun _ s2=>∃x H',Inv X pins σ H' s2∧RelV x u∧J.yld i H x H'∧tn (i+1) s2.heap∧∀b∈fp,H' b=none) E s1) E s
 done:∀(X:Cx),X.prog=P→X.w=w→X.K=K→X.calm=true→∀(i:Nat) (pins:List (Addr×Obj)) (s:Shared) (σ:St) (H:Hp) (E:Value→Shared→Prop),Inv X pins σ H s→(∀b∈fp,bA X pins H b)→tn i s.heap→J.stop i H→
  wpAny (model P w) X.A (pyNext (.ref it)) (fun r s1=>r=none∧Inv X pins σ H s1) E s
 self:∀(A:Around) (i:Nat) (s:Shared) (Q:Value→Shared→Prop) (E:Value→Shared→Prop),tn i s.heap→Q (.ref it) s→wpAny (model P w) A (pyIter (.ref it)) Q E s
abbrev TI:=St→Hp→(It→Hp→Prop)→Prop
def xC (X:Cx)(pins:List (Addr×Obj))(σ:St)(tg:Expr)(R:It→Hp→Prop)(itv:Value)(s2:Shared):Prop:=
 ∃(it:Addr) (fp:List Addr) (tn:Nat→Heap→Prop) (J:It) (H':Hp),itv= .ref it∧Inv X pins σ H' s2∧bU X.prog X.w X.K tg J fp it tn∧tn 0 s2.heap∧(∀b∈fp,bA X pins H' b)∧R J H'
def PI (X:Cx)(tg iter:Expr)(wi:TI):Prop:=
 ∀(pins:List (Addr×Obj)) (s:Shared) (σ:St) (H:Hp) (R:It→Hp→Prop),Inv X pins σ H s→wi σ H R→
  wpAny (model X.prog X.w) X.A (eval iter X.env) (fun v s1=>wpAny (model X.prog X.w) X.A (pyIter v) (xC X pins σ tg R) X.xe s1) X.xe s
theorem oO {M : Model} {A : Around} {E : Value → Shared → Prop} {s : Shared} {tg : Expr} {it : Addr} {u : Value} {o : Obj} {n : String} {vs : Array Value} {Q : Unit → Shared → Prop} (ho : s.heap.get? it = some o) (hc : o.cls = .type n) (hd : o.data = .fields vs)
    (hn : ["enumerate", "zip", "dict_itemiterator", "dict_reverseitemiterator", "odict_iterator", "itertools.zip_longest", "itertools.pairwise"].contains n = false) (hQ : Q () s) : wpAny M A (letOwnedTupleGo tg (.ref it) u) Q E s := by
  unfold letOwnedTupleGo
  cases tg <;> first
    | exact wpAny_pure hQ
    | (cases u <;> first
        | exact wpAny_pure hQ
        | (refine wpAny_bind (wpAny_load ho ?_)
           rw [hc, hd]
           show wpAny M A (if (["enumerate", "zip", "dict_itemiterator", "dict_reverseitemiterator", "odict_iterator", "itertools.zip_longest", "itertools.pairwise"].contains n && vs[0]? == some (rawInt _)) = true then _ else _) Q E s
           rw [if_neg (by intro h; rw [hn, Bool.false_and] at h; cases h)]
           exact wpAny_pure hQ))
def Itl (K:PySem.W.Frag)(a:Addr):It:=
 ⟨fun i H=>∃xs x,SqL K H a xs∧xs[i]?=some x,fun i H x H'=>H'=H∧∀xs,SqL K H a xs→xs[i]?=some x,fun i H=>∃xs,SqL K H a xs∧xs.length≤i⟩
def yQ (K:PySem.W.Frag)(a:Addr):It:=
 ⟨fun i H=>∃xs x,SqT K H a xs∧xs[i]?=some x,fun i H x H'=>H'=H∧∀xs,SqT K H a xs→xs[i]?=some x,fun i H=>∃xs,SqT K H a xs∧xs.length≤i⟩
def xx (lo:Int)(n:Nat):It:=⟨fun i _=>i<n,fun i H x H'=>H'=H∧x= .int (lo+i),fun i _=>n≤i⟩
theorem ma {P:Program}{w:World}{K:PySem.W.Frag}{tg:Expr}(a it:Addr):bU P w K tg (Itl K a) [it] it (fun i h=>h.IsListIter it a i) where
 mem:=by simp
 obj:=fun i h st b hb=>by
  have e:b=it:=by simpa using hb
  subst e
  obtain⟨o,e,c,d⟩:=st
  exact⟨o,e,fun v z=>by rw[d] at z;cases z⟩
 keep:=fun i h h' st k=>st.at fun o e=>k it (by simp) o e
 item:=by
  intro X hP hw hK hc i pins s σ H E I hf st hg
  subst hP hw hK
  obtain⟨xs,x,hq,hx⟩:=hg
  obtain⟨its,rv,p,hz⟩:=I.list hq
  obtain⟨u,hu,ru⟩:=rv.get hx
  obtain⟨f0,f1,f2,f3,f4,f5⟩:=hf it (by simp)
  refine wpAny_pyNext_list_item st p.isList (x:=u) (by simpa using hu) fun h' st' sb=>?_
  have I1:Inv X pins σ H {s with heap:=h'}:=I.turned (t':=s.toks) (fun b o hb e=>(sb.2 b hb).trans e) f0 f1 f3 f4 f5
  obtain⟨o,e,c,d⟩:=id st'
  exact⟨u,rfl,oO (s:={s with heap:=h'}) e c d (by decide) ⟨x,H,I1,ru,⟨rfl,fun ys hy=>by rw[I.list_inj hy hq];exact hx⟩,st',fun b hb=>(hf b hb).1⟩⟩
 done:=by
  intro X hP hw hK hc i pins s σ H E I hf st hg
  subst hP hw hK
  obtain⟨xs,hq,hx⟩:=hg
  obtain⟨its,rv,p,hz⟩:=I.list hq
  obtain⟨f0,f1,f2,f3,f4,f5⟩:=hf it (by simp)
  have hl:=rv.length
  exact wpAny_pyNext_list_end (I.ok.hd hc) st p.isList (by simp;omega) fun h' eb=>⟨rfl,I.turned (t':=s.toks) (fun b o hb e=>eb b o hb e) f0 f1 f3 f4 f5⟩
 self:=fun _ _ _ _ _ st h=>wpAny_pyIter_listiter st h
theorem jB {P:Program}{w:World}{K:PySem.W.Frag}{tg:Expr}(a it:Addr):bU P w K tg (yQ K a) [it] it (fun i h=>h.IsTupleIter it a i) where
 mem:=by simp
 obj:=fun i h st b hb=>by
  have e:b=it:=by simpa using hb
  subst e
  obtain⟨o,e,c,d⟩:=st
  exact⟨o,e,fun v z=>by rw[d] at z;cases z⟩
 keep:=fun i h h' st k=>st.at fun o e=>k it (by simp) o e
 item:=by
  intro X hP hw hK hc i pins s σ H E I hf st hg
  subst hP hw hK
  obtain⟨xs,x,hq,hx⟩:=hg
  obtain⟨its,rv,p,hz⟩:=I.tuple hq
  obtain⟨u,hu,ru⟩:=rv.get hx
  obtain⟨f0,f1,f2,f3,f4,f5⟩:=hf it (by simp)
  refine wpAny_pyNext_tuple_item st (show s.heap.IsTuple a its.toArray from p) (x:=u) (by simpa using hu) fun h' st' sb=>?_
  have I1:Inv X pins σ H {s with heap:=h'}:=I.turned (t':=s.toks) (fun b o hb e=>(sb.2 b hb).trans e) f0 f1 f3 f4 f5
  obtain⟨o,e,c,d⟩:=id st'
  exact⟨u,rfl,oO (s:={s with heap:=h'}) e c d (by decide) ⟨x,H,I1,ru,⟨rfl,fun ys hy=>by rw[I.tuple_inj hy hq];exact hx⟩,st',fun b hb=>(hf b hb).1⟩⟩
 done:=by
  intro X hP hw hK hc i pins s σ H E I hf st hg
  subst hP hw hK
  obtain⟨xs,hq,hx⟩:=hg
  obtain⟨its,rv,p,hz⟩:=I.tuple hq
  obtain⟨f0,f1,f2,f3,f4,f5⟩:=hf it (by simp)
  have hl:=rv.length
  exact wpAny_pyNext_tuple_end (I.ok.hd hc) st (show s.heap.IsTuple a its.toArray from p) (by simp;omega) fun h' eb=>⟨rfl,I.turned (t':=s.toks) (fun b o hb e=>eb b o hb e) f0 f1 f3 f4 f5⟩
 self:=fun _ _ _ _ _ st h=>wpAny_pyIter_tupleiter st h
theorem iL {P:Program}{w:World}{K:PySem.W.Frag}{tg:Expr}(it:Addr)(lo:Int)(n:Nat):bU P w K tg (xx lo n) [it] it (fun i h=>IsRangeIter h it (lo+(i:Nat)*1) ((n:Int) -(i:Nat)) 1) where
 mem:=by simp
 obj:=fun i h st b hb=>by
  have e:b=it:=by simpa using hb
  subst e
  exact⟨_,st,fun v z=>by
   have z':Data.fields _=Data.cell v:=z
   cases z'⟩
 keep:=fun i h h' st k=>k it (by simp) _ st
 item:=by
  intro X hP hw hK hc i pins s σ H E I hf st hg
  subst hP hw hK
  obtain⟨f0,f1,f2,f3,f4,f5⟩:=hf it (by simp)
  have W:=Walks.range (prog:=X.prog) (w:=X.w) (I.ok.hd hc) it lo 1 n
  refine W.item i s _ _ hg st fun v h' tk hv st' kk=>?_
  obtain⟨t,rfl⟩:=hv
  have I1:Inv X pins σ H {s with heap:=h',toks:=tk}:=I.turned (fun b o hb e=>kk b o (by simpa using hb) e) f0 f1 f3 f4 f5
  refine⟨_,rfl,oO (s:={s with heap:=h',toks:=tk}) (n:="range_iterator") st' rfl rfl (by decide) ⟨.int (lo+i),H,I1,⟨t,?_⟩,⟨rfl,rfl⟩,st',fun b hb=>(hf b hb).1⟩⟩
  rw[Int.mul_one]
 done:=by
  intro X hP hw hK hc i pins s σ H E I hf st hg
  subst hP hw hK
  obtain⟨f0,f1,f2,f3,f4,f5⟩:=hf it (by simp)
  exact wpAny_pyNext_range_end (I.ok.hd hc) st (by have:n≤i:=hg;omega) fun h' eb=>⟨rfl,I.turned (t':=s.toks) (fun b o hb e=>eb b o hb e) f0 f1 f3 f4 f5⟩
 self:=fun _ _ _ _ _ st h=>wpAny_pyIter_rangeiter st h
end L2
namespace L2
open PySem PySem.Spec PyProof.Rows
section
variable {X:Cx} {tg:Expr}
theorem nX {pins:List (Addr×Obj)}{σ:St}{H:Hp}{s:Shared}{R:It→Hp→Prop}{E:Value→Shared→Prop}{lo hi:Int}{t u v:Tok}{tk:Nat}(I:Inv X pins σ H s)(h1: -(2 ^ 62)≤lo)(h2:lo<2 ^ 62)(h3: -(2 ^ 62)≤hi)(h4:hi<2 ^ 62)
  (q:R (xx lo (hi -lo).toNat) H):wpAny (model X.prog X.w) X.A (pyIter (.ref s.heap.objs.size)) (xC X pins σ tg R) E {s with heap:=s.heap.push {cls:= .type "range",data:= .fields #[.int lo t,.int hi u,.int 1 v]},toks:=tk}:=by
 refine wpAny_pyIter_range (IsRange.new ..) (small_one h1 h2 h3 h4) ?_
 have I1:Inv X pins σ H {s with heap:=s.heap.push {cls:= .type "range",data:= .fields #[.int lo t,.int hi u,.int 1 v]},toks:=tk}:=I.kept fun b o e=>Heap.get?_push_of_some _ e
 refine⟨(s.heap.push {cls:= .type "range",data:= .fields #[.int lo t,.int hi u,.int 1 v]}).objs.size,[(s.heap.push {cls:= .type "range",data:= .fields #[.int lo t,.int hi u,.int 1 v]}).objs.size],_,_,H,rfl,
  I1.kept (t':=tk) fun b o e=>Heap.get?_push_of_some _ e,iL _ lo (hi -lo).toNat,?_,fun b hb=>?_,q⟩
 ·have e1:lo+((0:Nat):Int)*1=lo:=by simp
  have e2:(((hi -lo).toNat:Nat):Int) -((0:Nat):Int)=Builtin.Range.rangeSize lo hi 1:=by rw[rangeSize_one];split<;>omega
  show IsRangeIter _ _ (lo+((0:Nat):Int)*1) ((((hi -lo).toNat:Nat):Int) -((0:Nat):Int)) 1
  rw[e1,e2]
  exact Heap.get?_push_size _ rfl
 ·have e:b=(s.heap.push {cls:= .type "range",data:= .fields #[.int lo t,.int hi u,.int 1 v]}).objs.size:=by simpa using hb
  subst e
  exact I1.fpOk (Nat.le_refl _) (I1.hok.fresh (Nat.le_refl _))
def oP (ta:TA):TI:=fun σ H R=>ta σ H fun vs H1=>∃j:Int,vs=[.int j]∧-(2 ^ 62)≤j∧j<2 ^ 62∧R (xx 0 j.toNat) H1
theorem lN {a:Expr}{ta:TA}{p pos:Pos}(hg:Gl X "range")(hm:X.mg "range"=none)(ha:PA X [a] ta)(hs:starEach [a] X.env=[(false,eval a X.env)]:=by rfl):PI X tg (.Call (.Name "range" p) [a] [] pos) (oP ta):=by
 intro pins s σ H R I h
 refine Call_ (bL I hg hm boot_range (PyProof.Rows.callWith_type1 (G3 (ha pos pins s σ H _ I h) fun us s1 ⟨vs,H1,I1,r1,q1⟩=>?_) hs rfl))
 obtain⟨j,e,q1,q2,q⟩:=q1
 subst e
 cases r1 with
 |cons r rr=>
  cases rr
  obtain⟨t,rfl⟩:=r
  exact call_range_1 (nX I1 (by omega) (by omega) q1 q2 (by simpa using q))
def de (fp:List Addr)(h:Heap):List (Addr×Obj):=fp.filterMap fun b=>(h.get? b).map fun o=>(b,o)
theorem X6 {fp:List Addr}{h:Heap}{b:Addr}{o:Obj}(hb:b∈fp)(e:h.get? b=some o):(b,o)∈de fp h:=List.mem_filterMap.mpr ⟨b,hb,by rw[e];rfl⟩
theorem kI {fp:List Addr}{h:Heap}{p:Addr×Obj}(hp:p∈de fp h):p.1∈fp∧h.get? p.1=some p.2:=by
 obtain⟨b,hb,e⟩:=List.mem_filterMap.mp hp
 cases q:h.get? b with
 |none=>rw[q] at e;cases e
 |some o=>
  rw[q] at e
  have e':(b,o)=p:=Option.some.inj e
  subst e'
  exact⟨hb,q⟩
theorem Inv.pinned {pins:List (Addr×Obj)}{σ:St}{H:Hp}{s:Shared}{fp:List Addr}(I:Inv X pins σ H s)(hf:∀b∈fp,bA X pins H b)(ho:∀b∈fp,∃o,s.heap.get? b=some o∧∀v,o.data≠ .cell v):Inv X (pins++de fp s.heap) σ H s:=
 I.pins_of fun p hp=>(List.mem_append.mp hp).elim (fun z=>I.pin p (List.mem_append_right _ z)) fun z=>by
  obtain⟨hb,e⟩:=kI z
  obtain⟨f0,f1,f2,_⟩:=hf p.1 hb
  obtain⟨o,e',d⟩:=ho p.1 hb
  rw[e] at e';cases e'
  exact⟨e,f0,f1,f2,d⟩
theorem Inv.unpinned {pins pl:List (Addr×Obj)}{σ:St}{H:Hp}{s:Shared}(I:Inv X (pins++pl) σ H s):Inv X pins σ H s:=I.pins_of fun p hp=>I.pin p (List.mem_append_right _ (List.mem_append_left _ hp))
end
end L2
namespace L2
open PySem PySem.Spec PyProof.Rows
abbrev R2:=V→V→Hp→VK→Prop
def OpR (X:Cx)(f:Value→Value→Sem Value)(r:R2):Prop:=
 ∀(pins:List (Addr×Obj)) (s:Shared) (σ:St) (H:Hp) (x y:V) (v u:Value) (Q:VK),Inv X pins σ H s→RelV x v→RelV y u→r x y H Q→
  wpAny (model X.prog X.w) X.A (f v u) (EP X pins σ Q) X.xe s
def xB (X:Cx)(f:Value→Sem Value)(r:V→Hp→VK→Prop):Prop:=
 ∀(pins:List (Addr×Obj)) (s:Shared) (σ:St) (H:Hp) (x:V) (v:Value) (Q:VK),Inv X pins σ H s→RelV x v→r x H Q→
  wpAny (model X.prog X.w) X.A (f v) (EP X pins σ Q) X.xe s
def CallR (X:Cx)(f:Value)(r:List V→Hp→VK→Prop):Prop:=
 ∀(pins:List (Addr×Obj)) (s:Shared) (σ:St) (H:Hp) (xs:List V) (us:List Value) (Q:VK),Inv X pins σ H s→Vals xs us→r xs H Q→
  wpAny (model X.prog X.w) X.A (call f us) (EP X pins σ Q) X.xe s
def yC (X:Cx)(r:V→Hp→(Bool→Hp→Prop)→Prop):Prop:=
 ∀(pins:List (Addr×Obj)) (s:Shared) (σ:St) (H:Hp) (x:V) (v:Value) (Q:Bool→Hp→Prop),Inv X pins σ H s→RelV x v→r x H Q→
  wpAny (model X.prog X.w) X.A (truthy v) (TP X pins σ Q) X.xe s
def qU (r:R2)(ta tb:TE):TE:=fun σ H Q=>ta σ H fun x H1=>tb σ H1 fun y H2=>r x y H2 Q
def xP (r:V→Hp→VK→Prop)(ta:TE):TE:=fun σ H Q=>ta σ H fun x H1=>r x H1 Q
def rI (C:Int→Int→Prop)(g:Int→Int→V):R2:=fun x y H Q=>∃i j,x= .int i∧y= .int j∧C i j∧Q (g i j) H
def rK (g:Int→Int→V):R2:=fun x y H Q=>∃i j,x= .int i∧y= .int j∧Q (g i j) H
def rU (g:Int→V):V→Hp→VK→Prop:=fun x H Q=>∃i,x= .int i∧Q (g i) H
section
variable {X:Cx} {a b c:Expr} {ta tb tc:TE} {pos:Pos}
theorem sR (ha:PE X a ta)(hb:PE X b tb){pins:List (Addr×Obj)}{s:Shared}{σ:St}{H:Hp}{R:V→V→Hp→Prop}(I:Inv X pins σ H s)
  (h:ta σ H fun x H1=>tb σ H1 fun y H2=>R x y H2) {Q:Value→Shared→Prop} {f:Value→Value→Sem Value}
  (hf:∀v u s2 x y H2,Inv X pins σ H2 s2→RelV x v→RelV y u→R x y H2→wpAny (model X.prog X.w) X.A (f v u) Q X.xe s2):
  wpAny (model X.prog X.w) X.A (eval a X.env) (fun v s₁=>wpAny (model X.prog X.w) X.A (eval b X.env) (fun u s₂=>wpAny (model X.prog X.w) X.A (f v u) Q X.xe s₂) X.xe s₁) X.xe s:=by
 refine G3 (ha pins s σ H _ I h) fun v s1 ⟨x,H1,I1,r1,q1⟩=>?_
 refine G3 (hb pins s1 σ H1 _ I1 q1) fun u s2 ⟨y,H2,I2,r2,q2⟩=>?_
 exact hf v u s2 x y H2 I2 r1 r2 q2
theorem wg {op:Operator}{r:R2}(ho:OpR X (binaryOp op) r)(ha:PE X a ta)(hb:PE X b tb):PE X (.BinOp a op b pos) (qU r ta tb):=by
 intro pins s σ H Q I h
 exact wpAny_BinOp (sR ha hb I h fun v u s2 x y H2 I2 rx ry q=>ho pins s2 σ H2 x y v u Q I2 rx ry q)
theorem vx {op:UnaryOp}{r:V→Hp→VK→Prop}(ho:xB X (unaryOp op) r)(ha:PE X a ta):PE X (.UnaryOp op a pos) (xP r ta):=by
 intro pins s σ H Q I h
 exact UnaryOp_ (G3 (ha pins s σ H _ I h) fun v s1 ⟨x,H1,I1,r1,q1⟩=>ho pins s1 σ H1 x v Q I1 r1 q1)
theorem xA {f:Value→Value→Sem Value}{C:Int→Int→Prop}{g:Int→Int→Int}
  (rule:∀(i j:Int) (t u:Tok) (s:Shared) (Q:Value→Shared→Prop) (E:Value→Shared→Prop),C i j→Q (.int (g i j) s.toks) {s with toks:=s.toks+1}→wpAny (model X.prog X.w) X.A (f (.int i t) (.int j u)) Q E s):
  OpR X f (rI C fun i j=> .int (g i j)):=by
 intro pins s σ H x y v u Q I rx ry h
 obtain⟨i,j,rfl,rfl,hc,q⟩:=h
 obtain⟨t,rfl⟩:=rx
 obtain⟨t',rfl⟩:=ry
 exact rule i j t t' s _ _ hc ⟨.int (g i j),H,I.tok _,⟨_,rfl⟩,q⟩
theorem yv {f:Value→Value→Sem Value}{g:Int→Int→Int}
  (rule:∀(i j:Int) (t u:Tok) (s:Shared) (Q:Value→Shared→Prop) (E:Value→Shared→Prop),Q (.int (g i j) s.toks) {s with toks:=s.toks+1}→wpAny (model X.prog X.w) X.A (f (.int i t) (.int j u)) Q E s):
  OpR X f (rK fun i j=> .int (g i j)):=by
 intro pins s σ H x y v u Q I rx ry h
 obtain⟨i,j,rfl,rfl,q⟩:=h
 obtain⟨t,rfl⟩:=rx
 obtain⟨t',rfl⟩:=ry
 exact rule i j t t' s _ _ ⟨.int (g i j),H,I.tok _,⟨_,rfl⟩,q⟩
theorem wb {f:Value→Value→Sem Value}{g:Int→Int→Bool}
  (rule:∀(i j:Int) (t u:Tok) (s:Shared) (Q:Value→Shared→Prop) (E:Value→Shared→Prop),Q (.bool (g i j)) s→wpAny (model X.prog X.w) X.A (f (.int i t) (.int j u)) Q E s):
  OpR X f (rK fun i j=> .bl (g i j)):=by
 intro pins s σ H x y v u Q I rx ry h
 obtain⟨i,j,rfl,rfl,q⟩:=h
 obtain⟨t,rfl⟩:=rx
 obtain⟨t',rfl⟩:=ry
 exact rule i j t t' s _ _ ⟨.bl (g i j),H,I,rfl,q⟩
def wy (i j:Int):Prop:=0<j∧j<1073741824
def xi (i j:Int):Prop:=0≤j∧j≤1000000∧i.natAbs<2 ^ 64
def CMul (i j:Int):Prop:=(-(2 ^ 64)<i∧i<2 ^ 64)∨(-(2 ^ 64)<j∧j<2 ^ 64)
theorem CMul.ok {i j:Int}(h:CMul i j):IntMulOk i j:=by
 rcases h with⟨h1,h2⟩|⟨h1,h2⟩
 ·exact .of_left (intBits_le_64 h1 h2)
 ·exact .of_right (intBits_le_64 h1 h2)
theorem op_add:OpR X (binaryOp .Add) (rK fun i j=> .int (i+j)):=yv fun _ _ _ _ _ _ _ q=>add_int q
theorem op_mul:OpR X (binaryOp .Mult) (rI CMul fun i j=> .int (i*j)):=xA fun _ _ _ _ _ _ _ hc q=>mul_int q hc.ok
theorem E1:OpR X (binaryOp .FloorDiv) (rI wy fun i j=> .int (i/j)):=xA fun i j _ _ _ _ _ hc q=>by
 have h1:(0:Int)<j:=hc.1
 have h2:j<1073741824:=hc.2
 exact floordiv_int (by omega) (by rw[Int.fdiv_eq_ediv_of_nonneg i (by omega)];exact q) (.inl (PyProof.noPylong_small (by omega)))
theorem j9:OpR X (binaryOp .Mod) (rI (fun _ j=>0<j) fun i j=> .int (i % j)):=xA fun i j _ _ _ _ _ hc q=>by
 have h1:(0:Int)<j:=hc
 exact mod_int' (by omega) (by rw[Int.fmod_eq_emod_of_nonneg i (by omega)];exact q)
theorem uG:OpR X (binaryOp .Pow) (rI xi fun i j=> .int (i ^ j.toNat)):=xA fun _ _ _ _ _ _ _ hc q=>pow_int_small hc.1 hc.2.1 hc.2.2 q
theorem zk {f:Value→Sem Value}{g:Int→Int}
  (rule:∀(i:Int) (t:Tok) (s:Shared) (Q:Value→Shared→Prop) (E:Value→Shared→Prop),Q (.int (g i) s.toks) {s with toks:=s.toks+1}→wpAny (model X.prog X.w) X.A (f (.int i t)) Q E s):
  xB X f (rU fun i=> .int (g i)):=by
 intro pins s σ H x v Q I rx h
 obtain⟨i,rfl,q⟩:=h
 obtain⟨t,rfl⟩:=rx
 exact rule i t s _ _ ⟨.int (g i),H,I.tok _,⟨_,rfl⟩,q⟩
theorem sk:xB X (unaryOp .USub) (rU fun i=> .int (-i)):=zk fun _ _ _ _ _ q=>neg_int q
end
def vo:V→V→Bool
 | .non,.non=>true| .non,.int _=>true| .int _,.non=>true| .non,.bl _=>true| .bl _,.non=>true| .non,.str _=>true| .str _,.non=>true
 | .int _,.int _=>true| .bl _,.bl _=>true| .str _,.str _=>true| .byt _,.byt _=>true
 | .int _,.str _=>true| .str _,.int _=>true| .bl _,.str _=>true| .str _,.bl _=>true
 |_,_=>false
def vZ:R2:=fun x y H Q=>vo x y=true∧Q (.bl (decide (x=y))) H
def xZ:R2:=fun x y H Q=>vo x y=true∧Q (.bl (!decide (x=y))) H
theorem cH {i j:Int}:decide (V.int i=V.int j)=(i==j):=by
 rw[Bool.eq_iff_iff]
 simp
theorem fO {i j:Bool}:decide (V.bl i=V.bl j)=(i==j):=by
 rw[Bool.eq_iff_iff]
 simp
theorem fF {i j:Str}:decide (V.str i=V.str j)=(i==j):=by
 rw[Bool.eq_iff_iff]
 simp
theorem jL {i j:Array UInt8}:decide (V.byt i=V.byt j)=(i.toList==j.toList):=by
 rw[Bool.eq_iff_iff]
 cases i
 cases j
 simp
section
variable {X:Cx} {a b c:Expr} {ta tb tc:TE} {pos:Pos}
theorem j7 {pins:List (Addr×Obj)}{σ:St}{H:Hp}{s:Shared}{Q:VK}{k k':Bool}(I:Inv X pins σ H s)(q:Q (.bl k) H)(e:k=k'):EP X pins σ Q (.bool k') s:=by
 subst e
 exact⟨.bl k,H,I,rfl,q⟩
theorem op_eq:OpR X (compareOp .Eq) vZ:=by
 intro pins s σ H x y v u Q I rx ry h
 obtain⟨hs,q⟩:=h
 cases x with
 |non=>
  cases rx
  cases y with
  |non=>cases ry;exact PySem.EqNone.eq_none_none (j7 I q (by simp))
  |bl j=>cases ry;exact PySem.EqNone.eq_none_bool (j7 I q (by simp))
  |int j=>obtain⟨t',rfl⟩:=ry;exact PySem.EqNone.eq_none_int (j7 I q (by simp))
  |str j=>obtain⟨t',rfl⟩:=ry;exact PySem.EqNone.eq_none_str (j7 I q (by simp))
  |_=>exact absurd (show false=true from hs) Bool.false_ne_true
 |bl i=>
  cases rx
  cases y with
  |non=>cases ry;exact PySem.EqNone.eq_bool_none (j7 I q (by simp))
  |bl j=>cases ry;exact eq_bool (j7 I q fO)
  |str j=>obtain⟨t',rfl⟩:=ry;exact PySem.EqMixed.eq_bool_str (j7 I q (by simp))
  |_=>exact absurd (show false=true from hs) Bool.false_ne_true
 |int i=>
  obtain⟨t,rfl⟩:=rx
  cases y with
  |non=>cases ry;exact PySem.EqNone.eq_int_none (j7 I q (by simp))
  |int j=>obtain⟨t',rfl⟩:=ry;exact eq_int (j7 I q cH)
  |str j=>obtain⟨t',rfl⟩:=ry;exact PySem.EqMixed.eq_int_str (j7 I q (by simp))
  |_=>exact absurd (show false=true from hs) Bool.false_ne_true
 |str i=>
  obtain⟨t,rfl⟩:=rx
  cases y with
  |non=>cases ry;exact PySem.EqNone.eq_str_none (j7 I q (by simp))
  |bl j=>cases ry;exact PySem.EqMixed.eq_str_bool (j7 I q (by simp))
  |int j=>obtain⟨t',rfl⟩:=ry;exact PySem.EqMixed.eq_str_int (j7 I q (by simp))
  |str j=>obtain⟨t',rfl⟩:=ry;exact eq_str (j7 I q fF)
  |_=>exact absurd (show false=true from hs) Bool.false_ne_true
 |byt i=>
  obtain⟨t,rfl⟩:=rx
  cases y with
  |byt j=>obtain⟨t',rfl⟩:=ry;exact PySem.W.eq_bytes (j7 I q jL)
  |_=>exact absurd (show false=true from hs) Bool.false_ne_true
 |_=>cases y<;>exact absurd (show false=true from hs) Bool.false_ne_true
theorem op_ne:OpR X (compareOp .NotEq) xZ:=by
 intro pins s σ H x y v u Q I rx ry h
 obtain⟨hs,q⟩:=h
 cases x with
 |non=>
  cases rx
  cases y with
  |non=>cases ry;exact PySem.EqNone.ne_none_none (j7 I q (by simp))
  |bl j=>cases ry;exact PySem.EqNone.ne_none_bool (j7 I q (by simp))
  |int j=>obtain⟨t',rfl⟩:=ry;exact PySem.EqNone.ne_none_int (j7 I q (by simp))
  |str j=>obtain⟨t',rfl⟩:=ry;exact PySem.EqNone.ne_none_str (j7 I q (by simp))
  |_=>exact absurd (show false=true from hs) Bool.false_ne_true
 |bl i=>
  cases rx
  cases y with
  |non=>cases ry;exact PySem.EqNone.ne_bool_none (j7 I q (by simp))
  |bl j=>cases ry;exact ne_bool (j7 I q (congrArg not fO))
  |str j=>obtain⟨t',rfl⟩:=ry;exact PySem.EqMixed.ne_bool_str (j7 I q (by simp))
  |_=>exact absurd (show false=true from hs) Bool.false_ne_true
 |int i=>
  obtain⟨t,rfl⟩:=rx
  cases y with
  |non=>cases ry;exact PySem.EqNone.ne_int_none (j7 I q (by simp))
  |int j=>obtain⟨t',rfl⟩:=ry;exact ne_int (j7 I q (congrArg not cH))
  |str j=>obtain⟨t',rfl⟩:=ry;exact PySem.EqMixed.ne_int_str (j7 I q (by simp))
  |_=>exact absurd (show false=true from hs) Bool.false_ne_true
 |str i=>
  obtain⟨t,rfl⟩:=rx
  cases y with
  |non=>cases ry;exact PySem.EqNone.ne_str_none (j7 I q (by simp))
  |bl j=>cases ry;exact PySem.EqMixed.ne_str_bool (j7 I q (by simp))
  |int j=>obtain⟨t',rfl⟩:=ry;exact PySem.EqMixed.ne_str_int (j7 I q (by simp))
  |str j=>obtain⟨t',rfl⟩:=ry;exact ne_str (j7 I q (congrArg not fF))
  |_=>exact absurd (show false=true from hs) Bool.false_ne_true
 |byt i=>
  obtain⟨t,rfl⟩:=rx
  cases y with
  |byt j=>obtain⟨t',rfl⟩:=ry;exact PySem.W.ne_bytes (j7 I q (congrArg not jL))
  |_=>exact absurd (show false=true from hs) Bool.false_ne_true
 |_=>cases y<;>exact absurd (show false=true from hs) Bool.false_ne_true
theorem op_lt:OpR X (compareOp .Lt) (rK fun i j=> .bl (decide (i<j))):=wb fun _ _ _ _ _ _ _ q=>lt_int q
theorem cZ:OpR X (compareOp .Gt) (rK fun i j=> .bl (decide (j<i))):=wb fun _ _ _ _ _ _ _ q=>gt_int q
theorem lP:OpR X (compareOp .Lt) (fun x y H Q=>∃i j,x= .str i∧y= .str j∧Q (.bl (decide (i.cps.toList<j.cps.toList))) H):=by
 intro pins s σ H x y v u Q I rx ry h
 obtain⟨i,j,rfl,rfl,q⟩:=h
 obtain⟨t,rfl⟩:=rx
 obtain⟨t',rfl⟩:=ry
 exact lt_str (j7 I q rfl)
theorem ml:OpR X (compareOp .In) (fun x y H Q=>∃i j,x= .str i∧y= .str j∧Q (.bl (!(Builtin.Str.occurrences j i 0 j.length 1).isEmpty)) H):=by
 intro pins s σ H x y v u Q I rx ry h
 obtain⟨i,j,rfl,rfl,q⟩:=h
 obtain⟨t,rfl⟩:=rx
 obtain⟨t',rfl⟩:=ry
 exact in_str (j7 I q rfl)
theorem OpR.or {f:Value→Value→Sem Value}{r r':R2}(h:OpR X f r)(h':OpR X f r'):OpR X f (fun x y H Q=>r x y H Q∨r' x y H Q):=by
 intro pins s σ H x y v u Q I rx ry q
 rcases q with q|q
 ·exact h pins s σ H x y v u Q I rx ry q
 ·exact h' pins s σ H x y v u Q I rx ry q
theorem j8 (b:Expr){op:CmpOp}(h:op≠ .In:=by decide)(h2:op≠ .NotIn:=by decide):behindInMarks op b=false:=by
 have e1:(op==CmpOp.In)=false:=by cases op<;>first|rfl|exact absurd rfl h
 have e2:(op==CmpOp.NotIn)=false:=by cases op<;>first|rfl|exact absurd rfl h2
 cases b<;>simp [behindInMarks,e1,e2]
theorem pZ {op:CmpOp}{r:R2}(ho:OpR X (compareOp op) r)(ha:PE X a ta)(hb:PE X b tb)(hm:behindInMarks op b=false):PE X (.Compare a [op] [b] pos) (qU r ta tb):=by
 intro pins s σ H Q I h
 exact wpAny_Compare1 (sR ha hb I h fun v u s2 x y H2 I2 rx ry q=>ho pins s2 σ H2 x y v u Q I2 rx ry q) hm
def pd (t:TE):TT:=fun σ H Q=>t σ H fun x H'=>∃k,x= .bl k∧Q k H'
theorem qz {op:CmpOp}{r:R2}(ho:OpR X (compareOp op) r)(ha:PE X a ta)(hb:PE X b tb)(hm:behindInMarks op b=false):PT X (.Compare a [op] [b] pos) (pd (qU r ta tb)):=by
 intro pins s σ H Q I h
 refine wpAny_isTrue_Compare1 (G3 (ha pins s σ H _ I h) fun v s1 ⟨x,H1,I1,r1,q1⟩=>G3 (hb pins s1 σ H1 _ I1 q1) fun u s2 ⟨y,H2,I2,r2,q2⟩=>
  G3 (ho pins s2 σ H2 x y v u _ I2 r1 r2 q2) fun c s3 ⟨z,H3,I3,r3,k,e,q3⟩=>?_) hm
 subst e
 cases r3
 exact wpAny_truthy_bool ⟨H3,I3,q3⟩
def tJ (r r':R2)(ta tb tc:TE):TE:=fun σ H Q=>ta σ H fun x H1=>tb σ H1 fun y H2=>r x y H2 fun z H3=>∃k,z= .bl k∧
 (if k=true then tc σ H3 fun w' H4=>r' y w' H4 Q else Q (.bl false) H3)
def oC (K:PySem.W.Frag)(x:V)(H:Hp)(k:Bool):Prop:=
 match x with
 | .non=>k=false
 | .bl b=>k=b
 | .int i=>k=(i !=0)
 | .str y=>y.length≤sizeLine∧k=((y.length:Int) !=0)
 | .byt y=>y.size≤sizeLine∧k=((y.size:Int) !=0)
 | .ref p=>(∃xs,SqL K H p xs∧k=!xs.isEmpty)∨(∃xs,SqT K H p xs∧k=!xs.isEmpty)∨∃kvs,H p=some (.dK kvs)∧k=!kvs.isEmpty
 |_=>False
theorem jm {κ:Type}{kvs:List (κ×V)}{vs:List (κ×Value)}(r:KV kvs vs):(!vs.isEmpty)=!kvs.isEmpty:=by
 cases r<;>rfl
theorem cU {xs:List V}{its:List Value}(r:Vals xs its):(!its.toArray.isEmpty)=!xs.isEmpty:=by
 cases r<;>simp
theorem bQ:(sizeLine:Nat)<2 ^ 63:=by rw[sizeLine_eq];decide
theorem si:yC X (fun x H Q=>∃k,oC X.K x H k∧Q k H):=by
 intro pins s σ H x v Q I rx h
 obtain⟨k,e,q⟩:=h
 have hl:=bQ
 have hs:sizeLine=16777216:=sizeLine_eq
 cases x with
 |non=>
  cases rx
  have e':k=false:=e
  subst e'
  exact truthy_none ⟨H,I,q⟩
 |bl b=>
  cases rx
  have e':k=b:=e
  subst e'
  exact wpAny_truthy_bool ⟨H,I,q⟩
 |int i=>
  obtain⟨t,rfl⟩:=rx
  have e':k=(i !=0):=e
  subst e'
  exact PySem.P.truthy_int ⟨H,I,q⟩
 |str y=>
  obtain⟨t,rfl⟩:=rx
  obtain⟨hy,e'⟩:y.length≤sizeLine∧k=((y.length:Int) !=0):=e
  subst e'
  exact PySem.P.truthy_str (by omega) ⟨H,I.tok _,q⟩
 |byt y=>
  obtain⟨t,rfl⟩:=rx
  obtain⟨hy,e'⟩:y.size≤sizeLine∧k=((y.size:Int) !=0):=e
  subst e'
  exact PySem.W.truthy_bytes (by omega) ⟨H,I.tok _,q⟩
 |ref p=>
  cases rx
  have e':(∃xs,SqL X.K H p xs∧k=!xs.isEmpty)∨(∃xs,SqT X.K H p xs∧k=!xs.isEmpty)∨∃kvs,H p=some (.dK kvs)∧k=!kvs.isEmpty:=e
  rcases e' with⟨xs,hx,e'⟩|⟨xs,hx,e'⟩|⟨kvs,hx,e'⟩
  ·subst e'
   obtain⟨its,r,pl,hz⟩:=I.list hx
   have hlen:=r.length
   exact wpAny_truthy_list pl.isList (by simp only[List.size_toArray];omega) ⟨H,I.tok _,by rw[cU r];exact q⟩
  ·subst e'
   obtain⟨its,r,pl,hz⟩:=I.tuple hx
   have hlen:=r.length
   exact truthy_tuple pl (by simp only[List.size_toArray];omega) ⟨H,I.tok _,by rw[cU r];exact q⟩
  ·subst e'
   obtain⟨hz,hS,vs,r,m⟩:kvs.length≤sizeLine∧(p==sysModules)=false∧∃vs,KV kvs vs∧s.heap.DictOf (j2 X.prog X.w) p vs:=I.hok p _ hx
   have hlen:kvs.length=vs.length:=Paired.length r
   exact wpAny_truthy_dict hS m (by omega) ⟨H,I.tok _,by rw[jm r];exact q⟩
 |_=>exact(show False from e).elim
theorem oJ (ha:PE X a ta)(he:∀whole,isTrue a X.env whole=(do let v←whole;standAt a.pos;holding [v] (truthy v))):
  PT X a (fun σ H Q=>ta σ H fun x H'=>∃k,oC X.K x H' k∧Q k H'):=by
 intro pins s σ H Q I h
 exact isTrue_plain (G3 (ha pins s σ H _ I h) fun v s1 ⟨x,H1,I1,r1,q1⟩=>si pins s1 σ H1 x v Q I1 r1 q1) (he _)
theorem op_add_str:OpR X (binaryOp .Add) (fun x y H Q=>∃i j,x= .str i∧y= .str j∧i.length+j.length≤sizeLine∧Q (.str (i++j)) H):=by
 intro pins s σ H x y v u Q I rx ry h
 obtain⟨i,j,rfl,rfl,hz,q⟩:=h
 obtain⟨t,rfl⟩:=rx
 obtain⟨t',rfl⟩:=ry
 exact add_str (fun t' tk=>⟨.str (i++j),H,I.tok _,⟨_,rfl⟩,q⟩) hz
theorem M9 {x:V}{us:List Value}(r:Vals [x] us):∃u,us=[u]∧RelV x u:=by
 cases r with
 |cons r1 r2=>cases r2;exact⟨_,rfl,r1⟩
theorem cj {x y:V}{us:List Value}(r:Vals [x,y] us):∃u w',us=[u,w']∧RelV x u∧RelV y w':=by
 cases r with
 |cons r1 r2=>
  cases r2 with
  |cons r3 r4=>cases r4;exact⟨_,_,rfl,r1,r3⟩
def wc (K:PySem.W.Frag)(x:V)(H:Hp)(n:Nat):Prop:=
 match x with
 | .str y=>y.length≤sizeLine∧n=y.length
 | .byt y=>y.size≤sizeLine∧n=y.size
 | .ref p=>(∃xs,SqL K H p xs∧n=xs.length)∨∃xs,SqT K H p xs∧n=xs.length
 |_=>False
theorem call_len:CallR X (.builtin "len") (fun xs H Q=>∃x n,xs=[x]∧wc X.K x H n∧Q (.int n) H):=by
 intro pins s σ H xs us Q I r h
 obtain⟨x,n,rfl,e,q⟩:=h
 obtain⟨u,rfl,rx⟩:=M9 r
 have hl:=bQ
 have hs:sizeLine=16777216:=sizeLine_eq
 cases x with
 |str y=>
  obtain⟨t,rfl⟩:=rx
  obtain⟨hy,e'⟩:y.length≤sizeLine∧n=y.length:=e
  subst e'
  exact len_str (by omega) ⟨.int _,H,I.tok _,⟨_,rfl⟩,q⟩
 |byt y=>
  obtain⟨t,rfl⟩:=rx
  obtain⟨hy,e'⟩:y.size≤sizeLine∧n=y.size:=e
  subst e'
  exact PySem.W.len_bytes (by omega) ⟨.int _,H,I.tok _,⟨_,rfl⟩,q⟩
 |ref p=>
  cases rx
  have e':(∃xs,SqL X.K H p xs∧n=xs.length)∨∃xs,SqT X.K H p xs∧n=xs.length:=e
  rcases e' with⟨xs,hx,e'⟩|⟨xs,hx,e'⟩
  ·subst e'
   obtain⟨its,r',pl,hz⟩:=I.list hx
   have hlen:=r'.length
   exact Calls.call_len_list pl.isList (by simp only[List.size_toArray];omega) ⟨.int xs.length,H,I.tok _,⟨_,by simp only[List.size_toArray];rw[hlen]⟩,q⟩
  ·subst e'
   obtain⟨its,r',pl,hz⟩:=I.tuple hx
   have hlen:=r'.length
   exact len_tuple pl (by simp only[List.size_toArray];omega) ⟨.int xs.length,H,I.tok _,⟨_,by simp only[List.size_toArray];rw[hlen]⟩,q⟩
 |_=>exact(show False from e).elim
end
end L2
namespace L2
open PySem PySem.Spec PyProof.Rows
structure za (h:Heap) (x dx C:Addr) (mA:Str→Option Value):Prop where
 obj:h.get? x=some (PySem.W.instObj C dx)
 ns:h.Ns1 dx mA
 ne:dx≠x
section
variable {prog:Program} {w:World} {A:Around} {E:Value→Shared→Prop} {s:Shared} {K:PySem.W.Frag} {x dx C f:Addr} {mA:Str→Option Value} {name:Str} {v:Value}
end
theorem RelO.some_of {v:V}{o:Option Value}(r:RelO (some v) o):∃u,o=some u∧RelV v u:=by
 cases o with
 |none=>exact(show False from r).elim
 |some u=>exact⟨u,rfl,r⟩
theorem RelO.none_of {o:Option Value}(r:RelO none o):o=none:=by
 cases o with
 |none=>rfl
 |some u=>exact(show False from r).elim
section
variable {P:Program} {w:World} {H H':Hp} {h h':Heap} {a C dx:Addr} {fs fs':List (Str×V)}
end
structure Cls (K:PySem.W.Frag) (C:Addr):Prop where
 pg:PySem.W.plainGet K C Str.empty=true
 hd:PySem.W.hasDictIn K C=true
 po:PySem.W.plainOver K C=true
 sa:PySem.W.findIn K (.ref C) "__setattr__"=some (some (.builtin "object.__setattr__"))
theorem Cls.get {K:PySem.W.Frag}{C:Addr}(c:Cls K C)(f:Str):PySem.W.plainGet K C f=true:=c.pg
structure zl (K:PySem.W.Frag) (C:Addr) (f:Str) (v:V) (u:Value):Prop where
 at_:PySem.W.findIn K (.ref C) f=some (some u)
 rel:RelV v u
 get:PySem.W.specialIn K u "__get__"=some none
 cp:PySem.W.copiedNames.contains f=false
structure zj (K:PySem.W.Frag) (C:Addr) (m:Str) (f:Addr):Prop where
 at_:PySem.W.findIn K (.ref C) m=some (some (.ref f))
 fn:PySem.W.isFn K (.ref f)=true
 kp:PySem.W.keepIn K (.ref f)=true
section
variable {X:Cx} {pins:List (Addr×Obj)} {σ:St} {H:Hp} {s:Shared} {a C dx:Addr} {fs:List (Str×V)} {f:Str} {v:V} {A:Around} {E:Value→Shared→Prop}
theorem Inv.made (I:Inv X pins σ H s):Inv X pins σ (n0 (n0 H s.heap.objs.size (.own (s.heap.objs.size+1))) (s.heap.objs.size+1) (.ins C s.heap.objs.size []))
  {s with heap:=(s.heap.push PySem.W.emptyDict).push (PySem.W.instObj C s.heap.objs.size)}:=by
 have e1:(s.heap.push PySem.W.emptyDict).get? s.heap.objs.size=some PySem.W.emptyDict:=Heap.get?_push_size s.heap rfl
 have e2:((s.heap.push PySem.W.emptyDict).push (PySem.W.instObj C s.heap.objs.size)).get? (s.heap.objs.size+1)=some (PySem.W.instObj C s.heap.objs.size):=by
  have:=Heap.get?_push_size (s.heap.push PySem.W.emptyDict) (o:=PySem.W.instObj C s.heap.objs.size) rfl
  rwa [Heap.size_push] at this
 have e3:(s.heap.push PySem.W.emptyDict).Ns s.heap.objs.size (fun _=>none):=⟨PySem.W.emptyDict, #[],_,e1,rfl,(fun e he=>absurd he (by simp)),fun _=>rfl⟩
 have I1:=I.laid (a:=s.heap.objs.size) (o:= .own (s.heap.objs.size+1)) (h':=s.heap.push PySem.W.emptyDict) (t':=s.toks) (fun b u q=>Heap.get?_push_of_some _ q) (Nat.le_refl _) ⟨_,e1⟩
 refine I1.laid (a:=s.heap.objs.size+1) (o:= .ins C s.heap.objs.size []) (t':=s.toks) (fun b u q=>Heap.get?_push_of_some _ q) (Nat.le_of_eq (Heap.size_push _ _)) ?_
 have ne:s.heap.objs.size≠s.heap.objs.size+1:=Nat.ne_of_lt (Nat.lt_succ_self _)
 refine⟨by rw[b9 ne,d9],Nat.zero_le _,ne,e2,fun _=>none,(Heap.Ns1.of_empty e3).at fun o q=>Heap.get?_push_of_some _ q,fun _=>True.intro,fun y hy=>absurd rfl hy⟩
end
section
variable {X:Cx} {o e value:Expr} {f:Str} {pos pos' tpos:Pos} {ta tv:TE}
end
section
variable {X:Cx} {pins:List (Addr×Obj)} {σ:St} {H:Hp} {s:Shared} {A:Around} {E:Value→Shared→Prop} {Q:Value→Shared→Prop} {c:Value} {b:Bool}
inductive cW (K:PySem.W.Frag) (H:Hp):V→Value→Prop where
 |non:cW K H .non (.type "NoneType")
 |bl (x:Bool):cW K H (.bl x) (.type "bool")
 |int (i:Int):cW K H (.int i) (.type "int")
 |str (x:Str):cW K H (.str x) (.type "str")
 |flt (x:UInt64):cW K H (.flt x) (.type "float")
 |lst {a:Addr} {xs:List V} (e:H a=some (.lst xs)):cW K H (.ref a) (.type "list")
 |frz {a:Addr} {o:Obj} {xs:List V} (e:H a=some (.frz o (.lst xs))):cW K H (.ref a) (.type "list")
 |tup {a:Addr} {xs:List V} (e:H a=some (.tup xs)):cW K H (.ref a) (.type "tuple")
 |dK {a:Addr} {kvs:List (g7×V)} (e:H a=some (.dK kvs)):cW K H (.ref a) (.type "dict")
 |dT {a:Addr} {kvs:List (List g7×V)} (e:H a=some (.dT kvs)):cW K H (.ref a) (.type "dict")
 |ins {a C dx:Addr} {fs:List (Str×V)} (e:H a=some (.ins C dx fs)) (cl:Cls K C) (ha:PySem.W.findIn K (.ref C) "__class__"=some (some (.builtin "object.__class__")))
   (hn:PySem.W.specialIn K (.builtin "object.__class__") "__get__"=some (some (.builtin "getset_descriptor.__get__"))) (htk:PySem.W.takesIn K (.builtin "object.__class__")=some true)
   (hm:PySem.W.mroIn K C (.type "object")=some true):cW K H (.ref a) (.ref C)
end
end L2
namespace L2
open PySem PySem.Spec PyProof.Rows
structure Room (k:Nat) (A:Around):Prop where
 hd:A.handled=none
 dp:A.depth+3*k+5<recursionLimit
 un:A.units+16*k+200<cLine
theorem Room.mono {j k:Nat}{A:Around}(r:Room k A)(h:j≤k):Room j A:=⟨r.hd,by have:=r.dp;omega,by have:=r.un;omega⟩
theorem Room.deeper {k:Nat}{A:Around}(r:Room (k+1) A)(env:Env):Room k (A.deeper env):=
 ⟨r.hd,by have:=r.dp;show A.depth+1+3*k+5<_;omega,by have:=r.un;show A.units+3+16*k+200<_;omega⟩
theorem Room.in1 {k:Nat}{A:Around}(r:Room (k+1) A):Room k A.in1:=
 ⟨r.hd,by have:=r.dp;show A.depth+3*k+5<_;omega,by have:=r.un;show A.units+1+16*k+200<_;omega⟩
theorem iG {A:Around}{C:Addr}{us:List Value}{kw:List (Str×Value)}:(A.under (.builtin "type.__call__" ⟨.ref C::us,kw⟩)).depth=A.depth+1:=by
 first|rfl|simp [Around.under,Code.weight,Code.isCreation,Code.isGuard,Code.isCaller,Code.frames,Code.isFrame,guardIds]
theorem jo {A:Around}{C:Addr}{us:List Value}{kw:List (Str×Value)}:(A.under (.builtin "type.__call__" ⟨.ref C::us,kw⟩)).units=A.units+1:=by
 first|rfl|simp [Around.under,Code.cUnits,Code.frames,Code.isFrame]
theorem Room.make {k:Nat}{A:Around}(r:Room (k+1) A)(C:Addr)(us:List Value)(kw:List (Str×Value)):Room k (A.under (.builtin "type.__call__" ⟨.ref C::us,kw⟩)):=
 ⟨r.hd,by have:=r.dp;rw[iG];omega,by have:=r.un;rw[jo];omega⟩
theorem Room.depth {k:Nat}{A:Around}(r:Room k A):A.depth<recursionLimit:=by have:=r.dp;omega
theorem Room.units {k:Nat}{A:Around}(r:Room k A):A.units+64<cLine:=by have:=r.un;omega
def jk:TA:=fun _ H Q=>Q [] H
def kC (ta:TE)(tr:TA):TA:=fun σ H Q=>ta σ H fun x H1=>tr σ H1 fun xs H2=>Q (x::xs) H2
section
variable {X:Cx} {e:Expr} {es:List Expr} {te:TE} {t:TA} {pos:Pos}
theorem sX:PA X [] jk:=fun _ _ _ _ H Q I h=>Calls.spliced_nil ⟨[],H,I,.nil,h⟩
theorem qF (ha:PE X e te)(hr:PA X es t)(hs:starEach (e::es) X.env=(false,eval e X.env)::starEach es X.env:=by rfl):PA X (e::es) (kC te t):=by
 intro pos pins s σ H Q I h
 rw[hs]
 show wpAny _ _ (spliced ((false,eval e X.env)::backTo pos (starEach es X.env))) _ _ s
 refine Calls.spliced_cons (G3 (ha pins s σ H _ I h) fun u s1 ⟨x,H1,I1,r1,q1⟩=>?_)
 exact G3 (hr pos pins s1 σ H1 _ I1 q1) fun us s2 ⟨xs,H2,I2,r2,q2⟩=>⟨x::xs,H2,I2,.cons r1 r2,q2⟩
def ue (t:TA):TE:=fun σ H Q=>t σ H fun xs H1=>xs.length≤sizeLine∧∀p,H1 p=none→Q (.ref p) (n0 H1 p (.tup xs))
def vg (t:TA):TE:=fun σ H Q=>t σ H fun xs H1=>xs.length≤sizeLine∧∀p,H1 p=none→Q (.ref p) (n0 H1 p (.lst xs))
theorem tX {x1}(h:PA X es t):PE X (.Tuple es x1 pos) (ue t):=by
 intro pins s σ H Q I hq
 refine wpAny_Tuple_spliced (G3 (h pos pins s σ H _ I hq) fun us s1 ⟨xs,H1,I1,r,z,q⟩=>⟨by rw[←r.length];exact z,?_⟩)
 have hf:H1 s1.heap.objs.size=none:=I1.hok.fresh (Nat.le_refl _)
 refine⟨.ref s1.heap.objs.size,n0 H1 s1.heap.objs.size (.tup xs),I1.laid (t':=s1.toks) (fun b u e=>Heap.get?_push_of_some _ e) (Nat.le_refl _) ?_,rfl,q _ hf⟩
 exact⟨z,us,r,⟨_,Heap.get?_push_size _ rfl,rfl,_,rfl⟩⟩
theorem vf (h:PA X es t):PE X (.List es pos) (vg t):=by
 intro pins s σ H Q I hq
 refine wpAny_List_spliced (G3 (h pos pins s σ H _ I hq) fun us s1 ⟨xs,H1,I1,r,z,q⟩=>⟨by rw[←r.length];exact z,?_⟩)
 have hf:H1 s1.heap.objs.size=none:=I1.hok.fresh (Nat.le_refl _)
 refine⟨.ref s1.heap.objs.size,n0 H1 s1.heap.objs.size (.lst xs),I1.laid (t':=s1.toks) (fun b u e=>Heap.get?_push_of_some _ e) (Nat.le_refl _) ?_,rfl,q _ hf⟩
 exact⟨z,us,0,r,Heap.get?_push_size _ rfl⟩
end
abbrev Sp:=List V→Hp→VK→XK→Prop
abbrev gd:=List Env→Hp→Shared→XK→Value→Shared→Prop
structure Env0 (P:Program) (w:World) (K:PySem.W.Frag) (mg:Str→Option Value) (base:Heap) (A:Around) (outer:List Env) (s:Shared) (H:Hp):Prop where
 frames:A.frames=some outer
 mod:Mod K mg base
 bs:∀b o,base.get? b=some o→s.heap.get? b=some o∧H b=none
 bsz:base.objs.size≤s.heap.objs.size
 funs:s.heap.FunFrames base outer
 frf:∀b∈aC outer,H b=none
 hok:HOk P w H s.heap
 bare:AllBare s.gens
def CE (outer:List Env)(P:Program)(w:World)(H:Hp)(s:Shared)(Q:VK)(u:Value)(s':Shared):Prop:=
 ∃v H',s'.os=s.os∧AllBare s'.gens∧Un (aC outer) [] H H' s.heap s'.heap∧HOk P w H' s'.heap∧RelV v u∧Q v H'
def CR (CX:gd)(outer:List Env)(P:Program)(w:World)(H:Hp)(s:Shared)(Q:VK)(E:XK)(r:Result)(s':Shared):Prop:=
 match r with
 | .ok (.ret u)=>CE outer P w H s Q u s'
 | .ok _=>False
 | .error e=>CX outer H s E e s'
structure FnOk (P:Program) (w:World) (K:PySem.W.Frag) (mg:Str→Option Value) (base:Heap) (CX:gd) (k:Nat) (f:Addr) (fd:FuncData) (ps:List Str) (sp:Sp):Prop where
 len:∀vs H Q E,sp vs H Q E→vs.length=ps.length
 run:∀(A:Around) (outer:List Env) (s:Shared) (H:Hp) (args:Args) (us:List Value) (vs:List V) (Q:VK) (E:XK),Room k A→Env0 P w K mg base A outer s H→BindsTo s fd args (ps.zip us)→Vals vs us→sp vs H Q E→
  codeAny (model P w) A (.call (.ref f) args) (CR CX outer P w H s Q E) s
theorem FnOk.mono {P:Program}{w:World}{K:PySem.W.Frag}{mg:Str→Option Value}{base:Heap}{CX:gd}{j k:Nat}{f:Addr}{fd:FuncData}{ps:List Str}{sp:Sp}(F:FnOk P w K mg base CX j f fd ps sp)(h:j≤k):
  FnOk P w K mg base CX k f fd ps sp:=⟨F.len,fun A outer s H args us vs Q E hr=>F.run A outer s H args us vs Q E (hr.mono h)⟩
theorem Env0.make {P:Program}{w:World}{K:PySem.W.Frag}{mg:Str→Option Value}{base:Heap}{A:Around}{outer:List Env}{s:Shared}{H:Hp}(e:Env0 P w K mg base A outer s H)(C:Addr)(us:List Value)(kw:List (Str×Value)):
  Env0 P w K mg base (A.under (.builtin "type.__call__" ⟨.ref C::us,kw⟩)) outer s H:=⟨by first|exact e.frames|(simpa [Around.under,Code.envs,Code.isFrame,pushEnvs] using e.frames),e.mod,e.bs,e.bsz,e.funs,e.frf,e.hok,e.bare⟩
theorem Env0.in1 {P:Program}{w:World}{K:PySem.W.Frag}{mg:Str→Option Value}{base:Heap}{A:Around}{outer:List Env}{s:Shared}{H:Hp}(e:Env0 P w K mg base A outer s H):
  Env0 P w K mg base A.in1 outer s H:=⟨e.frames,e.mod,e.bs,e.bsz,e.funs,e.frf,e.hok,e.bare⟩
section
variable {X:Cx} {pins:List (Addr×Obj)} {σ:St} {H:Hp} {s s':Shared}
theorem Inv.env0 (I:Inv X pins σ H s):Env0 X.prog X.w X.K X.mg X.base X.A X.stack s H:=
 ⟨I.ok.frames,I.ok.mod,I.bs,Nat.le_trans I.ok.bsz I.sz,I.stack,I.stkFree,I.hok,I.bare⟩
theorem Inv.after {Q:VK}{u:Value}(I:Inv X pins σ H s)(h:CE X.stack X.prog X.w H s Q u s'):EP X pins σ Q u s':=by
 obtain⟨v,H',os,bare,un,hok,r,q⟩:=h
 obtain⟨hh,g,d,t,os'⟩:=s'
 obtain rfl:os'=s.os:=os
 exact⟨v,H',I.call (h':=hh) (g':=g) (d':=d) (t':=t) (ch:=[]) un hok bare (fun b z=>absurd z (by simp)),r,q⟩
end
def gL (sp:Sp)(dvs:List V)(E:XK)(t:TA):TE:=fun σ H Q=>t σ H fun vs H1=>sp (vs++dvs) H1 Q E
def Binds (K:PySem.W.Frag)(fd:FuncData)(ps:List Str)(ds:List Value):Prop:=
 ∀(s:Shared) (us:List Value),K.In s.heap→(us++ds).length=ps.length→BindsTo s fd ⟨us,[]⟩ (ps.zip (us++ds))
theorem Binds.all {K:PySem.W.Frag}{fd:FuncData}{ps:List Str}(h:∀us:List Value,us.length=ps.length→bindArgs fd ⟨us,[]⟩=pure (ps.zip us)):Binds K fd ps []:=fun s us _ hl=>by
 rw[List.append_nil] at hl⊢
 exact .of_eq (h us hl)
def aM (CX:gd)(X:Cx)(E:XK):Prop:=∀(pins:List (Addr×Obj)) (σ:St) (H:Hp) (s:Shared) (e:Value) (s':Shared),Inv X pins σ H s→CX X.stack H s E e s'→X.xe e s'
section
variable {X:Cx} {CX:gd} {k:Nat} {f C:Addr} {fd:FuncData} {ps:List Str} {sp:Sp} {dvs:List V} {ds:List Value} {E:XK} {x m:Str} {p pos apos:Pos} {e o:Expr} {es:List Expr} {ta:TE} {t:TA}
theorem uN {pins:List (Addr×Obj)}{σ:St}{H:Hp}{s:Shared}{Q:VK}{us:List Value}{vs:List V}(F:FnOk X.prog X.w X.K X.mg X.base CX k f fd ps sp)(hr:Room k X.A)(hb:Binds X.K fd ps ds)(hd:Vals dvs ds)(hx:aM CX X E)
  (I:Inv X pins σ H s) (r:Vals vs us) (h:sp (vs++dvs) H Q E):wpAny (model X.prog X.w) X.A (call (.ref f) us) (EP X pins σ Q) X.xe s:=by
 have r2:Vals (vs++dvs) (us++ds):=r.append hd
 have hl:(us++ds).length=ps.length:=by rw[←r2.length];exact F.len _ _ _ _ h
 refine wpAny_call (codeAny_mono (F.run X.A X.stack s H ⟨us,[]⟩ (us++ds) (vs++dvs) Q E hr I.env0 (hb s us I.kIn hl) r2 h) fun r s' hq=>?_)
 cases r with
 |error e=>exact hx pins σ H s e s' I hq
 |ok fl=>
  cases fl with
  |ret u=>exact I.after hq
  |next=>exact False.elim hq
  |brk=>exact False.elim hq
  |cont=>exact False.elim hq
theorem qL (F:FnOk X.prog X.w X.K X.mg X.base CX k f fd ps sp)(hr:Room k X.A)(hg:Gl X x)(hm:X.mg x=some (.ref f))(hk:PySem.W.keepIn X.K (.ref f)=true)(hb:Binds X.K fd ps ds)(hd:Vals dvs ds)(hx:aM CX X E)
  (ha:PA X (e::es) t) (hdb:(x==("__debug__":Str))=false:=by decide) (he:starEach (e::es) X.env=(false,eval e X.env)::starEach es X.env:=by rfl) (hpl:(backTo pos (starEach es X.env)).any (·.1)=false:=by rfl):
  PE X (.Call (.Name x p) (e::es) [] pos) (gL sp dvs E t):=by
 intro pins s σ H Q I h
 refine wpAny_Call_Name_kw (fW I hg hm ?_ hdb)
 refine PySem.W.callWith_K (h₀:=X.base) I.ok.mod.kin hk (G3 (ha pos pins s σ H _ I h) fun us s1 ⟨vs,H1,I1,r,q⟩=>⟨I1.kIn,?_⟩) he hpl
 exact uN F hr hb hd hx I1 r q
structure Mk (K:PySem.W.Frag) (C f:Addr):Prop where
 makes:PySem.W.makesIn K C=true
 init:PySem.W.findIn K (.ref C) "__init__"=some (some (.ref f))
 fn:PySem.W.isFn K (.ref f)=true
 kp:PySem.W.keepIn K (.ref C)=true
end
section
variable {X:Cx} {CX:gd} {k:Nat} {f C:Addr} {fd:FuncData} {ps ks:List Str} {sp:Sp} {E:XK} {x m:Str} {p pos apos kpos:Pos} {e o:Expr} {es:List Expr} {kws:List Keyword} {te ta:TE} {t tk:TA} {nm:Option Str}
structure yn (K:PySem.W.Frag) (fd:FuncData) (ps ks:List Str) (g:List Value→List Value→List Value) (gV:List V→List V→List V):Prop where
 to:∀(s:Shared) (us ws:List Value),K.In s.heap→(g us ws).length=ps.length→BindsTo s fd ⟨us,ks.zip ws⟩ (ps.zip (g us ws))
 rel:∀{vs:List V} {us:List Value} {zs:List V} {ws:List Value},Vals vs us→Vals zs ws→Vals (gV vs zs) (g us ws)
variable {g:List Value→List Value→List Value} {gV:List V→List V→List V}
end
structure i9 (N P:List Str) (sc:Scope):Prop where
 kind:sc.kind= .function
 co:sc.isCoroutine=false
 gen:sc.isGenerator=false
 nd:N.Nodup
 pre:N.take P.length=P
 par:∀x∈P,sc.names.lookup x=some .local∨sc.names.lookup x=some .cell
 nofree:∀y∈sc.names,y.2≠ .free
theorem eP {kindOf:Str→Option NameKind}{x:Str}:∀{binds:List (Str×Value)} {m:Str→Option Value},(∀v,(x,v)∉binds)→bindL kindOf binds m x=m x
 |[],_,_=>rfl
 |(n,v)::r,m,h=>by
  unfold bindL
  rw[eP fun w hw=>h w (List.mem_cons_of_mem _ hw)]
  split
  ·have:x≠n:=by rintro rfl;exact h v List.mem_cons_self
   simp [this]
  ·rfl
theorem eS {kindOf:Str→Option NameKind}{x:Str}:∀{binds:List (Str×Value)} {m:Str→Option Value},(∀v,(x,v)∉binds)→bindC kindOf binds m x=m x
 |[],_,_=>rfl
 |(n,v)::r,m,h=>by
  unfold bindC
  rw[eS fun w hw=>h w (List.mem_cons_of_mem _ hw)]
  split
  ·rfl
  ·have:x≠n:=by rintro rfl;exact h v List.mem_cons_self
   simp [this]
theorem eB {kindOf:Str→Option NameKind}{x:Str}{v:Value}:∀{P:List Str} {vs:List Value} {i:Nat} {m:Str→Option Value},P.Nodup→P[i]?=some x→vs[i]?=some v→kindOf x=some .local→
  bindL kindOf (P.zip vs) m x=some v
 |[],_,_,_,_,h,_,_=>by simp at h
 |_::_,[],_,_,_,_,h,_=>by simp at h
 |p::P,w::vs,0,m,nd,h1,h2,hk=>by
  simp at h1 h2;subst h1;subst h2
  show bindL kindOf ((p,w)::P.zip vs) m p=_
  unfold bindL
  rw[eP fun v hv=>(List.nodup_cons.mp nd).1 (List.of_mem_zip hv).1,if_pos hk]
  simp
 |p::P,w::vs,i+1,m,nd,h1,h2,hk=>by
  show bindL kindOf ((p,w)::P.zip vs) m x=_
  unfold bindL
  exact eB (i:=i) (List.nodup_cons.mp nd).2 (by simpa using h1) (by simpa using h2) hk
theorem eR {kindOf:Str→Option NameKind}{x:Str}{v:Value}:∀{P:List Str} {vs:List Value} {i:Nat} {m:Str→Option Value},P.Nodup→P[i]?=some x→vs[i]?=some v→kindOf x≠some .local→
  bindC kindOf (P.zip vs) m x=some v
 |[],_,_,_,_,h,_,_=>by simp at h
 |_::_,[],_,_,_,_,h,_=>by simp at h
 |p::P,w::vs,0,m,nd,h1,h2,hk=>by
  simp at h1 h2;subst h1;subst h2
  show bindC kindOf ((p,w)::P.zip vs) m p=_
  unfold bindC
  rw[eS fun v hv=>(List.nodup_cons.mp nd).1 (List.of_mem_zip hv).1,if_neg hk]
  simp
 |p::P,w::vs,i+1,m,nd,h1,h2,hk=>by
  show bindC kindOf ((p,w)::P.zip vs) m x=_
  unfold bindC
  exact eR (i:=i) (List.nodup_cons.mp nd).2 (by simpa using h1) (by simpa using h2) hk
def bB (N:List Str)(vs:List V):St:=vs.map some++List.replicate (N.length -vs.length) none
def ee (CX:gd)(P:Program)(w:World)(K:PySem.W.Frag)(mg:Str→Option Value)(base:Heap)(N:List Str)(qual:Str)(scope:Scope)(f:Addr)(cd:Value)(A:Around)(outer:List Env)(s:Shared)(H:Hp)(E:XK):Cx where
 prog:=P
 w:=w
 K:=K
 mg:=mg
 base:=base
 A:=A.deeper (envOfC qual scope s.heap.objs.size f cd)
 N:=N
 s₀:=s
 H₀:=H
 env:=envOfC qual scope s.heap.objs.size f cd
 outer:=outer
 stack:=envOfC qual scope s.heap.objs.size f cd::outer
 ex:=[]
 calm:=true
 fn:=fun _=>true
 pn:=[]
 xe:=fun e s'=>wpAny (model P w) (A.deeper (envOfC qual scope s.heap.objs.size f cd)) («leaving» (envOfC qual scope s.heap.objs.size f cd) e) (fun _ s''=>CX outer H s E e s'') (fun e' s''=>CX outer H s E e' s'') s'
theorem gm {sc:Scope}{n:Nat}{x:Str}(h:sc.names.lookup x=some .cell):∃c,(cellsFrom n sc.names []).lookup x=some c:=by
 have q:=PySem.W.cellsFrom_some sc.names n [] (.inl h)
 exact Option.isSome_iff_exists.mp q
theorem kZ {CX:gd}{P:Program}{w:World}{K:PySem.W.Frag}{mg:Str→Option Value}{base:Heap}{N ps:List Str}{qual:Str}{scope:Scope}{f:Addr}{cd:Value}{A:Around}{outer:List Env}{s s1:Shared}{H:Hp}{E:XK}{us:List Value}{vs:List V}
  (S:i9 N ps scope) (hd:A.handled=none) (e0:Env0 P w K mg base A outer s H) (hl:vs.length=ps.length) (r:Vals vs us)
  (x:InCallC s s.heap.objs.size (bindL (envOfC qual scope s.heap.objs.size f cd).kindOf (ps.zip us) fun _=>none) (cellsFrom (s.heap.objs.size+1) scope.names []) (bindC (envOfC qual scope s.heap.objs.size f cd).kindOf (ps.zip us) fun _=>none) s1):
  Inv (ee CX P w K mg base N qual scope f cd A outer s H E) [] (bB N vs) H s1:=by
 have hpl:ps.length≤N.length:=by have:=congrArg List.length S.pre;rw[List.length_take] at this;omega
 obtain⟨h1,tk,rfl,hk⟩:=x.done
 have noA:∀b:Addr,b∉(ee CX P w K mg base N qual scope f cd A outer s H E).ex:=fun b z=>absurd (show b∈([]:List Addr) from z) (by simp)
 refine⟨⟨e0.mod,S.kind,rfl,rfl,Nat.le_refl _,fun y z c h1 h2=>?_,fun y hy=>?_,fun y c _ h=>?_,fun _=>hd,Around.frames_deeper e0.frames,.inr ⟨rfl,rfl⟩,fun b z=>absurd z (noA b),e0.bs,e0.bsz,fun b _ _=>noA b,fun b z=>absurd z (noA b),e0.funs,e0.frf⟩,
  rfl,e0.bare,Un.kept hk,⟨_,x.toInCall.ns,fun i y v h1 h2 h3=>?_⟩,fun y c h=>⟨_,x.cell y c h⟩,e0.hok.fresh (Nat.le_refl _),fun y c h=>?_,fun p hp=>absurd (show p∈([]:List (Addr×Obj)) from hp) (by simp),e0.hok.kept hk,?_⟩
 ·exact name_of_addr x.apart (PySem.mem_of_lookup h1) (PySem.mem_of_lookup h2)
 ·have hy:scope.names.lookup y=some .cell∨scope.names.lookup y=some .free:=hy
  rcases hy with hy|hy
  ·exact gm hy
  ·exact absurd rfl (S.nofree _ (PySem.mem_of_lookup hy))
 ·exact Nat.le_of_lt (x.above y c (PySem.mem_of_lookup h))
 ·have hi:i<vs.length:=by
   unfold bB at h2
   by_cases hi:i<vs.length
   ·exact hi
   ·rw[List.getElem?_append_right (by simpa using hi)] at h2
    rw[List.getElem?_replicate] at h2
    split at h2<;>cases h2
  have ha:vs[i]?=some v:=by
   unfold bB at h2
   rw[List.getElem?_append_left (by simpa using hi),List.getElem?_map] at h2
   cases e:vs[i]? with
   |none=>rw[e] at h2;cases h2
   |some a=>rw[e] at h2;cases h2;rfl
  obtain⟨u,hu,rv⟩:=r.get ha
  have hp:ps[i]?=some y:=by
   rw[←S.pre,List.getElem?_take_of_lt (by omega)];exact h1
  have ndP:ps.Nodup:=by rw[←S.pre];exact S.nd.sublist (List.take_sublist _ _)
  refine⟨u,rv,?_⟩
  rcases S.par y (List.mem_of_getElem? hp) with k|k
  ·exact .inl ⟨k,eB ndP hp hu k⟩
  ·obtain⟨c,e⟩:=gm (n:=s.heap.objs.size+1) k
   refine .inr ⟨.inl k,c,e,?_⟩
   have q:=x.cell y c e
   rw[eR ndP hp hu (by show scope.names.lookup y≠_;rw[k];decide)] at q
   exact q
 ·exact e0.hok.fresh (Nat.le_of_lt (x.above y c (PySem.mem_of_lookup h)))
 ·unfold bB
  show _=N.length
  rw[List.length_append,List.length_map,List.length_replicate]
  omega
theorem rR {CX:gd}{P:Program}{w:World}{K:PySem.W.Frag}{mg:Str→Option Value}{base:Heap}{k:Nat}{f:Addr}{name qual:Str}{params:Arguments}{body:List Stmt}{scope:Scope}{dV kV doc pm cdv ct oc:Value}{an od:Option Addr}
  {osl:Array (Option Value)} {N ps:List Str} {sp:Sp} (lk:K.lookup f=some ⟨oc,od,.func (PySem.W.fnOf name qual params body scope dV kV doc pm an cdv ct),osl⟩) (hcd:PySem.W.codeIn K cdv qual=true) (S:i9 N ps scope)
  (len:∀vs H Q E,sp vs H Q E→vs.length=ps.length)
  (hbody:∀(A:Around) (outer:List Env) (s:Shared) (H:Hp) (vs:List V) (Q:VK) (E:XK),Room k (A.deeper (envOfC qual scope s.heap.objs.size f cdv))→sp vs H Q E→
   ∃t,PSs (ee CX P w K mg base N qual scope f cdv A outer s H E) body t∧t {nx:=fun _ H'=>Q .non H',rt:=Q} (bB N vs) H):
  FnOk P w K mg base CX (k+1) f (PySem.W.fnOf name qual params body scope dV kV doc pm an cdv ct) ps sp:=by
 refine⟨len,fun A outer s H args us vs Q E hr e0 hb r hsp=>?_⟩
 have hl:=len _ _ _ _ hsp
 have KX:K.In s.heap:=e0.mod.kin.keeps fun b o e=>(e0.bs b o e).1
 have lim:s.heap.NoLimit:=e0.mod.nolimit.keeps fun b o e=>(e0.bs b o e).1
 have hkind:∀y∈ps.zip us,scope.names.lookup y.1=some .local∨(scope.names.lookup y.1=some .cell∧((cellsFrom (s.heap.objs.size+1) scope.names []).lookup y.1).isSome=true):=fun⟨n,v⟩ hy=>by
  rcases S.par n (List.of_mem_zip hy).1 with q|q
  ·exact .inl q
  ·exact .inr ⟨q,PySem.W.cellsFrom_some _ _ _ (.inl q)⟩
 refine codeAny_call_function hr.depth (KX _ _ lk) rfl S.co S.gen rfl (PySem.W.codeRec_of KX hcd) (hb _ _ _ _ ?_)
 refine wpAny_newFunctionEnv_cells S.kind hkind fun env he s1 x=>?_
 subst he
 refine⟨lim.keeps x.toInCall.keep,codeAny_func ?_⟩
 obtain⟨t,ht,hq⟩:=hbody A outer s H vs Q E (hr.deeper _) hsp
 have I:Inv (ee CX P w K mg base N qual scope f cdv A outer s H E) [] (bB N vs) H s1:=kZ S hr.hd e0 hl r x
 refine wpAny_mono (ht [] s1 (bB N vs) H _ I hq) (fun fl s' hs=>?_) fun e s' hs=>hs
 have fin:∀{σ':St} {H':Hp} {v:V} {u:Value},Inv (ee CX P w K mg base N qual scope f cdv A outer s H E) [] σ' H' s'→RelV v u→Q v H'→CE outer P w H s Q u s':=
  fun{σ' H' v u} J rv q=>⟨v,H',J.os,J.bare,J.base,J.hok,rv,q⟩
 cases fl with
 |ret u=>
  obtain⟨v,σ',H',J,rv,q⟩:=hs
  exact fin J rv q
 |next=>
  obtain⟨σ',H',J,q⟩:=hs
  exact fin (v:=V.non) (u:=Value.none) J rfl q
 |brk=>
  obtain⟨_,_,_,q⟩:=hs
  exact False.elim q
 |cont=>
  obtain⟨_,_,_,q⟩:=hs
  exact False.elim q
end L2
namespace L2
open PySem PySem.Spec PyProof.Rows
section
variable {X:Cx} {x:Str} {p pos:Pos} {e:Expr} {es:List Expr} {t:TA} {id T:String} {r:List V→Hp→VK→Prop}
def sh (r:List V→Hp→VK→Prop)(t:TA):TE:=fun σ H Q=>t σ H fun vs H1=>r vs H1 Q
theorem mG (hc:CallR X (.builtin id) r)(hg:Gl X x)(hm:X.mg x=none)(hv:bootBuiltins x=some (.builtin id))(ha:PA X (e::es) t)(hn:x≠"__name__":=by decide)(hdb:(x==("__debug__":Str))=false:=by decide)
  (he:starEach (e::es) X.env=(false,eval e X.env)::starEach es X.env:=by rfl) (hpl:(backTo pos (starEach es X.env)).any (·.1)=false:=by rfl):PE X (.Call (.Name x p) (e::es) [] pos) (sh r t):=by
 intro pins s σ H Q I h
 refine wpAny_Call_Name_kw (bL I hg hm hv ?_ hn hdb)
 exact PyProof.Rows.callWith_builtin1 (G3 (ha pos pins s σ H _ I h) fun us s1 ⟨vs,H1,I1,r1,q1⟩=>hc pins s1 σ H1 vs us Q I1 r1 q1) he hpl
theorem kO (hc:CallR X (.type T) r)(hg:Gl X x)(hm:X.mg x=none)(hv:bootBuiltins x=some (.type T))(ha:PA X (e::es) t)(hn:x≠"__name__":=by decide)(hdb:(x==("__debug__":Str))=false:=by decide)
  (he:starEach (e::es) X.env=(false,eval e X.env)::starEach es X.env:=by rfl) (hpl:(backTo pos (starEach es X.env)).any (·.1)=false:=by rfl):PE X (.Call (.Name x p) (e::es) [] pos) (sh r t):=by
 intro pins s σ H Q I h
 refine wpAny_Call_Name_kw (bL I hg hm hv ?_ hn hdb)
 exact PyProof.Rows.callWith_type1 (G3 (ha pos pins s σ H _ I h) fun us s1 ⟨vs,H1,I1,r1,q1⟩=>hc pins s1 σ H1 vs us Q I1 r1 q1) he hpl
end
end L2
namespace HT
open PySem PyProof.Rows
section
open PySem.SeqAt
open PySem.AutoSeq1 (wpAny_loadPart')
open PySem.MeetsSeq PySem.MeetsSeq2 PySem.MeetsSeq3
end
section
variable {prog:Program} {w:World} {A:Around} {E:Value→Shared→Prop} {s:Shared}
theorem cat_tup {t b:Addr}{vs ws:List Value}{Q:Value→Shared→Prop}(ht:IsTup s.heap t vs.toArray)(hb:IsTup s.heap b ws.toArray)(hv:vs≠[])
  (h1:ws=[]→Q (.ref t) s) (h2:ws≠[]→Q (.ref s.heap.objs.size) {s with heap:=s.heap.push {cls:= .type "tuple",data:= .seq (vs++ws).toArray}})
  (hsz:vs.length+ws.length≤sizeLine):wpAny (model prog w) A (binaryOp .Add (.ref t) (.ref b)) Q E s:=by
 obtain⟨⟨cls,dd,data,sl⟩,ho,hc,n,hd⟩:=id ht
 obtain⟨⟨cls2,dd2,data2,sl2⟩,ho2,hc2,n2,hd2⟩:=id hb
 simp only at hc hd hc2 hd2
 subst hc hd hc2 hd2
 have e:vs.toArray++ws.toArray=(vs++ws).toArray:=by simp
 by_cases hw:ws=[]
 ·exact concat_meets ⟨_,ho,rfl⟩ ⟨_,ho2,rfl⟩ noFill_tuple_add seq_tuple_add PySem.F.slot_tuple_add PySem.F.entry_tuple_add (PySem.F.args_tuple_add_2 _ _)
   (tuple_addW1 t b vs.toArray ws.toArray n n2 dd dd2 sl sl2 (by simpa using hv) (by simp [hw])) ⟨ho,ho2,h1 hw⟩
 ·refine concat_meets ⟨_,ho,rfl⟩ ⟨_,ho2,rfl⟩ noFill_tuple_add seq_tuple_add PySem.F.slot_tuple_add PySem.F.entry_tuple_add (PySem.F.args_tuple_add_2 _ _)
   (tuple_addW2 t b vs.toArray ws.toArray n n2 dd dd2 sl sl2 (by simpa using hv) (by simpa using hw) (by rw[List.size_toArray,List.size_toArray];exact hsz)) ⟨ho,ho2,?_⟩
  rw[e]
  exact h2 hw
def sIx (n d:Nat):Option Int→Nat
 |none=>d
 |some v=>if v<0 then(v+(n:Int)).toNat else min v.toNat n
theorem sIx_none (n d:Nat):sIx n d none=d:=rfl
theorem sIx_nat (n d k:Nat):sIx n d (some (k:Int))=min k n:=by
 show(if(k:Int)<0 then((k:Int)+(n:Int)).toNat else min (k:Int).toNat n)=min k n
 rw[if_neg (by omega),Int.toNat_natCast]
theorem tW (n d:Nat)(hd:d≤n)(o:Option Int):sIx n d o≤n:=by
 cases o with
 |none=>exact hd
 |some v=>
  show(if v<0 then(v+(n:Int)).toNat else min v.toNat n)≤n
  by_cases hv:v<0
  ·rw[if_pos hv];omega
  ·rw[if_neg hv];exact Nat.min_le_right _ _
theorem jX (v:Int)(n d:Nat):(if v<0 then max (v+(n:Int)) 0 else min v (n:Int))=((sIx n d (some v):Nat):Int):=by
 show(if v<0 then max (v+(n:Int)) 0 else min v (n:Int))=(((if v<0 then(v+(n:Int)).toNat else min v.toNat n):Nat):Int)
 by_cases hv:v<0
 ·simp only[if_pos hv];omega
 ·simp only[if_neg hv];omega
theorem iD (lo hi:Option Int)(n:Nat):Builtin.Slice.sliceAdjust lo hi 1 (n:Int)=(((sIx n 0 lo:Nat):Int),((sIx n n hi:Nat):Int)):=by
 have h1:¬((1:Int)<0):=by omega
 unfold Builtin.Slice.sliceAdjust
 simp only[h1,if_false]
 refine Prod.ext ?_ ?_
 ·cases lo with
  |none=>rfl
  |some v=>exact jX v n 0
 ·cases hi with
  |none=>rfl
  |some v=>exact jX v n n
theorem iz (i j:Nat):Builtin.Slice.slicePlaces (i:Int) (j:Int) 1=j -i:=by
 unfold Builtin.Slice.slicePlaces
 have h1:(1:Int)>0:=by omega
 simp only[h1,if_true,Int.ediv_one]
 split<;>omega
theorem cQ {v:Value}{o:Option Int}{Q:Option Int→Shared→Prop}(p:IsPart v o)(h:Q o s):wpAny (model prog w) A (Builtin.Slice.slicePartIndex v) Q E s:=by
 cases p with
 |none=>exact slicePart_none h
 |int i t=>exact slicePart_int h
theorem bE {sl:Addr}{vl vu:Value}{lo hi:Option Int}{n:Nat}{Q:Int×Int×Nat→Shared→Prop}(hs:s.heap.IsSliceOf sl vl vu .none)(pl:IsPart vl lo)(pu:IsPart vu hi)
  (h:Q (((sIx n 0 lo:Nat):Int),1,sIx n n hi -sIx n 0 lo) s):wpAny (model prog w) A (Builtin.Slice.sliceApplied (.ref sl) (pure (n:Int))) Q E s:=by
 obtain⟨os,hos,hcs,hds⟩:=id hs
 unfold Builtin.Slice.sliceApplied Builtin.Slice.sliceFields
 refine wpAny_bind (wpAny_bind (wpAny_field hos hds (x:=vl) rfl (wpAny_bind (wpAny_field hos hds (x:=vu) rfl (wpAny_bind (wpAny_field hos hds (x:= .none) rfl (wpAny_pure ?_)))))))
 refine wpAny_bind (slicePart_none ?_)
 show wpAny _ _ (if((1:Int)==0)=true then _ else _) _ _ s
 rw[if_neg (by decide)]
 refine wpAny_bind (cQ pl (wpAny_bind (cQ pu (wpAny_bind (wpAny_pure ?_)))))
 show wpAny _ _ (match Builtin.Slice.sliceAdjust lo hi 1 (n:Int) with|(lo,hi)=>pure (lo,(1:Int),Builtin.Slice.slicePlaces lo hi 1)) _ _ s
 rw[iD lo hi n]
 show wpAny _ _ (pure (((sIx n 0 lo:Nat):Int),(1:Int),Builtin.Slice.slicePlaces ((sIx n 0 lo:Nat):Int) ((sIx n n hi:Nat):Int) 1)) _ _ s
 rw[iz]
 exact wpAny_pure h
theorem pz (xs:Array Value)(i k:Nat):((List.range k).filterMap fun(m:Nat)=>xs[((i:Int)+(m:Int)*1).toNat]?).toArray=((xs.toList.drop i).take k).toArray:=by
 have e:(fun(m:Nat)=>xs[((i:Int)+(m:Int)*1).toNat]?)=fun m=>xs[i+m]?:=by
  funext m
  have:((i:Int)+(m:Int)*1).toNat=i+m:=by omega
  rw[this]
 rw[e]
 have:=pick_run xs i k
 rw[List.filterMap_map] at this
 have e2:((fun x=>xs[x]?)∘fun x=>i+x)=fun m=>xs[i+m]?:=rfl
 rw[e2] at this
 rw[this]
theorem getItem_tuple_cut {t sl:Addr}{items:Array Value}{vl vu:Value}{lo hi:Option Int}{Q:Value→Shared→Prop}(ht:IsTup s.heap t items)(hs:s.heap.IsSliceOf sl vl vu .none)(pl:IsPart vl lo)(pu:IsPart vu hi)
  (hw:¬(sIx items.size 0 lo=0∧sIx items.size items.size hi=items.size))
  (h:Q (.ref s.heap.objs.size) {s with heap:=s.heap.push {cls:= .type "tuple",data:= .seq ((items.toList.drop (sIx items.size 0 lo)).take (sIx items.size items.size hi -sIx items.size 0 lo)).toArray}})
  (hsz:items.size≤sizeLine):wpAny (model prog w) A (getItem (.ref t) (.ref sl)) Q E s:=by
 have htake:sizeOk (.seq ((items.toList.drop (sIx items.size 0 lo)).take (sIx items.size items.size hi -sIx items.size 0 lo)).toArray):=by
  show((items.toList.drop (sIx items.size 0 lo)).take (sIx items.size items.size hi -sIx items.size 0 lo)).toArray.size≤sizeLine
  rw[List.size_toArray,List.length_take,List.length_drop,Array.length_toList]
  omega
 have hj:sIx items.size items.size hi≤items.size:=tW _ _ (Nat.le_refl _) hi
 obtain⟨os,hos,hcs,hds⟩:=id hs
 have hTs:s.TypeIs (.ref sl) "slice":=⟨os,hos,hcs⟩
 unfold getItem
 try with_reducible refine wpAny_holding ?_
 first|refine wpAny_bind (wpAny_pure ?_)|skip
 refine wpAny_bind (wpAny_sequenceKey ht.typeIs (by decide) ?_)
 refine wpAny_bind (wpAny_callSpecial?_slot (name:=Str.ofString "__getitem__") ht.typeIs PyProof.Rows.slot_tuple_getitem
  (wpAny_call_entry PyProof.Rows.slot_tuple_getitem ht.typeIs entry_tuple_getitem ?_ (args_tuple_getitem _ _)))
 show wpAny _ _ (Builtin.Tuple.tupleItemsOf (.ref t)>>=_) _ _ s
 refine wpAny_bind (tupleItemsOf_ ht ?_)
 refine wpAny_bind (wpAny_typeOf hTs ?_)
 rw[if_pos (by decide)]
 refine wpAny_bind (bE hs pl pu ?_)
 have hno:¬((((sIx items.size 0 lo:Nat):Int)==0&&(1:Int)==1&&(sIx items.size items.size hi -sIx items.size 0 lo)==items.size)=true):=by
  intro q
  rw[Bool.and_eq_true,Bool.and_eq_true] at q
  have q1:((sIx items.size 0 lo:Nat):Int)=0:=eq_of_beq q.1.1
  have q2:sIx items.size items.size hi -sIx items.size 0 lo=items.size:=eq_of_beq q.2
  exact hw ⟨by omega,by omega⟩
 show wpAny _ _ (if(((sIx items.size 0 lo:Nat):Int)==0&&(1:Int)==1&&(sIx items.size items.size hi -sIx items.size 0 lo)==items.size)=true then _ else _) _ _ s
 rw[if_neg hno,pz]
 first
  |exact wpAny_bind (m:=Builtin.Tuple.tupleExact _) (wpAny_newObj_type (wpAny_pure ⟨_,rfl,wpAny_pure h⟩) htake)
  |exact wpAny_bind (m:=Builtin.Tuple.tupleExact _) (wpAny_newObj_type (wpAny_bind (wpAny_pure (wpAny_pure ⟨_,rfl,wpAny_pure h⟩))) htake)
  |exact wpAny_bind (wpAny_bind (m:=Builtin.Tuple.tupleExact _) (wpAny_newObj_type (wpAny_pure (wpAny_pure ⟨_,rfl,wpAny_pure h⟩)) htake))
  |exact wpAny_bind (wpAny_bind (m:=Builtin.Tuple.tupleExact _) (wpAny_newObj_type (wpAny_pure ⟨_,rfl,wpAny_pure h⟩) htake))
end
end HT
namespace L2
open PySem PySem.Spec PyProof.Rows
abbrev TO:=St→Hp→(Option Int→Hp→Prop)→Prop
def PO (X:Cx)(e:Option Expr)(t:TO):Prop:=
 ∀(pins:List (Addr×Obj)) (s:Shared) (σ:St) (H:Hp) (Q:Option Int→Hp→Prop),Inv X pins σ H s→t σ H Q→
  wpAny (model X.prog X.w) X.A (evalPart e X.env) (fun u s'=>∃o H',Inv X pins σ H' s'∧IsPart u o∧Q o H') X.xe s
def fq:TO:=fun _ H Q=>Q none H
def oZ (t:TE):TO:=fun σ H Q=>t σ H fun x H1=>∃i,x= .int i∧Q (some i) H1
section
variable {X:Cx} {e:Expr} {te:TE} {lo hi:Option Expr} {tl th:TO} {pos p2:Pos}
theorem qZ:PO X none fq:=by
 intro pins s σ H Q I h
 rw[evalPart_none]
 exact wpAny_pure ⟨none,H,I,.none,h⟩
theorem qj (h:PE X e te):PO X (some e) (oZ te):=by
 intro pins s σ H Q I hw
 rw[evalPart_some]
 refine G3 (h pins s σ H _ I hw) fun u s1 ⟨x,H1,I1,r1,q1⟩=>?_
 obtain⟨i,rfl,q⟩:=q1
 obtain⟨t,rfl⟩:=r1
 exact⟨some i,H1,I1,.int i t,q⟩
def SlR (X:Cx)(r:V→Option Int→Option Int→Hp→VK→Prop):Prop:=
 ∀(pins:List (Addr×Obj)) (s:Shared) (σ:St) (H:Hp) (x:V) (v vl vu:Value) (lo hi:Option Int) (sl:Addr) (Q:VK),Inv X pins σ H s→RelV x v→s.heap.IsSliceOf sl vl vu .none→IsPart vl lo→IsPart vu hi→r x lo hi H Q→
  ∃T id,typeLookup (.type T) "__getitem__"=pure (some (.builtin id))∧s.TypeIs v T∧wpAny (model X.prog X.w) X.A (getItem v (.ref sl)) (EP X pins σ Q) X.xe s
theorem SlR.or {r r':V→Option Int→Option Int→Hp→VK→Prop}(h:SlR X r)(h':SlR X r'):SlR X (fun x lo hi H Q=>r x lo hi H Q∨r' x lo hi H Q):=by
 intro pins s σ H x v vl vu lo hi sl Q I rx hs pl pu q
 rcases q with q|q
 ·exact h pins s σ H x v vl vu lo hi sl Q I rx hs pl pu q
 ·exact h' pins s σ H x v vl vu lo hi sl Q I rx hs pl pu q
def yq (r:V→Option Int→Option Int→Hp→VK→Prop)(te:TE)(tl th:TO):TE:=fun σ H Q=>te σ H fun x H1=>tl σ H1 fun l H2=>th σ H2 fun u H3=>r x l u H3 Q
theorem oT {r:V→Option Int→Option Int→Hp→VK→Prop}(hr:SlR X r)(he:PE X e te)(hl:PO X lo tl)(hu:PO X hi th):PE X (.Subscript e (.Slice lo hi none p2) pos) (yq r te tl th):=by
 intro pins s σ H Q I h
 refine Subscript_ (G3 (he pins s σ H _ I h) fun v s1 ⟨x,H1,I1,r1,q1⟩=>?_)
 refine wpAny_Slice (G3 (hl pins s1 σ H1 _ I1 q1) fun vl s2 ⟨l,H2,I2,pl,q2⟩=>G3 (hu pins s2 σ H2 _ I2 q2) fun vu s3 ⟨u,H3,I3,pu,q3⟩=>?_)
 rw[evalPart_none]
 refine wpAny_pure ?_
 have I4:Inv X pins σ H3 {s3 with heap:=s3.heap.push {cls:= .type "slice",data:= .fields #[vl,vu,.none]}}:=I3.kept (t':=s3.toks) fun b ob q=>Heap.get?_push_of_some _ q
 obtain⟨T,id,hT,ht,hg⟩:=hr pins {s3 with heap:=s3.heap.push {cls:= .type "slice",data:= .fields #[vl,vu,.none]}} σ H3 x v vl vu l u s3.heap.objs.size Q I4 r1 (Heap.IsSliceOf.new ..) pl pu q3
 show wpAny (model X.prog X.w) X.A (subscriptTail e (.Slice lo hi none p2) v (.ref s3.heap.objs.size)) (EP X pins σ Q) X.xe {s3 with heap:=s3.heap.push {cls:= .type "slice",data:= .fields #[vl,vu,.none]}}
 exact tail_any (ops:=[.ref s3.heap.objs.size,v]) ht hT hg (by with_unfolding_all rfl)
def S9 (xs:List V)(lo hi:Option Int):List V:=(xs.drop (HT.sIx xs.length 0 lo)).take (HT.sIx xs.length xs.length hi -HT.sIx xs.length 0 lo)
theorem bX (xs:List V)(lo hi:Option Int):(S9 xs lo hi).length≤xs.length:=by
 unfold S9
 rw[List.length_take,List.length_drop]
 omega
def vS (K:PySem.W.Frag):V→Option Int→Option Int→Hp→VK→Prop:=fun x lo hi H Q=>∃a xs,x= .ref a∧SqT K H a xs∧
 ¬(HT.sIx xs.length 0 lo=0∧HT.sIx xs.length xs.length hi=xs.length)∧∀p,H p=none→Q (.ref p) (n0 H p (.tup (S9 xs lo hi)))
theorem sl_tup:SlR X (vS X.K):=by
 intro pins s σ H x v vl vu lo hi sl Q I rx hs pl pu h
 obtain⟨a,xs,rfl,hx,hw,q⟩:=h
 cases rx
 obtain⟨its,r,ht,hz⟩:=I.tuple hx
 have hlen:its.toArray.size=xs.length:=by rw[List.size_toArray];exact r.length.symm
 refine⟨"tuple",_,PyProof.Rows.slot_tuple_getitem.lookup,ht.typeIs,?_⟩
 refine HT.getItem_tuple_cut ht hs pl pu (by rw[hlen];exact hw) ?_ (by rw[hlen];exact hz)
 rw[hlen]
 refine⟨.ref s.heap.objs.size,_,I.laid (t':=s.toks) (o:= .tup (S9 xs lo hi)) (fun b ob q=>Heap.get?_push_of_some _ q) (Nat.le_refl _) ?_,rfl,q _ (I.hok.fresh (Nat.le_refl _))⟩
 exact⟨Nat.le_trans (bX xs lo hi) hz,_,(r.drop (HT.sIx xs.length 0 lo)).take (HT.sIx xs.length xs.length hi -HT.sIx xs.length 0 lo),IsTup.new _ _⟩
def rX (K:PySem.W.Frag):R2:=fun x y H Q=>∃a b xs ys,x= .ref a∧y= .ref b∧SqT K H a xs∧SqT K H b ys∧xs≠[]∧xs.length+ys.length≤sizeLine∧
 (ys=[]→Q (.ref a) H)∧(ys≠[]→∀p,H p=none→Q (.ref p) (n0 H p (.tup (xs++ys))))
theorem Vals.nil_iff {xs:List V}{us:List Value}(r:Vals xs us):us=[]↔xs=[]:=by
 cases r with
 |nil=>simp
 |cons _ _=>simp
theorem qg:OpR X (binaryOp .Add) (rX X.K):=by
 intro pins s σ H x y v u Q I rx ry h
 obtain⟨a,b,xs,ys,rfl,rfl,ha,hb,hx,hz,q1,q2⟩:=h
 cases rx
 cases ry
 obtain⟨its,r1,p1,_⟩:=I.tuple ha
 obtain⟨its2,r2,p2,_⟩:=I.tuple hb
 refine HT.cat_tup p1 p2 (fun z=>hx (r1.nil_iff.mp z)) (fun z=>⟨.ref a,H,I,rfl,q1 (r2.nil_iff.mp z)⟩) (fun z=>?_) (by rw[←r1.length,←r2.length];exact hz)
 refine⟨.ref s.heap.objs.size,_,I.laid (t':=s.toks) (o:= .tup (xs++ys)) (fun b ob q=>Heap.get?_push_of_some _ q) (Nat.le_refl _) ?_,rfl,q2 (fun w=>z (r2.nil_iff.mpr w)) _ (I.hok.fresh (Nat.le_refl _))⟩
 exact⟨by rw[List.length_append];exact hz,_,r1.append r2,IsTup.new _ _⟩
end
end L2
namespace L2
open PySem PySem.Spec PyProof.Rows
def pw (n:Nat)(i:Int):Option Nat:=if 0≤i then(if i<n then some i.toNat else none) else if -(n:Int)≤i then some (i+n).toNat else none
def fv {α:Type}(xs:List α)(i:Int):Option α:=(pw xs.length i).bind fun j=>xs[j]?
theorem jW {n:Nat}{i:Int}{j:Nat}(h:pw n i=some j):seqIndex? i n=some j∧j<n∧-(n:Int)≤i∧i<n:=by
 unfold pw at h
 by_cases h0:0≤i
 ·rw[if_pos h0] at h
  by_cases h1:i<n
  ·rw[if_pos h1] at h
   have e:i.toNat=j:=Option.some.inj h
   exact⟨by rw[seqIndex_of h0 h1,e],by omega,by omega,h1⟩
  ·rw[if_neg h1] at h;cases h
 ·rw[if_neg h0] at h
  by_cases h1: -(n:Int)≤i
  ·rw[if_pos h1] at h
   have e:(i+n).toNat=j:=Option.some.inj h
   exact⟨by rw[seqIndex_neg (by omega) h1,e],by omega,h1,by omega⟩
  ·rw[if_neg h1] at h;cases h
theorem fu {α:Type}{xs:List α}{i:Int}{v:α}(h:fv xs i=some v):∃j,seqIndex? i xs.length=some j∧xs[j]?=some v∧j<xs.length∧-(xs.length:Int)≤i∧i<xs.length:=by
 unfold fv at h
 cases e:pw xs.length i with
 |none=>rw[e] at h;cases h
 |some j=>
  rw[e] at h
  obtain⟨h1,h2,h3,h4⟩:=jW e
  exact⟨j,h1,h,h2,h3,h4⟩
theorem b6 {α:Type}{xs:List α}{j:Nat}{v:α}(h:xs[j]?=some v):fv xs (j:Int)=some v:=by
 have hj:j<xs.length:=(List.getElem?_eq_some_iff.mp h).1
 have e:pw xs.length (j:Int)=some j:=by
  unfold pw
  rw[if_pos (by omega),if_pos (by omega)];simp
 unfold fv;rw[e];exact h
theorem atI_last {α:Type}(xs:List α)(v:α):fv (xs++[v]) (-1)=some v:=by
 have hl:(xs++[v]).length=xs.length+1:=by simp
 have e:pw (xs++[v]).length (-1)=some xs.length:=by
  unfold pw
  rw[hl,if_neg (by decide),if_pos (by omega)]
  congr 1
  omega
 unfold fv
 rw[e]
 show(xs++[v])[xs.length]?=some v
 simp
def jP (b:Expr):Prop:=∀o i,subscripted b false o i=operate [o,i] (getItem o i)
def IxR (X:Cx)(r:R2):Prop:=
 ∀(value slice:Expr) (pins:List (Addr×Obj)) (s:Shared) (σ:St) (H:Hp) (x y:V) (v u:Value) (Q:VK),Inv X pins σ H s→RelV x v→RelV y u→r x y H Q→
  subscripted slice false v u=operate [v,u] (getItem v u)→wpAny (model X.prog X.w) X.A (subscriptTail value slice v u) (EP X pins σ Q) X.xe s
def MtR (X:Cx)(id:String)(r:V→List V→Hp→VK→Prop):Prop:=
 ∀(pins:List (Addr×Obj)) (s:Shared) (σ:St) (H:Hp) (x:V) (xs:List V) (v:Value) (us:List Value) (Q:VK),Inv X pins σ H s→RelV x v→Vals xs us→r x xs H Q→
  wpAny (model X.prog X.w) X.A (call (.builtin id) (v::us)) (EP X pins σ Q) X.xe s
section
variable {X:Cx} {a b:Expr} {ta tb:TE} {pos:Pos}
theorem IxR.or {r r':R2}(h:IxR X r)(h':IxR X r'):IxR X (fun x y H Q=>r x y H Q∨r' x y H Q):=by
 intro value slice pins s σ H x y v u Q I rx ry q hs
 rcases q with q|q
 ·exact h value slice pins s σ H x y v u Q I rx ry q hs
 ·exact h' value slice pins s σ H x y v u Q I rx ry q hs
theorem MtR.or {id:String}{r r':V→List V→Hp→VK→Prop}(h:MtR X id r)(h':MtR X id r'):MtR X id (fun x xs H Q=>r x xs H Q∨r' x xs H Q):=by
 intro pins s σ H x xs v us Q I rx rs q
 rcases q with q|q
 ·exact h pins s σ H x xs v us Q I rx rs q
 ·exact h' pins s σ H x xs v us Q I rx rs q
theorem vt {r:R2}(hr:IxR X r)(ha:PE X a ta)(hb:PE X b tb)(hs:jP b):PE X (.Subscript a b pos) (qU r ta tb):=by
 intro pins s σ H Q I h
 exact Subscript_ (sR ha hb I h fun v u s2 x y H2 I2 rx ry q=>hr a b pins s2 σ H2 x y v u Q I2 rx ry q (hs _ _))
def wY (K:PySem.W.Frag):R2:=fun x y H Q=>∃p xs i v,x= .ref p∧y= .int i∧SqL K H p xs∧fv xs i=some v∧Q v H
def wC (K:PySem.W.Frag):R2:=fun x y H Q=>∃p xs i v,x= .ref p∧y= .int i∧SqT K H p xs∧fv xs i=some v∧Q v H
def vM:R2:=fun x y H Q=>∃z i c,x= .str z∧y= .int i∧z.length≤sizeLine∧fv z.cps.toList i=some c∧Q (.str ⟨#[c]⟩) H
theorem ix_list:IxR X (wY X.K):=by
 intro value slice pins s σ H x y v u Q I rx ry h hs
 obtain⟨p,xs,i,z,rfl,rfl,hq,he,q⟩:=h
 cases rx
 obtain⟨t,rfl⟩:=ry
 obtain⟨its,r,pl,hz⟩:=I.list hq
 obtain⟨j,h1,h2,h3,h4,h5⟩:=fu he
 obtain⟨w,ew,rw'⟩:=r.get h2
 have hl:=r.length
 have hn:=bQ
 have fin:EP X pins σ Q w s:=⟨z,H,I,rw',q⟩
 by_cases h0:0≤i
 ·have hj:i.toNat=j:=by
   rw[seqIndex_of h0 h5] at h1
   exact Option.some.inj h1
  exact item_listR pl.isList h0 (by omega) (by rw[hj];simpa using ew) fin hs
 ·have hj:(i+(its.toArray.size:Int)).toNat=j:=by
   rw[seqIndex_neg (by omega) h4] at h1
   rw[List.size_toArray,←hl]
   exact Option.some.inj h1
  exact subscriptTail_builtinR (x:=w) pl.isList.typeIs slot_list_getitem.lookup
   (wpAny_getItem_list_neg (Q:=fun r s'=>r=w∧EP X pins σ Q r s') pl.isList (by omega) (by rw[List.size_toArray]<;>omega) (by omega) (by rw[hj];simpa using ew) ⟨rfl,fin⟩) hs
theorem ix_tup:IxR X (wC X.K):=by
 intro value slice pins s σ H x y v u Q I rx ry h hs
 obtain⟨p,xs,i,z,rfl,rfl,hq,he,q⟩:=h
 cases rx
 obtain⟨t,rfl⟩:=ry
 obtain⟨its,r,pl,hz⟩:=I.tuple hq
 obtain⟨j,h1,h2,h3,h4,h5⟩:=fu he
 obtain⟨w,ew,rw'⟩:=r.get h2
 have hl:=r.length
 have hn:=bQ
 have fin:EP X pins σ Q w s:=⟨z,H,I,rw',q⟩
 exact subscriptTail_builtinR (x:=w) pl.typeIs slot_tuple_getitem.lookup
  (getItem_tuple (j:=j) (Q:=fun r s'=>r=w∧EP X pins σ Q r s') pl (by omega) (by omega) (by rw[List.size_toArray,←hl];exact h1) (by simpa using ew) ⟨rfl,fin⟩) hs
theorem sy:IxR X vM:=by
 intro value slice pins s σ H x y v u Q I rx ry h hs
 obtain⟨z,i,c,rfl,rfl,hz,he,q⟩:=h
 obtain⟨t,rfl⟩:=rx
 obtain⟨t',rfl⟩:=ry
 obtain⟨j,h1,h2,h3,h4,h5⟩:=fu he
 have hl:z.cps.toList.length=z.length:=by simp [Str.length]
 rw[hl] at h1 h4 h5
 have hn:=bQ
 exact tail_any (typeIs_str s z t) slot_str_getitem.lookup (getItem_str (c:=c) (by
  have e1:decide (i< -(2 ^ 63:Int))=false:=decide_eq_false (by omega)
  have e2:decide (i≥2 ^ 63)=false:=decide_eq_false (by omega)
  rw[e1,e2,Bool.or_false]) (by rw[h1];simpa using h2) ⟨.str ⟨#[c]⟩,H,I.tok _,⟨_,rfl⟩,q⟩) hs
def yJ (K:PySem.W.Frag):R2:=fun x y H Q=>wY K x y H Q∨wC K x y H Q∨vM x y H Q
theorem ix_seq:IxR X (yJ X.K):=ix_list.or (ix_tup.or sy)
theorem jD (its:List Value)(n j:Nat)(u:Value):Obj.mapSeq (·.setIfInBounds j u) {cls:= .type "list",data:= .seq its.toArray n}={cls:= .type "list",data:= .seq (its.set j u).toArray n}:=by
 simp [Obj.mapSeq]
theorem Inv.lst {pins:List (Addr×Obj)}{σ:St}{H:Hp}{s:Shared}{p:Addr}{xs:List V}(I:Inv X pins σ H s)(h:H p=some (.lst xs)):
  ∃(its:List Value) (n:Nat),Vals xs its∧s.heap.get? p=some {cls:= .type "list",data:= .seq its.toArray n}∧xs.length≤sizeLine:=by
 obtain⟨z,its,n,r,e⟩:=I.hok p _ h
 exact⟨its,n,r,e,z⟩
theorem Inv.lstUpd {pins:List (Addr×Obj)}{σ:St}{H:Hp}{s:Shared}{p:Addr}{xs ys:List V}{its its':List Value}{n n':Nat}{f:Obj→Obj}(I:Inv X pins σ H s)(h:H p=some (.lst xs))
  (ho:s.heap.get? p=some {cls:= .type "list",data:= .seq its.toArray n}) (hf:f {cls:= .type "list",data:= .seq its.toArray n}={cls:= .type "list",data:= .seq its'.toArray n'}) (r:Vals ys its') (hz:ys.length≤sizeLine) (t:Nat):
  Inv X pins σ (n0 H p (.lst ys)) {s with heap:=s.heap.update p f,toks:=t}:=by
 have e:(s.heap.update p f).get? p=some {cls:= .type "list",data:= .seq its'.toArray n'}:=by
  rw[Heap.get?_update_self f ho (by rw[hf]<;>rfl),hf]
 refine I.write (x:=p) (e:=p) (by rw[h];trivial) (.inl rfl) (fun b u hb q=>(Heap.get?_update_other _ _ (Ne.symm hb)).trans q) ⟨_,e⟩ ?_
 exact⟨hz,its',n',r,e⟩
def rY:V→V→V→Hp→(Hp→Prop)→Prop:=fun o i v H Q=>∃p xs k j,o= .ref p∧i= .int k∧H p=some (.lst xs)∧pw xs.length k=some j∧Q (n0 H p (.lst (xs.set j v)))
theorem nT:lU X rY:=by
 intro pins s σ H o i v ov iv u Q I ro ri rv h
 obtain⟨p,xs,k,j,rfl,rfl,hp,hj,q⟩:=h
 cases ro
 obtain⟨t,rfl⟩:=ri
 obtain⟨its,n,r,ho,hz⟩:=I.lst hp
 obtain⟨h1,h2,h3,h4⟩:=jW hj
 have hl:=r.length
 have hn:=bQ
 have I':Inv X pins σ (n0 H p (.lst (xs.set j v))) {s with heap:=s.heap.update p (Obj.mapSeq (·.setIfInBounds j u))}:=
  I.lstUpd hp ho (jD its n j u) (r.set rv j) (by rw[List.length_set];exact hz) s.toks
 by_cases h0:0≤k
 ·have hk:k.toNat=j:=by
   rw[seqIndex_of h0 h4] at h1
   exact Option.some.inj h1
  exact PySem.W.ki_setAt ho h0 (by omega) (by rw[List.size_toArray,←hl];exact h4) (by rw[hk];exact⟨_,I',q⟩)
 ·have hk:(k+(its.toArray.size:Int)).toNat=j:=by
   rw[seqIndex_neg (by omega) h3] at h1
   rw[List.size_toArray,←hl]
   exact Option.some.inj h1
  exact PySem.W.ki_setBack ho (by omega) (by rw[List.size_toArray,←hl];exact h3) (by omega) (by rw[hk];exact⟨_,I',q⟩)
theorem fi (lo hi:Option Int)(n:Nat):(sliceBounds lo hi none n).1=((HT.sIx n 0 lo:Nat):Int)∧(sliceBounds lo hi none n).2.1=((HT.sIx n n hi:Nat):Int)∧(sliceBounds lo hi none n).2.2=1:=by
 refine⟨?_,?_,rfl⟩
 ·cases lo with
  |none=>simp [sliceBounds,HT.sIx]
  |some i=>
   simp only[sliceBounds,HT.sIx,Option.getD_none,show(1:Int)>0 by decide,if_true]
   by_cases h:i<0
   ·simp only[h,if_true]<;>omega
   ·simp only[h,if_false]<;>omega
 ·cases hi with
  |none=>simp [sliceBounds,HT.sIx]
  |some i=>
   simp only[sliceBounds,HT.sIx,Option.getD_none,show(1:Int)>0 by decide,if_true]
   by_cases h:i<0
   ·simp only[h,if_true]<;>omega
   ·simp only[h,if_false]<;>omega
theorem eg (its:List Value)(lo hi:Option Int):slicePick its.toArray lo hi none=((its.drop (HT.sIx its.length 0 lo)).take (HT.sIx its.length its.length hi -HT.sIx its.length 0 lo)).toArray:=by
 obtain⟨h1,h2,h3⟩:=fi lo hi its.toArray.size
 unfold slicePick
 rw[h1,h2,h3]
 simp only[sliceRange_one,pick_run,List.size_toArray]<;>rfl
def xp (K:PySem.W.Frag):V→Option Int→Option Int→Hp→VK→Prop:=fun x lo hi H Q=>∃a xs,x= .ref a∧SqL K H a xs∧∀p,H p=none→Q (.ref p) (n0 H p (.lst (S9 xs lo hi)))
theorem sl_list:SlR X (xp X.K):=by
 intro pins s σ H x v vl vu lo hi sl Q I rx hs pl pu h
 obtain⟨a,xs,rfl,hx,q⟩:=h
 cases rx
 obtain⟨its,r,ht,hz⟩:=I.list hx
 have hlen:=r.length
 refine⟨"list",_,slot_list_getitem.lookup,ht.isList.typeIs,?_⟩
 refine wpAny_getItem_list_slice ht.isList hs pl pu .none (by simp) ?_ (by rw[List.size_toArray]<;>omega)
 rw[eg,←hlen]
 refine⟨.ref s.heap.objs.size,_,I.laid (t':=s.toks) (o:= .lst (S9 xs lo hi)) (fun b ob q=>Heap.get?_push_of_some _ q) (Nat.le_refl _) ?_,rfl,q _ (I.hok.fresh (Nat.le_refl _))⟩
 exact⟨Nat.le_trans (bX xs lo hi) hz,_,0,(r.drop (HT.sIx xs.length 0 lo)).take (HT.sIx xs.length xs.length hi -HT.sIx xs.length 0 lo),Heap.get?_push_size _ rfl⟩
def z9:V→Bool
 | .non=>true
 | .bl _=>true
 | .int _=>true
 | .str _=>true
 |_=>false
def cE:V→V→Bool
 | .non,.non=>true
 | .bl a,.bl b=>a==b
 | .bl a,.int b=>(if a then 1 else 0)==b
 | .int a,.bl b=>a==(if b then 1 else 0)
 | .int a,.int b=>a==b
 | .str a,.str b=>a==b
 |_,_=>false
theorem aS {A:Around}{s:Shared}{y x:V}{u v:Value}(ry:RelV y u)(rx:RelV x v)(fy:z9 y=true)(fx:z9 x=true):SeqAt.EqAt A s u v (cE y x):=by
 cases y with
 |non=>
  cases ry
  cases x with
  |non=>cases rx;exact SeqAt.EqAt.same _
  |bl b=>cases rx;exact SeqAt.EqAt.none_bool b
  |int b=>obtain⟨t,rfl⟩:=rx;exact SeqAt.EqAt.none_int b t
  |str b=>obtain⟨t,rfl⟩:=rx;exact SeqAt.EqAt.none_str b t
  |_=>exact absurd (show false=true from fx) Bool.false_ne_true
 |bl a=>
  cases ry
  cases x with
  |non=>cases rx;exact SeqAt.EqAt.bool_none a
  |bl b=>cases rx;exact SeqAt.EqAt.bool_bool a b
  |int b=>obtain⟨t,rfl⟩:=rx;exact SeqAt.EqAt.bool_int a b t
  |str b=>obtain⟨t,rfl⟩:=rx;exact SeqAt.EqAt.bool_str a b t
  |_=>exact absurd (show false=true from fx) Bool.false_ne_true
 |int a=>
  obtain⟨t',rfl⟩:=ry
  cases x with
  |non=>cases rx;exact SeqAt.EqAt.int_none a t'
  |bl b=>cases rx;exact SeqAt.EqAt.int_bool a t' b
  |int b=>obtain⟨t,rfl⟩:=rx;exact SeqAt.EqAt.int_int a t' b t
  |str b=>obtain⟨t,rfl⟩:=rx;exact SeqAt.EqAt.int_str a t' b t
  |_=>exact absurd (show false=true from fx) Bool.false_ne_true
 |str a=>
  obtain⟨t',rfl⟩:=ry
  cases x with
  |non=>cases rx;exact SeqAt.EqAt.str_none a t'
  |bl b=>cases rx;exact SeqAt.EqAt.str_bool a t' b
  |int b=>obtain⟨t,rfl⟩:=rx;exact SeqAt.EqAt.str_int a t' b t
  |str b=>obtain⟨t,rfl⟩:=rx;exact SeqAt.EqAt.str_str a t' b t
  |_=>exact absurd (show false=true from fx) Bool.false_ne_true
 |_=>exact absurd (show false=true from fy) Bool.false_ne_true
def jF (x:V)(u:Value):Bool:=match u with
 | .none=>cE .non x
 | .bool b=>cE (.bl b) x
 | .int i _=>cE (.int i) x
 | .str z _=>cE (.str z) x
 |_=>false
theorem pF {x y:V}{u:Value}(r:RelV y u)(f:z9 y=true):jF x u=cE y x:=by
 cases y with
 |non=>cases r;rfl
 |bl b=>cases r;rfl
 |int i=>obtain⟨t,rfl⟩:=r;rfl
 |str z=>obtain⟨t,rfl⟩:=r;rfl
 |_=>exact absurd (show false=true from f) Bool.false_ne_true
theorem bu {x:V}:∀{xs:List V} {us:List Value},Vals xs us→xs.all z9=true→us.any (jF x)=xs.any fun y=>cE y x
 |_,_,.nil,_=>rfl
 |y::xs,u::us,.cons r t,f=>by
  rw[List.all_cons,Bool.and_eq_true] at f
  rw[List.any_cons,List.any_cons,pF r f.1,bu t f.2]
theorem ae {A:Around}{s:Shared}{x:V}{v:Value}(rx:RelV x v)(fx:z9 x=true):∀{xs:List V} {us:List Value},Vals xs us→xs.all z9=true→∀u∈us,SeqAt.EqAt A s u v (jF x u)
 |_,_,.nil,_=>fun u hu=>by cases hu
 |y::xs,u::us,.cons r t,f=>fun u' hu=>by
  rw[List.all_cons,Bool.and_eq_true] at f
  rcases List.mem_cons.mp hu with rfl|hu
  ·rw[pF r f.1];exact aS r rx f.1 fx
  ·exact ae rx fx t f.2 u' hu
def yK (x:V)(xs:List V):Bool:=xs.any fun y=>cE y x
def xI (K:PySem.W.Frag)(neg:Bool):R2:=fun x y H Q=>∃p xs,y= .ref p∧(SqL K H p xs∨SqT K H p xs)∧z9 x=true∧xs.all z9=true∧Q (.bl (if neg then !yK x xs else yK x xs)) H
theorem op_in_seq:OpR X (compareOp .In) (xI X.K false):=by
 intro pins s σ H x y v u Q I rx ry h
 obtain⟨p,xs,rfl,hq,fx,fs,q⟩:=h
 cases ry
 rcases hq with hq|hq
 ·obtain⟨its,r,pl,hz⟩:=I.list hq
  refine SeqAt.in_listAt (jF x) pl.isList (fun w hw=>ae rx fx r fs w (by simpa using hw)) ⟨.bl _,H,I,rfl,?_⟩
  rw[show its.toArray.any (jF x)=its.any (jF x) by simp,bu r fs]
  exact q
 ·obtain⟨its,r,pl,hz⟩:=I.tuple hq
  refine SeqAt.in_tupleAt (jF x) pl (fun w hw=>ae rx fx r fs w (by simpa using hw)) ⟨.bl _,H,I,rfl,?_⟩
  rw[show its.toArray.any (jF x)=its.any (jF x) by simp,bu r fs]
  exact q
theorem op_notIn_seq:OpR X (compareOp .NotIn) (xI X.K true):=by
 intro pins s σ H x y v u Q I rx ry h
 obtain⟨p,xs,rfl,hq,fx,fs,q⟩:=h
 cases ry
 rcases hq with hq|hq
 ·obtain⟨its,r,pl,hz⟩:=I.list hq
  refine SeqAt.notIn_listAt (jF x) pl.isList (fun w hw=>ae rx fx r fs w (by simpa using hw)) ⟨.bl _,H,I,rfl,?_⟩
  rw[show its.toArray.any (jF x)=its.any (jF x) by simp,bu r fs]
  exact q
 ·obtain⟨its,r,pl,hz⟩:=I.tuple hq
  refine SeqAt.notIn_tupleAt (jF x) pl (fun w hw=>ae rx fx r fs w (by simpa using hw)) ⟨.bl _,H,I,rfl,?_⟩
  rw[show its.toArray.any (jF x)=its.any (jF x) by simp,bu r fs]
  exact q
theorem fT:OpR X (compareOp .NotIn) (fun x y H Q=>∃i j,x= .str i∧y= .str j∧Q (.bl (!(!(Builtin.Str.occurrences j i 0 j.length 1).isEmpty))) H):=by
 intro pins s σ H x y v u Q I rx ry h
 obtain⟨i,j,rfl,rfl,q⟩:=h
 obtain⟨t,rfl⟩:=rx
 obtain⟨t',rfl⟩:=ry
 exact notIn_str ⟨.bl _,H,I,rfl,q⟩
theorem CallR.or {f:Value}{r r':List V→Hp→VK→Prop}(h:CallR X f r)(h':CallR X f r'):CallR X f (fun xs H Q=>r xs H Q∨r' xs H Q):=by
 intro pins s σ H xs us Q I rs q
 rcases q with q|q
 ·exact h pins s σ H xs us Q I rs q
 ·exact h' pins s σ H xs us Q I rs q
theorem call_list_of:CallR X (.type "list") (fun xs H Q=>∃p ys,xs=[.ref p]∧(SqL X.K H p ys∨SqT X.K H p ys)∧∀l,H l=none→Q (.ref l) (n0 H l (.lst ys))):=by
 intro pins s σ H xs us Q I r h
 obtain⟨p,ys,rfl,hq,q⟩:=h
 obtain⟨u,rfl,rx⟩:=M9 r
 cases rx
 have fin:∀(its:List Value),Vals ys its→ys.length≤sizeLine→∀(h':Heap) (c':Nat),(∀b o',s.heap.get? b=some o'→h'.get? b=some o')→
   h'.get? s.heap.objs.size=some {cls:= .type "list",dict:=none,data:= .seq its.toArray c',slots:= #[]}→EP X pins σ Q (.ref s.heap.objs.size) {s with heap:=h'}:=fun its r' hz h' c' kp e=>
  ⟨.ref s.heap.objs.size,_,I.laid (t':=s.toks) kp (Nat.le_refl _) (show ObjOk X.prog X.w _ h' _ (.lst ys) from⟨hz,its,c',r',e⟩),rfl,q _ (I.hok.fresh (Nat.le_refl _))⟩
 rcases hq with hq|hq
 ·obtain⟨its,r',pl,hz⟩:=I.list hq
  have hlen:=r'.length
  obtain⟨o,ho,hc,n,hd⟩:=pl.isList
  exact call_list_seq p (.inl rfl) ho hc hd (fun h' c' kp e=>fin its r' hz h' c' kp e) (by simp only[List.size_toArray]<;>omega)
 ·obtain⟨its,r',pl,hz⟩:=I.tuple hq
  have hlen:=r'.length
  obtain⟨o,ho,hc,n,hd⟩:=pl
  exact call_list_seq p (.inr rfl) ho hc hd (fun h' c' kp e=>fin its r' hz h' c' kp e) (by simp only[List.size_toArray]<;>omega)
def vI (K:PySem.W.Frag)(T:String)(x:V)(H:Hp):Prop:=match x with
 | .str _=>T="str"
 | .int _=>T="int"
 | .ref p=>(T="list"∧∃xs,SqL K H p xs)∨(T="tuple"∧∃o,K.lookup p=some o∧o.cls= .type "tuple"∧o.dict=none)∨
   (T="dict"∧((∃kvs,H p=some (.dK kvs))∨∃kvs,H p=some (.dT kvs)))∨(T="set"∧∃S n,H p=some (.set S n))
 |_=>False
theorem uI {pins:List (Addr×Obj)}{σ:St}{H:Hp}{s:Shared}{T:String}{x:V}{v:Value}(I:Inv X pins σ H s)(r:RelV x v)(ty:vI X.K T x H):
  s.TypeIs v T∧∀a,v= .ref a→∃ob,s.heap.get? a=some ob∧ob.dict=none:=by
 cases x with
 |str z=>
  obtain⟨t,rfl⟩:=r
  cases (show T="str" from ty)
  exact⟨typeIs_str s z t,fun _ e=>nomatch e⟩
 |int i=>
  obtain⟨t,rfl⟩:=r
  cases (show T="int" from ty)
  exact⟨typeIs_int s i t,fun _ e=>nomatch e⟩
 |ref p=>
  cases r
  rcases ty with⟨rfl,xs,hq⟩|⟨rfl,o,hk,hc,hd⟩|⟨rfl,hk⟩|⟨rfl,S,n,hk⟩
  ·obtain⟨its,_,pl,_⟩:=I.list hq
   refine⟨pl.isList.typeIs,fun a e=>?_⟩
   cases e
   obtain⟨o,n,e,c,hd,_⟩:=pl
   exact⟨o,e,hd⟩
  ·refine⟨⟨o,I.kIn p o hk,hc⟩,fun a e=>?_⟩
   cases e
   exact⟨o,I.kIn _ o hk,hd⟩
  ·have z:∃o,s.heap.get? p=some o∧o.ExactDict:=by
    rcases hk with⟨kvs,hk⟩|⟨kvs,hk⟩
    ·obtain⟨_,_,_,_,o,_,_,e,ex,_⟩:=I.hok p _ hk
     exact⟨o,e,ex⟩
    ·obtain⟨_,_,_,_,o,_,_,e,ex,_⟩:=I.hok p _ hk
     exact⟨o,e,ex⟩
   obtain⟨o,e,ex⟩:=z
   refine⟨⟨o,e,ex.1⟩,fun a e2=>?_⟩
   cases e2
   exact⟨o,e,ex.2.1⟩
  ·obtain⟨o,_,_,_,e,ex,_⟩:=I.hok p _ hk
   refine⟨⟨o,e,ex.1⟩,fun a e2=>?_⟩
   cases e2
   exact⟨o,e,ex.2.1⟩
 |_=>exact False.elim ty
def yi (K:PySem.W.Frag)(T:String)(r:V→List V→Hp→VK→Prop)(to:TE):TE:=fun σ H Q=>to σ H fun x H1=>vI K T x H1∧r x [] H1 Q
def yb (K:PySem.W.Frag)(T:String)(r:V→List V→Hp→VK→Prop)(to:TE)(t:TA):TE:=fun σ H Q=>to σ H fun x H1=>vI K T x H1∧t σ H1 fun xs H2=>r x xs H2 Q
variable {o e:Expr} {es:List Expr} {to:TE} {t:TA} {name:Str} {apos cpos:Pos} {T id:String} {r:V→List V→Hp→VK→Prop}
theorem xf (pa:PlainAttrs T)(slot:Slot T name id)(hty:typeOf (.builtin id)=pure (.type "method_descriptor"))(hm:MtR X id r)(ho:PE X o to)(ha:PA X (e::es) t)
  (hbase:attributeBase o name X.env (eval o X.env)=eval o X.env:=by rfl)
  (hfew:((backTo cpos (starEach (e::es) X.env)).all (fun x=>!x.1)&&(backToKw cpos (keywordEach [] X.env)).all (fun x=>x.1.isSome)
   &&decide ((e::es).length+([]:List Keyword).length+(if([]:List Keyword).isEmpty then 0 else 1)<30))=true:=by rfl)
  (hline:(apos.endLine==cpos.line)=true:=by rfl) (hs:starEach (e::es) X.env=(false,eval e X.env)::starEach es X.env:=by rfl) (hplain:(backTo cpos (starEach es X.env)).any (·.1)=false:=by rfl):
  PE X (.Call (.Attribute o name apos) (e::es) [] cpos) (yb X.K T r to t):=by
 intro pins s σ H Q I h
 refine wpAny_Call_method_late hbase hfew hline rfl (G3 (ho pins s σ H _ I h) fun v s1 ⟨x,H1,I1,r1,ty,q1⟩=>?_)
 obtain⟨h1,h2⟩:=uI I1 r1 ty
 refine⟨T,id,pa,slot,hty,h1,h2,?_⟩
 have hA:=ha cpos pins s1 σ H1 _ I1 q1
 rw[hs] at hA⊢
 refine Calls.callWith_builtin (by show(false||(backTo cpos (starEach es X.env)).any (·.1))=false;rw[hplain]<;>rfl) (Calls.evalArgs_plain ?_)
 exact G3 hA fun us s2 ⟨vs,H2,I2,r2,q2⟩=>hm pins s2 σ H2 x vs v us Q I2 r1 r2 q2
end
end L2
namespace L2
open PySem PySem.Spec PyProof.Rows
def zi (X:Cx)(id:String)(r:V→List V→Hp→VK→Prop):Prop:=
 ∀(pins:List (Addr×Obj)) (s:Shared) (σ:St) (H:Hp) (x:V) (xs:List V) (v:Value) (us:List Value) (Q:VK),Inv X pins σ H s→RelV x v→Vals xs us→r x xs H Q→
  wpAny (model X.prog X.w) X.A (call (.builtin id) (v::us)) (EP X pins σ Q) X.xe s
theorem Vals.one:∀{x:V} {us:List Value},Vals [x] us→∃u,us=[u]∧RelV x u
 |_,_,.cons r .nil=>⟨_,rfl,r⟩
theorem Vals.two:∀{x y:V} {us:List Value},Vals [x,y] us→∃u v,us=[u,v]∧RelV x u∧RelV y v
 |_,_,_,.cons r (.cons q .nil)=>⟨_,_,rfl,r,q⟩
theorem Vals.zero:∀{us:List Value},Vals [] us→us=[]
 |_,.nil=>rfl
theorem Vals.dropLast {xs:List V}{us:List Value}(h:Vals xs us):Vals xs.dropLast us.dropLast:=by
 induction h with
 |nil=>exact .nil
 |cons r t ih=>
  cases t with
  |nil=>exact .nil
  |cons q t'=>exact .cons r ih
theorem Vals.reverse {xs:List V}{us:List Value}(h:Vals xs us):Vals xs.reverse us.reverse:=by
 induction h with
 |nil=>exact .nil
 |cons r t ih=>rw[List.reverse_cons,List.reverse_cons];exact Vals.append ih (.cons r .nil)
section
variable {X:Cx} {pins:List (Addr×Obj)} {σ:St} {H:Hp} {s:Shared} {l b:Addr} {xs ys zs:List V}
theorem Inv.lset {its its':List Value}{n:Nat}{f:Array Value→Array Value}{t':Nat}(I:Inv X pins σ H s)(hH:H l=some (.lst xs))
  (e:s.heap.get? l=some {cls:= .type "list",data:= .seq its.toArray n}) (hf:f its.toArray=its'.toArray) (hv:Vals ys its') (hz:ys.length≤sizeLine):
  Inv X pins σ (n0 H l (.lst ys)) {s with heap:=s.heap.update l (Obj.mapSeq f),toks:=t'}:=by
 have q:=PySem.IsL.update e f
 rw[hf] at q
 refine I.write (x:=l) (e:=l) (by rw[hH];exact trivial) (.inl rfl) (fun b' u hb hu=>(Heap.get?_update_other s.heap (Obj.mapSeq f) (Ne.symm hb)).trans hu) ⟨_,q⟩ ?_
 exact⟨hz,its',_,hv,q⟩
theorem Inv.lnew {its:List Value}{t':Nat}(I:Inv X pins σ H s)(hv:Vals ys its)(hz:ys.length≤sizeLine):
  Inv X pins σ (n0 H s.heap.objs.size (.lst ys)) {s with heap:=s.heap.push {cls:= .type "list",data:= .seq its.toArray},toks:=t'}:=
 I.laid (fun _ _ q=>Heap.get?_push_of_some _ q) (Nat.le_refl _) ⟨hz,its,0,hv,Heap.get?_push_size _ rfl⟩
theorem Inv.fresh (I:Inv X pins σ H s):H s.heap.objs.size=none:=I.hok.fresh (Nat.le_refl _)
theorem Inv.lstM (I:Inv X pins σ H s)(hH:H l=some (.lst xs)):xs.length≤sizeLine∧∃(its:List Value) (n:Nat),Vals xs its∧xs.length=its.length∧s.heap.get? l=some {cls:= .type "list",data:= .seq its.toArray n}:=by
 obtain⟨z,its,n,r,e⟩:=I.hok l _ hH
 exact⟨z,its,n,r,r.length,e⟩
theorem gI {n:Nat}(h:n≤sizeLine):Builtin.List.listTooLong n=false:=by
 unfold Builtin.List.listTooLong
 exact decide_eq_false (by omega)
end
section
variable {X:Cx}
def kh:V→List V→Hp→VK→Prop:=fun x vs H Q=>∃l xs y,x= .ref l∧vs=[y]∧H l=some (.lst xs)∧xs.length<sizeLine∧Q .non (n0 H l (.lst (xs++[y])))
theorem kT:zi X "list.append" kh:=by
 intro pins s σ H x vs v us Q I rx rv h
 obtain⟨l,xs,y,rfl,rfl,hH,hz,q⟩:=h
 cases rx
 obtain⟨u,rfl,ru⟩:=rv.one
 obtain⟨z,its,n,r,hl,e⟩:=I.lstM hH
 refine call_meets F.slot_list_append ⟨_,e,rfl⟩ F.entry_list_append (F.args_list_append_2 _ _) (PySem.list_append l its.toArray n u (by rw[List.size_toArray];omega)) ⟨e,?_⟩
 refine⟨.non,_,I.lset (its':=its++[u]) hH e (by simp) (r.append (.cons ru .nil)) ?_,rfl,q⟩
 rw[List.length_append,List.length_singleton]
 omega
def wW:R2:=fun x y H Q=>∃l b xs zs,x= .ref l∧y= .ref b∧H l=some (.lst xs)∧H b=some (.lst zs)∧xs.length+zs.length≤sizeLine∧∀p,H p=none→Q (.ref p) (n0 H p (.lst (xs++zs)))
theorem op_cat:OpR X (binaryOp .Add) wW:=by
 intro pins s σ H x y v u Q I rx ry h
 obtain⟨l,b,xs,zs,rfl,rfl,hH,hB,hz,q⟩:=h
 cases rx
 cases ry
 obtain⟨z,its,n,r,hl,e⟩:=I.lstM hH
 obtain⟨z2,its2,n2,r2,hl2,e2⟩:=I.lstM hB
 refine PySem.P.add_list e e2 ?_ (by rw[List.size_toArray,List.size_toArray];omega)
 have ea:its.toArray++its2.toArray=(its++its2).toArray:=by simp
 rw[ea]
 exact⟨.ref _,_,I.lnew (t':=s.toks) (r.append r2) (by rw[List.length_append];omega),rfl,q _ I.fresh⟩
end
section
variable {prog:Program} {w:World} {A:Around} {E:Value→Shared→Prop} {s:Shared}
theorem iF {a c n:Nat}(hac:a≤c)(hc:c≤n):sliceBounds (some (a:Int)) (some (c:Int)) none n=((a:Int),(c:Int),1):=by
 simp only[sliceBounds,Option.getD_none]
 have h1:¬((a:Int)<0):=by omega
 have h2:¬((c:Int)<0):=by omega
 simp only[h1,h2,if_false,show(1:Int)>0 by decide,if_true]
 congr 1
 ·omega
 ·congr 1;omega
set_option maxRecDepth 100000 in
theorem pK {l b sl : Addr} {items new : Array Value} {n n2 : Nat} {vl vu : Value} {a c : Nat} {Q : Unit → Shared → Prop}
    (e : s.heap.get? l = some { cls := .type "list", data := .seq items n }) (e2 : s.heap.get? b = some { cls := .type "list", data := .seq new n2 }) (hne : l ≠ b)
    (hs : s.heap.IsSliceOf sl vl vu .none) (pl : IsPart vl (some (a : Int))) (pu : IsPart vu (some (c : Int))) (hac : a ≤ c) (hc : c ≤ items.size)
    (hsz : items.size + new.size ≤ sizeLine) (h : Q () { s with heap := s.heap.update l (Obj.mapSeq fun xs => xs.extract 0 a ++ new ++ xs.extract c xs.size) }) :
    wpAny (model prog w) A (setItem (.ref l) (.ref sl) (.ref b)) Q E s := by
  have hl : s.heap.IsList l items := PySem.IsL.isList e
  have hb : s.heap.IsList b new := PySem.IsL.isList e2
  obtain ⟨os, hos, hcs, hds⟩ := id hs
  have hTs : s.TypeIs (.ref sl) "slice" := ⟨os, hos, hcs⟩
  have hstep : ¬ ((rawPart none == rawInt 0) = true) := Bool.false_ne_true
  have hsame : Builtin.List.listSameRef (.ref l) (.ref b) = false := by
    unfold Builtin.List.listSameRef
    exact beq_eq_false_iff_ne.mpr hne
  have hmax : (max (a : Int) (c : Int)).toNat = c := by omega
  have hz' : ((fun xs : Array Value => xs.extract 0 a ++ new ++ xs.extract c xs.size) items).size ≤ sizeLine + 1 := by
    simp only [Array.size_append, Array.size_extract]
    omega
  unfold setItem
  try with_reducible refine wpAny_holding ?_
  first | refine wpAny_bind (wpAny_pure ?_) | skip
  refine wpAny_bind (wpAny_sequenceKey hl.typeIs (by decide) ?_)
  refine wpAny_bind (wpAny_callSpecial?_slot (name := Str.ofString "__setitem__") hl.typeIs slot_list_setitem
    (wpAny_call_entry slot_list_setitem hl.typeIs entry_list_setitem ?_ (args_list_setitem _ _ _)))
  show wpAny _ _ (Builtin.List.listSubscript? (.ref sl) >>= _) _ _ s
  refine wpAny_bind ?_
  unfold Builtin.List.listSubscript?
  refine wpAny_bind (wpAny_specialOf hTs slice_no_index ?_)
  simp only [Option.isNone_none, if_true]
  refine wpAny_pure ?_
  show wpAny _ _ (typeOf (.ref sl) >>= _) _ _ s
  refine wpAny_bind (wpAny_typeOf hTs ?_)
  first
    | rw [if_neg (by decide)]
    | refine PySem.W.KFB.if_not (by decide) ?_
  rw [listSliceParts_eq]
  refine wpAny_bind (wpAny_bind (wpAny_field hos hds (x := .none) rfl (wpAny_bind (wpAny_listPart .none ?_))))
  rw [if_neg hstep]
  refine wpAny_bind (wpAny_field hos hds (x := vl) rfl (wpAny_bind (wpAny_listPart pl ?_)))
  refine wpAny_bind (wpAny_field hos hds (x := vu) rfl (wpAny_bind (wpAny_listPart pu (wpAny_pure ?_))))
  first
    | simp only [hsame, Bool.false_eq_true, if_false]
    | refine PySem.W.KFB.if_not hsame ?_
    | (dsimp only
       rw [if_neg (by rw [hsame]; exact Bool.false_ne_true)])
  refine wpAny_bind (m := Builtin.List.listAllItems (.ref b) "must assign iterable to extended slice") ?_
  unfold Builtin.List.listAllItems
  refine wpAny_bind (wpAny_typeOf hb.typeIs ?_)
  first
    | refine PySem.W.KFB.if_so (by decide) ?_
    | rw [if_pos (by decide)]
    | simp only [beq_self_eq_true, Bool.true_or, if_true]
  unfold Builtin.List.listItems
  refine wpAny_bind (wpAny_seqItems e2 rfl (wpAny_pure ?_))
  refine wpAny_bind (wpAny_bind (wpAny_seqItems e rfl (wpAny_pure ?_)))
  refine wpAny_bind (wpAny_of_eq ((sliceIndices_raw (some (a : Int)) (some (c : Int)) none items.size (by simp)).trans (congrArg (pure : Int × Int × Int → Sem (Int × Int × Int)) (iF hac hc))) ?_)
  show wpAny _ _ (if ((1 : Int) == 1) = true then _ else _) _ _ s
  rw [if_pos (by decide)]
  refine wpAny_bind (wpAny_rule ?_)
  first
    | simp only [gI hsz, Bool.false_eq_true, if_false]
    | refine PySem.W.KFB.if_not (gI hsz) ?_
  first | refine wpAny_bind (wpAny_pure ?_) | skip
  show wpAny _ _ (updateSeq l (fun xs => xs.extract 0 ((a : Int)).toNat ++ new ++ xs.extract (max (a : Int) (c : Int)).toNat xs.size) >>= _) _ _ s
  rw [hmax, Int.toNat_natCast]
  refine wpAny_bind (wpAny_updateSeq (hz := Nat.le_trans (Nat.le_add_right _ _) hsz) (_hz' := hz') e rfl ?_)
  refine wpAny_bind (wpAny_letGo ?_)
  first
    | exact wpAny_bind (wpAny_pure (wpAny_pure ⟨.none, rfl, wpAny_pure h⟩))
    | exact wpAny_pure ⟨.none, rfl, wpAny_pure h⟩
end
section
variable {X:Cx}
end
end L2
namespace L2
open PySem PySem.Spec PyProof.Rows
section
variable {κ:Type} [DecidableEq κ]
def r6 (kvs:List (κ×V))(k:κ):Option V:=(kvs.find? fun kv=>decide (kv.1=k)).map (·.2)
def P8 (kvs:List (κ×V))(k:κ)(v:V):List (κ×V):=
 if(kvs.any fun kv=>decide (kv.1=k))=true then kvs.map (fun kv=>if kv.1=k then(kv.1,v) else kv) else kvs++[(k,v)]
def rM (kvs:List (κ×V))(k:κ):List (κ×V):=kvs.filter fun kv=>decide (kv.1≠k)
theorem T2 {p:κ×V}{r:List (κ×V)}{k:κ}(e:p.1=k):r6 (p::r) k=some p.2:=by simp [r6,List.find?_cons,e]
theorem U3 {p:κ×V}{r:List (κ×V)}{k:κ}(e:¬p.1=k):r6 (p::r) k=r6 r k:=by simp [r6,List.find?_cons,e]
theorem Z5 (k:κ):∀kvs:List (κ×V),(kvs.any fun kv=>decide (kv.1=k))=(r6 kvs k).isSome
 |[]=>rfl
 |p::r=>by
  rw[List.any_cons]
  by_cases e:p.1=k
  ·simp only[T2 e,decide_eq_true e,Bool.true_or,Option.isSome_some]
  ·rw[U3 e,decide_eq_false e,Bool.false_or];exact Z5 k r
theorem Z1 (kvs:List (κ×V))(k:κ)(v:V):(P8 kvs k v).length≤kvs.length+1:=by
 unfold P8
 split
 ·rw[List.length_map];omega
 ·rw[List.length_append,List.length_cons,List.length_nil];omega
theorem cP {kvs:List (κ×V)}{k:κ}(v:V)(h:r6 kvs k=none):P8 kvs k v=kvs++[(k,v)]:=by
 unfold P8
 rw[Z5,h]
 exact if_neg (by decide)
theorem RelO.isSome_eq {o:Option V}{u:Option Value}(r:RelO o u):o.isSome=u.isSome:=by
 cases o with
 |none=>cases u with
  |none=>rfl
  |some _=>exact(show False from r).elim
 |some _=>cases u with
  |none=>exact(show False from r).elim
  |some _=>rfl
theorem RelO.getD {o:Option V}{u:Option Value}{d:V}{d':Value}(r:RelO o u)(rd:RelV d d'):RelV (o.getD d) (u.getD d'):=by
 cases o with
 |none=>cases u with
  |none=>exact rd
  |some _=>exact(show False from r).elim
 |some _=>cases u with
  |none=>exact(show False from r).elim
  |some _=>exact r
theorem KV.val {kvs:List (κ×V)}{vs:List (κ×Value)}(r:KV kvs vs)(k:κ):RelO (r6 kvs k) (valueAt vs k):=by
 unfold KV at r
 induction r with
 |nil=>exact True.intro
 | @cons p q ps qs h t ih=>
  obtain⟨h1,h2⟩:=h
  by_cases e:p.1=k
  ·have e':q.1=k:=h1.symm.trans e
   have b:valueAt (q::qs) k=some q.2:=by simp [valueAt,List.find?_cons,e']
   rw[T2 e,b];exact h2
  ·have e':¬q.1=k:=fun z=>e (h1.trans z)
   have b:valueAt (q::qs) k=valueAt qs k:=by simp [valueAt,List.find?_cons,e']
   rw[U3 e,b];exact ih
theorem KV.any {kvs:List (κ×V)}{vs:List (κ×Value)}(r:KV kvs vs)(k:κ):(kvs.any fun kv=>decide (kv.1=k))=vs.any fun kv=>decide (kv.1=k):=by
 unfold KV at r
 induction r with
 |nil=>rfl
 |cons h t ih=>rw[List.any_cons,List.any_cons,ih,h.1]
theorem KV.repl {kvs:List (κ×V)}{vs:List (κ×Value)}(r:KV kvs vs)(k:κ){y:V}{u:Value}(ry:RelV y u):
  KV (kvs.map fun kv=>if kv.1=k then(kv.1,y) else kv) (vs.map fun kv=>if kv.1=k then(kv.1,u) else kv):=by
 unfold KV at r⊢
 induction r with
 |nil=>exact .nil
 | @cons p q ps qs h t ih=>
  rw[List.map_cons,List.map_cons]
  refine .cons ?_ ih
  obtain⟨h1,h2⟩:=h
  by_cases e:p.1=k
  ·rw[if_pos e,if_pos (h1.symm.trans e)];exact⟨h1,ry⟩
  ·rw[if_neg e,if_neg (fun z=>e (h1.trans z))];exact⟨h1,h2⟩
theorem KV.put {kvs:List (κ×V)}{vs:List (κ×Value)}(r:KV kvs vs)(k:κ){y:V}{u:Value}(ry:RelV y u):KV (P8 kvs k y) (stored vs k u):=by
 unfold P8 stored
 rw[r.any k]
 by_cases e:(vs.any fun kv=>decide (kv.1=k))=true
 ·rw[if_pos e,if_pos e];exact r.repl k ry
 ·rw[if_neg e,if_neg e];exact Paired.snoc r ⟨rfl,ry⟩
theorem KV.drop {kvs:List (κ×V)}{vs:List (κ×Value)}(r:KV kvs vs)(k:κ):KV (rM kvs k) (without vs k):=by
 unfold KV at r⊢
 unfold rM without
 induction r with
 |nil=>exact .nil
 | @cons p q ps qs h t ih=>
  obtain⟨h1,h2⟩:=h
  rw[List.filter_cons,List.filter_cons]
  by_cases e:p.1=k
  ·have a:¬decide (p.1≠k)=true:=by simp [e]
   have b:¬decide (q.1≠k)=true:=by simp [h1.symm.trans e]
   rw[if_neg a,if_neg b];exact ih
  ·have e':¬q.1=k:=fun z=>e (h1.trans z)
   have a:decide (p.1≠k)=true:=by simp [e]
   have b:decide (q.1≠k)=true:=by simp [e']
   rw[if_pos a,if_pos b];exact .cons ⟨h1,h2⟩ ih
theorem KV.keys {kvs:List (κ×V)}{vs:List (κ×Value)}(r:KV kvs vs):kvs.map (·.1)=vs.map (·.1):=by
 unfold KV at r
 induction r with
 |nil=>rfl
 |cons h t ih=>rw[List.map_cons,List.map_cons,ih,h.1]
theorem KV.length {kvs:List (κ×V)}{vs:List (κ×Value)}(r:KV kvs vs):kvs.length=vs.length:=Paired.length r
end
theorem cM {P:Program}{w:World}{k:g7}{u:Value}(r:RelV (kV k) u):(j2 P w).is k u=true:=by
 cases k with
 |inl i=>obtain⟨t,e⟩:=(show ∃t,u=Value.int i t from r);subst e;exact gM P w i t
 |inr x=>obtain⟨t,e⟩:=(show ∃t,u=Value.str x t from r);subst e;exact gN P w x t
theorem eI {P:Program}{w:World}:∀{ks:List g7} {us:List Value},Vals (ks.map kV) us→ItemsAre (j2 P w) ks us
 |[],_,r=>by rw[List.map_nil] at r;cases r;exact .nil
 |k::ks,_,r=>by
  rw[List.map_cons] at r
  cases r with
  |cons h t=>exact .cons (cM h) (eI t)
abbrev KT (H:Hp):List (List g7×V)→List (List g7×Addr×Value)→Prop:=Paired fun p q=>p.1=q.1∧H q.2.1=some (.tup (p.1.map kV))∧RelV p.2 q.2.2
theorem KT.val {H:Hp}{kvs:List (List g7×V)}{xs:List (List g7×Addr×Value)}(r:KT H kvs xs)(k:List g7):RelO (r6 kvs k) ((atKey xs k).map (·.2)):=by
 induction r with
 |nil=>exact True.intro
 | @cons p q ps qs h t ih=>
  obtain⟨h1,_,h2⟩:=h
  by_cases e:p.1=k
  ·have e':q.1=k:=h1.symm.trans e
   have b:atKey (q::qs) k=some q.2:=by simp [atKey,List.find?_cons,e']
   rw[T2 e,b];exact h2
  ·have e':¬q.1=k:=fun z=>e (h1.trans z)
   have b:atKey (q::qs) k=atKey qs k:=by simp [atKey,List.find?_cons,e']
   rw[U3 e,b];exact ih
theorem KT.repl {H:Hp}{kvs:List (List g7×V)}{xs:List (List g7×Addr×Value)}(r:KT H kvs xs)(k:List g7){y:V}{u:Value}(ry:RelV y u):
  KT H (kvs.map fun kv=>if kv.1=k then(kv.1,y) else kv) (xs.map (putAt k u)):=by
 induction r with
 |nil=>exact .nil
 | @cons p q ps qs h t ih=>
  rw[List.map_cons,List.map_cons]
  refine .cons ?_ ih
  obtain⟨h1,h2,h3⟩:=h
  unfold putAt
  by_cases e:p.1=k
  ·rw[if_pos e,if_pos (h1.symm.trans e)];exact⟨h1,h2,ry⟩
  ·rw[if_neg e,if_neg (fun z=>e (h1.trans z))];exact⟨h1,h2,h3⟩
theorem KT.put {H:Hp}{kvs:List (List g7×V)}{xs:List (List g7×Addr×Value)}(r:KT H kvs xs)(k:List g7){b:Addr}{y:V}{u:Value}(hb:H b=some (.tup (k.map kV)))(ry:RelV y u):
  KT H (P8 kvs k y) (storedH xs k b u):=by
 have e:(kvs.any fun kv=>decide (kv.1=k))=(atKey xs k).isSome:=by
  rw[Z5,(r.val k).isSome_eq,Option.isSome_map]
 unfold P8 storedH
 rw[e]
 by_cases q:(atKey xs k).isSome=true
 ·rw[if_pos q,if_pos q];exact r.repl k ry
 ·rw[if_neg q,if_neg q];exact Paired.snoc r ⟨rfl,hb,ry⟩
theorem KT.keeps {H H':Hp}{kvs:List (List g7×V)}{xs:List (List g7×Addr×Value)}(r:KT H kvs xs)(ht:∀b ys,H b=some (.tup ys)→H' b=some (.tup ys)):KT H' kvs xs:=
 Paired.mapP r fun _ _ z=>⟨z.1,ht _ _ z.2.1,z.2.2⟩
section
variable {P:Program} {w:World} {H:Hp} {h:Heap} {a:Addr}
theorem sd {u:HO}(ok:HOk P w H h)(e:Rd H a u):ObjOk P w H h a u:=e.ok ok
theorem J5 {kvs:List (g7×V)}(ok:HOk P w H h)(e:Rd H a (.dK kvs)):kvs.length≤sizeLine∧(a==sysModules)=false∧∃vs,KV kvs vs∧h.DictOf (j2 P w) a vs:=
 show ObjOk P w H h a (.dK kvs) from sd ok e
theorem rV {kvs:List (g7×V)}(ok:HOk P w H h)(e:H a=some (.dK kvs)):kvs.length≤sizeLine∧(a==sysModules)=false∧∃vs,KV kvs vs∧h.DictOf (j2 P w) a vs:=J5 ok (.inl e)
theorem bI {ks:List g7}(ok:HOk P w H h)(e:H a=some (.tup (ks.map kV))):(tupleKind (j2 P w)).is h ks a:=by
 obtain⟨_,its,r,o,h1,h2,n,h3⟩:=(show ObjOk P w H h a (.tup (ks.map kV)) from ok a _ e)
 exact⟨o,its.toArray,n,h1,h2,h3,by simpa using eI r⟩
theorem cJ {kvs:List (List g7×V)}(ok:HOk P w H h)(e:Rd H a (.dT kvs)):kvs.length≤sizeLine∧(a==sysModules)=false∧
  ∃xs,KT H kvs xs∧h.DictOfH (tupleKind (j2 P w)) a xs:=by
 obtain⟨z,y,xs,r,o,es,ep,h1,h2,h3,h4,h5⟩:=(show ObjOk P w H h a (.dT kvs) from sd ok e)
 refine⟨z,y,xs,r,o,es,ep,h1,h2,h3,h4,fun x hx=>?_,h5⟩
 have all:∀{l:List (List g7×V)} {m:List (List g7×Addr×Value)},KT H l m→∀x∈m,(tupleKind (j2 P w)).is h x.1 x.2.1:=by
  intro l m q
  induction q with
  |nil=>intro x hx;exact nomatch hx
  | @cons p q ps qs hq t ih=>
   intro x hx
   rcases List.mem_cons.mp hx with e|hx
   ·subst e
    exact bI ok (by rw[←hq.1];exact hq.2.1)
   ·exact ih x hx
 exact all r x hx
theorem wI {kvs:List (List g7×V)}(ok:HOk P w H h)(e:H a=some (.dT kvs)):kvs.length≤sizeLine∧(a==sysModules)=false∧
  ∃xs,KT H kvs xs∧h.DictOfH (tupleKind (j2 P w)) a xs:=cJ ok (.inl e)
end
def DGet (H:Hp)(a:Addr)(y:V)(r:Option V):Prop:=
 (∃kvs k,Rd H a (.dK kvs)∧y=kV k∧r=r6 kvs k)∨∃kvs k b,Rd H a (.dT kvs)∧y= .ref b∧H b=some (.tup (k.map kV))∧r=r6 kvs k
def DPut (H:Hp)(a:Addr)(y v:V)(H':Hp):Prop:=
 (∃kvs k,H a=some (.dK kvs)∧y=kV k∧kvs.length<sizeLine∧H'=n0 H a (.dK (P8 kvs k v)))∨
 ∃kvs k b,H a=some (.dT kvs)∧y= .ref b∧H b=some (.tup (k.map kV))∧kvs.length<sizeLine∧H'=n0 H a (.dT (P8 kvs k v))
theorem DGet.k {H:Hp}{a:Addr}{kvs:List (g7×V)}{k:g7}(e:H a=some (.dK kvs)):DGet H a (kV k) (r6 kvs k):= .inl ⟨kvs,k,.inl e,rfl,rfl⟩
theorem DGet.t {H:Hp}{a b:Addr}{kvs:List (List g7×V)}{k:List g7}(e:H a=some (.dT kvs))(eb:H b=some (.tup (k.map kV))):DGet H a (.ref b) (r6 kvs k):= .inr ⟨kvs,k,b,.inl e,rfl,eb,rfl⟩
theorem DPut.k {H:Hp}{a:Addr}{kvs:List (g7×V)}{k:g7}{v:V}(e:H a=some (.dK kvs))(hl:kvs.length<sizeLine):DPut H a (kV k) v (n0 H a (.dK (P8 kvs k v))):= .inl ⟨kvs,k,e,rfl,hl,rfl⟩
theorem DPut.t {H:Hp}{a b:Addr}{kvs:List (List g7×V)}{k:List g7}{v:V}(e:H a=some (.dT kvs))(eb:H b=some (.tup (k.map kV)))(hl:kvs.length<sizeLine):
  DPut H a (.ref b) v (n0 H a (.dT (P8 kvs k v))):= .inr ⟨kvs,k,b,e,rfl,eb,hl,rfl⟩
section
variable {X:Cx} {pins:List (Addr×Obj)} {σ:St} {H:Hp} {s:Shared} {a:Addr} {y v:V} {u r:Value} {o:Option V} {A:Around} {E:Value→Shared→Prop}
theorem Inv.big (I:Inv X pins σ H s):sysModules<s.heap.objs.size:=by
 have h:mainGlobals<s.heap.objs.size:=(I.mod.glob.keeps I.bk).lt
 exact Nat.lt_trans (by decide) h
theorem lu {Q:Value→Shared→Prop}(hu:A.units+1<cLine)(I:Inv X pins σ H s)(g:DGet H a y (some v))(ry:RelV y u)(h:∀w' s',Inv X pins σ H s'→RelV v w'→Q w' s'):
  wpAny (model X.prog X.w) A (getItem (.ref a) u) Q E s:=by
 rcases g with⟨kvs,k,e,ey,l⟩|⟨kvs,k,b,e,ey,eb,l⟩
 ·subst ey
  obtain⟨z,hd,vs,rel,dd⟩:=J5 I.hok e
  obtain⟨w',hw,rw'⟩:=RelO.some_of (v:=v) (o:=valueAt vs k) (by rw[l];exact rel.val k)
  exact wpAny_getItem_of (cM ry) dd.mapOf hw (h w' _ (I.tok _) rw')
 ·subst ey
  cases (show u=Value.ref b from ry)
  obtain⟨z,hd,xs,rel,dd⟩:=cJ I.hok e
  obtain⟨w',hw,rw'⟩:=RelO.some_of (v:=v) (o:=(atKey xs k).map (·.2)) (by rw[l];exact rel.val k)
  obtain⟨p,hp,hp2⟩:=Option.map_eq_some_iff.mp hw
  refine wpAny_getItem_heap (tupleKind_room_in1 hu) (bI I.hok eb) dd hp ?_
  rw[hp2]
  exact h w' _ (I.tok _) rw'
theorem xU {Q:Value→Shared→Prop}(hu:A.units+1<cLine)(I:Inv X pins σ H s)(g:DGet H a y o)(ry:RelV y u)(h:∀s',Inv X pins σ H s'→Q (.bool o.isSome) s'):
  wpAny (model X.prog X.w) A (compareOp .In u (.ref a)) Q E s:=by
 rcases g with⟨kvs,k,e,ey,l⟩|⟨kvs,k,b,e,ey,eb,l⟩
 ·subst ey
  obtain⟨z,hd,vs,rel,dd⟩:=J5 I.hok e
  refine wpAny_in_of (cM ry) hd dd.mapOf ?_
  rw[←(rel.val k).isSome_eq,←l]
  exact h _ (I.tok _)
 ·subst ey
  cases (show u=Value.ref b from ry)
  obtain⟨z,hd,xs,rel,dd⟩:=cJ I.hok e
  refine wpAny_in_heap (tupleKind_room_in1 hu) (bI I.hok eb) hd dd ?_
  have q:=(rel.val k).isSome_eq
  rw[Option.isSome_map] at q
  rw[←q,←l]
  exact h _ (I.tok _)
theorem rB {Q:Value→Shared→Prop}(hu:A.units+1<cLine)(I:Inv X pins σ H s)(g:DGet H a y o)(ry:RelV y u)(h:∀s',Inv X pins σ H s'→Q (.bool (!o.isSome)) s'):
  wpAny (model X.prog X.w) A (compareOp .NotIn u (.ref a)) Q E s:=by
 rcases g with⟨kvs,k,e,ey,l⟩|⟨kvs,k,b,e,ey,eb,l⟩
 ·subst ey
  obtain⟨z,hd,vs,rel,dd⟩:=J5 I.hok e
  refine wpAny_notIn_of (cM ry) hd dd.mapOf ?_
  rw[←(rel.val k).isSome_eq,←l]
  exact h _ (I.tok _)
 ·subst ey
  cases (show u=Value.ref b from ry)
  obtain⟨z,hd,xs,rel,dd⟩:=cJ I.hok e
  refine wpAny_notIn_heap (tupleKind_room_in1 hu) (bI I.hok eb) hd dd ?_
  have q:=(rel.val k).isSome_eq
  rw[Option.isSome_map] at q
  rw[←q,←l]
  exact h _ (I.tok _)
theorem ff {h':Heap}{t':Nat}{ob:HO}(I:Inv X pins σ H s)(mu:vR (H a))(hs:Heap.SameBut a s.heap h')(he:∃q,h'.get? a=some q)(new:ObjOk X.prog X.w (n0 H a ob) h' a ob):
  Inv X pins σ (n0 H a ob) {s with heap:=h',toks:=t'}:=
 I.write (x:=a) (e:=a) mu (.inl rfl) (fun b q hb z=>(hs.2 b hb).trans z) he new
theorem jE {P:Program}{w:World}{H':Hp}{h':Heap}{kvs:List (g7×V)}{vs:List (g7×Value)}(z:kvs.length≤sizeLine)(hd:(a==sysModules)=false)(rel:KV kvs vs)(dd:h'.DictOf (j2 P w) a vs):
  ObjOk P w H' h' a (.dK kvs):=⟨z,hd,vs,rel,dd⟩
theorem kU {H':Hp}{Q:Unit→Shared→Prop}(hu:A.units+1<cLine)(I:Inv X pins σ H s)(g:DPut H a y v H')(ry:RelV y u)(rv:RelV v r)(h:∀s',Inv X pins σ H' s'→Q () s'):
  wpAny (model X.prog X.w) A (setItem (.ref a) u r) Q E s:=by
 rcases g with⟨kvs,k,e,ey,l,eH⟩|⟨kvs,k,b,e,ey,eb,l,eH⟩
 ·subst ey eH
  obtain⟨z,hd,vs,rel,dd⟩:=rV I.hok e
  have hz:vs.length≤sizeLine:=by rw[←rel.length];exact z
  have hl:(P8 kvs k v).length≤sizeLine:=by have:=Z1 kvs k v;omega
  refine wpAny_setItem_pairs (hsz:=hz) (cM ry) dd fun h' dd' hs=>h _ ?_
  have he:∃q,h'.get? a=some q:=let ⟨q,_,_,hq,_⟩:=dd';⟨q,hq⟩
  exact ff I (by rw[e];exact True.intro) hs he (jE hl hd (rel.put k rv) dd')
 ·subst ey eH
  cases (show u=Value.ref b from ry)
  obtain⟨z,hd,xs,rel,dd⟩:=wI I.hok e
  have hz:xs.length≤sizeLine:=by rw[←Paired.length rel];exact z
  have hl:(P8 kvs k v).length≤sizeLine:=by have:=Z1 kvs k v;omega
  refine wpAny_setItem_heap (hsz:=hz) (tupleKind_room_in1 hu) (bI I.hok eb) dd fun h' dd' hs=>h _ ?_
  obtain⟨q,es,ep,hq,h2,h3,h4,_,h5⟩:=dd'
  refine ff I (by rw[e];exact True.intro) hs ⟨q,hq⟩ ⟨hl,hd,_,(rel.put k eb rv).keeps fun c ys ec=>?_,q,es,ep,hq,h2,h3,h4,h5⟩
  rw[b9 (xt ec e (fun z=>nomatch z))]
  exact ec
end
section
variable {X:Cx} {pins:List (Addr×Obj)} {σ:St} {H:Hp} {s:Shared} {a:Addr} {kvs:List (g7×V)} {k:g7} {u:Value} {A:Around} {E:Value→Shared→Prop}
theorem vv {Q:Value→Shared→Prop}(I:Inv X pins σ H s)(e:Rd H a (.dK kvs))(h:∀t s',Inv X pins σ H s'→Q (.int kvs.length t) s'):wpAny (model X.prog X.w) A (call (.builtin "len") [.ref a]) Q E s:=by
 obtain⟨z,hd,vs,rel,dd⟩:=J5 I.hok e
 refine call_len_dict hd dd (by rw[←rel.length];rw[sizeLine_eq] at z;omega) ?_
 rw[←rel.length]
 exact h _ _ (I.tok _)
end
theorem gO {X:Cx}{pins:List (Addr×Obj)}{σ:St}{H:Hp}{s:Shared}{a:Addr}{y:V}{o:Option V}(I:Inv X pins σ H s)(g:DGet H a y o):s.TypeIs (.ref a) "dict":=by
 rcases g with⟨kvs,k,e,_,_⟩|⟨kvs,k,b,e,_,_,_⟩
 ·obtain⟨_,_,vs,_,dd⟩:=J5 I.hok e
  exact dd.typeIs
 ·obtain⟨_,_,xs,_,dd⟩:=cJ I.hok e
  exact dd.typeIs
section
variable {X:Cx} {o i e value:Expr} {pos pos' tpos:Pos} {td ty tv:TE}
end
theorem mZ {P:Program}{w:World}{H:Hp}(h:Heap)(hb:sysModules<h.objs.size):ObjOk P w H (h.push {cls:= .type "dict",data:= .dict #[]}) h.objs.size (.dK []):=
 ⟨Nat.zero_le _,beq_eq_false_iff_ne.mpr (Ne.symm (Nat.ne_of_lt hb)),[],.nil,Heap.DictOf.new h⟩
def mV:TE:=fun _ H Q=>∀p,H p=none→Q (.ref p) (n0 H p (.dK []))
section
variable {X:Cx} {pos:Pos}
theorem mJ:PE X (.Dict [] [] pos) mV:=fun pins s σ H Q I h=>
 wpAny_Dict_empty ⟨.ref s.heap.objs.size,_,I.laid (a:=s.heap.objs.size) (o:= .dK []) (t':=s.toks) (fun _ _ q=>Heap.get?_push_of_some _ q) (Nat.le_refl _) (mZ s.heap I.big),rfl,h _ (I.hok.fresh (Nat.le_refl _))⟩
end
def pk:List (TE×TE)→St→Hp→(List (V×V)→Hp→Prop)→Prop
 |[],_,H,Q=>Q [] H
 |(tk,tv)::r,σ,H,Q=>tk σ H fun x H1=>tv σ H1 fun y H2=>pk r σ H2 fun ps H3=>Q ((x,y)::ps) H3
abbrev VV:List (V×V)→List (Value×Value)→Prop:=Paired fun p q=>RelV p.1 q.1∧RelV p.2 q.2
def zh (X:Cx)(pos:Pos)(keys:List (Option Expr))(values:List Expr)(trs:List (TE×TE)):Prop:=
 ∀(pins:List (Addr×Obj)) (s:Shared) (σ:St) (H:Hp) (Q:List (V×V)→Hp→Prop),Inv X pins σ H s→pk trs σ H Q→
  wpAny (model X.prog X.w) X.A (evalPairs (pairTrees keys values X.env pos)) (fun vs s'=>∃ps H',Inv X pins σ H' s'∧VV ps vs∧Q ps H') X.xe s
structure M1 (X:Cx) (o:Expr) (m:Str) (apos:Pos) (e:Expr) (cpos:Pos):Prop where
 base:attributeBase o m X.env (eval o X.env)=eval o X.env
 few:((backTo cpos (starEach [e] X.env)).all (fun x=>!x.1)&&(backToKw cpos (keywordEach [] X.env)).all (fun x=>x.1.isSome)
  &&decide (([e]:List Expr).length+([]:List Keyword).length+(if([]:List Keyword).isEmpty then 0 else 1)<30))=true
 line:(apos.endLine==cpos.line)=true
 trees:backTo cpos (starEach [e] X.env)=[(false,eval e X.env)]
structure M2 (X:Cx) (o:Expr) (m:Str) (apos:Pos) (e f:Expr) (cpos:Pos):Prop where
 base:attributeBase o m X.env (eval o X.env)=eval o X.env
 few:((backTo cpos (starEach [e,f] X.env)).all (fun x=>!x.1)&&(backToKw cpos (keywordEach [] X.env)).all (fun x=>x.1.isSome)
  &&decide (([e,f]:List Expr).length+([]:List Keyword).length+(if([]:List Keyword).isEmpty then 0 else 1)<30))=true
 line:(apos.endLine==cpos.line)=true
 trees:backTo cpos (starEach [e,f] X.env)=[(false,eval e X.env),(false,eval f X.env)]
def xS (H:Hp)(a:Addr):Prop:=(∃kvs,Rd H a (.dK kvs))∨∃kvs,Rd H a (.dT kvs)
theorem uM {X:Cx}{pins:List (Addr×Obj)}{σ:St}{H:Hp}{s:Shared}{a:Addr}(I:Inv X pins σ H s)(d:xS H a):
  s.TypeIs (.ref a) "dict"∧(∀b,Value.ref a= .ref b→∃ob,s.heap.get? b=some ob∧ob.dict=none)∧(a==sysModules)=false:=by
 rcases d with⟨kvs,e⟩|⟨kvs,e⟩
 ·obtain⟨_,hd,vs,_,dd⟩:=J5 I.hok e
  refine⟨dd.typeIs,fun b q=>?_,hd⟩
  cases q
  obtain⟨ob,_,_,h1,h2,_⟩:=dd
  exact⟨ob,h1,h2.2.1⟩
 ·obtain⟨_,hd,xs,_,dd⟩:=cJ I.hok e
  refine⟨dd.typeIs,fun b q=>?_,hd⟩
  cases q
  obtain⟨ob,_,_,h1,h2,_⟩:=dd
  exact⟨ob,h1,h2.2.1⟩
section
variable {X:Cx} {pins:List (Addr×Obj)} {σ:St} {H:Hp} {s:Shared} {a:Addr} {y d:V} {u r:Value} {o:Option V} {A:Around} {E:Value→Shared→Prop}
theorem sf {Q:Value→Shared→Prop}(hu:A.units+1<cLine)(I:Inv X pins σ H s)(g:DGet H a y o)(ry:RelV y u)(h:∀w' s',Inv X pins σ H s'→RelV (o.getD .non) w'→Q w' s'):
  wpAny (model X.prog X.w) A (call (.builtin "dict.get") [.ref a,u]) Q E s:=by
 rcases g with⟨kvs,k,e,ey,l⟩|⟨kvs,k,b,e,ey,eb,l⟩
 ·subst ey
  obtain⟨z,hd,vs,rel,dd⟩:=J5 I.hok e
  refine call_meetsIn PySem.F.slot_dict_get dd.typeIs PySem.F.entry_dict_get (PySem.F.args_dict_get_2 _ _) (meets_dict_get (j2 X.prog X.w) a (cM ry) hd) ⟨_,dd.mapOf,h _ _ (I.tok _) ?_⟩
  rw[l]
  exact(rel.val k).getD rfl
 ·subst ey
  cases (show u=Value.ref b from ry)
  obtain⟨z,hd,xs,rel,dd⟩:=cJ I.hok e
  refine call_meetsIn PySem.F.slot_dict_get dd.typeIs PySem.F.entry_dict_get (PySem.F.args_dict_get_2 _ _) (meetsH_dict_get (tupleKind (j2 X.prog X.w)) a b hd) ⟨tupleKind_room_in1 hu,k,xs,bI I.hok eb,dd,h _ _ (I.tok _) ?_⟩
  rw[l]
  exact(rel.val k).getD rfl
end
def iJ (td ty:TE):TE:=fun σ H Q=>td σ H fun x H1=>∃a,x= .ref a∧xS H1 a∧ty σ H1 fun y H2=>∃o,DGet H2 a y o∧Q (o.getD .non) H2
section
variable {X:Cx} {o e f:Expr} {apos cpos:Pos} {td ty tx:TE}
theorem my (hu:X.A.units+1<cLine)(ho:PE X o td)(he:PE X e ty)(m:M1 X o "get" apos e cpos):PE X (.Call (.Attribute o "get" apos) [e] [] cpos) (iJ td ty):=by
 intro pins s σ H Q I h
 refine wpAny_Call_method m.base m.few m.line PySem.F.plainAttrs_dict PySem.F.slot_dict_get PySem.F.type_dict_get (G3 (ho pins s σ H _ I h) fun u s1 ⟨x,H1,I1,rx,a,ex,d,q1⟩=>?_)
 subst ex
 obtain rfl:u=Value.ref a:=rx
 obtain⟨t1,t2,_⟩:=uM I1 d
 refine⟨t1,t2,?_⟩
 rw[m.trees]
 refine Calls.callWith_builtin rfl (Calls.evalArgs_plain (Calls.spliced_cons (G3 (he pins s1 σ H1 _ I1 q1) fun iv s2 ⟨y,H2,I2,ry,ov,g,q2⟩=>Calls.spliced_nil ?_)))
 exact sf hu I2 g ry fun w' s3 I3 rw'=>⟨_,H2,I3,rw',q2⟩
end
section
variable {X:Cx} {pins:List (Addr×Obj)} {σ:St} {H:Hp} {s:Shared} {a:Addr} {kvs:List (g7×V)} {A:Around} {E:Value→Shared→Prop}
theorem mR {Q:Value→Shared→Prop}(I:Inv X pins σ H s)(e:Rd H a (.dK kvs))(h:∀p s',H p=none→Inv X pins σ (n0 H p (.dK kvs)) s'→Q (.ref p) s'):wpAny (model X.prog X.w) A (call (.type "dict") [.ref a]) Q E s:=by
 obtain⟨z,hd,vs,rel,dd⟩:=J5 I.hok e
 refine kt_call_dict hd dd (by rw[←rel.length];exact z) fun h' dd' hs=>?_
 refine h _ _ (I.hok.fresh (Nat.le_refl _)) (I.laid (a:=s.heap.objs.size) (o:= .dK kvs) (t':=s.toks) (fun b q hq=>?_) (Nat.le_refl _) (jE z (beq_eq_false_iff_ne.mpr (Ne.symm (Nat.ne_of_lt I.big))) rel dd'))
 exact(hs.2 b (Nat.ne_of_lt (Heap.lt_size hq))).trans (Heap.get?_push_of_some _ hq)
end
section
variable {X:Cx} {pins:List (Addr×Obj)} {σ:St} {H:Hp} {s:Shared} {a:Addr} {y:V} {u:Value} {A:Around} {E:Value→Shared→Prop}
end
end L2
namespace Att
open PySem PySem.W PySem.Calls PyProof.Rows
theorem cu {P:Params}{h:Heap}:∀(ns:List Int) (vs:List Value),WellAll P h vs (ns.map WData.int)→IntsAre vs ns:=by
 intro ns
 induction ns with
 |nil=>
  intro vs w
  rw[List.map_nil] at w
  cases w
  exact .nil
 |cons n ns ih=>
  intro vs w
  rw[List.map_cons] at w
  cases w with
  |cons a b=>
   cases a
   exact .cons _ _ (ih _ b)
theorem kK {l:OpenLaw}{n:Nat}(hn:l.most=some n){P:Params}{h:Heap}{args:List WData}{vals:List Value}
  (hpre:l.row.toRowW.claim.pre args=true) (hwl:WellAll P h vals args):
  ∃a vs ns,vals=[Value.ref a]∧args=[WData.list (ns.map WData.int)]∧h.get? a=some {cls:= .type "list",data:= .seq vs.toArray}∧IntsAre vs ns∧ns.length≤n:=by
 have hsh:WShape.hasAll [] args [.list .int]=true:=(pre_splitW hpre).1
 have hc:l.pre.holds [] {args:=args}=true:=(pre_splitW hpre).2
 obtain⟨d,r,rfl,h1,h2⟩:=hasAllW_cons hsh
 obtain rfl:=hasAllW_nil h2
 obtain⟨xs,rfl,h3⟩:=hasW_list h1
 obtain⟨ns,rfl⟩:=items_int h3
 have hlen:ns.length≤n:=by
  unfold OpenLaw.pre at hc
  have h4:(WTm.not (.lt (.lit (.int (n:Int))) (.len (.arg 0)))).holds [] {args:=[.list (ns.map .int)]}=true:=by
   have h4:=(holds_andW hc).1
   rw[hn] at h4
   exact h4
  have h5:=condW_of h4 (w_not (w_lt w_lit (w_len_list (w_arg rfl))))
  rw[List.length_map] at h5
  refine Nat.le_of_not_lt fun q=>?_
  have q':(n:Int)<((ns.length:Nat):Int):=by omega
  first
   |(rw[decide_eq_true q'] at h5;exact absurd h5 (by decide))
   |(simp at h5;omega)
 cases hwl with
 |cons w1 w2=>
  cases w2
  cases w1 with
  |list ho hall=>exact⟨_,_,ns,rfl,rfl,ho,cu ns _ hall,hlen⟩
theorem lg (l:OpenLaw)(args:List WData):l.row.toRowW.claim.post args (.bool true) args=true:=
 postW_of (r:=l.row.toRowW) (X:=(true==true))
  (show WShape.has [] (.bool true) .bool=true by first|rfl|decide|simp [WShape.has,WShape.arms,WShape.armsAll])
  (show(WTm.eq .res (.lit (.bool true))).value [] {args:=args,res:=some (.bool true),after:=args}=some (.bool (true==true)) from w_eq_bool (w_res rfl) w_lit) rfl
theorem attach_call {l:OpenLaw}{n:Nat}{q:Program}{loose:List Str}{XP:(Str→Option Value)→Heap→Prop}{YP:World→Heap→Prop}{d:DefRec}
  (hn:l.most=some n) (hdf:d.params.defaults=[])
  (call:∀(w:World) (s₀ s₁:Shared) (mg mb:Str→Option Value) (fa:Addr) (o:Obj) (pm cd doc:Value) (a:Addr) (vs:List Value) (ns:List Int),
   Ground q loose [] XP w s₀ mg mb s₁.heap→YP w s₁.heap→
   s₁.heap.get? fa=some o→o.data= .func (docDef d.name d.params d.body d.scope pm cd doc)→s₁.heap.CodeRec cd d.name→mg d.name=some (.ref fa)→
   s₁.heap.get? a=some {cls:= .type "list",data:= .seq vs.toArray}→IntsAre vs ns→ns.length≤n→s₁.gens= #[]→
   codeAny (model l.prog w) callerA (.call (.ref fa) ⟨[.ref a],[]⟩) (fun r s'=>r= .ok (.ret (.bool true))∧OldK s₁.heap s'.heap∧s'.os=s₁.os∧AllBare s'.gens) s₁):
  WalkO q loose XP YP l.row.toRowW d [] (fun f vs=>PySem.call f vs):=by
 intro w s₀ s₁ mg mb G Y fa o pm cd doc dV kV ho hd hcd hD hmg hg args vals as hpre hlay hrd hwl hlo
 obtain rfl:dV= .none:=Dflts.none hD hdf
 obtain rfl:kV= .none:=Dflts.noKw hD
 obtain⟨a,vs,ns,rfl,rfl,hobj,hints,hlen⟩:=kK hn hpre hwl
 refine enter_call (codeAny_mono (call w s₀ s₁ mg mb fa o pm cd doc a vs ns G Y ho (fd_plain hd) hcd hmg hobj hints hlen hg) fun r s' hq=>?_)
 obtain⟨rfl,h2,h3,h4⟩:=hq
 exact⟨.inl ⟨.bool true,.bool true,[],rfl,fun _=>rfl,.bool true,lg l _,fun _=>⟨List.Pairwise.nil,fun _ hm=>(nomatch hm)⟩⟩,h2,h3,h4⟩
section
variable {prog:Program} {w:World} {A:Around} {E:Value→Shared→Prop} {s:Shared} {K:Frag}
end
end Att
namespace L2
open PySem PySem.Spec PyProof.Rows
theorem eD:∀{vs:List Value} {ns:List Int},IntsAre vs ns→Vals (ns.map V.int) vs
 |_,_,.nil=> .nil
 |_,_,.cons n t h=> .cons ⟨t,rfl⟩ (eD h)
def sL (H:Hp):Prop:=∀b,H b=none∨∃o xs,H b=some (.frz o (.lst xs))
theorem pH {P:Program}{w:World}{K:PySem.W.Frag}{mg mb:Str→Option Value}{CX:gd}{k:Nat}{fa a:Addr}{fd:FuncData}{x:Str}{sp:Sp}{s₁:Shared}{vs:List Value}{ns:List Int}
  (KX:K.In s₁.heap) (hns:s₁.heap.Ns mainGlobals mg) (hb:s₁.heap.Ns builtinsNs mb) (hbb:∀x:Str,x≠"__name__"→mb x=bootBuiltins x) (hlim:s₁.heap.NoLimit) (hg:s₁.gens= #[])
  (ha:s₁.heap.get? a=some {cls:= .type "list",data:= .seq vs.toArray}) (hi:IntsAre vs ns) (hl:ns.length≤sizeLine) (hr:Room k callerA)
  (F:∀base:Heap,K.In base→base.Ns mainGlobals mg→FnOk P w K mg base CX k fa fd [x] sp) (hbind:∀(s:Shared) (u:Value),BindsTo s fd ⟨[u],[]⟩ [(x,u)])
  (hsp:∀H:Hp,sL H→SqL K H a (ns.map V.int)→sp [.ref a] H (fun v _=>v= .bl true) fun _ _ _=>False)
  (hCX:∀H e s',CX [] H s₁ (fun _ _ _=>False) e s'→False):
  codeAny (model P w) callerA (.call (.ref fa) ⟨[.ref a],[]⟩) (fun r s'=>r= .ok (.ret (.bool true))∧OldK s₁.heap s'.heap∧s'.os=s₁.os∧AllBare s'.gens) s₁:=by
 have rv:=eD hi
 have lenV:=hi.length
 have core:∀H:Hp,sL H→SqL K H a (ns.map V.int)→HOk P w H s₁.heap→(∀b,H b≠none→b=a)→(H a≠none→K.lookup a=none)→
   codeAny (model P w) callerA (.call (.ref fa) ⟨[.ref a],[]⟩) (fun r s'=>r= .ok (.ret (.bool true))∧OldK s₁.heap s'.heap∧s'.os=s₁.os∧AllBare s'.gens) s₁:=by
  intro H hO hS hok hA hK
  have base_of:∀{b:Addr} {o:Obj},s₁.heap.get? b=some o→H b=none→(fR s₁.heap H).get? b=some o:=fun e n=>nP e n
  have noA:∀{b:Addr} {o:Obj} {es:Array DictEntry} {ep:Nat},s₁.heap.get? b=some o→o.data= .dict es ep→H b=none:=fun{b o es ep} e d=>by
   cases q:H b with
   |none=>rfl
   |some u=>
    have e':b=a:=hA b (by rw[q];simp)
    subst e'
    rw[ha] at e;cases e
    have d':Data.seq vs.toArray _=Data.dict es ep:=d
    cases d'
  have nsK:∀{b:Addr} {m:Str→Option Value},s₁.heap.Ns b m→(fR s₁.heap H).Ns b m:=fun{b m} ⟨o,es,ep,e,d,r⟩=>⟨o,es,ep,base_of e (noA e d),d,r⟩
  have hKb:K.In (fR s₁.heap H):=fun b o e=>base_of (KX b o e) (by
   cases q:H b with
   |none=>rfl
   |some u=>
    have e':b=a:=hA b (by rw[q];simp)
    subst e'
    rw[hK (by rw[q];simp)] at e;cases e)
  have hM:Mod K mg (fR s₁.heap H):=⟨hKb,nsK hns,⟨mb,nsK hb,hbb⟩,let ⟨mc,h1,h2⟩:=hlim;⟨mc,nsK h1,h2⟩⟩
  have e0:Env0 P w K mg (fR s₁.heap H) callerA [] s₁ H:=⟨rfl,hM,fun b o e=>rm e,Nat.le_of_eq (lK _ _),trivial,fun b hb=>absurd (show b∈([]:List Addr) from hb) (by simp),hok,.of_eq hg⟩
  refine codeAny_mono ((F _ hKb (nsK hns)).run callerA [] s₁ H ⟨[.ref a],[]⟩ [.ref a] [.ref a] _ _ hr e0 (hbind s₁ (.ref a)) (.cons rfl .nil) (hsp H hO hS)) fun r s' h=>?_
  cases r with
  |error e=>exact(hCX H e s' h).elim
  |ok fl=>
   cases fl with
   |next=>exact False.elim h
   |brk=>exact False.elim h
   |cont=>exact False.elim h
   |ret u=>
    obtain⟨v,H',os,bare,un,hok',r',q⟩:=h
    have q':v= .bl true:=q
    subst q'
    obtain rfl:u=Value.bool true:=r'
    refine⟨rfl,OldK.of_keep fun b o e=>?_,os,bare⟩
    cases q:H b with
    |none=>exact un.keep b o e q (by intro z;exact absurd (show b∈([]:List Addr) from z) (by simp)) (by simp)
    |some u=>
     rcases hO b with z|⟨ob,xs,z⟩
     ·rw[q] at z;cases z
     ·have z2:=un.frzs b ob _ z
      obtain⟨e1,_⟩:=hok b _ z
      obtain⟨e2,_⟩:=hok' b _ z2
      rw[e] at e1;cases e1
      exact e2
 cases hk:K.lookup a with
 |some o=>
  have e:=KX a o hk
  rw[ha] at e
  cases e
  refine core (fun _=>none) (fun _=> .inl rfl) (.inr ⟨_,vs.toArray,_,hk,rfl,rfl,rfl,by rw[List.size_toArray,lenV];exact hl,by simpa using rv⟩) (fun b u z=>by have z':(none:Option HO)=some u:=z;cases z') (fun b z=>absurd rfl z) fun z=>absurd rfl z
 |none=>
  refine core (fun b=>if b=a then some (.frz {cls:= .type "list",data:= .seq vs.toArray} (.lst (ns.map V.int))) else none) (fun b=>?_) (.inl (.inr ⟨{cls:= .type "list",data:= .seq vs.toArray},if_pos rfl⟩)) (fun b u z=>?_) (fun b z=>?_) fun _=>hk
  ·by_cases hb:b=a
   ·exact .inr ⟨_,_,if_pos hb⟩
   ·exact .inl (if_neg hb)
  ·by_cases hb:b=a
   ·have z':=(if_pos hb).symm.trans z
    cases z'
    subst hb
    exact⟨ha,by rw[List.length_map];exact hl,vs,_,rv,ha⟩
   ·have z':=(if_neg hb).symm.trans z
    cases z'
  ·by_cases hb:b=a
   ·exact hb
   ·exact absurd (if_neg hb) z
end L2
namespace L2
open PySem PySem.Spec PyProof.Rows
theorem walk_of {l:PySem.W.OpenLaw}{n k:Nat}{q:Program}{loose:List Str}{XP:(Str→Option Value)→Heap→Prop}{YP:World→Heap→Prop}{d:DefRec}{K:Params→PySem.W.Frag}{CX:World→gd}{sp:World→Sp}{x:Str}
  (hn:l.most=some n) (hn2:n≤sizeLine) (hdf:d.params.defaults=[]) (hr:Room k callerA)
  (hY:∀(w:World) (h:Heap),YP w h→(K w.params).In h)
  (F:∀(w:World) (mg:Str→Option Value) (fa:Addr) (h:Heap),(K w.params).In h→h.Ns mainGlobals mg→mg d.name=some (.ref fa)→
   ∃fd:FuncData,(∀(s:Shared) (u:Value),BindsTo s fd ⟨[u],[]⟩ [(x,u)])∧
    ∀base:Heap,(K w.params).In base→base.Ns mainGlobals mg→FnOk l.prog w (K w.params) mg base (CX w) k fa fd [x] (sp w))
  (hsp:∀(w:World) (H:Hp) (a:Addr) (ns:List Int),ns.length≤n→sL H→SqL (K w.params) H a (ns.map V.int)→sp w [.ref a] H (fun v _=>v= .bl true) fun _ _ _=>False)
  (hCX:∀(w:World) (H:Hp) (s:Shared) (e:Value) (s':Shared),CX w [] H s (fun _ _ _=>False) e s'→False):
  PySem.W.WalkO q loose XP YP l.row.toRowW d [] (fun f vs=>PySem.call f vs):=by
 refine Att.attach_call hn hdf fun w s₀ s₁ mg mb fa o pm cd doc a vs ns G Y ho hd hcd hmg hobj hints hlen hg=>?_
 have KX:=hY w _ Y
 obtain⟨fd,hb,hF⟩:=F w mg fa _ KX G.T.g hmg
 exact pH KX G.T.g G.T.b G.T.builtins G.T.nolimit hg hobj hints (Nat.le_trans hlen hn2) hr hF hb (fun H hO hS=>hsp w H a ns hlen hO hS) fun H e s'=>hCX w H s₁ e s'
end L2
namespace L2
open PySem PySem.Spec PyProof.Rows
def i8 (s:Stmt):Arguments:=match s with
 | .FunctionDef _ a _ _ _ _ _ _ _ _=>a
 |_=>{posonlyargs:=[],args:=[],vararg:=none,kwonlyargs:=[],kw_defaults:=[],kwarg:=none,defaults:=[]}
def i4 (s:Stmt):List Stmt:=match s with
 | .FunctionDef _ _ b _ _ _ _ _ _ _=>b
 |_=>[]
def b0 (s:Stmt):Scope:=match s with
 | .FunctionDef _ _ _ _ _ _ sc _ _ _=>sc
 |_=>{kind:= .function,names:=[],isGenerator:=false,isCoroutine:=false}
abbrev x6:gd:=fun _ _ _ _ _ _=>False
abbrev E0:XK:=fun _ _ _=>False
theorem j1 {X:Cx}:aM x6 X E0:=fun _ _ _ _ _ _ _ h=>h.elim
structure Fun (K:PySem.W.Frag) (x qual:Str) (st:Stmt) (f:Addr) (fd:FuncData):Prop where
 ex:∃(oc:Value) (od:Option Addr) (kV doc pm:Value) (an:Option Addr) (cdv ct:Value) (osl:Array (Option Value)),
  fd=PySem.W.fnOf x qual (i8 st) (i4 st) (b0 st) .none kV doc pm an cdv ct∧K.lookup f=some ⟨oc,od,.func fd,osl⟩∧PySem.W.codeIn K cdv qual=true
 kp:PySem.W.keepIn K (.ref f)=true
section
variable {P:Program} {w:World} {K:PySem.W.Frag} {mg:Str→Option Value} {base:Heap}
theorem Fun.ok {x qual:Str}{st:Stmt}{f:Addr}{fd:FuncData}{N ps:List Str}{k:Nat}{sp:Sp}(F:Fun K x qual st f fd)(S:i9 N ps (b0 st))(len:∀vs H Q E,sp vs H Q E→vs.length=ps.length)
  (hbody:∀(cdv:Value) (A:Around) (outer:List Env) (s:Shared) (H:Hp) (vs:List V) (Q:VK) (E:XK),Room k (A.deeper (envOfC qual (b0 st) s.heap.objs.size f cdv))→sp vs H Q E→
   ∃t,PSs (ee x6 P w K mg base N qual (b0 st) f cdv A outer s H E).nox (i4 st) t∧t {nx:=fun _ H'=>Q .non H',rt:=Q} (bB N vs) H):FnOk P w K mg base x6 (k+1) f fd ps sp:=by
 obtain⟨oc,od,kV,doc,pm,an,cdv,ct,osl,rfl,lk,hcd⟩:=F.ex
 refine rR lk hcd S len fun A outer s H vs Q E hr hsp=>?_
 obtain⟨t,h,q⟩:=hbody cdv A outer s H vs Q E hr hsp
 exact⟨t,h.nox,q⟩
theorem Fun.binds {x qual:Str}{st:Stmt}{f:Addr}{fd:FuncData}{ps:List Str}(F:Fun K x qual st f fd)
  (h:∀(kV doc pm:Value) (an:Option Addr) (cdv ct:Value) (us:List Value),us.length=ps.length→bindArgs (PySem.W.fnOf x qual (i8 st) (i4 st) (b0 st) .none kV doc pm an cdv ct) ⟨us,[]⟩=pure (ps.zip us)):Binds K fd ps []:=by
 obtain⟨oc,od,kV,doc,pm,an,cdv,ct,osl,rfl,lk,hcd⟩:=F.ex
 exact .all (h kV doc pm an cdv ct)
theorem j3 {x qual:Str}{st:Stmt}{f:Addr}{oc:Value}{od an:Option Addr}{osl:Array (Option Value)}{kV doc pm cdv ct:Value}(l:K.lookup f=some ⟨oc,od,.func (PySem.W.fnOf x qual (i8 st) (i4 st) (b0 st) .none kV doc pm an cdv ct),osl⟩)
  (c:PySem.W.codeIn K cdv qual=true) (k:PySem.W.keepIn K (.ref f)=true):Fun K x qual st f (PySem.W.fnOf x qual (i8 st) (i4 st) (b0 st) .none kV doc pm an cdv ct):=⟨⟨oc,od,kV,doc,pm,an,cdv,ct,osl,rfl,l,c⟩,k⟩
end
theorem lS {n:Nat}(h:n≤1000):n<sizeLine:=Nat.lt_of_le_of_lt h (by decide)
section
variable {X:Cx}
end
theorem yz {A B:Prop}(h:B):if false=true then A else B:=by
 rw[if_neg Bool.false_ne_true]
 exact h
theorem yf {A B:Prop}(h:A):if true=true then A else B:=by
 rw[if_pos rfl]
 exact h
def Same (H H':Hp):Prop:=∀b o,H b=some o→H' b=some o
theorem Same.refl (H:Hp):Same H H:=fun _ _ h=>h
theorem Same.trans {H H1 H2:Hp}(a:Same H H1)(b:Same H1 H2):Same H H2:=fun c o h=>b c o (a c o h)
theorem Same.free {H H':Hp}(e:Same H H'){l:Addr}(h:H' l=Option.none):H l=Option.none:=by
 cases q:H l with
 |none=>rfl
 |some o=>
  rw[e l o q] at h
  cases h
theorem Same.seq {K:PySem.W.Frag}{H H':Hp}{a:Addr}{xs:List V}(e:Same H H')(h:SqL K H a xs):SqL K H' a xs:=by
 rcases h with(h|⟨o,h⟩)|h
 ·exact .inl (.inl (e _ _ h))
 ·exact .inl (.inr ⟨o,e _ _ h⟩)
 ·exact .inr h
section
variable {κ:Type} [DecidableEq κ]
theorem kf {kvs:List (κ×V)}{k:κ}{v:V}(h:r6 kvs k=some v):k∈kvs.map (·.1):=by
 have q:(kvs.any fun kv=>decide (kv.1=k))=true:=by
  rw[Z5,h]
  all_goals rfl
 obtain⟨p,hp,e⟩:=List.any_eq_true.mp q
 exact List.mem_map.mpr ⟨p,hp,of_decide_eq_true e⟩
theorem cz:∀{l:List κ} {k:κ},l.Nodup→¬k∈l→(l++[k]).Nodup
 |[],k,_,_=>by simp
 |a::r,k,h,hk=>by
  obtain⟨h1,h2⟩:=List.nodup_cons.mp h
  show(a::(r++[k])).Nodup
  refine List.nodup_cons.mpr ⟨fun m=>?_,cz h2 fun m=>hk (List.mem_cons.mpr (Or.inr m))⟩
  rcases List.mem_append.mp m with q|q
  ·exact h1 q
  ·exact hk (List.mem_cons.mpr (Or.inl (List.mem_singleton.mp q).symm))
end
end L2
set_option Elab.async false
set_option linter.all false
set_option maxRecDepth 100000
set_option maxHeartbeats 4000000
namespace L2
open PySem PySem.Spec PyProof.Rows
def cw (scope:Scope)(env:Env):List (Str×Addr):=(scope.names.filter fun x=>x.2== .free).reverse.map fun x=>(x.1,(env.cells.lookup x.1).getD 0)
theorem Y8 {env:Env}:∀(l:List (Str×NameKind)) (cs:List (Str×Addr)),(∀x∈l,x.2= .free→∃c,env.cells.lookup x.1=some c)→
  (forIn l cs fun(x:Str×NameKind) (r:List (Str×Addr))=>if(x.2==NameKind.free)=true then(do let a←cellOf env x.1;pure (ForInStep.yield ((x.1,a)::r))) else(pure (ForInStep.yield r):Sem (ForInStep (List (Str×Addr)))))=
   pure (((l.filter fun x=>x.2== .free).reverse.map fun x=>(x.1,(env.cells.lookup x.1).getD 0))++cs)
 |[],cs,_=>rfl
 |(n,k)::l,cs,h=>by
  rw[List.forIn_cons]
  by_cases hk:k= .free
  ·subst hk
   obtain⟨c,hc⟩:=h (n,.free) List.mem_cons_self rfl
   simp only[beq_self_eq_true,if_true]
   have hc':env.cells.lookup n=some c:=hc
   have e0:cellOf env n=pure c:=by unfold cellOf;rw[hc']
   simp only[e0,pure_bind]
   rw[Y8 l _ fun x hx=>h x (List.mem_cons_of_mem _ hx)]
   rw[List.filter_cons,if_pos (by rfl),List.reverse_cons,List.map_append,List.append_assoc]
   simp only[List.map_cons,List.map_nil,hc',Option.getD_some,List.cons_append,List.nil_append]
  ·have hb:(k==NameKind.free)=false:=by simpa using hk
   simp only[hb,Bool.false_eq_true,if_false,pure_bind]
   rw[Y8 l cs fun x hx=>h x (List.mem_cons_of_mem _ hx)]
   rw[List.filter_cons,if_neg (by simp [hb])]
theorem dh {scope:Scope}{env:Env}(h:∀x∈scope.names,x.2= .free→∃c,env.cells.lookup x.1=some c):closureFor scope env=pure (cw scope env):=by
 have e:=Y8 (env:=env) scope.names [] h
 rw[List.append_nil] at e
 unfold closureFor cw
 simp only[]
 refine Eq.trans ?_ (congrArg (fun m=>m>>=fun r=>(pure r:Sem (List (Str×Addr)))) e)
 rfl
theorem M8 {env:Env}{x:Str}:∀(l:List (Str×NameKind)),(∀y∈l,∃c,env.cells.lookup y.1=some c)→(x∈l.map (·.1)→(l.map fun y=>(y.1,(env.cells.lookup y.1).getD 0)).lookup x=env.cells.lookup x)∧(x∉l.map (·.1)→(l.map fun y=>(y.1,(env.cells.lookup y.1).getD 0)).lookup x=none)
 |[],_=>⟨fun h=>by simp at h,fun _=>rfl⟩
 |(n,k)::l,h=>by
  have ih:=M8 (x:=x) l fun y hy=>h y (List.mem_cons_of_mem _ hy)
  obtain⟨c,hc⟩:=h (n,k) List.mem_cons_self
  have hc':env.cells.lookup n=some c:=hc
  by_cases e:x=n
  ·subst e
   refine⟨fun _=>?_,fun z=>absurd (by simp) z⟩
   simp [List.lookup_cons,hc']
  ·have eb:(x==n)=false:=by simpa using e
   refine⟨fun hm=>?_,fun hm=>?_⟩
   ·simp only[List.map_cons,List.lookup_cons,eb]
    exact ih.1 (by simpa [e] using hm)
   ·simp only[List.map_cons,List.lookup_cons,eb]
    exact ih.2 (fun z=>hm (by simp [z]))
theorem N9 {scope:Scope}{env:Env}(h:∀x∈scope.names,x.2= .free→∃c,env.cells.lookup x.1=some c){x:Str}{c:Addr}(e:(cw scope env).lookup x=some c):env.cells.lookup x=some c:=by
 have hl:∀y∈(scope.names.filter fun x=>x.2== .free).reverse,∃c,env.cells.lookup y.1=some c:=fun y hy=>by
  obtain⟨h1,h2⟩:=List.mem_filter.mp (List.mem_reverse.mp hy)
  exact h y h1 (by simpa using h2)
 have a:=M8 (x:=x) _ hl
 by_cases hm:x∈(scope.names.filter fun x=>x.2== .free).reverse.map (·.1)
 ·rw[←a.1 hm];exact e
 ·have z:=a.2 hm
  unfold cw at e
  rw[z] at e;cases e
theorem hZ {scope:Scope}{env:Env}(h:∀x∈scope.names,x.2= .free→∃c,env.cells.lookup x.1=some c){x:Str}(hx:(x,NameKind.free)∈scope.names):(cw scope env).lookup x=env.cells.lookup x:=by
 have hl:∀y∈(scope.names.filter fun x=>x.2== .free).reverse,∃c,env.cells.lookup y.1=some c:=fun y hy=>by
  obtain⟨h1,h2⟩:=List.mem_filter.mp (List.mem_reverse.mp hy)
  exact h y h1 (by simpa using h2)
 exact(M8 (x:=x) _ hl).1 (List.mem_map.mpr ⟨(x,.free),List.mem_reverse.mpr (List.mem_filter.mpr ⟨hx,rfl⟩),rfl⟩)
theorem fU {scope:Scope}{env:Env}(hc:∀y∈scope.names,y.2≠ .cell){x:Str}(h:(relabel scope env).names.lookup x=some .cell∨(relabel scope env).names.lookup x=some .free):(x,NameKind.free)∈scope.names:=by
 have key:∀(l:List (Str×NameKind)),(∀y∈l,y.2≠ .cell)→∀k,(k=NameKind.cell∨k=NameKind.free)→(l.map fun(n,k)=>if(k==NameKind.free&&env.scope.kind== .function&&env.kindOf n==some .cell) then(n,NameKind.cell) else(n,k)).lookup x=some k→(x,NameKind.free)∈l:=by
  intro l
  induction l with
  |nil=>intro _ k _ e;simp at e
  |cons y r ih=>
   obtain⟨n,k0⟩:=y
   intro hl k hk e
   have ih':=ih (fun y hy=>hl y (List.mem_cons_of_mem _ hy)) k hk
   rw[List.map_cons] at e
   have hk0:k0≠ .cell:=hl (n,k0) List.mem_cons_self
   dsimp only at e
   by_cases hcnd:(k0==NameKind.free&&env.scope.kind== .function&&env.kindOf n==some .cell)=true
   ·rw[if_pos hcnd] at e
    cases hx:x==n with
    |true=>
     have:x=n:=by simpa using hx
     subst this
     have:k0= .free:=by
      simp only[Bool.and_eq_true,beq_iff_eq] at hcnd
      exact hcnd.1.1
     subst this
     exact List.mem_cons_self
    |false=>
     simp only[List.lookup_cons,hx] at e
     exact List.mem_cons_of_mem _ (ih' e)
   ·rw[if_neg hcnd] at e
    cases hx:x==n with
    |true=>
     have:x=n:=by simpa using hx
     subst this
     simp only[List.lookup_cons,hx] at e
     have e':k0=k:=Option.some.inj e
     subst e'
     rcases hk with z|z
     ·exact absurd z hk0
     ·subst z;exact List.mem_cons_self
    |false=>
     simp only[List.lookup_cons,hx] at e
     exact List.mem_cons_of_mem _ (ih' e)
 rcases h with h|h
 ·exact key _ hc _ (.inl rfl) h
 ·exact key _ hc _ (.inr rfl) h
def aB (X:Cx)(own:List Str)(js:List Nat)(scope:Scope)(C:Addr)(s:Shared)(H:Hp)(fp:List Addr):Cx:=
 {X with N:=own++js.map (fun j=>X.N.getD j Str.empty),s₀:=s,H₀:=H,env:=compEnvC scope (cw scope X.env) C X.env,outer:=X.stack,stack:=X.stack,ex:=fp,fn:=fun _=>false,pn:=[],xe:=fun _ _=>False}
def mI (own:List Str)(js:List Nat)(σ:St):St:=own.map (fun _=>none)++js.map (fun j=>(σ[j]?).join)
def vm (X:Cx)(own:List Str)(js:List Nat)(scope:Scope):Bool:=
 (scope.kind== .function)&&(scope.names.all fun x=>x.2 != .cell)&&(scope.names.all fun x=>x.2 != .local||scope.names.lookup x.1==some .local)&&
 (scope.names.all fun x=>x.2 != .free||(X.env.kindOf x.1==some .cell||X.env.kindOf x.1==some .free))&&
 (js.all fun j=>decide (j<X.N.length)&&scope.names.any (fun y=>y.1==X.N.getD j Str.empty&&y.2== .free))&&
 (scope.names.all fun x=>x.2 != .free||scope.names.lookup x.1 !=some .local)
theorem kn {own:List Str}{js:List Nat}{σ:St}{X:Cx}{scope:Scope}{C:Addr}{s:Shared}{H:Hp}{fp:List Addr}:(mI own js σ).length=(aB X own js scope C s H fp).N.length:=by
 show(mI own js σ).length=(own++js.map (fun j=>X.N.getD j Str.empty)).length
 unfold mI;simp
section
variable {X:Cx} {pins:List (Addr×Obj)} {σ:St} {H:Hp} {s:Shared} {own:List Str} {js:List Nat} {scope:Scope} {fp:List Addr} {C D:Addr} {h1:Heap}
structure ScB (X:Cx) (own:List Str) (js:List Nat) (scope:Scope):Prop where
 kind:scope.kind= .function
 nocell:∀y∈scope.names,y.2≠ .cell
 names:∀x∈scope.names,x.2= .local→scope.names.lookup x.1=some .local
 free:∀x∈scope.names,x.2= .free→X.env.kindOf x.1=some .cell∨X.env.kindOf x.1=some .free
 js:∀j∈js,j<X.N.length∧(X.N.getD j Str.empty,NameKind.free)∈scope.names
 one:∀x,(x,NameKind.free)∈scope.names→scope.names.lookup x≠some .local
theorem oI (h:vm X own js scope=true):ScB X own js scope:=by
 unfold vm at h
 simp only[Bool.and_eq_true,List.all_eq_true,Bool.or_eq_true,bne_iff_ne,beq_iff_eq,decide_eq_true_eq,List.any_eq_true] at h
 obtain⟨⟨⟨⟨⟨h1,h2⟩,h3⟩,h4⟩,h5⟩,h6⟩:=h
 refine⟨h1,h2,fun x hx e=>?_,fun x hx e=>?_,fun j hj=>?_,fun x hx=>?_⟩
 ·rcases h3 x hx with z|z
  ·exact absurd e z
  ·exact z
 ·rcases h4 x hx with z|z
  ·exact absurd e z
  ·exact z
 ·obtain⟨a,y,hy,e1,e2⟩:=h5 j hj
  refine⟨a,?_⟩
  obtain⟨n,k⟩:=y
  simp only at e1 e2
  rw[←e1,←e2];exact hy
 ·rcases h6 _ hx with z|z
  ·exact absurd rfl z
  ·exact z
theorem ScB.cells (S:ScB X own js scope)(I:Inv X pins σ H s):∀x∈scope.names,x.2= .free→∃c,X.env.cells.lookup x.1=some c:=fun x hx e=>I.ok.has x.1 (S.free x hx e)
theorem Inv.block (S:ScB X own js scope)(I:Inv X pins σ H s)(hf:∀b∈fp,bA X pins H b)(hob:∀b∈fp,∃o,s.heap.get? b=some o)(hC:s.heap.objs.size≤C){m:Str→Option Value}{t':Nat}(hn:h1.Ns C m)(k:∀b u,s.heap.get? b=some u→h1.get? b=some u):
  Inv (aB X own js scope C s H fp) (X.pn++pins) (mI own js σ) H {s with heap:=h1,toks:=t'}:=by
 have hcl:=S.cells I
 have below:∀b o,s.heap.get? b=some o→b≠C:=fun b o e=>Nat.ne_of_lt (Nat.lt_of_lt_of_le (Heap.lt_size e) hC)
 have stk:∀b,b≠X.env.locals→b∉X.fs→b∉aC X.stack:=fun b h1 h2 z=>by
  rcases List.mem_cons.mp (I.stkSub b z) with e|e
  ·exact h1 e
  ·exact h2 e
 have noex:∀b o,X.base.get? b=some o→b∉fp:=fun b o e z=>by
  rcases(hf b z).2.2.2.1 with q|q
  ·exact I.ok.noex b o e q
  ·exact absurd (Nat.lt_of_lt_of_le (Heap.lt_size e) (Nat.le_trans I.ok.bsz q)) (Nat.lt_irrefl _)
 refine⟨⟨I.ok.mod,S.kind,I.ok.glob,I.ok.blt,hC,fun x y c e1 e2=>?_,fun x hx=>?_,fun x c z _=>(Bool.false_ne_true z).elim,I.ok.hd,I.ok.frames,.inl rfl,fun b hb=>⟨?_,fun x c e=>?_⟩,I.bs,Nat.le_trans I.ok.bsz I.sz,noex,fun b hb=>?_,I.stack,I.stkFree⟩,
  rfl,I.bare,Un.kept k,⟨m,hn,fun i x v e1 e2 e3=>?_⟩,fun x c e=>?_,?_,fun x c e=>?_,fun p hp=>?_,I.hok.kept k,kn⟩
 ·exact I.ok.inj x y c (N9 hcl e1) (N9 hcl e2)
 ·have hm:=fU S.nocell (x:=x) (env:=X.env) hx
  obtain⟨c,e⟩:=hcl (x,.free) hm rfl
  exact⟨c,(hZ hcl hm).trans e⟩
 ·obtain⟨o,e⟩:=hob b hb;exact below b o e
 ·exact(hf b hb).2.2.2.2.1 x c (N9 hcl e)
 ·exact stk b (hf b hb).2.1 (hf b hb).2.2.1
 ·have e1':(own++js.map (fun j=>X.N.getD j Str.empty))[i]?=some x:=e1
  unfold mI at e2
  by_cases hi:i<own.length
  ·rw[List.getElem?_append_left (by simpa using hi),List.getElem?_map] at e2
   rw[List.getElem?_eq_getElem hi] at e2
   simp at e2
  ·rw[List.getElem?_append_right (by simpa using hi),List.getElem?_map] at e2
   rw[List.getElem?_append_right (by simpa using hi),List.getElem?_map] at e1'
   have el:(own.map fun _=>(none:Option V)).length=own.length:=by simp
   rw[el] at e2
   cases hj:js[i -own.length]? with
   |none=>rw[hj] at e1';simp at e1'
   |some j=>
    rw[hj] at e1' e2
    simp only[Option.map_some,Option.some.injEq] at e1' e2
    have hjm:j∈js:=List.mem_of_getElem? hj
    obtain⟨hlt,hmem⟩:=S.js j hjm
    have hNj:X.N[j]?=some x:=by
     rw[←e1',List.getD_eq_getElem?_getD,List.getElem?_eq_getElem hlt];simp
    have hσ:σ[j]?=some (some v):=by
     cases q:σ[j]? with
     |none=>rw[q] at e2;simp at e2
     |some w=>rw[q] at e2;simp at e2;rw[e2]
    rw[e1'] at hmem
    obtain⟨m0,hn0,hl0⟩:=I.loc
    have hkx:X.env.kindOf x=some .cell∨X.env.kindOf x=some .free:=S.free (x,.free) hmem rfl
    obtain⟨u,r,l⟩:=hl0 j x v hNj hσ (by rcases hkx with z|z;exact .inr (.inl z);exact .inr (.inr z))
    refine⟨u,r,?_⟩
    rcases l with⟨z,_⟩|⟨_,c,hc,hcell⟩
    ·rcases hkx with q|q
     ·rw[q] at z;cases z
     ·rw[q] at z;cases z
    ·have hc':(cw scope X.env).lookup x=some c:=(hZ hcl hmem).trans hc
     obtain⟨oc,hoc,hocd⟩:=hcell
     refine .inr ⟨?_,c,hc',⟨oc,k _ _ hoc,hocd⟩⟩
     rcases e3 with z|z|z
     ·exfalso
      have hmm:(relabel scope X.env).names.lookup x=some .local:=z
      exact absurd hmm (by
       intro hh
       have key:∀l:List (Str×NameKind),(∀y∈l,y.2= .local→scope.names.lookup y.1=some .local)→(l.map fun(n,k)=>if(k==NameKind.free&&X.env.scope.kind== .function&&X.env.kindOf n==some .cell) then(n,NameKind.cell) else(n,k)).lookup x=some .local→scope.names.lookup x=some .local:=by
        intro l
        induction l with
        |nil=>intro _ e;simp at e
        |cons y r ih=>
         obtain⟨n,k0⟩:=y
         intro hl e
         rw[List.map_cons] at e
         dsimp only at e
         by_cases hcnd:(k0==NameKind.free&&X.env.scope.kind== .function&&X.env.kindOf n==some .cell)=true
         ·rw[if_pos hcnd] at e
          cases hx:x==n with
          |true=>simp only[List.lookup_cons,hx] at e;cases e
          |false=>simp only[List.lookup_cons,hx] at e;exact ih (fun y hy=>hl y (List.mem_cons_of_mem _ hy)) e
         ·rw[if_neg hcnd] at e
          cases hx:x==n with
          |true=>
           simp only[List.lookup_cons,hx] at e
           have e':k0= .local:=Option.some.inj e
           have:x=n:=by simpa using hx
           subst this
           exact hl (x,k0) List.mem_cons_self e'
          |false=>simp only[List.lookup_cons,hx] at e;exact ih (fun y hy=>hl y (List.mem_cons_of_mem _ hy)) e
       have a:=key scope.names S.names hh
       exact S.one x hmem a)
     ·exact .inl z
     ·exact .inr z
 ·obtain⟨v,o,ho,hd⟩:=I.cell x c (N9 hcl e)
  exact⟨v,o,k _ _ ho,hd⟩
 ·exact I.hok.fresh hC
 ·exact I.freeC x c (N9 hcl e)
 ·obtain⟨e,n,ne,nf,d⟩:=I.pin p hp
  exact⟨k _ _ e,n,below _ _ e,stk _ ne nf,d⟩
end
end L2
set_option Elab.async false
set_option linter.all false
set_option maxRecDepth 100000
set_option maxHeartbeats 4000000
namespace L2
open PySem PySem.Spec PyProof.Rows
theorem HOk.track {P:Program}{w:World}{H:Hp}{h h':Heap}{a C:Addr}{o:HO}(x:HOk P w H h)(hC:H C=none)(k:∀b,b≠C→h'.get? b=h.get? b)(hn:H a=none)(new:ObjOk P w (n0 H a o) h' a o):HOk P w (n0 H a o) h':=fun b u e=>by
 by_cases hb:b=a
 ·subst hb;rw[d9] at e;cases e;exact new
 ·rw[b9 hb] at e
  refine(x b u e).stay (fun c v hc q=>?_) (fun c q=>by rw[b9 (d8 q hn)];exact q) fun c xs q=>by rw[b9 (d8 q hn)];exact q
  have hcC:c≠C:=by
   rcases hc with z|z
   ·subst z;exact d8 e hC
   ·exact d8 z hC
  rw[k c hcC];exact q
abbrev mz (ifs:List Expr)(env:Env):Sem Bool:=forIn ifs true fun c r=>if r=true then do let ok←isTrue c env (eval c env);pure (ForInStep.yield ok) else pure (ForInStep.yield r)
def iQ (X:Cx)(ifs:List Expr)(t:TT):Prop:=
 ∀(pins:List (Addr×Obj)) (s:Shared) (σ:St) (H:Hp) (Q:Bool→Hp→Prop),Inv X pins σ H s→t σ H Q→wpAny (model X.prog X.w) X.A (mz ifs X.env) (TP X pins σ Q) X.xe s
theorem yd {X:Cx}:iQ X [] (fun _ H Q=>Q true H):=fun pins s σ H Q I h=>wpAny_tests_nil ⟨H,I,h⟩
theorem xJ {X:Cx}{c:Expr}{t:TT}(h:PT X c t):iQ X [c] t:=fun pins s σ H Q I hq=>wpAny_tests_one (h pins s σ H Q I hq)
section
variable {X:Cx} {pins:List (Addr×Obj)} {σ:St} {H:Hp} {s:Shared} {own:List Str} {js:List Nat} {scope:Scope}
variable {tg iter elt:Expr} {ifs:List Expr} {pos:Pos} {g:TG} {ti:TT} {te:TE}
structure BlockEnd (X:Cx) (pins:List (Addr×Obj)) (own:List Str) (js:List Nat) (scope:Scope) (σ:St) (H:Hp) (s:Shared) (fp:List Addr) (C D:Addr) (out:List V) (H':Hp) (s':Shared):Prop where
 inv:Inv (aB X own js scope C s H fp) (X.pn++pins) (mI own js σ) H' s'
 free:H' D=none
 obj:∃(its:List Value) (n:Nat),Vals out its∧s'.heap.get? D=some {cls:= .type "list",data:= .seq its.toArray n}
theorem BlockEnd.out {fp:List Addr}{C D:Addr}{out:List V}{H':Hp}{s':Shared}{h':Heap}(e:BlockEnd X pins own js scope σ H s fp C D out H' s')(I:Inv X pins σ H s)(hf:∀b∈fp,bA X pins H b)(hD:s.heap.objs.size≤D)(hC:s.heap.objs.size≤C)(hDC:D≠C)
  (hl:out.length≤sizeLine) (sb:Heap.SameBut C s'.heap h'):Inv X pins σ (n0 H' D (.lst out)) {s' with heap:=h'}:=by
 obtain⟨its,n,rv,ob⟩:=e.obj
 have J:=e.inv
 have U:Un (aC X.stack) fp H H' s.heap s'.heap:=J.base
 have same:∀b,b≠C→h'.get? b=s'.heap.get? b:=fun b hb=>sb.2 b hb
 have old:∀b o,s.heap.get? b=some o→b≠C∧b≠D:=fun b o q=>⟨Nat.ne_of_lt (Nat.lt_of_lt_of_le (Heap.lt_size q) hC),Nat.ne_of_lt (Nat.lt_of_lt_of_le (Heap.lt_size q) hD)⟩
 have hHC:H' C=none:=J.free
 refine I.call' (s':={s' with heap:=h'}) (ch:=fp) J.os ?_ ?_ J.bare fun b hb=>?_
 ·refine⟨fun b o q n hb hx=>?_,fun b o q n hb hx=>?_,fun b o q n hx=>?_,fun b o q hx=>?_,fun b xs q=>?_,fun b o u q=>?_,fun b ps q=>?_⟩
  ·show h'.get? b=_
   rw[same b (old b o q).1];exact U.keep b o q n hb hx
  ·show ∃sl,h'.get? b=_
   rw[same b (old b o q).1];exact U.slot b o q n hb hx
  ·rw[b9 (old b o q).2];exact U.free b o q n hx
  ·show ∃o',h'.get? b=_
   rw[same b (old b o q).1];exact U.there b o q hx
  ·rw[b9 (d8 (U.tups b xs q) e.free)];exact U.tups b xs q
  ·rw[b9 (d8 (U.frzs b o u q) e.free)];exact U.frzs b o u q
  ·obtain⟨mo,z⟩:=U.tbls b ps q
   exact⟨mo,by rw[b9 (d8 z e.free)];exact z⟩
 ·refine HOk.track J.hok hHC same e.free ?_
  exact⟨hl,its,n,rv,by rw[same D hDC];exact ob⟩
 ·exact⟨(hf b hb).2.2.2.1,(hf b hb).2.1,(hf b hb).2.2.2.2.1,(hf b hb).2.2.2.2.2⟩
theorem eu (S:ScB X own js scope)(hc:X.calm=true){fp:List Addr}{it C D:Addr}{tn:Nat→Heap→Prop}{J:It}(T:bU X.prog X.w X.K tg J fp it tn)(I:Inv X pins σ H s)(hf:∀b∈fp,bA X pins H b)
  (hD:s.heap.objs.size≤D) (hC:s.heap.objs.size≤C) (hDC:D≠C) (hob:∀b∈fp,∃o,s.heap.get? b=some o)
  (hg:PG (aB X own js scope C s H fp) tg g) (hi:iQ (aB X own js scope C s H fp) ifs ti) (he:PE (aB X own js scope C s H fp) elt te)
  (W:Nat→Nat→List V→Hp→Prop) {K:List V→Hp→Prop}
  (turn:∀i m out H,W i m out H→(J.stop i H∧(H D=none→out.length≤sizeLine∧K out H))∨
   (J.go i H∧∀x H',J.yld i H x H'→g x (mI own js σ) H' fun σ2 H2=>σ2.drop own.length=js.map (fun j=>(σ[j]?).join)∧ti σ2 H2 fun b H3=>
    if b=true then te σ2 H3 fun v H4=>out.length≤sizeLine∧∃m',m'<m∧W (i+1) m' (out++[v]) H4 else ∃m',m'<m∧W (i+1) m' out H3))
  {R:Result→Shared→Prop} (hR:∀out H' s',BlockEnd X pins own js scope σ H s fp C D out H' s'→out.length≤sizeLine→K out H'→R (.ok .next) s')
  {m0:Nat} {H1:Hp} {s1:Shared} (w0:W 0 m0 [] H1) (B:BlockEnd X pins own js scope σ H s fp C D [] H1 s1) (st:tn 0 s1.heap) (fr:∀b∈fp,H1 b=none):
  codeAny (model X.prog X.w) X.A (.compLoop (.ListComp elt [⟨tg,iter,ifs,0⟩] scope pos) 0 (.ref it) (.ref D) (compEnvC scope (cw scope X.env) C X.env)) R s1:=by
 have stat:∀{H':Hp},(∀b∈fp,H' b=none)→∀b∈fp,bA (aB X own js scope C s H fp) (X.pn++pins) H' b:=fun hn b hb=>by
  obtain⟨o,ho⟩:=hob b hb
  refine⟨hn b hb,Nat.ne_of_lt (Nat.lt_of_lt_of_le (Heap.lt_size ho) hC),?_,.inl hb,fun x c e=>(hf b hb).2.2.2.2.1 x c (N9 (S.cells I) e),fun p hp=>(hf b hb).2.2.2.2.2 p hp⟩
  intro z
  rcases List.mem_cons.mp (I.stkSub b z) with e|e
  ·exact(hf b hb).2.1 e
  ·exact(hf b hb).2.2.1 e
 have Dfp:D∉fp:=fun z=>by
  obtain⟨o,ho⟩:=hob D z
  exact absurd (Nat.lt_of_lt_of_le (Heap.lt_size ho) hD) (Nat.lt_irrefl _)
 have Dcell:∀x c,(aB X own js scope C s H fp).env.cells.lookup x=some c→c≠D:=fun x c e z=>by
  obtain⟨v,o,ho,_⟩:=I.cell x c (N9 (S.cells I) e)
  rw[z] at ho
  exact absurd (Nat.lt_of_lt_of_le (Heap.lt_size ho) hD) (Nat.lt_irrefl _)
 have Dpin:∀p∈X.pn++pins,p.1≠D:=fun p hp z=>by
  have ho:=(I.pin p hp).1
  rw[z] at ho
  exact absurd (Nat.lt_of_lt_of_le (Heap.lt_size ho) hD) (Nat.lt_irrefl _)
 have Dfs:D∉(aB X own js scope C s H fp).fs:=fun z=>by
  obtain⟨_,o,ho,_⟩:=I.stack.mem z
  exact absurd (Nat.lt_of_lt_of_le (Heap.lt_size ho) hD) (Nat.lt_irrefl _)
 refine codeAny_loop rfl (fun n s'=>∃i out H',BlockEnd X pins own js scope σ H s fp C D out H' s'∧tn i s'.heap∧(∀b∈fp,H' b=none)∧W i n out H') (fun n s3 hI=>?_) m0 ⟨0,[],H1,B,st,fr,w0⟩
 obtain⟨i,out,H3,B3,st3,fr3,w3⟩:=hI
 obtain⟨its,nD,rv,obD⟩:=B3.obj
 have pinD:∀{σ':St} {H':Hp} {s':Shared},Inv (aB X own js scope C s H fp) (X.pn++pins) σ' H' s'→H' D=none→s'.heap.get? D=some {cls:= .type "list",data:= .seq its.toArray nD}→
   Inv (aB X own js scope C s H fp) (X.pn++pins++[(D,{cls:= .type "list",data:= .seq its.toArray nD})]) σ' H' s':=fun{σ' H' s'} I' n' e'=>I'.pins_of fun p hp=>by
  rcases List.mem_append.mp hp with z|z
  ·exact I'.pin p (by show p∈([]:List (Addr×Obj))++_;exact List.mem_append_right _ z)
  ·have z':p=(D,{cls:= .type "list",data:= .seq its.toArray nD}):=by simpa using z
   subst z'
   exact⟨e',n',hDC,Dfs,fun v q=>by cases q⟩
 have stat':∀{H':Hp},(∀b∈fp,H' b=none)→∀b∈fp,bA (aB X own js scope C s H fp) (X.pn++pins++[(D,{cls:= .type "list",data:= .seq its.toArray nD})]) H' b:=fun hn b hb=>by
  obtain⟨a1,a2,a3,a4,a5,a6⟩:=stat hn b hb
  refine⟨a1,a2,a3,a4,a5,fun p hp=>?_⟩
  have hp':p∈X.pn++pins++[(D,{cls:= .type "list",data:= .seq its.toArray nD})]:=hp
  rcases List.mem_append.mp hp' with z|z
  ·exact a6 p (by show p∈([]:List (Addr×Obj))++_;exact z)
  ·have z':p=(D,{cls:= .type "list",data:= .seq its.toArray nD}):=by simpa using z
   subst z'
   rintro rfl
   exact Dfp hb
 have thx:∀{α:Type} {t:Sem α} {Q Q':α→Shared→Prop} {E:Value→Shared→Prop} {s:Shared},wpAny (model X.prog X.w) X.A t Q (fun _ _=>False) s→(∀a s,Q a s→Q' a s)→wpAny (model X.prog X.w) X.A t Q' E s:=
  fun h hQ=>wpAny_mono h hQ fun _ _ x=>x.elim
 have unD:∀{pl:List (Addr×Obj)} {σ':St} {H':Hp} {s':Shared},Inv (aB X own js scope C s H fp) (X.pn++pins++[(D,{cls:= .type "list",data:= .seq its.toArray nD})]++pl) σ' H' s'→Inv (aB X own js scope C s H fp) (X.pn++pins) σ' H' s'∧H' D=none∧s'.heap.get? D=some {cls:= .type "list",data:= .seq its.toArray nD}:=fun{pl σ' H' s'} I'=>by
  have q:=I'.pin (D,{cls:= .type "list",data:= .seq its.toArray nD}) (List.mem_append_right _ (List.mem_append_left _ (List.mem_append_right _ (by simp))))
  exact⟨I'.unpinned.unpinned,q.2.1,q.1⟩
 show wpAny _ X.A ((compTurn (.ListComp elt [⟨tg,iter,ifs,0⟩] scope pos) 0 (.ref it) (.ref D) (compEnvC scope (cw scope X.env) C X.env)).onRaise (fun x=>do noteFrame x (compEnvC scope (cw scope X.env) C X.env);theTreesLotGoes x)) _ _ s3
 refine wpAny_noted ?_
 rw[compTurn_list]
 refine wpAny_bind (wpAny_standAt (wpAny_bind ?_))
 rcases turn i n out H3 w3 with⟨stop,fin⟩|⟨go,step⟩
 ·refine G3 (T.done (aB X own js scope C s H fp) rfl rfl rfl hc i _ s3 _ H3 _ (pinD B3.inv B3.free obD) (stat' fr3) st3 stop) fun r s4 ⟨hr,I4⟩=>?_
  subst hr
  obtain⟨J4,n4,o4⟩:=unD (pl:=[]) (by rw[List.append_nil];exact I4)
  obtain⟨hl,k⟩:=fin B3.free
  exact wpAny_pure (hR out H3 s4 ⟨J4,n4,its,nD,rv,o4⟩ hl k)
 ·refine G3 (T.item (aB X own js scope C s H fp) rfl rfl rfl hc i _ s3 _ H3 _ (pinD B3.inv B3.free obD) (stat' fr3) st3 go) fun r s4 ⟨u,hr,h4⟩=>?_
  subst hr
  refine wpAny_bind (G3 h4 fun _ s5 ⟨x,H5,I5,r5,y5,st5,fr5⟩=>?_)
  have I5':=I5.pinned (stat' fr5) (T.obj _ _ st5)
  refine wpAny_bind (thx (hg _ s5 _ H5 x u _ I5' r5 (step x H5 y5)) fun _ s6 ⟨σ6,H6,I6,q6⟩=>?_)
  obtain⟨ed,q6⟩:=q6
  refine wpAny_bind (thx (hi _ s6 σ6 H6 _ I6 q6) fun ok s7 ⟨H7,I7,q7⟩=>?_)
  have stay:∀{H':Hp} {s':Shared},Inv (aB X own js scope C s H fp) (X.pn++pins++[(D,{cls:= .type "list",data:= .seq its.toArray nD})]++de fp s5.heap) σ6 H' s'→tn (i+1) s'.heap∧∀b∈fp,H' b=none:=fun{H' s'} I'=>by
   refine⟨T.keep _ _ _ st5 fun b hb o e=>(I'.pin (b,o) (List.mem_append_right _ (List.mem_append_right _ (X6 hb e)))).1,fun b hb=>?_⟩
   obtain⟨o,e,d⟩:=T.obj _ _ st5 b hb
   exact(I'.pin (b,o) (List.mem_append_right _ (List.mem_append_right _ (X6 hb e)))).2.1
  have wk:∀{H':Hp} {s':Shared},Inv (aB X own js scope C s H fp) (X.pn++pins) σ6 H' s'→Inv (aB X own js scope C s H fp) (X.pn++pins) (mI own js σ) H' s':=fun{H' s'} I'=>by
   refine I'.weak (by rw[I'.len];exact kn) fun k v e=>?_
   unfold mI at e
   by_cases hk:k<own.length
   ·rw[List.getElem?_append_left (by simpa using hk),List.getElem?_map,List.getElem?_eq_getElem hk] at e
    simp at e
   ·rw[List.getElem?_append_right (by simpa using hk)] at e
    have el:(own.map fun _=>(none:Option V)).length=own.length:=by simp
    rw[el,←ed,List.getElem?_drop] at e
    have ek:own.length+(k -own.length)=k:=by omega
    rw[ek] at e
    exact e
  cases ok with
  |false=>
   rw[if_neg Bool.false_ne_true] at q7
   obtain⟨m',hm,w7⟩:=q7
   obtain⟨J7,n7,o7⟩:=unD I7
   exact wpAny_pure ⟨rfl,m',hm,i+1,out,H7,⟨wk J7,n7,its,nD,rv,o7⟩,(stay I7).1,(stay I7).2,w7⟩
  |true=>
   rw[if_pos rfl] at q7
   refine wpAny_bind (wpAny_bind (thx (he _ s7 σ6 H7 _ I7 q7) fun y s8 ⟨v,H8,I8,r8,hl8,m',hm,w8⟩=>?_))
   obtain⟨J8,n8,o8⟩:=unD I8
   have isl:s8.heap.IsList D its.toArray:=⟨_,o8,rfl,nD,rfl⟩
   refine wpAny_bind (wpAny_list_append_plain (hsz:=by have:=rv.length;simp;omega) ⟨nD,o8⟩ fun h' hp' hs'=>?_)
   obtain⟨nn,ob'⟩:=hp'
   have ob2:h'.get? D=some {cls:= .type "list",data:= .seq (its++[y]).toArray nn}:=by
    rw[ob',List.push_toArray]
   have keep:∀b o,b≠D→s8.heap.get? b=some o→h'.get? b=some o:=fun b o hb e=>(hs'.2 b hb).trans e
   have J9:Inv (aB X own js scope C s H fp) (X.pn++pins) σ6 H8 {s8 with heap:=h'}:=J8.turned (t':=s8.toks) keep n8 hDC (.inr hD) Dcell (fun p hp=>Dpin p (by
    have hp':p∈([]:List (Addr×Obj))++(X.pn++pins):=hp
    rw[List.nil_append] at hp'
    exact hp'))
   refine wpAny_pure (wpAny_pure ⟨rfl,m',hm,i+1,out++[v],H8,⟨wk J9,n8,its++[y],nn,rv.append (.cons r8 .nil),ob2⟩,?_,(stay I8).2,w8⟩)
   exact T.keep _ _ _ (stay I8).1 fun b hb o e=>keep b o (by rintro rfl;exact Dfp hb) e
end
end L2
set_option Elab.async false
set_option linter.all false
set_option maxRecDepth 100000
set_option maxHeartbeats 4000000
namespace L2
open PySem PySem.Spec PyProof.Rows
def yT (n:Nat)(PV:Nat→V→Prop):It:=⟨fun i _=>i<n,fun i H x H'=>H'=H∧PV i x,fun i _=>n≤i⟩
theorem jT {M:Model}{A:Around}{E:Value→Shared→Prop}{s:Shared}{tg:Expr}{it:Addr}{u:Value}{Q:Unit→Shared→Prop}(hu:∀a,u≠ .ref a)(hQ:Q () s):wpAny M A (letOwnedTupleGo tg (.ref it) u) Q E s:=by
 unfold letOwnedTupleGo
 cases tg<;>first
  |exact wpAny_pure hQ
  |(cases u<;>first
    |exact wpAny_pure hQ
    |exact absurd rfl (hu _))
theorem cO {P:Program}{w:World}{K:PySem.W.Frag}{tg:Expr}{it:Addr}{n:Nat}{Pv:Nat→Value→Prop}{PV:Nat→V→Prop}{St:Nat→Heap→Prop}
  (W:∀A:Around,A.handled=none→Walks P w A it [it] [it] n Pv St) (hv:∀i u,Pv i u→(∀a,u≠ .ref a)∧∃x,RelV x u∧PV i x)
  (ho:∀i h,St i h→∃o,h.get? it=some o∧∀v,o.data≠ .cell v)
  (hk:∀i h h',St i h→(∀o,h.get? it=some o→h'.get? it=some o)→St i h')
  (hself:∀(A:Around) (i:Nat) (s:Shared) (Q:Value→Shared→Prop) (E:Value→Shared→Prop),St i s.heap→Q (.ref it) s→wpAny (model P w) A (pyIter (.ref it)) Q E s):
  bU P w K tg (yT n PV) [it] it (fun i h=>St i h∧i≤n) where
 mem:=by simp
 obj:=fun i h st b hb=>by
  have e:b=it:=by simpa using hb
  subst e
  exact ho i h st.1
 keep:=fun i h h' st k=>⟨hk i h h' st.1 fun o e=>k it (by simp) o e,st.2⟩
 item:=by
  intro X hP hw hK hc i pins s σ H E I hf st hg
  subst hP hw hK
  obtain⟨f0,f1,f2,f3,f4,f5⟩:=hf it (by simp)
  refine(W X.A (I.ok.hd hc)).item i s _ _ hg st.1 fun v h' tk hv' st' kk=>?_
  obtain⟨hne,x,rx,px⟩:=hv i v hv'
  have I1:Inv X pins σ H {s with heap:=h',toks:=tk}:=I.turned (fun b o hb e=>kk b o (by simpa using hb) e) f0 f1 f3 f4 f5
  exact⟨v,rfl,jT hne ⟨x,H,I1,rx,⟨rfl,px⟩,⟨st',hg⟩,fun b hb=>(hf b hb).1⟩⟩
 done:=by
  intro X hP hw hK hc i pins s σ H E I hf st hg
  subst hP hw hK
  obtain⟨f0,f1,f2,f3,f4,f5⟩:=hf it (by simp)
  have e:i=n:=Nat.le_antisymm st.2 hg
  subst e
  exact(W X.A (I.ok.hd hc)).done s _ _ st.1 fun h' tk kk=>⟨rfl,I.turned (fun b o hb e=>kk b o (by simpa using hb) e) f0 f1 f3 f4 f5⟩
 self:=fun A i s Q E st h=>hself A i s Q E st.1 h
def pL (c:Nat):V:= .str ⟨#[c]⟩
def rG (x:Str)(i:Nat)(v:V):Prop:=∃c,x.cps[i]?=some c∧v=pL c
def Its (x:Str):It:=yT x.cps.size (rG x)
theorem pj {x:Str}{i:Nat}{u:Value}(h:SignAt x i u):(∀a,u≠ .ref a)∧∃v,RelV v u∧rG x i v:=by
 obtain⟨c,t,hc,rfl⟩:=h
 exact⟨fun a z=>(by cases z),pL c,⟨t,rfl⟩,c,hc,rfl⟩
theorem mn {P:Program}{w:World}{K:PySem.W.Frag}{tg:Expr}(it:Addr)(x:Str)(t:Tok):bU P w K tg (Its x) [it] it (fun i h=>h.IsStrIter it "str_ascii_iterator" x t i∧i≤x.cps.size):=
 cO (fun A hh=>Walks.strAscii hh it x t) (fun i u h=>pj h)
  (fun i h st=>by obtain⟨o,e,c,d⟩:=st;exact⟨o,e,fun v z=>by rw[d] at z;cases z⟩)
  (fun i h h' st k=>let ⟨o,e,r⟩:=st;⟨o,k o e,r⟩)
  (fun A i s Q E st h=>wpAny_pyIter_striter_ascii st h)
theorem kQ {P:Program}{w:World}{K:PySem.W.Frag}{tg:Expr}(it:Addr)(x:Str)(t:Tok):bU P w K tg (Its x) [it] it (fun i h=>h.IsStrIter it "str_iterator" x t i∧i≤x.cps.size):=
 cO (fun A hh=>Walks.strWide hh it x t) (fun i u h=>pj h)
  (fun i h st=>by obtain⟨o,e,c,d⟩:=st;exact⟨o,e,fun v z=>by rw[d] at z;cases z⟩)
  (fun i h h' st k=>let ⟨o,e,r⟩:=st;⟨o,k o e,r⟩)
  (fun A i s Q E st h=>wpAny_pyIter_striter_wide st h)
section
variable {X:Cx} {tg:Expr}
def rIter (K:PySem.W.Frag)(v:V)(H:Hp)(R:It→Hp→Prop):Prop:=
 (∃a,v= .ref a∧(∃xs,SqL K H a xs)∧R (Itl K a) H)∨(∃a,v= .ref a∧(∃xs,SqT K H a xs)∧R (yQ K a) H)∨(∃x,v= .str x∧R (Its x) H)
theorem oQ {pins:List (Addr×Obj)}{σ:St}{H1:Hp}{s1:Shared}{x:V}{v:Value}{R:It→Hp→Prop}(I1:Inv X pins σ H1 s1)(r1:RelV x v)(q1:rIter X.K x H1 R):
  wpAny (model X.prog X.w) X.A (pyIter v) (xC X pins σ tg R) X.xe s1:=by
 have fp0:∀b∈[s1.heap.objs.size],bA X pins H1 b:=fun b hb=>by
  have e:b=s1.heap.objs.size:=by simpa using hb
  subst e
  exact I1.fpOk (Nat.le_refl _) (I1.hok.fresh (Nat.le_refl _))
 rcases q1 with⟨a,e,⟨xs,hq⟩,q⟩|⟨a,e,⟨xs,hq⟩,q⟩|⟨z,e,q⟩
 ·subst e
  cases r1
  obtain⟨its,rv,p,hz⟩:=I1.list hq
  refine wpAny_pyIter_list p.isList ?_
  exact⟨s1.heap.objs.size,[s1.heap.objs.size],_,_,H1,rfl,I1.kept (t':=s1.toks) fun b o e=>Heap.get?_push_of_some _ e,ma a _,⟨_,Heap.get?_push_size _ rfl,rfl,rfl⟩,fp0,q⟩
 ·subst e
  cases r1
  obtain⟨its,rv,p,hz⟩:=I1.tuple hq
  refine wpAny_pyIter_tuple (show s1.heap.IsTuple a its.toArray from p) ?_
  exact⟨s1.heap.objs.size,[s1.heap.objs.size],_,_,H1,rfl,I1.kept (t':=s1.toks) fun b o e=>Heap.get?_push_of_some _ e,jB a _,⟨_,Heap.get?_push_size _ rfl,rfl,rfl⟩,fp0,q⟩
 ·subst e
  obtain⟨t,rfl⟩:=r1
  cases ha:z.cps.all (·<128) with
  |false=>exact wpAny_pyIter_wide ha ⟨s1.heap.objs.size,[s1.heap.objs.size],_,_,H1,rfl,I1.kept (t':=s1.toks) fun b o e=>Heap.get?_push_of_some _ e,kQ _ z t,⟨⟨_,Heap.get?_push_size _ rfl,rfl,rfl⟩,Nat.zero_le _⟩,fp0,q⟩
  |true=>exact wpAny_pyIter_ascii ha ⟨s1.heap.objs.size,[s1.heap.objs.size],_,_,H1,rfl,I1.kept (t':=s1.toks) fun b o e=>Heap.get?_push_of_some _ e,mn _ z t,⟨⟨_,Heap.get?_push_size _ rfl,rfl,rfl⟩,Nat.zero_le _⟩,fp0,q⟩
end
section
variable {X:Cx}
theorem kc:∀{bs:List Bool} {us:List Value},Vals (bs.map V.bl) us→us=bs.map Value.bool
 |[],_,.nil=>rfl
 |b::bs,_,.cons r t=>by
  have e:_=Value.bool b:=r
  rw[e,kc t];rfl
theorem iH (bs:List Bool):((List.range bs.length).all fun i=>(bs[i]?).getD true)=bs.all id:=by
 rw[Bool.eq_iff_iff,List.all_eq_true,List.all_eq_true]
 constructor
 ·intro h b hb
  obtain⟨i,hi,rfl⟩:=List.getElem_of_mem hb
  have:=h i (List.mem_range.mpr hi)
  simpa [List.getElem?_eq_getElem hi] using this
 ·intro h i hi
  have hi':=List.mem_range.mp hi
  simpa [List.getElem?_eq_getElem hi'] using h _ (List.getElem_mem hi')
theorem rg {s:Shared}{h':Heap}{o:Obj}(hk:∀b x,b∉[s.heap.objs.size]→(s.heap.push o).get? b=some x→h'.get? b=some x):∀b x,s.heap.get? b=some x→h'.get? b=some x:=
 fun b x e=>hk b x (fun hm=>by rw[List.mem_singleton.mp hm] at e;exact Nat.lt_irrefl _ (Heap.lt_size e)) (Heap.get?_push_of_some _ e)
def iU (K:PySem.W.Frag):List V→Hp→VK→Prop:=fun xs H Q=>∃(p:Addr) (bs:List Bool),xs=[.ref p]∧SqL K H p (bs.map V.bl)∧Q (.bl (bs.all id)) H
theorem lL (hc:X.calm=true):CallR X (.builtin "all") (iU X.K):=by
 intro pins s σ H xs us Q I r h
 obtain⟨l,bs,rfl,hx,q⟩:=h
 obtain⟨u,rfl,ru⟩:=M9 r
 cases ru
 obtain⟨its,rv,ht,hz⟩:=I.list hx
 have e:=kc rv
 subst e
 have hl:=ht.isList
 have hlt:l<s.heap.objs.size:=ht.lt
 refine call_all_walk (wpAny_pyIter_list hl ?_)
 refine⟨s.heap.objs.size,[s.heap.objs.size,l],[s.heap.objs.size],(bs.map Value.bool).toArray.size,_,_,fun i=>(bs[i]?).getD true,rfl,Walks.list (A:=X.A.in1) (I.ok.hd hc) _ l (Nat.ne_of_lt hlt) (bs.map Value.bool).toArray,
  ⟨⟨_,Heap.get?_push_size _ rfl,rfl,rfl⟩,hl.push _⟩,fun i v s' Q' E' hP hQ=>?_,fun h' tk hk=>?_⟩
 ·have hP':(bs.map Value.bool)[i]?=some v:=by simpa using hP
  rw[List.getElem?_map] at hP'
  cases e:bs[i]? with
  |none=>rw[e] at hP';cases hP'
  |some b=>
   rw[e] at hP'
   cases hP'
   simp only[e,Option.getD_some] at hQ
   exact wpAny_truthy_bool hQ
 ·have e:((List.range (bs.map Value.bool).toArray.size).all fun i=>(bs[i]?).getD true)=bs.all id:=by
   rw[List.size_toArray,List.length_map];exact iH bs
  rw[e]
  exact⟨.bl (bs.all id),H,I.kept (rg hk),rfl,q⟩
def wq:V→Option Int→Option Int→Hp→VK→Prop:=fun x lo hi H Q=>∃z,x= .str z∧z.length≤sizeLine∧Q (.str (Txt.slice z lo hi)) H
theorem uE:SlR X wq:=by
 intro pins s σ H x v vl vu lo hi sl Q I rx hs pl pu h
 obtain⟨z,rfl,hz,q⟩:=h
 obtain⟨t,rfl⟩:=rx
 refine⟨"str",_,F.slot_str_getitem.lookup,typeIs_str _ _ _,?_⟩
 have fin:∀t' k,EP X pins σ Q (.str (Txt.slice z lo hi) t') {s with toks:=k}:=fun t' k=>⟨.str _,H,I.tok _,⟨t',rfl⟩,q⟩
 cases pl with
 |none=>
  cases pu with
  |none=>exact wpAny_getItem_str_slice (l:=none) (u:=none) (st:=none) hs rfl (post_val_or_str ⟨Nat.le_trans (Txt.slice_le z _ _) hz,fin⟩)
  |int j tj=>exact wpAny_getItem_str_slice (l:=none) (u:=some (j,tj)) (st:=none) hs rfl (post_val_or_str ⟨Nat.le_trans (Txt.slice_le z _ _) hz,fin⟩)
 |int i ti=>
  cases pu with
  |none=>exact wpAny_getItem_str_slice (l:=some (i,ti)) (u:=none) (st:=none) hs rfl (post_val_or_str ⟨Nat.le_trans (Txt.slice_le z _ _) hz,fin⟩)
  |int j tj=>exact wpAny_getItem_str_slice (l:=some (i,ti)) (u:=some (j,tj)) (st:=none) hs rfl (post_val_or_str ⟨Nat.le_trans (Txt.slice_le z _ _) hz,fin⟩)
def xu (K:PySem.W.Frag):V→Option Int→Option Int→Hp→VK→Prop:=fun x lo hi H Q=>xp K x lo hi H Q∨vS K x lo hi H Q∨wq x lo hi H Q
theorem uK:SlR X (xu X.K):=sl_list.or (sl_tup.or uE)
def yM (neg:Bool):R2:=fun x y H Q=>(y= .non∨∃b,y= .bl b)∧Q (.bl (if neg then !decide (x=y) else decide (x=y))) H
def TyB (K:PySem.W.Frag)(H:Hp):V→String→Prop
 | .non,t=>t="NoneType"
 | .bl _,t=>t="bool"
 | .int _,t=>t="int"
 | .str _,t=>t="str"
 | .ref a,t=>(t="list"∧∃xs,SqL K H a xs)∨(t="tuple"∧∃xs,SqT K H a xs)∨(t="dict"∧∃kvs,Rd H a (.dK kvs))
 |_,_=>False
def Y3 (t T:String):Bool:=t==T||(t=="bool"&&T=="int")
def ql (K:PySem.W.Frag):List V→Hp→VK→Prop:=fun xs H Q=>∃x T t,xs=[x,.ty T]∧TyB K H x t∧(T="str"∨T="int"∨T="bool"∨T="list"∨T="tuple"∨T="dict")∧Q (.bl (Y3 t T)) H
theorem Q9 {K:PySem.W.Frag}{t T:String}(ht:t="NoneType"∨t="bool"∨t="int"∨t="str"∨t="list"∨t="tuple"∨t="dict")(hT:T="str"∨T="int"∨T="bool"∨T="list"∨T="tuple"∨T="dict"):
  PySem.W.kitOne K (.type t) (.type T)=some (Y3 t T):=by
 rcases ht with rfl|rfl|rfl|rfl|rfl|rfl|rfl<;>rcases hT with rfl|rfl|rfl|rfl|rfl|rfl<;>rfl
theorem call_isi:CallR X (.builtin "isinstance") (ql X.K):=by
 intro pins s σ H xs us Q I r h
 obtain⟨x,T,t,rfl,ty,hT,q⟩:=h
 obtain⟨u,c,rfl,rx,rc⟩:=cj r
 cases rc
 have fin:∀tk,EP X pins σ Q (.bool (Y3 t T)) {s with toks:=tk}:=fun tk=>⟨.bl _,H,I.tok tk,rfl,q⟩
 cases x with
 |non=>cases ty;cases (show u=Value.none from rx);exact PySem.W.kia_one PySem.W.kitx_none I.kIn True.intro (Q9 (by simp) hT) (fun z=>nomatch z) fin
 |bl y=>cases ty;cases (show u=Value.bool y from rx);exact PySem.W.kia_one PySem.W.kitx_bool I.kIn True.intro (Q9 (by simp) hT) (fun z=>nomatch z) fin
 |int i=>cases ty;obtain⟨t,q⟩:=(show ∃t,u=Value.int i t from rx);cases q;exact PySem.W.kia_one PySem.W.kitx_int I.kIn True.intro (Q9 (by simp) hT) (fun z=>nomatch z) fin
 |str y=>cases ty;obtain⟨t,q⟩:=(show ∃t,u=Value.str y t from rx);cases q;exact PySem.W.kia_one PySem.W.kitx_str I.kIn True.intro (Q9 (by simp) hT) (fun z=>nomatch z) fin
 |byt _=>exact False.elim ty
 |flt _=>exact False.elim ty
 |ty _=>exact False.elim ty
 |ref a=>
  cases (show u=Value.ref a from rx)
  rcases ty with⟨rfl,ys,hy⟩|⟨rfl,ys,hy⟩|⟨rfl,kvs,hy⟩
  ·obtain⟨its,_,⟨o,n,e,c,_,_⟩,_⟩:=I.list hy
   exact PySem.W.kia_one PySem.W.kitx_list I.kIn ⟨o,e,c⟩ (Q9 (by simp) hT) (fun z=>nomatch z) fin
  ·obtain⟨its,_,⟨o,e,c,_⟩,_⟩:=I.tuple hy
   exact PySem.W.kia_one PySem.W.kitx_tuple I.kIn ⟨o,e,c⟩ (Q9 (by simp) hT) (fun z=>nomatch z) fin
  ·obtain⟨_,_,vs,_,o,es,ep,h1,h2,_⟩:=J5 I.hok hy
   exact PySem.W.kia_one PySem.W.kitx_dict I.kIn ⟨o,h1,h2.1⟩ (Q9 (by simp) hT) (fun z=>nomatch z) fin
end
end L2
set_option Elab.async false
set_option linter.all false
set_option maxRecDepth 100000
set_option maxHeartbeats 4000000
namespace L2
open PySem PySem.Spec PyProof.Rows
section
variable {X:Cx}
def bz (K:PySem.W.Frag):R2:=fun x y H Q=>rK (fun i j=> .int (i+j)) x y H Q∨(∃i j,x= .str i∧y= .str j∧i.length+j.length≤sizeLine∧Q (.str (i++j)) H)∨wW x y H Q∨rX K x y H Q
theorem qH:OpR X (binaryOp .Add) (bz X.K):=op_add.or (op_add_str.or (op_cat.or qg))
theorem op_in_sgn:OpR X (compareOp .In) (fun x y H Q=>∃c j,x=pL c∧y= .str j∧Q (.bl (decide (c∈j.cps.toList))) H):=by
 intro pins s σ H x y v u Q I rx ry h
 obtain⟨c,j,rfl,rfl,q⟩:=h
 refine ml pins s σ H _ _ v u Q I rx ry ⟨⟨#[c]⟩,j,rfl,rfl,?_⟩
 rw[StrLaws.found_one];exact q
theorem op_notIn_sgn:OpR X (compareOp .NotIn) (fun x y H Q=>∃c j,x=pL c∧y= .str j∧Q (.bl (!decide (c∈j.cps.toList))) H):=by
 intro pins s σ H x y v u Q I rx ry h
 obtain⟨c,j,rfl,rfl,q⟩:=h
 refine fT pins s σ H _ _ v u Q I rx ry ⟨⟨#[c]⟩,j,rfl,rfl,?_⟩
 rw[StrLaws.found_one];exact q
theorem je (hu:X.A.units+1<cLine):OpR X (compareOp .In) (fun y x H Q=>∃a o,x= .ref a∧DGet H a y o∧Q (.bl o.isSome) H):=by
 intro pins s σ H y x v u Q I ry rx h
 obtain⟨a,o,rfl,g,q⟩:=h
 cases rx
 exact xU hu I g ry fun s' I'=>⟨.bl _,H,I',rfl,q⟩
theorem dZ (hu:X.A.units+1<cLine):OpR X (compareOp .NotIn) (fun y x H Q=>∃a o,x= .ref a∧DGet H a y o∧Q (.bl (!o.isSome)) H):=by
 intro pins s σ H y x v u Q I ry rx h
 obtain⟨a,o,rfl,g,q⟩:=h
 cases rx
 exact rB hu I g ry fun s' I'=>⟨.bl _,H,I',rfl,q⟩
def qv (K:PySem.W.Frag):R2:=fun x y H Q=>(∃c j,x=pL c∧y= .str j∧Q (.bl (decide (c∈j.cps.toList))) H)∨xI K false x y H Q∨(∃a o,y= .ref a∧DGet H a x o∧Q (.bl o.isSome) H)
def cG (K:PySem.W.Frag):R2:=fun x y H Q=>(∃c j,x=pL c∧y= .str j∧Q (.bl (!decide (c∈j.cps.toList))) H)∨xI K true x y H Q∨(∃a o,y= .ref a∧DGet H a x o∧Q (.bl (!o.isSome)) H)
theorem uR (hu:X.A.units+1<cLine):OpR X (compareOp .In) (qv X.K):=op_in_sgn.or (op_in_seq.or (je hu))
theorem lZ (hu:X.A.units+1<cLine):OpR X (compareOp .NotIn) (cG X.K):=op_notIn_sgn.or (op_notIn_seq.or (dZ hu))
def uA:R2:=fun x y H Q=>rK (fun i j=> .bl (decide (i<j))) x y H Q∨(∃i j,x= .str i∧y= .str j∧Q (.bl (decide (i.cps.toList<j.cps.toList))) H)
theorem iO:OpR X (compareOp .Lt) uA:=op_lt.or lP
theorem pT (hu:X.A.units+1<cLine):IxR X (fun x y H Q=>∃a v,x= .ref a∧DGet H a y (some v)∧Q v H):=by
 intro value slice pins s σ H x y v u Q I rx ry h hs
 obtain⟨a,z,rfl,g,q⟩:=h
 cases rx
 exact tail_any (gO I g) PySem.F.slot_dict_getitem.lookup (lu hu I g ry fun w2 s' I' r'=>⟨z,H,I',r',q⟩) hs
def iZ (K:PySem.W.Frag):R2:=fun x y H Q=>yJ K x y H Q∨(∃a v,x= .ref a∧DGet H a y (some v)∧Q v H)
theorem tE (hu:X.A.units+1<cLine):IxR X (iZ X.K):=ix_seq.or (pT hu)
def jg (K:PySem.W.Frag):List V→Hp→VK→Prop:=fun xs H Q=>(∃x n,xs=[x]∧wc K x H n∧Q (.int n) H)∨(∃a kvs,xs=[V.ref a]∧Rd H a (.dK kvs)∧Q (.int kvs.length) H)
theorem call_lenX:CallR X (.builtin "len") (jg X.K):=by
 refine call_len.or ?_
 intro pins s σ H xs us Q I r h
 obtain⟨a,kvs,rfl,ha,q⟩:=h
 obtain⟨u,rfl,ru⟩:=M9 r
 cases ru
 exact vv I ha fun t s' I'=>⟨.int kvs.length,H,I',⟨t,rfl⟩,q⟩
end
def A7 (P:Program)(w:World)(K:PySem.W.Frag)(mg:Str→Option Value)(base:Heap)(CX:gd)(k:Nat)(x:Str)(ps:List Str)(dvs:List V)(sp:Sp):Prop:=
 ∃f fd ds,FnOk P w K mg base CX k f fd ps sp∧mg x=some (.ref f)∧PySem.W.keepIn K (.ref f)=true∧Binds K fd ps ds∧Vals dvs ds
section
variable {X:Cx} {CX:gd} {k:Nat} {x:Str} {ps:List Str} {dvs:List V} {sp:Sp} {E:XK} {e:Expr} {es:List Expr} {t:TA} {p pos:Pos}
theorem oq (C:A7 X.prog X.w X.K X.mg X.base CX k x ps dvs sp)(hr:Room k X.A)(hx:aM CX X E)(ha:PA X (e::es) t)(hg:Gl X x:=by rfl)
  (hdb:(x==("__debug__":Str))=false:=by decide) (he:starEach (e::es) X.env=(false,eval e X.env)::starEach es X.env:=by rfl) (hpl:(backTo pos (starEach es X.env)).any (·.1)=false:=by rfl):
  PE X (.Call (.Name x p) (e::es) [] pos) (gL sp dvs E t):=by
 obtain⟨f,fd,ds,F,hm,hk,hb,hd⟩:=C
 exact qL F hr hg hm hk hb hd hx ha hdb he hpl
def mx (mg:Str→Option Value)(x:Str)(v:V):Prop:=∃u,mg x=some u∧RelV v u
theorem uh {v:V}(h:mx X.mg x v)(hg:Gl X x:=by rfl)(hd:(x==("__debug__":Str))=false:=by decide):PE X (.Name x pos) (tC v):=by
 obtain⟨u,hm,r⟩:=h
 exact qh hg hm r hd
theorem x8 {k:Nat}{A:Around}(r:Room k A):A.units+1<cLine:=by have:=r.un;omega
end
section
variable {K:PySem.W.Frag} {σ:St} {H:Hp} {Q:VK} {D:iA} {nx bk ct:St→Hp→Prop} {rt:VK}
theorem xh {i:Nat}{v:V}(h:σ[i]?=some (some v))(q:Q v H):sg i σ H Q:=⟨v,h,q⟩
theorem ze {v:V}(q:Q v H):tC v σ H Q:=q
theorem xO {r:R2}{ta tb:TE}(q:ta σ H fun x H1=>tb σ H1 fun y H2=>r x y H2 Q):qU r ta tb σ H Q:=q
theorem ux {t:TE}{Qb:Bool→Hp→Prop}(q:t σ H fun x H'=>∃k,x= .bl k∧Qb k H'):pd t σ H Qb:=q
theorem yc {b:Bool}{Qb:Bool→Prop}(q:Qb b):∃k,V.bl b= .bl k∧Qb k:=⟨b,rfl,q⟩
theorem vG {b:Bool}{Qb:Bool→Prop}(q:Qb b):∃k,oC K (V.bl b) H k∧Qb k:=⟨b,rfl,q⟩
theorem vV {t:TT}{Qb:Bool→Hp→Prop}(q:t σ H fun c H1=>Qb (!c) H1):sS t σ H Qb:=q
theorem wH {t u:TT}{Qb:Bool→Hp→Prop}(q:t σ H fun c H1=>if c=true then u σ H1 Qb else Qb false H1):sO t u σ H Qb:=q
theorem ye {t u:TT}{Qb:Bool→Hp→Prop}(q:t σ H fun c H1=>if c=true then Qb true H1 else u σ H1 Qb):yA t u σ H Qb:=q
theorem so {ta tb:TE}(q:ta σ H fun x H1=>∃c,x= .bl c∧if c=true then tb σ H1 Q else Q (.bl false) H1):oS ta tb σ H Q:=q
theorem wL {ta tb:TE}(q:ta σ H fun x H1=>∃c,x= .bl c∧if c=true then Q (.bl true) H1 else tb σ H1 Q):xM ta tb σ H Q:=q
theorem ve {ta:TE}(q:ta σ H fun x H1=>∃c,x= .bl c∧Q (.bl (!c)) H1):vU ta σ H Q:=q
theorem yB {t:TT}{ta tb:TE}(q:t σ H fun c H1=>if c=true then ta σ H1 Q else tb σ H1 Q):xK t ta tb σ H Q:=q
theorem vy {Qa:List V→Hp→Prop}(q:Qa [] H):jk σ H Qa:=q
theorem uC {ta:TE}{tr:TA}{Qa:List V→Hp→Prop}(q:ta σ H fun x H1=>tr σ H1 fun xs H2=>Qa (x::xs) H2):kC ta tr σ H Qa:=q
theorem tm {sp:Sp}{dvs:List V}{E:XK}{t:TA}(q:t σ H fun vs H1=>sp (vs++dvs) H1 Q E):gL sp dvs E t σ H Q:=q
theorem yE {r:List V→Hp→VK→Prop}{t:TA}(q:t σ H fun vs H1=>r vs H1 Q):sh r t σ H Q:=q
theorem xX {r:V→Option Int→Option Int→Hp→VK→Prop}{te:TE}{tl th:TO}(q:te σ H fun x H1=>tl σ H1 fun l H2=>th σ H2 fun u H3=>r x l u H3 Q):yq r te tl th σ H Q:=q
theorem mP {Qo:Option Int→Hp→Prop}(q:Qo none H):fq σ H Qo:=q
theorem uy {t:TE}{Qo:Option Int→Hp→Prop}(q:t σ H fun x H1=>∃i,x= .int i∧Qo (some i) H1):oZ t σ H Qo:=q
theorem vC {i:Int}{Qo:Int→Prop}(q:Qo i):∃j,V.int i= .int j∧Qo j:=⟨i,rfl,q⟩
theorem qr {r r':R2}{ta tb tc:TE}(q:ta σ H fun x H1=>tb σ H1 fun y H2=>r x y H2 fun z H3=>∃k,z= .bl k∧(if k=true then tc σ H3 fun w' H4=>r' y w' H4 Q else Q (.bl false) H3)):tJ r r' ta tb tc σ H Q:=q
theorem kX {i j:Int}(q:Q (.int (i+j)) H):bz K (.int i) (.int j) H Q:= .inl ⟨i,j,rfl,rfl,q⟩
theorem i7 {i j:Str}(h:i.length+j.length≤sizeLine)(q:Q (.str (i++j)) H):bz K (.str i) (.str j) H Q:= .inr (.inl ⟨i,j,rfl,rfl,h,q⟩)
theorem yG {g:Int→Int→V}{i j:Int}(q:Q (g i j) H):rK g (.int i) (.int j) H Q:=⟨i,j,rfl,rfl,q⟩
theorem yY {C:Int→Int→Prop}{g:Int→Int→V}{i j:Int}(h:C i j)(q:Q (g i j) H):rI C g (.int i) (.int j) H Q:=⟨i,j,rfl,rfl,h,q⟩
theorem mY {i j:Int}(q:Q (.bl (decide (i<j))) H):uA (.int i) (.int j) H Q:= .inl ⟨i,j,rfl,rfl,q⟩
theorem oN {i j:Str}(q:Q (.bl (decide (i.cps.toList<j.cps.toList))) H):uA (.str i) (.str j) H Q:= .inr ⟨i,j,rfl,rfl,q⟩
theorem iq {i j:Int}(q:Q (.bl (decide (i=j))) H):vZ (.int i) (.int j) H Q:=⟨rfl,by rw[cH];rw[show(i==j)=decide (i=j) from Bool.beq_eq_decide_eq i j];exact q⟩
theorem jG {i j:Bool}(q:Q (.bl (decide (i=j))) H):vZ (.bl i) (.bl j) H Q:=⟨rfl,by rw[fO];rw[show(i==j)=decide (i=j) from Bool.beq_eq_decide_eq i j];exact q⟩
theorem gv {i j:Str}(q:Q (.bl (decide (i=j))) H):vZ (.str i) (.str j) H Q:=⟨rfl,by rw[fF];rw[show(i==j)=decide (i=j) from Bool.beq_eq_decide_eq i j];exact q⟩
theorem oU {c:Nat}{j:Str}(q:Q (.bl (decide (c∈j.cps.toList))) H):qv K (pL c) (.str j) H Q:= .inl ⟨c,j,rfl,rfl,q⟩
theorem gu {c:Nat}{j:Str}(q:Q (.bl (!decide (c∈j.cps.toList))) H):cG K (pL c) (.str j) H Q:= .inl ⟨c,j,rfl,rfl,q⟩
theorem ak {y:Str}(h:y.length≤sizeLine)(q:Q (.int y.length) H):jg K [.str y] H Q:= .inl ⟨.str y,y.length,rfl,⟨h,rfl⟩,q⟩
theorem N5 {p:Addr}{xs:List V}(h:SqL K H p xs)(q:Q (.int xs.length) H):jg K [.ref p] H Q:= .inl ⟨.ref p,xs.length,rfl,.inl ⟨xs,h,rfl⟩,q⟩
theorem av {p:Addr}{xs:List V}(h:SqT K H p xs)(q:Q (.int xs.length) H):jg K [.ref p] H Q:= .inl ⟨.ref p,xs.length,rfl,.inr ⟨xs,h,rfl⟩,q⟩
theorem G9 {p:Addr}{kvs:List (g7×V)}(h:Rd H p (.dK kvs))(q:Q (.int kvs.length) H):jg K [.ref p] H Q:= .inr ⟨p,kvs,rfl,h,q⟩
theorem C3 {p:Addr}{xs:List V}{i:Int}{v:V}(h:SqL K H p xs)(e:fv xs i=some v)(q:Q v H):iZ K (.ref p) (.int i) H Q:= .inl (.inl ⟨p,xs,i,v,rfl,rfl,h,e,q⟩)
theorem b5 {p:Addr}{xs:List V}{i:Int}{v:V}(h:SqT K H p xs)(e:fv xs i=some v)(q:Q v H):iZ K (.ref p) (.int i) H Q:= .inl (.inr (.inl ⟨p,xs,i,v,rfl,rfl,h,e,q⟩))
theorem K2 {z:Str}{i:Int}{c:Nat}(hz:z.length≤sizeLine)(e:fv z.cps.toList i=some c)(q:Q (pL c) H):iZ K (.str z) (.int i) H Q:= .inl (.inr (.inr ⟨z,i,c,rfl,rfl,hz,e,q⟩))
theorem E9 {p:Addr}{y v:V}(g:DGet H p y (some v))(q:Q v H):iZ K (.ref p) y H Q:= .inr ⟨p,v,rfl,g,q⟩
theorem U7 {p:Addr}{xs:List V}{lo hi:Option Int}(h:SqL K H p xs)(q:∀p,H p=none→Q (.ref p) (n0 H p (.lst (S9 xs lo hi)))):xu K (.ref p) lo hi H Q:= .inl ⟨p,xs,rfl,h,q⟩
theorem T5 {z:Str}{lo hi:Option Int}(hz:z.length≤sizeLine)(q:Q (.str (Txt.slice z lo hi)) H):xu K (.str z) lo hi H Q:= .inr (.inr ⟨z,rfl,hz,q⟩)
theorem cg {l b:Addr}{xs zs:List V}(h1:H l=some (.lst xs))(h2:H b=some (.lst zs))(hz:xs.length+zs.length≤sizeLine)(q:∀p,H p=none→Q (.ref p) (n0 H p (.lst (xs++zs)))):bz K (.ref l) (.ref b) H Q:= .inr (.inr (.inl ⟨l,b,xs,zs,rfl,rfl,h1,h2,hz,q⟩))
theorem yH {neg:Bool}{x:V}{b:Bool}(q:Q (.bl (if neg then !decide (x= .bl b) else decide (x= .bl b))) H):yM neg x (.bl b) H Q:=⟨.inr ⟨b,rfl⟩,q⟩
theorem vE {neg:Bool}{x:V}(q:Q (.bl (if neg then !decide (x= .non) else decide (x= .non))) H):yM neg x .non H Q:=⟨.inl rfl,q⟩
theorem M5 {x:V}{t T:String}(ty:TyB K H x t)(hT:T="str"∨T="int"∨T="bool"∨T="list"∨T="tuple"∨T="dict")(q:Q (.bl (Y3 t T)) H):ql K [x,.ty T] H Q:=⟨x,T,t,rfl,ty,hT,q⟩
theorem aW {p:Addr}{bs:List Bool}(h:SqL K H p (bs.map V.bl))(q:Q (.bl (bs.all id)) H):iU K [.ref p] H Q:=⟨p,bs,rfl,h,q⟩
theorem wK {t:TA}(q:t σ H fun xs H1=>xs.length≤sizeLine∧∀p,H1 p=none→Q (.ref p) (n0 H1 p (.tup xs))):ue t σ H Q:=q
theorem vW {t:TA}(q:t σ H fun xs H1=>xs.length≤sizeLine∧∀p,H1 p=none→Q (.ref p) (n0 H1 p (.lst xs))):vg t σ H Q:=q
theorem eL {t u:TS}(q:t ⟨u ⟨nx,rt,bk,ct⟩,rt,bk,ct⟩ σ H):og t u ⟨nx,rt,bk,ct⟩ σ H:=q
theorem uT (q:nx σ H):ny ⟨nx,rt,bk,ct⟩ σ H:=q
theorem vY {te:TE}(q:te σ H rt):sW te ⟨nx,rt,bk,ct⟩ σ H:=q
theorem tN {te:TE}(q:te σ H fun _ H1=>nx σ H1):oB te ⟨nx,rt,bk,ct⟩ σ H:=q
theorem vq {c:TT}{t u:TS}(q:c σ H fun b H1=>if b=true then t ⟨nx,rt,bk,ct⟩ σ H1 else u ⟨nx,rt,bk,ct⟩ σ H1):sQ c t u ⟨nx,rt,bk,ct⟩ σ H:=q
theorem wN {te:TE}{g:TG}(q:te σ H fun x H1=>g x σ H1 nx):iu te g ⟨nx,rt,bk,ct⟩ σ H:=q
theorem tI {i:Nat}{v:V}{Qs:St→Hp→Prop}(q:Qs (σ.set i (some v)) H):Z8 i v σ H Qs:=q
end
end L2
set_option Elab.async false
set_option linter.all false
set_option maxRecDepth 100000
set_option maxHeartbeats 4000000
namespace L2
open PySem PySem.Spec PyProof.Rows
section
variable {X:Cx} {pins:List (Addr×Obj)} {σ:St} {H:Hp} {s:Shared} {d:Addr} {kvs:List (g7×V)} {o:Obj}
abbrev B9 (d:Addr)(o:Obj)(kvs:List (g7×V))(H:Hp):Hp:=n0 H d (.frz o (.dK kvs))
theorem Inv.freeze (I:Inv X pins σ H s)(h:H d=some (.dK kvs))(ho:s.heap.get? d=some o):Inv X pins σ (B9 d o kvs H) s:=by
 have nd:∀b u,H b=some u→u≠ .dK kvs→b≠d:=fun b u e n z=>by
  subst z;rw[h] at e;exact n (Option.some.inj e).symm
 have hok:HOk X.prog X.w (B9 d o kvs H) s.heap:=fun b u e=>by
  have st:∀{a:Addr} {u:HO},ObjOk X.prog X.w H s.heap a u→ObjOk X.prog X.w (B9 d o kvs H) s.heap a u:=fun{a u} x=>
   x.stay (fun c v _ q=>q) (fun c q=>by unfold B9;rw[b9 (nd c _ q (by intro z;cases z))];exact q) fun c xs q=>by unfold B9;rw[b9 (nd c _ q (by intro z;cases z))];exact q
  by_cases hb:b=d
  ·subst hb
   unfold B9 at e
   rw[d9] at e
   cases e
   exact⟨ho,st (I.hok _ _ h)⟩
  ·unfold B9 at e
   rw[b9 hb] at e
   exact st (I.hok b u e)
 have q:=I.un (H':=B9 d o kvs H) (h':=s.heap) (t':=s.toks) ⟨fun b o e n hb hx=>e,fun b o e n hb hx=>⟨o.slots,e⟩,fun b o e n hx=>by
  unfold B9;rw[b9 (fun z=>by subst z;rw[h] at n;cases n)];exact n,fun b o e _=>⟨o,e⟩,fun b xs e=>by unfold B9;rw[b9 (nd b _ e (by intro z;cases z))];exact e,
  fun b o u e=>by unfold B9;rw[b9 (nd b _ e (by intro z;cases z))];exact e,fun b ps e=>⟨#[],by unfold B9;rw[b9 (nd b _ e (by intro z;cases z))];simpa using e⟩⟩ hok
 exact q
def wu:Option HO→Option HO
 |some (.frz _ u)=>some u
 |o=>o
def thaw (d:Addr)(H:Hp):Hp:=fun b=>if b=d then wu (H d) else H b
theorem N0 {b:Addr}(h:b≠d):thaw d H b=H b:=by unfold thaw;rw[if_neg h]
theorem fw {u:HO}(h:H d=some (.frz o u)):thaw d H d=some u:=by unfold thaw;rw[if_pos rfl,h];rfl
theorem nH {u:HO}(h:H d=some (.frz o u)):thaw d H=n0 H d u:=by
 funext b
 by_cases hb:b=d
 ·subst hb;rw[fw h,d9]
 ·rw[N0 hb,b9 hb]
theorem kB (h:∀o u,H d≠some (.frz o u)):thaw d H=H:=by
 funext b
 by_cases hb:b=d
 ·subst hb
  unfold thaw
  rw[if_pos rfl]
  cases q:H b with
  |none=>rfl
  |some u=>cases u with
   |frz o u=>exact absurd q (h o u)
   |_=>rfl
 ·exact N0 hb
def pP (X:Cx)(th:Hp→Hp):Prop:=∀(pins:List (Addr×Obj)) (σ:St) (H:Hp) (s:Shared),Inv X pins σ H s→Inv X pins σ (th H) s
theorem cF:pP X id:=fun _ _ _ _ I=>I
theorem kP (hn:∀o u,X.H₀ d≠some (.frz o u)):pP X (thaw d):=fun pins σ H s I=>by
 by_cases hf:∃o u,H d=some (.frz o u)
 ·obtain⟨o,u,h⟩:=hf
  rw[nH h]
  have nd:∀b v,H b=some v→v≠ .frz o u→b≠d:=fun b v e n z=>by
   subst z;rw[h] at e;exact n (Option.some.inj e).symm
  have nn:∀b,H b=none→b≠d:=fun b e z=>by subst z;rw[h] at e;cases e
  have st:∀{a:Addr} {v:HO},ObjOk X.prog X.w H s.heap a v→ObjOk X.prog X.w (n0 H d u) s.heap a v:=fun{a v} x=>
   x.stay (fun c v _ q=>q) (fun c q=>by rw[b9 (nd c _ q (by intro z;cases z))];exact q) fun c xs q=>by rw[b9 (nd c _ q (by intro z;cases z))];exact q
  refine⟨I.ok,I.os,I.bare,⟨I.base.keep,I.base.slot,fun b ob e n hx=>?_,I.base.there,fun b xs e=>?_,fun b ob v e=>?_,fun b ps e=>?_⟩,I.loc,I.cell,?_,fun x c e=>?_,fun p hp=>?_,fun b v e=>?_,I.len⟩
  ·have q:=I.base.free b ob e n hx
   rw[b9 (nn b q)];exact q
  ·have q:=I.base.tups b xs e
   rw[b9 (nd b _ q (by intro z;cases z))];exact q
  ·have q:=I.base.frzs b ob v e
   rw[b9 (fun z=>by subst z;exact hn ob v e)];exact q
  ·obtain⟨m,q⟩:=I.base.tbls b ps e
   exact⟨m,by rw[b9 (nd b _ q (by intro z;cases z))];exact q⟩
  ·rw[b9 (nn _ I.free)];exact I.free
  ·have q:=I.freeC x c e
   rw[b9 (nn _ q)];exact q
  ·obtain⟨a1,a2,a3⟩:=I.pin p hp
   exact⟨a1,by rw[b9 (nn _ a2)];exact a2,a3⟩
  ·by_cases hb:b=d
   ·subst hb
    rw[d9] at e
    cases e
    exact st (I.hok _ _ h).2
   ·rw[b9 hb] at e
    exact st (I.hok b v e)
 ·rw[kB fun o u e=>hf ⟨o,u,e⟩];exact I
theorem Same.thaw {H H':Hp}(h:H d=some (.dK kvs))(e:Same (B9 d o kvs H) H'):Same H (thaw d H'):=fun b u q=>by
 by_cases hb:b=d
 ·subst hb
  rw[h] at q;cases q
  have z:=e b _ (show B9 b o kvs H b=some _ from d9)
  exact fw z
 ·rw[N0 hb]
  exact e b u (by unfold B9;rw[b9 hb];exact q)
end
abbrev gR:=St→Hp→(It→(Hp→Hp)→Hp→Prop)→Prop
def qN (X:Cx)(tg iter:Expr)(wi:gR):Prop:=
 ∀(pins:List (Addr×Obj)) (s:Shared) (σ:St) (H:Hp) (R:It→(Hp→Hp)→Hp→Prop),Inv X pins σ H s→wi σ H R→
  wpAny (model X.prog X.w) X.A (eval iter X.env) (fun v s1=>wpAny (model X.prog X.w) X.A (pyIter v) (xC X pins σ tg fun J H'=>∃th,pP X th∧R J th H') X.xe s1) X.xe s
theorem PI.two {X:Cx}{tg iter:Expr}{wi:TI}(h:PI X tg iter wi):qN X tg iter (fun σ H R=>wi σ H fun J H'=>R J id H'):=by
 intro pins s σ H R I q
 refine G3 (h pins s σ H _ I q) fun v s1 h1=>G3 h1 fun itv s2 h2=>?_
 obtain⟨it,fp,tn,J,H',e,I',T,st,f,q⟩:=h2
 exact⟨it,fp,tn,J,H',e,I',T,st,f,id,cF,q⟩
def qK (J:It)(th:Hp→Hp)(g:TG)(tb:TS)(nx:St→Hp→Prop)(rt:VK)(σ:St)(H1:Hp):Prop:=∃W:Nat→Nat→St→Hp→Prop,(∃m,W 0 m σ H1)∧∀i m σ H,W i m σ H→
 (J.stop i H∧nx σ (th H))∨(J.go i H∧∃N:St→Hp→Prop,(∀σ' H',N σ' H'→∃m',m'<m∧W (i+1) m' σ' H')∧∀x H',J.yld i H x H'→g x σ H' fun σ2 H2=>tb ⟨N,fun v H=>rt v (th H),fun σ H=>nx σ (th H),N⟩ σ2 H2)
def ou (wi:gR)(g:TG)(tb:TS):TS:=fun D σ H=>wi σ H fun J th H1=>qK J th g tb D.nx D.rt σ H1
theorem qm {X:Cx}{tg iter:Expr}{body:List Stmt}{wi:gR}{g:TG}{tb:TS}{pos:Pos}(hp:PassesOwn (model X.prog X.w) X.A X.env X.xe)(hc:X.calm=true)(hi:qN X tg iter wi)(hg:PG X tg g)(hb:PSs X body tb)
  (hs:∀x,foldedSetIterable iter X.env x=pure x:=by intro _;rfl):PS X (.For tg iter body [] pos) (ou wi g tb):=by
 intro pins s σ H D I h
 refine wpAny_For (G3 (hi pins s σ H _ I h) fun v s1 h1=>G3 h1 fun itv s2 h2=>?_) hs
 obtain⟨it,fp,tn,J,H2,e,I2,T,st2,f2,th,hth,W,⟨m0,w0⟩,turn⟩:=h2
 subst e
 have stat:∀{H':Hp},(∀b∈fp,H' b=none)→∀b∈fp,bA X pins H' b:=fun hn b hb=>⟨hn b hb,(f2 b hb).2⟩
 refine codeAny_forLoop_any (fun n s'=>∃i σ' H',Inv X pins σ' H' s'∧tn i s'.heap∧(∀b∈fp,H' b=none)∧W i n σ' H') ?_ m0 ⟨0,σ,H2,I2,st2,fun b hb=>(f2 b hb).1,w0⟩
 rintro n s3 ⟨i,σ3,H3,I3,st3,fr3,w3⟩
 rcases turn i n σ3 H3 w3 with⟨stop,qn⟩|⟨go,N,hN,step⟩
 ·refine wpAny_passesOwn hp (G3 (T.done X rfl rfl rfl hc i pins s3 σ3 H3 X.xe I3 (stat fr3) st3 stop) fun r s4 ⟨hr,I4⟩=>?_)
  subst hr
  exact wpAny_execs_nil ⟨σ3,th H3,hth _ _ _ _ I4,qn⟩
 ·refine wpAny_passesOwn hp (G3 (T.item X rfl rfl rfl hc i pins s3 σ3 H3 X.xe I3 (stat fr3) st3 go) fun r s4 ⟨u,hr,h4⟩=>?_)
  subst hr
  refine wpAny_passesOwn hp (G3 h4 fun _ s5 ⟨x,H5,I5,r5,y5,st5,fr5⟩=>?_)
  have I5':=I5.pinned (stat fr5) (T.obj _ _ st5)
  refine wpAny_passesOwn hp (G3 (hg _ s5 σ3 H5 x u _ I5' r5 (step x H5 y5)) fun _ s6 ⟨σ6,H6,I6,q6⟩=>?_)
  refine wpAny_passesOwn hp (G3 (hb _ s6 σ6 H6 _ I6 q6) fun f s7 q7=>?_)
  have again:∀{σ7:St} {H7:Hp},Inv X (pins++de fp s5.heap) σ7 H7 s7→N σ7 H7→∃m,m<n∧∃i σ' H',Inv X pins σ' H' s7∧tn i s7.heap∧(∀b∈fp,H' b=none)∧W i m σ' H':=fun{σ7 H7} I7 n7=>by
   obtain⟨m',hm,w7⟩:=hN σ7 H7 n7
   refine⟨m',hm,i+1,σ7,H7,I7.unpinned,T.keep _ _ _ st5 fun b hb o e=>(I7.pin (b,o) (List.mem_append_right _ (List.mem_append_right _ (X6 hb e)))).1,fun b hb=>?_,w7⟩
   obtain⟨o,e,d⟩:=T.obj _ _ st5 b hb
   exact(I7.pin (b,o) (List.mem_append_right _ (List.mem_append_right _ (X6 hb e)))).2.1
  cases f with
  |next=>obtain⟨σ7,H7,I7,n7⟩:=q7;exact again I7 n7
  |cont=>obtain⟨σ7,H7,I7,n7⟩:=q7;exact again I7 n7
  |brk=>obtain⟨σ7,H7,I7,q7⟩:=q7;exact⟨σ7,th H7,hth _ _ _ _ I7.unpinned,q7⟩
  |ret v=>obtain⟨x7,σ7,H7,I7,r7,q7⟩:=q7;exact⟨x7,σ7,th H7,hth _ _ _ _ I7.unpinned,r7,q7⟩
def mO (own:List Str)(js:List Nat)(J:It)(th:Hp→Hp)(g:TG)(ti:TT)(te:TE)(Q:VK)(σ:St)(H1:Hp):Prop:=∃W:Nat→Nat→List V→Hp→Prop,(∃m,W 0 m [] H1)∧∀i m out H,W i m out H→
 (J.stop i H∧∀D,H D=none→out.length≤sizeLine∧Q (.ref D) (th (n0 H D (.lst out))))∨
 (J.go i H∧∀x H',J.yld i H x H'→g x (mI own js σ) H' fun σ2 H2=>σ2.drop own.length=js.map (fun j=>(σ[j]?).join)∧ti σ2 H2 fun b H3=>
  if b=true then te σ2 H3 fun v H4=>out.length≤sizeLine∧∃m',m'<m∧W (i+1) m' (out++[v]) H4 else ∃m',m'<m∧W (i+1) m' out H3)
def dz (own:List Str)(js:List Nat)(wi:gR)(g:TG)(ti:TT)(te:TE):TE:=fun σ H Q=>wi σ H fun J th H1=>mO own js J th g ti te Q σ H1
def uY:TT:=fun _ H Q=>Q true H
theorem xg {X:Cx}:iQ X [] uY:=yd
theorem lY {X:Cx}{own:List Str}{js:List Nat}{scope:Scope}{tg iter elt:Expr}{ifs:List Expr}{pos:Pos}{g:TG}{ti:TT}{te:TE}{wi:gR}(S:vm X own js scope=true)(hc:X.calm=true)(hit:qN X tg iter wi)
  (hg:∀C s H fp,PG (aB X own js scope C s H fp) tg g) (hi:∀C s H fp,iQ (aB X own js scope C s H fp) ifs ti) (he:∀C s H fp,PE (aB X own js scope C s H fp) elt te)
  (hs:∀x,foldedSetIterable iter X.env x=pure x:=by intro _;rfl):
  PE X (.ListComp elt [⟨tg,iter,ifs,0⟩] scope pos) (dz own js wi g ti te):=by
 have SB:=oI S
 intro pins s σ H Q I h
 rw[eval_ListComp]
 refine wpAny_comprehension_free (use:=none) rfl hs (dh (SB.cells I)) SB.kind SB.names (G3 (hit pins s σ H _ I h) fun v s1 h1=>G3 h1 fun itv s2 h2=>?_)
 obtain⟨it,fp,tn,J,H2,e,I2,T,st2,f2,th,hth,W,⟨m0,w0⟩,turn⟩:=h2
 subst e
 refine wpAny_newObj_type (wpAny_newFunctionEnv SB.nocell (by intro y hy;simp at hy) (fun h₁ hns₁ hsb₁=>?_) SB.kind)
 dsimp only at hns₁ hsb₁⊢
 generalize hH2:s2.heap.push {cls:= .type "list",dict:=none,data:= .seq ([]:List Value).toArray}=G2 at hns₁ hsb₁⊢
 have hCs:G2.objs.size=s2.heap.objs.size+1:=by rw[←hH2,Heap.size_push]
 have hDC:s2.heap.objs.size≠G2.objs.size:=by rw[hCs];exact Nat.ne_of_lt (Nat.lt_succ_self _)
 have hC:s2.heap.objs.size≤G2.objs.size:=by rw[hCs];exact Nat.le_succ _
 have old:∀b o,s2.heap.get? b=some o→h₁.get? b=some o:=fun b o e=>
  hsb₁.extBut b o (Nat.ne_of_lt (Nat.lt_of_lt_of_le (Heap.lt_size e) hC)) (Heap.get?_push_of_some _ (hH2▸Heap.get?_push_of_some _ e))
 have hob:∀b∈fp,∃o,s2.heap.get? b=some o:=fun b hb=>let ⟨o,e,_⟩:=T.obj _ _ st2 b hb;⟨o,e⟩
 have hacc:h₁.get? s2.heap.objs.size=some {cls:= .type "list",data:= .seq ([]:List Value).toArray}:=
  hsb₁.extBut _ _ hDC (Heap.get?_push_of_some _ (hH2▸Heap.get?_push_size _ rfl))
 have loop:∀s3:Shared,s3={s2 with heap:=h₁,toks:=s2.toks+([]:List (Str×Value)).length}→
   codeAny (model X.prog X.w) X.A (.compLoop (.ListComp elt [⟨tg,iter,ifs,0⟩] scope pos) 0 (.ref it) (.ref s2.heap.objs.size) (compEnvC scope (cw scope X.env) G2.objs.size X.env))
    (compPost (model X.prog X.w) X.A X.xe none (EP X pins σ Q) (.ref s2.heap.objs.size) G2.objs.size) s3:=by
  rintro s3 rfl
  refine eu (K:=fun out H'=>Q (.ref s2.heap.objs.size) (th (n0 H' s2.heap.objs.size (.lst out)))) SB hc T I2 f2 (Nat.le_refl _) hC hDC hob (hg _ _ _ _) (hi _ _ _ _) (he _ _ _ _) W (fun i m out H' w=>?_) (fun out H' s' B hl k=>?_) w0
   ⟨Inv.block SB I2 f2 hob hC hns₁ old,I2.hok.fresh (Nat.le_refl _),[],_,.nil,hacc⟩ (T.keep _ _ _ st2 fun b _ o e=>old b o e) (fun b hb=>(f2 b hb).1)
  ·rcases turn i m out H' w with⟨a,b⟩|c
   ·exact .inl ⟨a,fun n=>b _ n⟩
   ·exact .inr c
  ·obtain⟨mm,hn,_⟩:=B.inv.loc
   exact⟨mm,hn,fun h' sb=>⟨.ref s2.heap.objs.size,_,hth _ _ _ _ (B.out I2 f2 (Nat.le_refl _) hC hDC hl sb),rfl,k⟩⟩
 exact codeAny_compStart_list (loop _ rfl) (T.self _ 0 _ _ _ (T.keep _ _ _ st2 fun b _ o e=>old b o e) (loop _ rfl))
theorem z8 {α β:Type}{F:α→β→Prop}:∀{l₁:List α} {l₂:List β} {i:Nat} {a:α},Paired F l₁ l₂→l₁[i]?=some a→∃b,l₂[i]?=some b∧F a b
 |_,_,_,_,.nil,e=>by simp at e
 |_,_,0,_,.cons r _,e=>by simp at e;subst e;exact⟨_,rfl,r⟩
 |_,_,i+1,a,.cons _ t,e=>by
  obtain⟨u,h1,h2⟩:=z8 (i:=i) (a:=a) t (by simpa using e)
  exact⟨u,by simpa using h1,h2⟩
section
variable {P:Program} {w:World}
theorem bt {k:g7}{v:Value}(h:(j2 P w).is k v=true):RelV (kV k) v:=by
 rcases p9 (show aE k v=true from h) with⟨i,t,rfl,rfl⟩|⟨x,t,rfl,rfl⟩
 ·exact⟨t,rfl⟩
 ·exact⟨t,rfl⟩
theorem nF {k:g7}{v:Value}(h:(j2 P w).is k v=true):∀a,v≠ .ref a:=by
 rcases p9 (show aE k v=true from h) with⟨i,t,rfl,rfl⟩|⟨x,t,rfl,rfl⟩<;>exact fun a z=>by cases z
structure nI (P:Program) (w:World) (d:Addr) (o:Obj) (kvs:List (g7×V)) (vs:List (g7×Value)) (ep:Nat):Prop where
 kv:KV kvs vs
 at_:∀h:Heap,h.get? d=some o→h.DictAt (j2 P w) d vs ep
 nd:(kvs.map (·.1)).Nodup
theorem aY {H:Hp}{h:Heap}{d:Addr}{kvs:List (g7×V)}(ok:HOk P w H h)(e:Rd H d (.dK kvs)):(d==sysModules)=false∧∃o vs ep,h.get? d=some o∧nI P w d o kvs vs ep:=by
 obtain⟨z,hd,vs,rel,o,es,ep,h1,r⟩:=J5 ok e
 refine⟨hd,o,vs,ep,h1,rel,fun h' e'=>⟨o,es,e',r⟩,?_⟩
 rw[KV.keys rel]
 exact r.2.2.2.2
def yl (d:Addr)(o:Obj)(kvs:List (g7×V))(f:g7×V→V):It:=
 ⟨fun i H=>H d=some (.frz o (.dK kvs))∧i<kvs.length,fun i H x H'=>H'=H∧∃kv,kvs[i]?=some kv∧x=f kv,fun i H=>H d=some (.frz o (.dK kvs))∧kvs.length≤i⟩
def wQ (d:Addr)(o:Obj)(kvs:List (g7×V)):It:=
 ⟨fun i H=>H d=some (.frz o (.dK kvs))∧i<kvs.length,fun i H x H'=>∃t kv,kvs[i]?=some kv∧H t=none∧x= .ref t∧H'=n0 H t (.tup [kV kv.1,kv.2]),fun i H=>H d=some (.frz o (.dK kvs))∧kvs.length≤i⟩
theorem lQ {K:PySem.W.Frag}{tg:Expr}{d:Addr}{o:Obj}{kvs:List (g7×V)}{vs:List (g7×Value)}{ep:Nat}(D:nI P w d o kvs vs ep)(it:Addr):
  bU P w K tg (yl d o kvs fun kv=>kV kv.1) [it] it (fun i h=>h.IsKeyIter it d i vs.length ep) where
 mem:=by simp
 obj:=fun i h st b hb=>by
  have e:b=it:=by simpa using hb
  subst e
  obtain⟨o,e,c,dd⟩:=st
  exact⟨o,e,fun v z=>by rw[dd] at z;cases z⟩
 keep:=fun i h h' st k=>st.at fun o e=>k it (by simp) o e
 item:=by
  intro X hP hw hK hc i pins s σ H E I hf st hg
  subst hP hw hK
  obtain⟨hfz,hi⟩:=hg
  obtain⟨f0,f1,f2,f3,f4,f5⟩:=hf it (by simp)
  have dat:=D.at_ s.heap (I.hok d _ hfz).1
  have hl:=KV.length D.kv
  obtain⟨kv,hkv⟩:∃kv,kvs[i]?=some kv:=⟨kvs[i],by simp [hi]⟩
  obtain⟨⟨k,x⟩,hx⟩:∃p,vs[i]?=some p:=⟨vs[i]'(by omega),by simp [show i<vs.length by omega]⟩
  have hkk:kv.1=k:=by
   have e1:(kvs.map (·.1))[i]?=some kv.1:=by rw[List.getElem?_map,hkv];rfl
   rw[KV.keys D.kv,List.getElem?_map,hx] at e1
   exact(Option.some.inj e1).symm
  refine wpAny_pyNext_dict_item st dat hx fun key h' hkey hit' hs'=>?_
  have I1:Inv X pins σ H {s with heap:=h'}:=I.turned (t':=s.toks) (fun b o hb e=>hs'.extBut b o hb e) f0 f1 f3 f4 f5
  exact⟨key,rfl,jT (nF hkey) ⟨kV kv.1,H,I1,by rw[hkk];exact bt hkey,⟨rfl,kv,hkv,rfl⟩,hit',fun b hb=>(hf b hb).1⟩⟩
 done:=by
  intro X hP hw hK hc i pins s σ H E I hf st hg
  subst hP hw hK
  obtain⟨hfz,hi⟩:=hg
  obtain⟨f0,f1,f2,f3,f4,f5⟩:=hf it (by simp)
  have dat:=D.at_ s.heap (I.hok d _ hfz).1
  have hl:=KV.length D.kv
  exact wpAny_pyNext_dict_end (I.ok.hd hc) st dat (by simp;omega) fun h' eb=>⟨rfl,I.turned (t':=s.toks) (fun b o hb e=>eb b o hb e) f0 f1 f3 f4 f5⟩
 self:=fun _ _ _ _ _ st h=>wpAny_pyIter_keyiter st h
theorem iT {K:PySem.W.Frag}{elts:List Expr}{x1}{tpos:Pos}{d:Addr}{o:Obj}{kvs:List (g7×V)}{vs:List (g7×Value)}{ep:Nat}(D:nI P w d o kvs vs ep)(it:Addr):
  bU P w K (.Tuple elts x1 tpos) (wQ d o kvs) [it] it (fun i h=>∃ok ov,IsItemIter h it d i vs.length ep ok ov) where
 mem:=by simp
 obj:=fun i h st b hb=>by
  have e:b=it:=by simpa using hb
  subst e
  obtain⟨ok,ov,e⟩:=st
  exact⟨_,e,fun v z=>by
   have z':Data.fields _=Data.cell v:=z
   cases z'⟩
 keep:=fun i h h' st k=>let ⟨ok,ov,e⟩:=st;⟨ok,ov,k it (by simp) _ e⟩
 item:=by
  intro X hP hw hK hc i pins s σ H E I hf st hg
  subst hP hw hK
  obtain⟨hfz,hi⟩:=hg
  obtain⟨ok,ov,st⟩:=st
  obtain⟨f0,f1,f2,f3,f4,f5⟩:=hf it (by simp)
  have dat:=D.at_ s.heap (I.hok d _ hfz).1
  have hl:=KV.length D.kv
  obtain⟨kv,hkv⟩:∃kv,kvs[i]?=some kv:=⟨kvs[i],by simp [hi]⟩
  obtain⟨⟨k,x⟩,hx⟩:∃p,vs[i]?=some p:=⟨vs[i]'(by omega),by simp [show i<vs.length by omega]⟩
  obtain⟨hkk,rx⟩:kv.1=k∧RelV kv.2 x:=by
   have q:=z8 D.kv hkv
   obtain⟨p,hp,r⟩:=q
   rw[hx] at hp;cases hp
   exact r
  refine wpAny_pyNext_items_item st dat hx fun key h' hkey hout htup hsz hk=>?_
  have hitlt:it<s.heap.objs.size:=Heap.lt_size st
  refine⟨.ref s.heap.objs.size,rfl,wpAny_letOwnedTupleGo_items (s:={s with heap:=h'}) hout fun h'' hit'' hs''=>?_⟩
  have hs2:Heap.SameBut it h' h'':=hs''
  have kp:∀b o,b≠it→s.heap.get? b=some o→h''.get? b=some o:=fun b o hb e=>hs2.extBut b o hb (hk b o hb e)
  have tupAt:h''.get? s.heap.objs.size=some {cls:= .type "tuple",data:= .seq #[key,x]}:=hs2.extBut _ _ (Nat.ne_of_gt hitlt) htup
  have fresh:H s.heap.objs.size=none:=I.hok.fresh (Nat.le_refl _)
  have nsz:∀b o,s.heap.get? b=some o→b≠s.heap.objs.size:=fun b o e=>Nat.ne_of_lt (Heap.lt_size e)
  have hH:∀b u,H b=some u→b≠s.heap.objs.size∧b≠it:=fun b u e=>⟨d8 e fresh,d8 e f0⟩
  have hok:HOk X.prog X.w (n0 H s.heap.objs.size (.tup [kV kv.1,kv.2])) h'':=fun b u e=>by
   by_cases hb:b=s.heap.objs.size
   ·subst hb
    rw[d9] at e;cases e
    refine⟨by show 2≤sizeLine;decide,[key,x],.cons (by rw[hkk];exact bt hkey) (.cons rx .nil),⟨_,tupAt,rfl,_,rfl⟩⟩
   ·rw[b9 hb] at e
    refine(I.hok b u e).stay (fun c v hc q=>kp c v ?_ q) (fun c q=>by rw[b9 (hH c _ q).1];exact q) fun c xs q=>by rw[b9 (hH c _ q).1];exact q
    rcases hc with z|z
    ·rw[z];exact(hH b _ e).2
    ·exact(hH c _ z).2
  have I1:Inv X pins σ (n0 H s.heap.objs.size (.tup [kV kv.1,kv.2])) {s with heap:=h''}:=by
   refine I.call' (s':={s with heap:=h''}) (ch:=[it]) rfl ⟨fun b o e n hb hx=>kp b o (by simpa using hx) e,fun b o e n hb hx=>⟨o.slots,kp b o (by simpa using hx) e⟩,fun b o e n hx=>by rw[b9 (nsz b o e)];exact n,
    fun b o e hx=>⟨o,kp b o (by simpa using hx) e⟩,fun b xs e=>by rw[b9 (hH b _ e).1];exact e,fun b ob v e=>by rw[b9 (hH b _ e).1];exact e,fun b ps e=>⟨#[],by rw[b9 (hH b _ e).1];simpa using e⟩⟩ hok I.bare fun b hb=>?_
   have e:b=it:=by simpa using hb
   subst e
   exact⟨f3,f1,f4,f5⟩
  refine⟨.ref s.heap.objs.size,_,I1,rfl,⟨_,kv,hkv,fresh,rfl,rfl⟩,⟨_,_,hit''⟩,fun b hb=>?_⟩
  have e:b=it:=by simpa using hb
  subst e
  rw[b9 (Nat.ne_of_lt hitlt)];exact f0
 done:=by
  intro X hP hw hK hc i pins s σ H E I hf st hg
  subst hP hw hK
  obtain⟨hfz,hi⟩:=hg
  obtain⟨ok,ov,st⟩:=st
  obtain⟨f0,f1,f2,f3,f4,f5⟩:=hf it (by simp)
  have dat:=D.at_ s.heap (I.hok d _ hfz).1
  have hl:=KV.length D.kv
  exact wpAny_pyNext_items_end (I.ok.hd hc) st dat (by simp;omega) fun h' eb=>⟨rfl,I.turned (t':=s.toks) (fun b o hb e=>eb b o hb e) f0 f1 f3 f4 f5⟩
 self:=fun _ _ _ _ _ st h=>by
  obtain⟨ok,ov,st⟩:=st
  exact PySem.W.kcp_self st h
end
section
variable {X:Cx} {tg:Expr}
def rIterD (mk:Addr→Obj→List (g7×V)→It)(v:V)(H:Hp)(R:It→(Hp→Hp)→Hp→Prop):Prop:=
 ∃d kvs,v= .ref d∧((H d=some (.dK kvs)∧((kvs.map (·.1)).Nodup→∀o,R (mk d o kvs) (thaw d) (B9 d o kvs H)))∨(∃o,H d=some (.frz o (.dK kvs))∧((kvs.map (·.1)).Nodup→R (mk d o kvs) id H)))
theorem rIterD.rd {mk:Addr→Obj→List (g7×V)→It}{v:V}{H:Hp}{R:It→(Hp→Hp)→Hp→Prop}(h:rIterD mk v H R):∃d kvs,v= .ref d∧Rd H d (.dK kvs):=by
 obtain⟨d,kvs,e,h⟩:=h
 rcases h with⟨h,_⟩|⟨o,h,_⟩
 ·exact⟨d,kvs,e,.inl h⟩
 ·exact⟨d,kvs,e,.inr ⟨o,h⟩⟩
theorem rIterD.go {mk:Addr→Obj→List (g7×V)→It}{x:V}{u:Value}{pins:List (Addr×Obj)}{σ:St}{H:Hp}{s:Shared}{R:It→(Hp→Hp)→Hp→Prop}(I:Inv X pins σ H s)(r:RelV x u)(h:rIterD mk x H R):
  ∃d kvs o vs ep th H',u= .ref d∧(d==sysModules)=false∧s.heap.get? d=some o∧nI X.prog X.w d o kvs vs ep∧Inv X pins σ H' s∧pP X th∧R (mk d o kvs) th H':=by
 obtain⟨d,kvs,e,h⟩:=h
 subst e
 cases r
 rcases h with⟨h,q⟩|⟨o,h,q⟩
 ·obtain⟨hd,o,vs,ep,ho,D⟩:=aY I.hok (.inl h)
  refine⟨d,kvs,o,vs,ep,thaw d,_,rfl,hd,ho,D,I.freeze h ho,kP fun ob v z=>?_,q D.nd o⟩
  have z':=I.base.frzs d ob v z
  rw[h] at z';cases z'
 ·obtain⟨hd,o',vs,ep,ho,D⟩:=aY I.hok (.inr ⟨o,h⟩)
  have e:=(I.hok d _ h).1
  rw[ho] at e;cases e
  exact⟨d,kvs,_,vs,ep,id,H,rfl,hd,ho,D,I,cF,q D.nd⟩
theorem rIter.mono {K:PySem.W.Frag}{v:V}{H:Hp}{R R':It→Hp→Prop}(h:rIter K v H R)(k:∀J H,R J H→R' J H):rIter K v H R':=by
 rcases h with⟨a,e,hq,q⟩|⟨a,e,hq,q⟩|⟨x,e,q⟩
 ·exact .inl ⟨a,e,hq,k _ _ q⟩
 ·exact .inr (.inl ⟨a,e,hq,k _ _ q⟩)
 ·exact .inr (.inr ⟨x,e,k _ _ q⟩)
abbrev zf (d:Addr)(o:Obj)(kvs:List (g7×V)):It:=yl d o kvs fun kv=>kV kv.1
def pW (K:PySem.W.Frag)(v:V)(H:Hp)(R:It→(Hp→Hp)→Hp→Prop):Prop:=rIter K v H (fun J H'=>R J id H')∨rIterD zf v H R
def xy (K:PySem.W.Frag)(tl:TE):gR:=fun σ H R=>tl σ H fun v H1=>pW K v H1 R
theorem vO {l:Expr}{tl:TE}(hl:PE X l tl):qN X tg l (xy X.K tl):=by
 intro pins s σ H R I h
 refine G3 (hl pins s σ H _ I h) fun v s1 ⟨x,H1,I1,r1,q1⟩=>?_
 rcases q1 with q1|q1
 ·exact oQ I1 r1 (q1.mono fun J H' q=>⟨id,cF,q⟩)
 ·obtain⟨d,kvs,o,vs,ep,th,H',rfl,hd,ho,D,I2,hth,q⟩:=rIterD.go I1 r1 q1
  refine wpAny_pyIter_dict hd (D.at_ _ ho) ?_
  refine⟨s1.heap.objs.size,[s1.heap.objs.size],_,_,H',rfl,I2.kept (t':=s1.toks) fun b o e=>Heap.get?_push_of_some _ e,lQ D _,⟨_,Heap.get?_push_size _ rfl,rfl,rfl⟩,fun b hb=>?_,th,hth,q⟩
  have e:b=s1.heap.objs.size:=by simpa using hb
  subst e
  exact I2.fpOk (Nat.le_refl _) (I2.hok.fresh (Nat.le_refl _))
def iC (tl:TE):gR:=fun σ H R=>tl σ H fun v H1=>rIterD wQ v H1 R
theorem pD {elts:List Expr}{x1}{tpos:Pos}{o:Expr}{tl:TE}{apos cpos:Pos}(ho:PE X o tl)
  (hbase:attributeBase o "items" X.env (eval o X.env)=eval o X.env:=by rfl) (hline:(apos.endLine==cpos.line)=true:=by rfl):
  qN X (.Tuple elts x1 tpos) (.Call (.Attribute o "items" apos) [] [] cpos) (iC tl):=by
 intro pins s σ H R I h
 refine wpAny_Call_method0_late hbase hline (G3 (ho pins s σ H _ I h) fun v s1 ⟨x,H1,I1,r1,q1⟩=>?_)
 obtain⟨d,kvs,ob,vs,ep,th,H',rfl,hd,hob,D,I2,hth,q⟩:=rIterD.go I1 r1 q1
 have dof:=(D.at_ _ hob).dictOf
 refine⟨"dict","dict.items",F.plainAttrs_dict,F.slot_dict_items,F.type_dict_items,dof.typeIs,dof.mapOf.noDict,Calls.callWith_builtin rfl (PySem.evalArgs_none ?_)⟩
 refine call_meetsIn F.slot_dict_items dof.typeIs F.entry_dict_items (F.args_dict_items_1 _) (meets_dict_items (j2 X.prog X.w) d hd) ⟨⟨vs,dof⟩,?_⟩
 have I3:Inv X pins σ H' {s1 with heap:=s1.heap.push {cls:= .type "dict_items",data:= .fields #[.ref d]}}:=I2.kept (t':=s1.toks) fun b o e=>Heap.get?_push_of_some _ e
 refine wpAny_pyIter_items (s:={s1 with heap:=s1.heap.push {cls:= .type "dict_items",data:= .fields #[.ref d]}}) (knd:=j2 X.prog X.w) ⟨_,Heap.get?_push_size _ rfl,rfl,rfl⟩ (D.at_ _ (Heap.get?_push_of_some _ hob)) ?_
 generalize hG:s1.heap.push {cls:= .type "dict_items",data:= .fields #[.ref d]}=G at I3⊢
 refine⟨G.objs.size,[G.objs.size],_,_,H',rfl,I3.kept (t':=s1.toks) fun b o e=>Heap.get?_push_of_some _ e,iT D _,⟨.none,.none,Heap.get?_push_size _ rfl⟩,fun b hb=>?_,th,hth,q⟩
 have e:b=G.objs.size:=by simpa using hb
 subst e
 exact I3.fpOk (Nat.le_refl _) (I3.hok.fresh (Nat.le_refl _))
end
end L2
set_option Elab.async false
set_option linter.all false
set_option maxRecDepth 100000
set_option maxHeartbeats 4000000
namespace L2
open PySem PySem.Spec PyProof.Rows
section
variable {J:It} {th:Hp→Hp} {n:Nat} {g:TG} {tb:TS} {nx bk ct:St→Hp→Prop} {rt:VK} {σ:St} {H:Hp} {own:List Str} {js:List Nat} {ti:TT} {te:TE} {Q:VK} {K:PySem.W.Frag}
theorem uz (Pv:Nat→St→Hp→Prop)(h0:Pv 0 σ H)(hgo:∀i σ H,i<n→Pv i σ H→J.go i H)
  (hs:∀i x σ H H',i<n→Pv i σ H→J.yld i H x H'→g x σ H' fun σ2 H2=>tb ⟨Pv (i+1),fun v H=>rt v (th H),fun σ H=>nx σ (th H),Pv (i+1)⟩ σ2 H2)
  (hd:∀σ H,Pv n σ H→J.stop n H∧nx σ (th H)):
  qK J th g tb nx rt σ H:=by
 refine⟨fun i m σ H=>m=n -i∧i≤n∧Pv i σ H,⟨n,by simp,Nat.zero_le _,h0⟩,?_⟩
 rintro i m σ H ⟨rfl,hi,p⟩
 by_cases hlt:i<n
 ·exact .inr ⟨hgo i σ H hlt p,Pv (i+1),fun σ' H' p'=>⟨n -(i+1),by omega,rfl,hlt,p'⟩,fun x H' y=>hs i x σ H H' hlt p y⟩
 ·have e:i=n:=by omega
  subst e
  exact .inl (hd σ H p)
theorem j4 (Pv:Nat→List V→Hp→Prop)(h0:Pv 0 [] H)(hgo:∀i out H,i<n→Pv i out H→J.go i H)
  (hs:∀(N:List V→Hp→Prop) i x out H H',i<n→Pv i out H→J.yld i H x H'→(∀out' H',Pv (i+1) out' H'→N out' H')→g x (mI own js σ) H' fun σ2 H2=>σ2.drop own.length=js.map (fun j=>(σ[j]?).join)∧ti σ2 H2 fun b H3=>
   if b=true then te σ2 H3 fun v H4=>out.length≤sizeLine∧N (out++[v]) H4 else N out H3)
  (hd:∀out H,Pv n out H→J.stop n H∧∀D,H D=none→out.length≤sizeLine∧Q (.ref D) (th (n0 H D (.lst out)))):
  mO own js J th g ti te Q σ H:=by
 refine⟨fun i m out H=>m=n -i∧i≤n∧Pv i out H,⟨n,by simp,Nat.zero_le _,h0⟩,?_⟩
 rintro i m out H ⟨rfl,hi,p⟩
 by_cases hlt:i<n
 ·exact .inr ⟨hgo i out H hlt p,fun x H' y=>hs (fun out' H'=>∃m',m'<n -i∧m'=n -(i+1)∧i+1≤n∧Pv (i+1) out' H') i x out H H' hlt p y fun out' H' q=>⟨n -(i+1),by omega,rfl,hlt,q⟩⟩
 ·have e:i=n:=by omega
  subst e
  exact .inl (hd out H p)
theorem vQ {wi:gR}(q:wi σ H fun J th H1=>qK J th g tb nx rt σ H1):ou wi g tb ⟨nx,rt,bk,ct⟩ σ H:=q
theorem tw {wi:gR}(q:wi σ H fun J th H1=>mO own js J th g ti te Q σ H1):dz own js wi g ti te σ H Q:=q
theorem xo {Qb:Bool→Hp→Prop}(q:Qb true H):uY σ H Qb:=q
theorem yu {tl:TE}{R:It→(Hp→Hp)→Hp→Prop}(q:tl σ H fun v H1=>pW K v H1 R):xy K tl σ H R:=q
theorem mS {x:Str}{R:It→(Hp→Hp)→Hp→Prop}(q:R (Its x) id H):pW K (.str x) H R:= .inl (.inr (.inr ⟨x,rfl,q⟩))
theorem o3 {a:Addr}{xs:List V}{R:It→(Hp→Hp)→Hp→Prop}(h:SqL K H a xs)(q:R (Itl K a) id H):pW K (.ref a) H R:= .inl (.inl ⟨a,rfl,⟨xs,h⟩,q⟩)
theorem qo {tl:TE}{R:It→(Hp→Hp)→Hp→Prop}(q:tl σ H fun v H1=>rIterD wQ v H1 R):iC tl σ H R:=q
theorem Q3 {d:Addr}{kvs:List (g7×V)}{R:It→(Hp→Hp)→Hp→Prop}(h:H d=some (.dK kvs))(q:(kvs.map (·.1)).Nodup→∀o,R (wQ d o kvs) (thaw d) (B9 d o kvs H)):rIterD wQ (.ref d) H R:=⟨d,kvs,rfl,.inl ⟨h,q⟩⟩
theorem uc {ta:TA}{R:It→Hp→Prop}(q:ta σ H fun vs H1=>∃j:Int,vs=[.int j]∧-(2 ^ 62)≤j∧j<2 ^ 62∧R (xx 0 j.toNat) H1):oP ta σ H R:=q
theorem Q8 {i:Int}{R:Int→Prop}(h0:0≤i)(h1:i<1000000)(q:R i):∃j:Int,[V.int i]=[.int j]∧-(2 ^ 62)≤j∧j<2 ^ 62∧R j:=⟨i,rfl,by omega,by omega,q⟩
theorem bj {p:Prop}[Decidable p]{A B:Prop}(h1:p→A)(h2:¬p→B):if decide p=true then A else B:=by
 by_cases h:p
 ·rw[if_pos (decide_eq_true h)];exact h1 h
 ·rw[if_neg (by simp [h])];exact h2 h
theorem ox {p:Prop}[Decidable p]{A B:Prop}(h1:¬p→A)(h2:p→B):if(!decide p)=true then A else B:=by
 by_cases h:p
 ·rw[if_neg (by simp [h])];exact h2 h
 ·rw[if_pos (by simp [h])];exact h1 h
theorem iE {b:Bool}{A B:Prop}(h1:b=true→A)(h2:b=false→B):if b=true then A else B:=by
 cases b with
 |true=>rw[if_pos rfl];exact h1 rfl
 |false=>rw[if_neg Bool.false_ne_true];exact h2 rfl
theorem vJ {A B:Prop}(h:A):if(!false)=true then A else B:=by rw[if_pos (by rfl)];exact h
theorem vp {A B:Prop}(h:B):if(!true)=true then A else B:=by rw[if_neg (by decide)];exact h
theorem rS {t u:TS}(P:St→Hp→Prop)(h1:∀σ H,P σ H→u ⟨nx,rt,bk,ct⟩ σ H)(h2:∀nx':St→Hp→Prop,(∀σ H,P σ H→nx' σ H)→t ⟨nx',rt,bk,ct⟩ σ H):og t u ⟨nx,rt,bk,ct⟩ σ H:=h2 _ h1
theorem b7 {o:HO}{p:Addr}(hp:H p=none):∃H',n0 H p o=H'∧H' p=some o∧Same H H'∧∀b,b≠p→H' b=H b:=⟨_,rfl,d9,fun b u e=>by rw[b9 (d8 e hp)];exact e,fun b hb=>b9 hb⟩
theorem jb {α:Type}{xs:List α}{i:Int}(h0:0≤i)(h1:i<xs.length):∃v,fv xs i=some v∧xs[i.toNat]?=some v:=by
 obtain⟨j,rfl⟩:=Int.eq_ofNat_of_zero_le h0
 have hj:j<xs.length:=by omega
 exact⟨xs[j],b6 (by simp [hj]),by simp [hj]⟩
theorem d7 (x y:Str):(x++y).length=x.length+y.length:=by
 show(x.cps++y.cps).size=_
 simp [Str.length]
theorem d6 (c:Nat):(⟨#[c]⟩:Str).length=1:=rfl
theorem fo (x:Str):x.length=x.cps.toList.length:=by simp [Str.length]
theorem b8 {n:Nat}(h:n≤1000):n≤sizeLine:=Nat.le_trans h (by decide)
theorem Same.rd {H H':Hp}{a:Addr}{u:HO}(s:Same H H')(h:Rd H a u):Rd H' a u:=by
 rcases h with h|⟨o,h⟩
 ·exact .inl (s _ _ h)
 ·exact .inr ⟨o,s _ _ h⟩
theorem Same.tup {H H':Hp}{a:Addr}{xs:List V}(s:Same H H')(h:SqT K H a xs):SqT K H' a xs:=by
 rcases h with h|h
 ·exact .inl (s.rd h)
 ·exact .inr h
theorem TyB.mono {H H':Hp}{v:V}{t:String}(h:TyB K H v t)(s:Same H H'):TyB K H' v t:=by
 cases v with
 |ref a=>
  rcases h with⟨e,xs,h⟩|⟨e,xs,h⟩|⟨e,kvs,h⟩
  ·exact .inl ⟨e,xs,s.seq h⟩
  ·exact .inr (.inl ⟨e,xs,s.tup h⟩)
  ·exact .inr (.inr ⟨e,kvs,s.rd h⟩)
 |_=>exact h
theorem Its.lt {x:Str}{i:Nat}{H H':Hp}{v:V}(h:(Its x).yld i H v H'):H'=H∧∃c,x.cps.toList[i]?=some c∧v=pL c:=by
 obtain⟨e,c,hc,hv⟩:=h
 exact⟨e,c,by simpa using hc,hv⟩
theorem Itl.get {a:Addr}{xs:List V}{i:Nat}{H H':Hp}{v:V}(h:(Itl K a).yld i H v H')(hx:SqL K H a xs):H'=H∧xs[i]?=some v:=⟨h.1,h.2 xs hx⟩
theorem ei {α β:Type}{l:List α}{i:Nat}{a:α}(f:α→β)(h:l[i]?=some a):(l.take i).map f++[f a]=(l.take (i+1)).map f:=by
 rw[List.take_succ,h];simp
end
end L2
set_option Elab.async false
set_option linter.all false
set_option maxRecDepth 100000
set_option maxHeartbeats 4000000
namespace L2
open PySem PySem.Spec PyProof.Rows
section
variable {X:Cx} (K:PySem.W.Frag) {a e:Expr} {ta te:TE} {tg:Expr} {pos:Pos}
theorem q9 (h:X.K=K:=by rfl):OpR X (binaryOp .Add) (bz K):=h▸qH
theorem kIn (hu:X.A.units+1<cLine)(h:X.K=K:=by rfl):OpR X (compareOp .In) (qv K):=h▸uR hu
theorem ud (hu:X.A.units+1<cLine)(h:X.K=K:=by rfl):OpR X (compareOp .NotIn) (cG K):=h▸lZ hu
theorem u9 (hu:X.A.units+1<cLine)(h:X.K=K:=by rfl):IxR X (iZ K):=h▸tE hu
theorem lp (h:X.K=K:=by rfl):SlR X (xu K):=h▸uK
theorem eW (hc:X.calm=true)(h:X.K=K:=by rfl):CallR X (.builtin "all") (iU K):=h▸lL hc
def sP (ta:TE):TT:=fun σ H Q=>ta σ H fun x H'=>∃k,oC K x H' k∧Q k H'
theorem yr (ha:PE X a ta)(h:X.K=K:=by rfl)(he:∀whole,isTrue a X.env whole=(do let v←whole;standAt a.pos;holding [v] (truthy v)):=by intro _;rfl):PT X a (sP K ta):=h▸oJ ha he
theorem ua {σ:St}{H:Hp}{Qb:Bool→Hp→Prop}(q:ta σ H fun x H'=>∃k,oC K x H' k∧Qb k H'):sP K ta σ H Qb:=q
theorem zd (hl:PE X a ta)(h:X.K=K:=by rfl):qN X tg a (xy K ta):=h▸vO hl
theorem yF {es:List Expr}{k:Nat}{t:jC}{n:Nat}(hc:X.calm=true)(hg:pV X es t)(h:X.K=K:=by rfl)
  (hn:(assignEach es X.env).length=n:=by rfl) (hst:(assignEach es X.env).findIdx? (·.1)=none:=by rfl):PG X (.Tuple es k pos) (oM K n t):=h▸tf hc hg hn hst
end
end L2
set_option Elab.async false
set_option linter.all false
set_option maxRecDepth 100000
set_option maxHeartbeats 4000000
namespace L2
open PySem PySem.Spec PyProof.Rows
def q5:Expr→Bool
 | .Starred _ _=>false
 |_=>true
def p8 (es:List Expr):Bool:=es.all q5
theorem V3 {e:Expr}{es:List Expr}{env:Env}(h:q5 e=true):starEach (e::es) env=(false,eval e env)::starEach es env:=by
 cases e<;>first|rfl|cases h
theorem aT {env:Env}{pos:Pos}:∀{es:List Expr},p8 es=true→(backTo pos (starEach es env)).any (·.1)=false
 |[],_=>rfl
 |e::es,h=>by
  have h':(q5 e&&p8 es)=true:=h
  rw[Bool.and_eq_true] at h'
  rw[V3 h'.1]
  show(false||(backTo pos (starEach es env)).any (·.1))=false
  rw[aT h'.2];rfl
theorem jI {e:Expr}{es:List Expr}{env:Env}(h:q5 e=true):assignEach (e::es) env=(false,assign e env)::assignEach es env:=by
 cases e<;>first|rfl|cases h
theorem oK {env:Env}:∀{es:List Expr},p8 es=true→(assignEach es env).length=es.length
 |[],_=>rfl
 |e::es,h=>by
  have h':(q5 e&&p8 es)=true:=h
  rw[Bool.and_eq_true] at h'
  rw[jI h'.1,List.length_cons,oK h'.2,List.length_cons]
theorem nJ {env:Env}:∀{es:List Expr},p8 es=true→(assignEach es env).findIdx? (·.1)=none
 |[],_=>rfl
 |e::es,h=>by
  have h':(q5 e&&p8 es)=true:=h
  rw[Bool.and_eq_true] at h'
  rw[jI h'.1,List.findIdx?_cons]
  simp [nJ h'.2]
section
variable {X:Cx} {K:PySem.W.Frag} {e:Expr} {es:List Expr} {te:TE} {t:TA} {x:Str} {p pos:Pos} {id T:String} {r:List V→Hp→VK→Prop}
theorem zc (ha:PE X e te)(hr:PA X es t)(h:q5 e=true:=by rfl):PA X (e::es) (kC te t):=qF ha hr (V3 h)
theorem cB (hc:CallR X (.builtin id) r)(hm:X.mg x=none)(hv:bootBuiltins x=some (.builtin id))(ha:PA X (e::es) t)(hg:Gl X x:=by rfl)(hn:x≠"__name__":=by decide)(hdb:(x==("__debug__":Str))=false:=by decide)
  (h:p8 (e::es)=true:=by rfl):PE X (.Call (.Name x p) (e::es) [] pos) (sh r t):=by
 have h':(q5 e&&p8 es)=true:=h
 rw[Bool.and_eq_true] at h'
 exact mG hc hg hm hv ha hn hdb (V3 h'.1) (aT h'.2)
theorem yU (hc:CallR X (.type T) r)(hm:X.mg x=none)(hv:bootBuiltins x=some (.type T))(ha:PA X (e::es) t)(hg:Gl X x:=by rfl)(hn:x≠"__name__":=by decide)(hdb:(x==("__debug__":Str))=false:=by decide)
  (h:p8 (e::es)=true:=by rfl):PE X (.Call (.Name x p) (e::es) [] pos) (sh r t):=by
 have h':(q5 e&&p8 es)=true:=h
 rw[Bool.and_eq_true] at h'
 exact kO hc hg hm hv ha hn hdb (V3 h'.1) (aT h'.2)
theorem cC {CX:gd}{k:Nat}{ps:List Str}{dvs:List V}{sp:Sp}{E:XK}(C:A7 X.prog X.w X.K X.mg X.base CX k x ps dvs sp)(hr:Room k X.A)(hx:aM CX X E)(ha:PA X (e::es) t)(hg:Gl X x:=by rfl)
  (hdb:(x==("__debug__":Str))=false:=by decide) (h:p8 (e::es)=true:=by rfl):PE X (.Call (.Name x p) (e::es) [] pos) (gL sp dvs E t):=by
 have h':(q5 e&&p8 es)=true:=h
 rw[Bool.and_eq_true] at h'
 exact oq C hr hx ha hg hdb (V3 h'.1) (aT h'.2)
theorem gT {tg:Expr}{k:Nat}{u:jC}(hc:X.calm=true)(hg:pV X es u)(hK:X.K=K:=by rfl)(h:p8 es=true:=by rfl):PG X (.Tuple es k pos) (oM K es.length u):=yF K hc hg hK (oK h) (nJ h)
theorem gC {g:TG}{u:jC}(h1:PG X e g)(h2:pV X es u)(h:q5 e=true:=by rfl):pV X (e::es) (jY g u):=oz h1 h2 (by rw[jI h];rfl)
end
end L2
set_option Elab.async false
set_option linter.all false
set_option maxRecDepth 100000
set_option maxHeartbeats 4000000
namespace L2
open PySem PySem.Spec PyProof.Rows
structure QE (X:Cx) (e:Expr) (t:TE):Prop where
 r:PE X e t
structure QT (X:Cx) (e:Expr) (t:TT):Prop where
 r:PT X e t
structure QW (X:Cx) (e:Expr) (t:TT):Prop where
 r:PW X e t
structure QA (X:Cx) (es:List Expr) (t:TA):Prop where
 r:PA X es t
structure QS (X:Cx) (st:Stmt) (t:TS):Prop where
 r:PS X st t
structure QSs (X:Cx) (st:List Stmt) (t:TS):Prop where
 r:PSs X st t
structure QG (X:Cx) (tg:Expr) (t:TG):Prop where
 r:PG X tg t
structure xH (X:Cx) (tg:List Expr) (t:jC):Prop where
 r:pV X tg t
structure QI (X:Cx) (tg iter:Expr) (t:gR):Prop where
 r:qN X tg iter t
structure xG (X:Cx) (ifs:List Expr) (t:TT):Prop where
 r:iQ X ifs t
structure QO (X:Cx) (e:Option Expr) (t:TO):Prop where
 r:PO X e t
structure QP (X:Cx) (pos:Pos) (keys:List (Option Expr)) (values:List Expr) (trs:List (TE×TE)):Prop where
 r:zh X pos keys values trs
section
variable {X:Cx} {a b c e o:Expr} {es:List Expr} {ta tb tc te to:TE} {tA tB':TT} {t:TA} {R0:List Expr} {pos apos cpos p2:Pos} {x:Str} {p:Pos} {bid T:String}
theorem jA {b:Bool}{j}:QE X (.Constant (.bool b) j pos) (tC (.bl b)):=⟨wD⟩
theorem d0 {i:Int}{j}:QE X (.Constant (.int i) j pos) (tC (.int i)):=⟨uw⟩
theorem A5 {x:Str}{j}:QE X (.Constant (.str x) j pos) (tC (.str x)):=⟨uo⟩
theorem qV (i:Nat)(hN:X.N[i]?=some x:=by rfl)(hv:xY X.env.scope x:=by first|exact Or.inl rfl|exact Or.inr (Or.inl rfl)|exact Or.inr (Or.inr rfl))(hd:(x==("__debug__":Str))=false:=by decide)
  (hcd:(x==("__classdict__":Str))=false:=by decide):QE X (.Name x pos) (sg i):=⟨ui hN hv hd hcd⟩
theorem lR {v:V}(h:mx X.mg x v)(hg:Gl X x:=by rfl)(hd:(x==("__debug__":Str))=false:=by decide):QE X (.Name x pos) (tC v):=⟨uh h hg hd⟩
theorem kx (n:String)(hm:X.mg x=none)(hv:bootBuiltins x=some (.type n))(hg:Gl X x:=by rfl)(hn:x≠"__name__":=by decide)(hd:(x==("__debug__":Str))=false:=by decide):QE X (.Name x pos) (tC (.ty n)):=⟨qc hg hm hv rfl hn hd⟩
theorem q8 {op:Operator}{r:R2}(ho:OpR X (binaryOp op) r)(ha:QE X a ta)(hb:QE X b tb):QE X (.BinOp a op b pos) (qU r ta tb):=⟨wg ho ha.r hb.r⟩
theorem zb {op:UnaryOp}{r:V→Hp→VK→Prop}(ho:xB X (unaryOp op) r)(ha:QE X a ta):QE X (.UnaryOp op a pos) (xP r ta):=⟨vx ho ha.r⟩
theorem lF {op}(h:QE X a ta):QE X (.BoolOp op [a] pos) ta:=⟨uZ h.r⟩
theorem iw (ha:QE X a ta)(hb:QE X (.BoolOp .And (b::R0) pos) tb):QE X (.BoolOp .And (a::b::R0) pos) (oS ta tb):=⟨tH ha.r hb.r⟩
theorem hX {op:CmpOp}{r:R2}(ho:OpR X (compareOp op) r)(ha:QE X a ta)(hb:QE X b tb)(hm:behindInMarks op b=false):QE X (.Compare a [op] [b] pos) (qU r ta tb):=⟨pZ ho ha.r hb.r hm⟩
theorem z6 {op:CmpOp}{r:R2}(ho:OpR X (compareOp op) r)(ha:QE X a ta)(hb:QE X b tb)(hm:behindInMarks op b=false):QT X (.Compare a [op] [b] pos) (pd (qU r ta tb)):=⟨qz ho ha.r hb.r hm⟩
theorem yh (hc:QT X c tA)(ha:QE X a ta)(hb:QE X b tb):QE X (.IfExp c a b pos) (xK tA ta tb):=⟨pG hc.r ha.r hb.r⟩
theorem pN:QO X none fq:=⟨qZ⟩
theorem ir (h:QE X e te):QO X (some e) (oZ te):=⟨qj h.r⟩
theorem mw {lo hi:Option Expr}{tl th:TO}{r:V→Option Int→Option Int→Hp→VK→Prop}(hr:SlR X r)(he:QE X e te)(hl:QO X lo tl)(hu:QO X hi th):QE X (.Subscript e (.Slice lo hi none p2) pos) (yq r te tl th):=⟨oT hr he.r hl.r hu.r⟩
theorem u4 {r:R2}(hr:IxR X r)(ha:QE X a ta)(hb:QE X b tb)(hs:jP b):QE X (.Subscript a b pos) (qU r ta tb):=⟨vt hr ha.r hb.r hs⟩
theorem cv (h:QA X es t):QE X (.List es pos) (vg t):=⟨vf h.r⟩
theorem cm {x1}(h:QA X es t):QE X (.Tuple es x1 pos) (ue t):=⟨tX h.r⟩
theorem wz:QE X (.Dict [] [] pos) mV:=⟨mJ⟩
theorem j0:QA X [] jk:=⟨sX⟩
theorem g0 (ha:QE X e te)(hr:QA X es t)(h:q5 e=true:=by rfl):QA X (e::es) (kC te t):=⟨zc ha.r hr.r h⟩
theorem qB {r:List V→Hp→VK→Prop}(hc:CallR X (.builtin bid) r)(hm:X.mg x=none)(hv:bootBuiltins x=some (.builtin bid))(ha:QA X (e::es) t)(hg:Gl X x:=by rfl)(hn:x≠"__name__":=by decide)(hdb:(x==("__debug__":Str))=false:=by decide)
  (h:p8 (e::es)=true:=by rfl):QE X (.Call (.Name x p) (e::es) [] pos) (sh r t):=⟨cB hc hm hv ha.r hg hn hdb h⟩
theorem nC {r:List V→Hp→VK→Prop}(hc:CallR X (.type T) r)(hm:X.mg x=none)(hv:bootBuiltins x=some (.type T))(ha:QA X (e::es) t)(hg:Gl X x:=by rfl)(hn:x≠"__name__":=by decide)(hdb:(x==("__debug__":Str))=false:=by decide)
  (h:p8 (e::es)=true:=by rfl):QE X (.Call (.Name x p) (e::es) [] pos) (sh r t):=⟨yU hc hm hv ha.r hg hn hdb h⟩
theorem qC {CX:gd}{k:Nat}{ps:List Str}{dvs:List V}{sp:Sp}{E:XK}(C:A7 X.prog X.w X.K X.mg X.base CX k x ps dvs sp)(hr:Room k X.A)(hx:aM CX X E)(ha:QA X (e::es) t)(hg:Gl X x:=by rfl)
  (hdb:(x==("__debug__":Str))=false:=by decide) (h:p8 (e::es)=true:=by rfl):QE X (.Call (.Name x p) (e::es) [] pos) (gL sp dvs E t):=⟨cC C hr hx ha.r hg hdb h⟩
theorem qM {name:Str}{r:V→List V→Hp→VK→Prop}(pa:PlainAttrs T)(slot:Slot T name bid)(hty:typeOf (.builtin bid)=pure (.type "method_descriptor"))(hm:MtR X bid r)(K:PySem.W.Frag)(ho:QE X o to)(ha:QA X (e::es) t)(hK:X.K=K:=by rfl)
  (hbase:attributeBase o name X.env (eval o X.env)=eval o X.env:=by rfl)
  (h:p8 (e::es)=true:=by rfl) (h2:decide ((e::es).length<30)=true:=by rfl) (hline:(apos.endLine==cpos.line)=true:=by rfl):QE X (.Call (.Attribute o name apos) (e::es) [] cpos) (yb K T r to t):=by
 have h':(q5 e&&p8 es)=true:=h
 rw[Bool.and_eq_true] at h'
 have hall:∀{l:List Expr},p8 l=true→(backTo cpos (starEach l X.env)).all (fun x=>!x.1)=true:=fun{l} hl=>by
  have q:=aT (env:=X.env) (pos:=cpos) hl
  rw[List.all_eq_true]
  intro y hy
  rw[List.any_eq_false] at q
  simpa using q y hy
 subst hK
 refine⟨xf pa slot hty hm ho.r ha.r hbase ?_ hline (V3 h'.1) (aT h'.2)⟩
 rw[hall h]
 show(true&&true&&decide ((e::es).length+0+0<30))=true
 simpa using h2
theorem C2 {own:List Str}{js:List Nat}{scope:Scope}{tg iter elt:Expr}{ifs:List Expr}{g:TG}{ti:TT}{wi:gR}(S:vm X own js scope=true)(hc:X.calm=true)(hit:QI X tg iter wi)
  (hg:∀C s H fp,QG (aB X own js scope C s H fp) tg g) (hi:∀C s H fp,xG (aB X own js scope C s H fp) ifs ti) (he:∀C s H fp,QE (aB X own js scope C s H fp) elt te)
  (hs:∀x,foldedSetIterable iter X.env x=pure x:=by intro _;rfl):QE X (.ListComp elt [⟨tg,iter,ifs,0⟩] scope pos) (dz own js wi g ti te):=
 ⟨lY S hc hit.r (fun C s H fp=>(hg C s H fp).r) (fun C s H fp=>(hi C s H fp).r) (fun C s H fp=>(he C s H fp).r) hs⟩
theorem O2:xG X [] uY:=⟨xg⟩
theorem tO (h:QT X c tA):xG X [c] tA:=⟨xJ h.r⟩
theorem E8 (ha:QT X a tA):QT X (.UnaryOp .Not a pos) (sS tA):=⟨sx ha.r⟩
theorem A8 (K:PySem.W.Frag)(ha:QE X a ta)(h:X.K=K:=by rfl)(he:∀whole,isTrue a X.env whole=(do let v←whole;standAt a.pos;holding [v] (truthy v)):=by intro _;rfl):QT X a (sP K ta):=⟨yr K ha.r h he⟩
theorem iW (h:QW X a tA):QT X a tA:=⟨h.r.pt⟩
theorem mX (ha:QT X a tA):QW X (.BoolOp .And [a] pos) tA:=⟨rj ha.r⟩
theorem U8 (ha:QT X a tA):QW X (.BoolOp .Or [a] pos) tA:=⟨uF ha.r⟩
theorem oX (ha:QT X a tA)(hb:QW X (.BoolOp .And (b::R0) pos) tB'):QW X (.BoolOp .And (a::b::R0) pos) (sO tA tB'):=⟨tZ ha.r hb.r⟩
theorem W9 (ha:QT X a tA)(hb:QW X (.BoolOp .Or (b::R0) pos) tB'):QW X (.BoolOp .Or (a::b::R0) pos) (yA tA tB'):=⟨vF ha.r hb.r⟩
theorem P0 {i:Nat}(hN:X.N.Nodup)(hi:X.N[i]?=some x)(hx:rL X.env.scope x)(hf:X.fn x=true∨X.env.scope.names.lookup x=some .local:=by first|exact .inl rfl|exact .inr rfl|assumption):QG X (.Name x pos) (Z8 i):=⟨rp hN hi hx hf⟩
theorem rO:xH X [] sJ:=⟨qG⟩
theorem gs {g:TG}{u:jC}(h1:QG X e g)(h2:xH X es u)(h:q5 e=true:=by rfl):xH X (e::es) (jY g u):=⟨gC h1.r h2.r h⟩
theorem se (K:PySem.W.Frag){k:Nat}{u:jC}(hc:X.calm=true)(hg:xH X es u)(hK:X.K=K:=by rfl)(h:p8 es=true:=by rfl):QG X (.Tuple es k pos) (oM K es.length u):=⟨gT (tg:= .Name Str.empty pos) hc hg.r hK h⟩
theorem vN {i:Expr}{ti:TE}{u:iN}(ho:QE X o to)(hi:QE X i ti)(hs:lU X u)
  (ha:∀v,assign (.Subscript o i pos) X.env v=(do
   let ov←holding [v] (eval o X.env)
   let iv←holding [v,ov] (eval i X.env)
   standAt pos
   holding [v,ov,iv] (setItem ov iv v)
   release [v,ov,iv] []):=by intro _;rfl):QG X (.Subscript o i pos) (ur to ti u):=⟨sV ho.r hi.r hs ha⟩
theorem P9 (K:PySem.W.Frag){tg:Expr}(hl:QE X a ta)(h:X.K=K:=by rfl):QI X tg a (xy K ta):=⟨zd K hl.r h⟩
def uu (wi:TI):gR:=fun σ H R=>wi σ H fun J H'=>R J id H'
theorem xw {wi:TI}{σ:St}{H:Hp}{R:It→(Hp→Hp)→Hp→Prop}(q:wi σ H fun J H'=>R J id H'):uu wi σ H R:=q
theorem gE {tg:Expr}(hm:X.mg "range"=none)(ha:QA X [a] t)(hg:Gl X "range":=by rfl)(h:q5 a=true:=by rfl):QI X tg (.Call (.Name "range" p) [a] [] pos) (uu (oP t)):=⟨(lN hg hm ha.r (V3 h)).two⟩
theorem cI {elts:List Expr}{x1}{tpos:Pos}(ho:QE X o to)
  (hbase:attributeBase o "items" X.env (eval o X.env)=eval o X.env:=by rfl) (hline:(apos.endLine==cpos.line)=true:=by rfl):QI X (.Tuple elts x1 tpos) (.Call (.Attribute o "items" apos) [] [] cpos) (iC to):=⟨pD ho.r hbase hline⟩
variable {st:Stmt} {sts body orelse:List Stmt} {u u':TS} {g:TG}
theorem aL:QSs X [] ny:=⟨qT⟩
theorem B8 (h:QS X st u):QSs X [st] u:=⟨qD h.r⟩
theorem z7 (h1:QS X st u)(h2:QSs X sts u'):QSs X (st::sts) (og u u'):=⟨oR h1.r h2.r⟩
theorem p0 {i:Nat}{pos':Pos}(hN:X.N.Nodup)(hi:X.N[i]?=some x)(hx:rL X.env.scope x)(he:QE X e te)(hs:swapsWith e (some (.Name x pos')) pos.line X.env=pure false:=by rfl)(hf:X.fn x=true∨X.env.scope.names.lookup x=some .local:=by first|exact .inl rfl|exact .inr rfl):
  QS X (.Assign [.Name x pos'] e pos) (iu te (Z8 i)):=⟨sZ hN hi hx he.r hs hf⟩
theorem lO {tg:Expr}(he:QE X e te)(hg:QG X tg g)(hs:swapsWithSole [tg] e pos.line X.env=pure false:=by rfl)(hw:swappedStores [tg] e X.env=pure none:=by rfl)(h:q5 tg=true:=by rfl):QS X (.Assign [tg] e pos) (iu te g):=
 ⟨sE he.r hg.r hs hw (by rw[jI h];rfl)⟩
theorem aO (hc:QT X c tA)(ht:QSs X body u)(he:QSs X orelse u'):QS X (.If c body orelse pos) (sQ tA u u'):=⟨wj hc.r ht.r he.r⟩
theorem x5 (he:QE X e te):QS X (.Return (some e) pos) (sW te):=⟨ub he.r⟩
theorem yj (he:QE X e te)(hs:swapsWith e none pos.line X.env=pure false:=by rfl):QS X (.Expr e pos) (oB te):=⟨qY he.r hs⟩
theorem dn {tg iter:Expr}{wi:gR}(hp:PassesOwn (model X.prog X.w) X.A X.env X.xe)(hc:X.calm=true)(hi:QI X tg iter wi)(hg:QG X tg g)(hb:QSs X body u)(hs:∀x,foldedSetIterable iter X.env x=pure x:=by intro _;rfl):QS X (.For tg iter body [] pos) (ou wi g u):=
 ⟨qm hp hc hi.r hg.r hb.r hs⟩
end
end L2
set_option Elab.async false
set_option linter.all false
set_option maxRecDepth 100000
set_option maxHeartbeats 4000000
namespace L2
open PySem PySem.Spec PyProof.Rows
theorem W8:∀{ss:List Str} {us:List Value},Vals (ss.map V.str) us→StrsAre us ss
 |[],_,.nil=> .nil
 |x::ss,_,.cons r t=>by
  obtain⟨k,rfl⟩:=r
  exact .cons x k (W8 t)
theorem V9:∀{us:List Value} {ss:List Str},StrsAre us ss→Vals (ss.map V.str) us
 |_,_,.nil=> .nil
 |_,_,.cons y t r=> .cons ⟨t,rfl⟩ (V9 r)
theorem Q6:∀{xs:List V} {us:List Value},xs.length=us.length→(∀(i:Nat) x u,xs[i]?=some x→us[i]?=some u→RelV x u)→Vals xs us
 |[],[],_,_=> .nil
 |[],_::_,h,_=>by simp at h
 |_::_,[],h,_=>by simp at h
 |x::xs,u::us,h,k=> .cons (k 0 x u rfl rfl) (Q6 (by simpa using h) fun i y v e1 e2=>k (i+1) y v (by simpa using e1) (by simpa using e2))
section
variable {X:Cx}
theorem Inv.newL {pins:List (Addr×Obj)}{σ:St}{H:Hp}{s:Shared}{h':Heap}{tk:Nat}{a:Addr}{xs:List V}{out:Array Value}{e:Nat}(I:Inv X pins σ H s)(k:∀b u,s.heap.get? b=some u→h'.get? b=some u)(ha:s.heap.objs.size≤a)
  (ho:h'.get? a=some {cls:= .type "list",data:= .seq out e}) (rv:Vals xs out.toList) (hz:xs.length≤sizeLine):Inv X pins σ (n0 H a (.lst xs)) {s with heap:=h',toks:=tk}:=
 I.laid k ha ⟨hz,out.toList,e,rv,by rw[ho]⟩
theorem ObjOk.live {P:Program}{w:World}{H:Hp}{h:Heap}{a:Addr}{o:HO}(x:ObjOk P w H h a o):∃ob,h.get? a=some ob:=by
 cases o with
 |lst xs=>obtain⟨_,_,_,_,e⟩:=x;exact⟨_,e⟩
 |tup xs=>obtain⟨_,_,_,o,e,_⟩:=x;exact⟨_,e⟩
 |dK kvs=>obtain⟨_,_,_,_,o,_,_,e,_⟩:=x;exact⟨_,e⟩
 |dT kvs=>obtain⟨_,_,_,_,o,_,_,e,_⟩:=x;exact⟨_,e⟩
 |set S n=>obtain⟨o,_,_,_,e,_⟩:=x;exact⟨_,e⟩
 |ins C dx fs=>obtain⟨_,_,_,e,_⟩:=x;exact⟨_,e⟩
 |own y=>exact x
 |xd fs=>obtain⟨_,⟨_,_,_,e,_⟩,_⟩:=x;exact⟨_,e⟩
 |rng lo hi=>obtain⟨_,_,_,e⟩:=x;exact⟨_,e⟩
 |frz ob u=>obtain⟨e,_⟩:=x;exact⟨_,e⟩
 |tbl ps=>exact⟨_,(show h.get? a=some _ from x)⟩
 |met f y=>exact⟨_,(show h.get? a=some _ from x)⟩
 |ext φ=>obtain⟨_,e,_⟩:=x;exact e
theorem Inv.newN {pins:List (Addr×Obj)}{σ:St}{H:Hp}{s:Shared}{h':Heap}{tk:Nat}{a:Addr}{xs:List V}{out:Array Value}{e:Nat}(I:Inv X pins σ H s)(k:∀b u,s.heap.get? b=some u→h'.get? b=some u)(hn:s.heap.get? a=none)
  (ho:h'.get? a=some {cls:= .type "list",data:= .seq out e}) (rv:Vals xs out.toList) (hz:xs.length≤sizeLine):H a=none∧Inv X pins σ (n0 H a (.lst xs)) {s with heap:=h',toks:=tk}:=by
 have hH:H a=none:=by
  cases q:H a with
  |none=>rfl
  |some u=>
   obtain⟨ob,z⟩:=(I.hok a u q).live
   rw[hn] at z;cases z
 have na:∀b o,s.heap.get? b=some o→b≠a:=fun b o z w=>by rw[w,hn] at z;cases z
 have nh:∀b u,H b=some u→b≠a:=fun b u z=>d8 z hH
 refine⟨hH,I.un ⟨fun b o z n _ _=>k b o z,fun b o z n _ _=>⟨o.slots,k b o z⟩,fun b o z n _=>by rw[b9 (na b o z)];exact n,fun b o z _=>⟨o,k b o z⟩,fun b ys z=>by rw[b9 (nh b _ z)];exact z,
  fun b ob u z=>by rw[b9 (nh b _ z)];exact z,fun b ps z=>⟨#[],by rw[b9 (nh b _ z)];simpa using z⟩⟩ fun b u z=>?_⟩
 by_cases hb:b=a
 ·subst hb
  rw[d9] at z;cases z
  exact⟨hz,out.toList,e,rv,by rw[ho]⟩
 ·rw[b9 hb] at z
  exact(I.hok b u z).stay (fun c v _ y=>k c v y) (fun c y=>by rw[b9 (nh c _ y)];exact y) fun c ys y=>by rw[b9 (nh c _ y)];exact y
def fS (K:PySem.W.Frag):List V→Hp→VK→Prop:=fun xs H Q=>∃(p:Addr) (ss:List Str),xs=[.ref p]∧(SqL K H p (ss.map V.str)∨∃kvs:List (g7×V),Rd H p (.dK kvs)∧kvs.map (·.1)=ss.map Sum.inr)∧ss.length<64∧
 ∀ss':List Str,ss'.Perm ss→sortedS ss'=true→∀l,H l=none→Q (.ref l) (n0 H l (.lst (ss'.map V.str)))
theorem lq {M:Program}{w:World}{A:Around}{E:Value→Shared→Prop}{s:Shared}{a:Addr}{vs:List Value}{ss:List Str}{n:Nat}{Q:Value→Shared→Prop}(ho:s.heap.get? a=some (seqObj "list" vs.toArray n))(hS:StrsAre vs ss)(h64:vs.length<64)
  (h:∀(out:Array Value) (ss':List Str),StrsAre out.toList ss'→ss'.Perm ss→sortedS ss'=true→Q .none {s with heap:=sortedHeap s.heap a vs out}):
  wpAny (model M w) A (call (.builtin "list.sort") [.ref a]) Q E s:=by
 refine wpAny_call_entry PySem.F.slot_list_sort ⟨_,ho,rfl⟩ PySem.F.entry_list_sort ?_ (PySem.F.args_list_sort_1 _)
 refine list_sort_treeK strKind_oneLt ho hS.keysOf (fun v₁ v₂ R0 e=>keyKind_strs (by rw[←e];exact hS)) h64 fun st' hp hs=>?_
 obtain⟨ss',h1,h2,h3⟩:=sorted_out_str hS hp hs
 exact⟨_,rfl,h _ ss' h1 h2 h3⟩
theorem fh (hc:X.calm=true):CallR X (.builtin "sorted") (fS X.K):=by
 intro pins s σ H xs us Q I r h
 obtain⟨p,ss,rfl,hx,h64,q⟩:=h
 obtain⟨u,rfl,ru⟩:=M9 r
 cases ru
 have hsl:(64:Nat)≤sizeLine:=by decide
 rcases hx with hx|⟨kvs,hx,hk⟩
 ·obtain⟨its,rv,ht,hz⟩:=I.list hx
  have hS:=W8 rv
  have hl:its.length=ss.length:=by have:=rv.length;simpa using this.symm
  refine sorted_strs ht.isList hS (by omega) fun out ss' a1 a2 a3=>?_
  obtain⟨e,he⟩:=sortedAll_at s.heap its out
  have hl':=a2.length_eq
  exact⟨.ref (s.heap.objs.size+1),_,I.newL (tk:=s.toks) (fun _ _=>sortedAll_old) (Nat.le_succ _) he (V9 a1) (by rw[List.length_map];omega),rfl,q ss' a2 a3 _ (I.hok.fresh (Nat.le_succ _))⟩
 ·obtain⟨hd,o,vs,ep,ho,D⟩:=aY I.hok hx
  have dat:=D.at_ _ ho
  have hlen:kvs.length=ss.length:=by have:=congrArg List.length hk;simpa using this
  have hlv:=KV.length D.kv
  refine Calls.call_function_entry kind_sorted plain_sorted entry_sorted (args_sorted1 _) ?_
  unfold Builtin.«sorted»
  refine wpAny_bind (m:=checkCount "sorted" 1 1 _) (wpAny_pure ?_)
  refine wpAny_bind (PySem.W.kdu_collect (A:=X.A.in1) (PySem.W.kdl_dict (knd:=j2 X.prog X.w) (kvs:=vs) (ep:=ep) hd) (I.ok.hd hc) dat (by omega) fun h' tk acc hkp hacc=>?_)
  have hl:acc.toList.length=vs.length:=by rw[Array.length_toList];exact hacc.1
  have hS:StrsAre acc.toList ss:=by
   refine W8 (Q6 (by rw[List.length_map];omega) fun i x u e1 e2=>?_)
   obtain⟨k,y,hy,hky⟩:=hacc.2 i u (by rw[←Array.getElem?_toList];exact e2)
   have e3:(kvs.map (·.1))[i]?=some k:=by rw[KV.keys D.kv,List.getElem?_map,hy];rfl
   rw[hk,List.getElem?_map] at e3
   rw[List.getElem?_map] at e1
   cases e4:ss[i]? with
   |none=>rw[e4] at e1;cases e1
   |some z=>
    rw[e4] at e1 e3
    cases e1
    cases e3
    exact bt hky
  refine wpAny_bind (wpAny_newList ?_ (by rw[hl];omega))
  refine wpAny_bind (wpAny_holding (lq (s:={s with heap:=h'.push {cls:= .type "list",data:= .seq acc.toList.toArray},toks:=tk}) (n:=0) (Heap.get?_push_size _ rfl) hS (by omega) fun out ss' a1 a2 a3=>?_))
  obtain⟨e,he⟩:=sortedHeap_at (h:=h'.push {cls:= .type "list",data:= .seq acc.toList.toArray}) (a:=h'.objs.size) (vs:=acc.toList) (n:=0) (out:=out) (Heap.get?_push_size _ rfl)
  have hno:s.heap.get? h'.objs.size=none:=by
   cases z:s.heap.get? h'.objs.size with
   |none=>rfl
   |some ob=>exact absurd (Heap.lt_size (hkp _ _ z)) (Nat.lt_irrefl _)
  have hl':=a2.length_eq
  obtain⟨hH,I2⟩:=I.newN (tk:=tk) (h':=sortedHeap (h'.push {cls:= .type "list",data:= .seq acc.toList.toArray}) h'.objs.size acc.toList out) (xs:=ss'.map V.str) (fun b u eb=>by
   have hb:=Heap.lt_size (hkp b u eb)
   rw[sortedHeap_old (b:=b) (Nat.ne_of_lt hb) (by rw[Heap.size_push];exact Nat.lt_succ_of_lt hb)]
   exact Heap.get?_push_of_some _ (hkp b u eb)) hno he (V9 a1) (by rw[List.length_map];omega)
  exact wpAny_pure ⟨_,rfl,.ref h'.objs.size,_,I2,rfl,q ss' a2 a3 _ hH⟩
def jV (K:PySem.W.Frag):List V→Hp→VK→Prop:=fun xs H Q=>(∃p ys,xs=[.ref p]∧(SqL K H p ys∨SqT K H p ys)∧∀l,H l=none→Q (.ref l) (n0 H l (.lst ys)))∨
 (∃(p:Addr) (kvs:List (g7×V)),xs=[.ref p]∧Rd H p (.dK kvs)∧∀l,H l=none→Q (.ref l) (n0 H l (.lst (kvs.map fun kv=>kV kv.1))))
theorem iV (hc:X.calm=true):CallR X (.type "list") (jV X.K):=by
 refine call_list_of.or ?_
 intro pins s σ H xs us Q I r h
 obtain⟨p,kvs,rfl,hx,q⟩:=h
 obtain⟨u,rfl,ru⟩:=M9 r
 cases ru
 obtain⟨hd,o,vs,ep,ho,D⟩:=aY I.hok hx
 have hlv:=KV.length D.kv
 have hz:kvs.length≤sizeLine:=(J5 I.hok hx).1
 refine PySem.W.kdl_call (PySem.W.kdl_dict (knd:=j2 X.prog X.w) (kvs:=vs) (ep:=ep) hd) (I.ok.hd hc) (D.at_ _ ho) (by omega) fun h' tk acc c hkp hS hacc=>?_
 refine⟨.ref s.heap.objs.size,_,I.newL (tk:=tk) hkp (Nat.le_refl _) hS (Q6 (by have:=hacc.1;simp;omega) fun i x u e1 e2=>?_) (by rw[List.length_map];exact hz),rfl,q _ (I.hok.fresh (Nat.le_refl _))⟩
 obtain⟨k,y,hy,hky⟩:=hacc.2 i u (by rw[←Array.getElem?_toList];exact e2)
 rw[List.getElem?_map] at e1
 cases e4:kvs[i]? with
 |none=>rw[e4] at e1;cases e1
 |some kv=>
  rw[e4] at e1
  cases e1
  have e3:(kvs.map (·.1))[i]?=some kv.1:=by rw[List.getElem?_map,e4];rfl
  rw[KV.keys D.kv,List.getElem?_map,hy] at e3
  cases e3
  exact bt hky
def rQ:List V→Hp→VK→Prop:=fun xs H Q=>∃(p:Addr) (kvs:List (g7×V)),xs=[.ref p]∧Rd H p (.dK kvs)∧∀l,H l=none→Q (.ref l) (n0 H l (.dK kvs))
theorem jl:CallR X (.type "dict") rQ:=by
 intro pins s σ H xs us Q I r h
 obtain⟨p,kvs,rfl,hx,q⟩:=h
 obtain⟨u,rfl,ru⟩:=M9 r
 cases ru
 exact mR I hx fun l s' hl I'=>⟨.ref l,_,I',rfl,q l hl⟩
def oY:R2:=fun x y H Q=>rI CMul (fun i j=> .int (i*j)) x y H Q∨(∃z n,x= .str z∧y= .int n∧z.length≤1000∧-1000≤n∧n≤1000∧Q (.str (Txt.mul z n)) H)
theorem G1:OpR X (binaryOp .Mult) oY:=by
 refine op_mul.or ?_
 intro pins s σ H x y v u Q I rx ry h
 obtain⟨z,n,rfl,rfl,h1,h2,h3,q⟩:=h
 obtain⟨t,rfl⟩:=rx
 obtain⟨t',rfl⟩:=ry
 exact SB.mul (mulOk_of 1000 1000 h1 h3 (by omega) (by decide) (by decide)) fun t2 k=>⟨.str _,H,I.tok _,⟨t2,rfl⟩,q⟩
def kj:iN:=fun o i v H Q=>rY o i v H Q∨(∃a H',o= .ref a∧DPut H a i v H'∧Q H')
theorem qp (hu:X.A.units+1<cLine):lU X kj:=by
 intro pins s σ H o i v ov iv u Q I ro ri rv h
 rcases h with h|⟨a,H',rfl,g,q⟩
 ·exact nT pins s σ H o i v ov iv u Q I ro ri rv h
 ·cases ro
  exact kU hu I g ri rv fun s' I'=>⟨H',I',q⟩
end
end L2
set_option Elab.async false
set_option linter.all false
set_option maxRecDepth 100000
set_option maxHeartbeats 4000000
namespace L2
open PySem PySem.Spec PyProof.Rows
section
variable {X:Cx}
theorem Inv.pairNew {pins:List (Addr×Obj)}{σ:St}{H:Hp}{s:Shared}{fp:List Addr}{h':Heap}{tk:Nat}{x y:V}{u v:Value}{e:Nat}(I:Inv X pins σ H s)(hf:∀b∈fp,bA X pins H b)
  (kp:∀b o,b∉fp→s.heap.get? b=some o→h'.get? b=some o) (there:∀b∈fp,b<s.heap.objs.size) (tup:h'.get? s.heap.objs.size=some {cls:= .type "tuple",data:= .seq #[u,v] e}) (rx:RelV x u) (ry:RelV y v):
  H s.heap.objs.size=none∧Inv X pins σ (n0 H s.heap.objs.size (.tup [x,y])) {s with heap:=h',toks:=tk}∧∀b∈fp,n0 H s.heap.objs.size (.tup [x,y]) b=none:=by
 have fresh:H s.heap.objs.size=none:=I.hok.fresh (Nat.le_refl _)
 have nsz:∀b o,s.heap.get? b=some o→b≠s.heap.objs.size:=fun b o z=>Nat.ne_of_lt (Heap.lt_size z)
 have hH:∀b w,H b=some w→b≠s.heap.objs.size∧b∉fp:=fun b w z=>⟨d8 z fresh,fun m=>by rw[(hf b m).1] at z;cases z⟩
 have hok:HOk X.prog X.w (n0 H s.heap.objs.size (.tup [x,y])) h':=fun b w z=>by
  by_cases hb:b=s.heap.objs.size
  ·subst hb
   rw[d9] at z;cases z
   exact⟨by show 2≤sizeLine;decide,[u,v],.cons rx (.cons ry .nil),⟨_,tup,rfl,_,rfl⟩⟩
  ·rw[b9 hb] at z
   refine(I.hok b w z).stay (fun c ob hc q=>kp c ob ?_ q) (fun c q=>by rw[b9 (hH c _ q).1];exact q) fun c ys q=>by rw[b9 (hH c _ q).1];exact q
   rcases hc with m|m
   ·rw[m];exact(hH b _ z).2
   ·exact(hH c _ m).2
 refine⟨fresh,I.call' (s':={s with heap:=h',toks:=tk}) (ch:=fp) rfl ⟨fun b o z n _ hx=>kp b o hx z,fun b o z n _ hx=>⟨o.slots,kp b o hx z⟩,fun b o z n _=>by rw[b9 (nsz b o z)];exact n,
  fun b o z hx=>⟨o,kp b o hx z⟩,fun b ys z=>by rw[b9 (hH b _ z).1];exact z,fun b ob w z=>by rw[b9 (hH b _ z).1];exact z,fun b ps z=>⟨#[],by rw[b9 (hH b _ z).1];simpa using z⟩⟩ hok I.bare fun b hb=>?_,fun b hb=>?_⟩
 ·obtain⟨f0,f1,f2,f3,f4,f5⟩:=hf b hb
  exact⟨f3,f1,f4,f5⟩
 ·rw[b9 (Nat.ne_of_lt (there b hb))];exact(hf b hb).1
theorem Inv.turnedAll {pins:List (Addr×Obj)}{σ:St}{H:Hp}{s:Shared}{fp:List Addr}{h':Heap}{tk:Nat}(I:Inv X pins σ H s)(hf:∀b∈fp,bA X pins H b)
  (kp:∀b o,b∉fp→s.heap.get? b=some o→h'.get? b=some o):Inv X pins σ H {s with heap:=h',toks:=tk}:=by
 have hH:∀b w,H b=some w→b∉fp:=fun b w z m=>by rw[(hf b m).1] at z;cases z
 refine I.call' (s':={s with heap:=h',toks:=tk}) (ch:=fp) rfl ⟨fun b o z n _ hx=>kp b o hx z,fun b o z n _ hx=>⟨o.slots,kp b o hx z⟩,fun b o z n _=>n,
  fun b o z hx=>⟨o,kp b o hx z⟩,fun b ys z=>z,fun b ob w z=>z,fun b ps z=>⟨#[],by simpa using z⟩⟩ (fun b w z=>?_) I.bare fun b hb=>?_
 ·refine(I.hok b w z).stay (fun c ob hc q=>kp c ob ?_ q) (fun c q=>q) fun c ys q=>q
  rcases hc with m|m
  ·rw[m];exact hH b _ z
  ·exact hH c _ m
 ·obtain⟨f0,f1,f2,f3,f4,f5⟩:=hf b hb
  exact⟨f3,f1,f4,f5⟩
end
def wO (K:PySem.W.Frag)(l:Addr):It:=
 ⟨fun i H=>∃xs x,SqL K H l xs∧xs[i]?=some x,fun i H x H'=>∃t v,(∀xs,SqL K H l xs→xs[i]?=some v)∧H t=none∧x= .ref t∧H'=n0 H t (.tup [.int i,v]),fun i H=>∃xs,SqL K H l xs∧xs.length≤i⟩
theorem mv {P:Program}{w:World}{K:PySem.W.Frag}{elts:List Expr}{x1}{tpos:Pos}{en it l:Addr}(hne:en≠it):bU P w K (.Tuple elts x1 tpos) (wO K l) [en,it] en (fun i h=>∃old,IsEnum h en it i old∧h.IsListIter it l i) where
 mem:=by simp
 obj:=fun i h st b hb=>by
  obtain⟨old,h1,o,e,c,d⟩:=st
  have hb':b=en∨b=it:=by simpa using hb
  rcases hb' with rfl|rfl
  ·exact⟨_,h1,fun v z=>by
    have z':Data.fields _=Data.cell v:=z
    cases z'⟩
  ·exact⟨o,e,fun v z=>by rw[d] at z;cases z⟩
 keep:=fun i h h' st k=>by
  obtain⟨old,h1,h2⟩:=st
  exact⟨old,k en (by simp) _ h1,h2.at fun o e=>k it (by simp) o e⟩
 item:=by
  intro X hP hw hK hc i pins s σ H E I hf st hg
  subst hP hw hK
  obtain⟨old,st1,st2⟩:=st
  obtain⟨xs,x,hq,hx⟩:=hg
  obtain⟨its,rv,p,hz⟩:=I.list hq
  obtain⟨u,hu,ru⟩:=rv.get hx
  have hen:en<s.heap.objs.size:=Heap.lt_size st1
  have hit:it<s.heap.objs.size:=by obtain⟨o,e,_⟩:=st2;exact Heap.lt_size e
  refine wpAny_pyNext_enum_item st1 st2 p.isList (x:=u) (by simpa using hu) hne fun h' heo hit1 ht1 hz1 hk1=>?_
  refine⟨.ref s.heap.objs.size,rfl,wpAny_letOwnedTupleGo_enum (s:={s with heap:=h',toks:=s.toks+1}) heo fun h'' he'' hs''=>?_⟩
  have hs2:Heap.SameBut en h' h'':=hs''
  have tupAt:h''.get? s.heap.objs.size=some {cls:= .type "tuple",data:= .seq #[.int i s.toks,u]}:=hs2.extBut _ _ (Nat.ne_of_gt hen) ht1
  obtain⟨fr,I1,fr2⟩:=I.pairNew (fp:=[en,it]) (h':=h'') (tk:=s.toks+1) (x:= .int i) (y:=x) hf (fun b o hb e=>by
   have hb':b≠en∧b≠it:=by simpa using hb
   exact hs2.extBut b o hb'.1 (hk1 b o hb'.1 hb'.2 e)) (fun b hb=>by
   have hb':b=en∨b=it:=by simpa using hb
   rcases hb' with rfl|rfl
   ·exact hen
   ·exact hit) tupAt ⟨_,rfl⟩ ru
  refine⟨.ref s.heap.objs.size,_,I1,rfl,⟨_,x,fun ys hy=>by rw[I.list_inj hy hq];exact hx,fr,rfl,rfl⟩,⟨_,he'',?_⟩,fr2⟩
  exact hit1.at fun o e=>hs2.extBut it o (Ne.symm hne) e
 done:=by
  intro X hP hw hK hc i pins s σ H E I hf st hg
  subst hP hw hK
  obtain⟨old,st1,st2⟩:=st
  obtain⟨xs,hq,hx⟩:=hg
  obtain⟨its,rv,p,hz⟩:=I.list hq
  have hl:=rv.length
  exact wpAny_pyNext_enum_end (I.ok.hd hc) st1 st2 p.isList (by simp;omega) fun h' eb=>⟨rfl,I.turnedAll (fp:=[en,it]) (tk:=s.toks) hf fun b o hb e=>eb b o (by
   have hb':b≠en∧b≠it:=by simpa using hb
   exact hb'.2) e⟩
 self:=fun _ _ _ _ _ st h=>by
  obtain⟨old,st1,st2⟩:=st
  exact wpAny_pyIter_enum st1 h
section
variable {X:Cx} {a b:Expr} {t:TA} {p pos:Pos}
def vK (K:PySem.W.Frag)(ta:TA):TI:=fun σ H R=>ta σ H fun vs H1=>∃l xs,vs=[.ref l]∧SqL K H1 l xs∧R (wO K l) H1
end
def xT (K : PySem.W.Frag) (l m : Addr) : It :=
  ⟨fun i H => ∃ xs ys x y, SqL K H l xs ∧ SqL K H m ys ∧ xs[i]? = some x ∧ ys[i]? = some y,
   fun i H v H' => ∃ t x y, (∀ xs, SqL K H l xs → xs[i]? = some x) ∧ (∀ ys, SqL K H m ys → ys[i]? = some y) ∧ H t = none ∧ v = .ref t ∧ H' = n0 H t (.tup [x, y]),
   fun i H => ∃ xs ys, SqL K H l xs ∧ SqL K H m ys ∧ (xs.length ≤ i ∨ ys.length ≤ i)⟩
theorem j6 {h:Heap}{a b:Addr}{o u:Obj}(e:h.get? a=some o)(e':h.get? b=some u)(n:o.cls≠u.cls):a≠b:=fun z=>by
 subst z;rw[e] at e';cases e';exact n rfl
theorem nS {P:Program}{w:World}{K:PySem.W.Frag}{elts:List Expr}{x1}{tpos:Pos}{z TI TO i1 i2 l m:Addr}(h12:i1≠i2)(hT:TI≠TO):
  bU P w K (.Tuple elts x1 tpos) (xT K l m) [z,TI,TO,i1,i2] z (fun i h=>IsZip h z TI TO .none∧IsPair h TI (.ref i1) (.ref i2)∧(∃a b,IsPair h TO a b)∧h.IsListIter i1 l i∧h.IsListIter i2 m i) where
 mem:=by simp
 obj:=fun i h st b hb=>by
  obtain⟨z1,z2,⟨a,c,z3⟩,⟨o4,e4,c4,d4⟩,⟨o5,e5,c5,d5⟩⟩:=st
  have hb':b=z∨b=TI∨b=TO∨b=i1∨b=i2:=by simpa using hb
  rcases hb' with rfl|rfl|rfl|rfl|rfl
  ·exact⟨_,z1,fun v q=>by
    have q':Data.fields _=Data.cell v:=q
    cases q'⟩
  ·exact⟨_,z2,fun v q=>by
    have q':Data.seq _ _=Data.cell v:=q
    cases q'⟩
  ·exact⟨_,z3,fun v q=>by
    have q':Data.seq _ _=Data.cell v:=q
    cases q'⟩
  ·exact⟨o4,e4,fun v q=>by rw[d4] at q;cases q⟩
  ·exact⟨o5,e5,fun v q=>by rw[d5] at q;cases q⟩
 keep:=fun i h h' st k=>by
  obtain⟨z1,z2,⟨a,c,z3⟩,z4,z5⟩:=st
  exact⟨k z (by simp) _ z1,k TI (by simp) _ z2,⟨a,c,k TO (by simp) _ z3⟩,z4.at fun o e=>k i1 (by simp) o e,z5.at fun o e=>k i2 (by simp) o e⟩
 item:=by
  intro X hP hw hK hc i pins s σ H E I hf st hg
  subst hP hw hK
  obtain⟨z1,z2,⟨a,c,z3⟩,z4,z5⟩:=st
  obtain⟨xs,ys,x,y,hq,hq',hx,hy⟩:=hg
  obtain⟨its,rv,p,hz⟩:=I.list hq
  obtain⟨its',rv',p',hz'⟩:=I.list hq'
  obtain⟨u,hu,ru⟩:=rv.get hx
  obtain⟨u',hu',ru'⟩:=rv'.get hy
  obtain⟨o4,e4,c4,d4⟩:=id z4
  obtain⟨o5,e5,c5,d5⟩:=id z5
  obtain⟨o6,n6,e6,c6,_⟩:=id p
  obtain⟨o7,n7,e7,c7,_⟩:=id p'
  have D:ZipApart z TI TO i1 i2 l m:=
   ⟨j6 z2 z1 (by simp),j6 z3 z1 (by simp),j6 e4 z1 (by rw[c4];simp),j6 e5 z1 (by rw[c5];simp),hT,j6 z2 e4 (by rw[c4];simp),j6 z2 e5 (by rw[c5];simp),j6 z3 e4 (by rw[c4];simp),j6 z3 e5 (by rw[c5];simp),h12,
    j6 e6 z1 (by rw[c6];simp),j6 e6 z3 (by rw[c6];simp),j6 e6 e4 (by rw[c6,c4];simp),j6 e6 e5 (by rw[c6,c5];simp),j6 e7 z1 (by rw[c7];simp),j6 e7 z3 (by rw[c7];simp),j6 e7 e4 (by rw[c7,c4];simp),j6 e7 e5 (by rw[c7,c5];simp)⟩
  refine wpAny_pyNext_zip_item D z1 z2 z3 z4 z5 p.isList p'.isList (x:=u) (y:=u') (by simpa using hu) (by simpa using hu') fun h' a1 a2 a3 a4 a5 a6 a7=>?_
  refine⟨.ref s.heap.objs.size,rfl,wpAny_letOwnedTupleGo_zip (s:={s with heap:=h'}) a1 fun h'' b1 b2=>?_⟩
  have hs2:Heap.SameBut z h' h'':=b2
  have lt:∀b∈[z,TI,TO,i1,i2],b<s.heap.objs.size:=fun b hb=>by
   have hb':b=z∨b=TI∨b=TO∨b=i1∨b=i2:=by simpa using hb
   rcases hb' with rfl|rfl|rfl|rfl|rfl
   ·exact Heap.lt_size z1
   ·exact Heap.lt_size z2
   ·exact Heap.lt_size z3
   ·exact Heap.lt_size e4
   ·exact Heap.lt_size e5
  have kp2:∀b o,b≠z→h'.get? b=some o→h''.get? b=some o:=fun b o hb e=>hs2.extBut b o hb e
  obtain⟨fr,I1,fr2⟩:=I.pairNew (fp:=[z,TI,TO,i1,i2]) (h':=h'') (tk:=s.toks) (x:=x) (y:=y) hf (fun b o hb e=>by
   have hb':b≠z∧b≠TI∧b≠TO∧b≠i1∧b≠i2:=by simpa using hb
   exact kp2 b o hb'.1 (a7 b o hb'.1 hb'.2.2.1 hb'.2.2.2.1 hb'.2.2.2.2 e)) lt (kp2 _ _ (Nat.ne_of_gt (Heap.lt_size z1)) a5) ru ru'
  refine⟨.ref s.heap.objs.size,_,I1,rfl,⟨_,x,y,fun zs hs=>by rw[I.list_inj hs hq];exact hx,fun zs hs=>by rw[I.list_inj hs hq'];exact hy,fr,rfl,rfl⟩,⟨b1,?_,⟨u,u',?_⟩,?_,?_⟩,fr2⟩
  ·exact kp2 _ _ D.TIz (a7 TI _ D.TIz D.TITO D.TIi1 D.TIi2 z2)
  ·exact kp2 _ _ D.TOz a2
  ·exact a3.at fun o e=>kp2 _ o D.i1z e
  ·exact a4.at fun o e=>kp2 _ o D.i2z e
 done:=by
  intro X hP hw hK hc i pins s σ H E I hf st hg
  subst hP hw hK
  obtain⟨z1,z2,⟨a,c,z3⟩,z4,z5⟩:=st
  obtain⟨xs,ys,hq,hq',hx⟩:=hg
  obtain⟨its,rv,p,hz⟩:=I.list hq
  obtain⟨its',rv',p',hz'⟩:=I.list hq'
  have hl:=rv.length
  have hl':=rv'.length
  obtain⟨o4,e4,c4,d4⟩:=id z4
  obtain⟨o5,e5,c5,d5⟩:=id z5
  obtain⟨o6,n6,e6,c6,_⟩:=id p
  obtain⟨o7,n7,e7,c7,_⟩:=id p'
  have D:ZipApart z TI TO i1 i2 l m:=
   ⟨j6 z2 z1 (by simp),j6 z3 z1 (by simp),j6 e4 z1 (by rw[c4];simp),j6 e5 z1 (by rw[c5];simp),hT,j6 z2 e4 (by rw[c4];simp),j6 z2 e5 (by rw[c5];simp),j6 z3 e4 (by rw[c4];simp),j6 z3 e5 (by rw[c5];simp),h12,
    j6 e6 z1 (by rw[c6];simp),j6 e6 z3 (by rw[c6];simp),j6 e6 e4 (by rw[c6,c4];simp),j6 e6 e5 (by rw[c6,c5];simp),j6 e7 z1 (by rw[c7];simp),j6 e7 z3 (by rw[c7];simp),j6 e7 e4 (by rw[c7,c4];simp),j6 e7 e5 (by rw[c7,c5];simp)⟩
  refine wpAny_pyNext_zip_end (I.ok.hd hc) D z1 z2 z3 z4 z5 p.isList p'.isList ?_ fun h' eb=>⟨rfl,I.turnedAll (fp:=[z,TI,TO,i1,i2]) (tk:=s.toks) hf fun b o hb e=>?_⟩
  ·rcases hx with hx|hx
   ·exact .inl (by simp;omega)
   ·exact .inr (by simp;omega)
  ·have hb':b≠z∧b≠TI∧b≠TO∧b≠i1∧b≠i2:=by simpa using hb
   exact eb b o hb'.1 hb'.2.2.1 hb'.2.2.2.1 hb'.2.2.2.2 e
 self:=fun _ _ _ _ _ st h=>wpAny_pyIter_zip st.1 h
section
variable {X:Cx} {a b:Expr} {t:TA} {p pos:Pos}
def uj (K:PySem.W.Frag)(ta:TA):TI:=fun σ H R=>ta σ H fun vs H1=>∃l m xs ys,vs=[.ref l,.ref m]∧SqL K H1 l xs∧SqL K H1 m ys∧R (xT K l m) H1
theorem su {elts:List Expr}{x1}{tpos:Pos}(hg:Gl X "zip")(hm:X.mg "zip"=none)(ha:PA X [a,b] t)(hs:starEach [a,b] X.env=[(false,eval a X.env),(false,eval b X.env)])(hs2:starEach [b] X.env=[(false,eval b X.env)]):
  PI X (.Tuple elts x1 tpos) (.Call (.Name "zip" p) [a,b] [] pos) (uj X.K t):=by
 intro pins s σ H R I h
 refine Call_ (bL I hg hm Boot.«zip» (PyProof.Rows.callWith_type1 (G3 (ha pos pins s σ H _ I h) fun us s1 ⟨vs,H1,I1,r1,q1⟩=>?_) (by rw[hs,hs2]) (by rw[hs2];rfl)))
 obtain⟨l,m,xs,ys,e,hq,hq',q⟩:=q1
 subst e
 obtain⟨u,v,rfl,ru,rv⟩:=cj r1
 cases ru
 cases rv
 obtain⟨its,rv,pl,hz⟩:=I1.list hq
 obtain⟨its',rv',pl',hz'⟩:=I1.list hq'
 refine call_zip_2 pl.isList pl'.isList fun h' z1 z2 z3 z4 z5 hsz hk=>?_
 have I2:Inv X pins σ H1 {s1 with heap:=h'}:=I1.kept (t':=s1.toks) hk
 refine wpAny_pyIter_zip (s:={s1 with heap:=h'}) z1 ?_
 refine⟨s1.heap.objs.size+4,[s1.heap.objs.size+4,s1.heap.objs.size+2,s1.heap.objs.size+3,s1.heap.objs.size,s1.heap.objs.size+1],_,_,H1,rfl,I2,nS (l:=l) (m:=m) (show(s1.heap.objs.size:Nat)≠s1.heap.objs.size+1 by omega) (show(s1.heap.objs.size+2:Nat)≠s1.heap.objs.size+3 by omega),⟨z1,z2,⟨_,_,z3⟩,z4,z5⟩,fun c hc=>?_,q⟩
 have hb':c=s1.heap.objs.size+4∨c=s1.heap.objs.size+2∨c=s1.heap.objs.size+3∨c=s1.heap.objs.size∨c=s1.heap.objs.size+1:=by simpa using hc
 have hle:s1.heap.objs.size≤c:=by
  rcases hb' with rfl|rfl|rfl|rfl|rfl<;>first|exact Nat.le_add_right _ _|exact Nat.le_refl _
 exact I1.fpOk hle (I1.hok.fresh hle)
end
section
variable {X:Cx} (K:PySem.W.Frag) {a b:Expr} {t:TA} {p pos:Pos}
theorem N1 (hc:X.calm=true)(h:X.K=K:=by rfl):CallR X (.builtin "sorted") (fS K):=h▸fh hc
theorem uJ {elts:List Expr}{x1}{tpos:Pos}(hm:X.mg "zip"=none)(ha:QA X [a,b] t)(hg:Gl X "zip":=by rfl)(h:q5 a=true:=by rfl)(h':q5 b=true:=by rfl)(hK:X.K=K:=by rfl):QI X (.Tuple elts x1 tpos) (.Call (.Name "zip" p) [a,b] [] pos) (uu (uj K t)):=
 ⟨hK▸(su hg hm ha.r (by rw[V3 h,V3 h'];rfl) (V3 h')).two⟩
end
theorem M7 {X:Cx}:MtR X "list.append" kh:=kT
section
variable {K:PySem.W.Frag} {σ:St} {H:Hp} {Q:VK}
theorem x9 {p:Addr}{kvs:List (g7×V)}{ss:List Str}(h:Rd H p (.dK kvs))(hk:kvs.map (·.1)=ss.map Sum.inr)(h64:ss.length<64)(q:∀ss':List Str,ss'.Perm ss→sortedS ss'=true→∀l,H l=none→Q (.ref l) (n0 H l (.lst (ss'.map V.str)))):fS K [.ref p] H Q:=⟨p,ss,rfl,.inr ⟨kvs,h,hk⟩,h64,q⟩
theorem aI {p:Addr}{kvs:List (g7×V)}(h:Rd H p (.dK kvs))(q:∀l,H l=none→Q (.ref l) (n0 H l (.lst (kvs.map fun kv=>kV kv.1)))):jV K [.ref p] H Q:= .inr ⟨p,kvs,rfl,h,q⟩
theorem ll {i j:Int}(h:CMul i j)(q:Q (.int (i*j)) H):oY (.int i) (.int j) H Q:= .inl ⟨i,j,rfl,rfl,h,q⟩
theorem au {z:Str}{n:Int}(h1:z.length≤1000)(h2: -1000≤n)(h3:n≤1000)(q:Q (.str (Txt.mul z n)) H):oY (.str z) (.int n) H Q:= .inr ⟨z,n,rfl,rfl,h1,h2,h3,q⟩
theorem tF {to ti:TE}{t:iN}{v:V}{Qs:St→Hp→Prop}(q:to σ H fun o H1=>ti σ H1 fun i H2=>t o i v H2 fun H3=>Qs σ H3):ur to ti t v σ H Qs:=q
theorem V1 {a:Addr}{kvs:List (g7×V)}{k:g7}{v:V}{Qh:Hp→Prop}(h:H a=some (.dK kvs))(hl:kvs.length<sizeLine)(q:Qh (n0 H a (.dK (P8 kvs k v)))):kj (.ref a) (kV k) v H Qh:= .inr ⟨a,_,rfl,DPut.k h hl,q⟩
theorem tV {ta:TA}{R:It→Hp→Prop}(q:ta σ H fun vs H1=>∃l xs,vs=[.ref l]∧SqL K H1 l xs∧R (wO K l) H1):vK K ta σ H R:=q
theorem xj {ta:TA}{R:It→Hp→Prop}(q:ta σ H fun vs H1=>∃l m xs ys,vs=[.ref l,.ref m]∧SqL K H1 l xs∧SqL K H1 m ys∧R (xT K l m) H1):uj K ta σ H R:=q
theorem Z4 {n:Nat}{t:jC}{a:Addr}{xs:List V}{Qs:St→Hp→Prop}(h:SqT K H a xs)(hl:xs.length=n)(q:t xs σ H Qs):oM K n t (.ref a) σ H Qs:=⟨a,xs,rfl,h,hl,q⟩
theorem qd {t:TG}{u:jC}{v:V}{r:List V}{Qs:St→Hp→Prop}(q:t v σ H fun σ' H'=>u r σ' H' Qs):jY t u (v::r) σ H Qs:=⟨v,r,rfl,q⟩
theorem vi {Qs:St→Hp→Prop}(q:Qs σ H):sJ [] σ H Qs:=⟨rfl,q⟩
theorem yt {T:String}{r:V→List V→Hp→VK→Prop}{to:TE}{t:TA}(q:to σ H fun x H1=>vI K T x H1∧t σ H1 fun xs H2=>r x xs H2 Q):yb K T r to t σ H Q:=q
theorem vA {T:String}{r:V→List V→Hp→VK→Prop}{to:TE}(q:to σ H fun x H1=>vI K T x H1∧r x [] H1 Q):yi K T r to σ H Q:=q
theorem Z0 {p:Addr}{x:V}{o:Option V}(g:DGet H p x o)(q:Q (.bl o.isSome) H):qv K x (.ref p) H Q:= .inr (.inr ⟨p,o,rfl,g,q⟩)
theorem ik {p:Addr}{x:V}{o:Option V}(g:DGet H p x o)(q:Q (.bl (!o.isSome)) H):cG K x (.ref p) H Q:= .inr (.inr ⟨p,o,rfl,g,q⟩)
theorem nU {p:Addr}{xs:List V}{lo hi:Option Int}(h:SqT K H p xs)(hw:¬(HT.sIx xs.length 0 lo=0∧HT.sIx xs.length xs.length hi=xs.length))(q:∀p,H p=none→Q (.ref p) (n0 H p (.tup (S9 xs lo hi)))):xu K (.ref p) lo hi H Q:= .inr (.inl ⟨p,xs,rfl,h,hw,q⟩)
theorem V0 {a:Addr}{kvs:List (g7×V)}{k:g7}(e:Rd H a (.dK kvs)):DGet H a (kV k) (r6 kvs k):= .inl ⟨kvs,k,e,rfl,rfl⟩
end
end L2
set_option Elab.async false
set_option linter.all false
set_option maxRecDepth 100000
set_option maxHeartbeats 4000000
namespace L2
open PySem PySem.Spec PyProof.Rows
open PySem.AutoSeq1 (wpAny_loadPart')
def EqP (P:Program)(w:World)(A:Around)(s:Shared)(y x:Value)(b:Bool):Prop:=∀(E:Value→Shared→Prop) (Q:Bool→Shared→Prop),Q b s→wpAny (model P w) A (eqBool y x) Q E s
def RcP (P:Program)(w:World)(A:Around)(s:Shared)(y x:Value)(b:Bool):Prop:=∀(E:Value→Shared→Prop) (Q:Value→Shared→Prop),Q (.bool b) s→wpAny (model P w) A (richCompare .Eq y x) Q E s
theorem EqP.of {P:Program}{w:World}{A:Around}{s:Shared}{y x:Value}{b:Bool}(h:SeqAt.EqAt A s y x b):EqP P w A s y x b:=fun E Q q=>h P w E Q q
theorem EqP.refs {P:Program}{w:World}{A:Around}{s:Shared}{l m:Addr}{k:Bool}(hne:l≠m)(h:RcP P w A s (.ref l) (.ref m) k):EqP P w A s (.ref l) (.ref m) k:=fun E Q q=>by
 unfold eqBool
 refine wpAny_holding (wpAny_ite_split (fun z=>absurd (Value.ref.inj (eq_of_beq z)) hne) fun _=>wpAny_bind (h E _ (wpAny_truthy_bool q)))
theorem uW {P:Program}{w:World}(l m:Addr)(xs ys:Array Value)(n1 n2:Nat)(d1 d2:Option Addr)(s1 s2:Array (Option Value))(f:Nat→Bool):
  MeetsIn P w (Builtin.«tuple.__eq__» ⟨[.ref l,.ref m],[]⟩) (fun A R s=>
   s.heap.get? l=some {cls:= .type "tuple",dict:=d1,data:= .seq xs n1,slots:=s1}∧s.heap.get? m=some {cls:= .type "tuple",dict:=d2,data:= .seq ys n2,slots:=s2}∧
   (∀j (g1:j<xs.size) (g2:j<ys.size),EqP P w A.in1 s xs[j] ys[j] (f j))∧
   R (.ok (.ret (.bool ((List.range (min xs.size ys.size)).all f&&xs.size==ys.size)))) s):=
 .of_wp fun A R s hyp=>by
  obtain⟨hp,gg,dr,tk,os⟩:=s
  obtain⟨e1,e2,he,fin⟩:=hyp
  have sub:=AutoSeq1.sub_tuple_tuple
  have len:(xs.toList.zip ys.toList).length=min xs.size ys.size:=by simp
  wp_walk using wpAny_loadPart' e1,wpAny_loadPart' e2,wpAny_forIn_list _ (fun more acc st=>acc.1=none∧st=⟨hp,gg,dr,tk,os⟩∧∃i,more=(xs.toList.zip ys.toList).drop i∧
   R (.ok (.ret (.bool (((List.range (min xs.size ys.size)).drop i).all f&&xs.size==ys.size)))) ⟨hp,gg,dr,tk,os⟩) _
  case turn=>
   rintro⟨y,x⟩ more acc st ⟨ha,rfl,i,hi,hR⟩
   have lt:i<(xs.toList.zip ys.toList).length:=by
    rcases Nat.lt_or_ge i (xs.toList.zip ys.toList).length with z|z
    ·exact z
    ·rw[List.drop_of_length_le z] at hi
     cases hi
   have lm:i<min xs.size ys.size:=len▸lt
   have lx:i<xs.size:=Nat.lt_of_lt_of_le lm (Nat.min_le_left _ _)
   have ly:i<ys.size:=Nat.lt_of_lt_of_le lm (Nat.min_le_right _ _)
   rw[List.drop_eq_getElem_cons lt] at hi
   injection hi with h1 h2
   have q1:y=xs[i]:=by simpa using congrArg Prod.fst h1
   have q2:x=ys[i]:=by simpa using congrArg Prod.snd h1
   subst q1 q2
   have dr1:(List.range (min xs.size ys.size)).drop i=i::(List.range (min xs.size ys.size)).drop (i+1):=by simp [List.drop_eq_getElem_cons,lm]
   rw[dr1,List.all_cons] at hR
   refine wpAny_bind (he i lx ly _ _ ?_)
   cases hf:f i with
   |true=>
    rw[hf] at hR
    wp_walk
    exact⟨rfl,rfl,i+1,h2,by simpa using hR⟩
   |false=>
    rw[hf] at hR
    wp_walk
    exact⟨_,rfl,by simpa using hR⟩
  case fin=>
   rintro⟨c1,c2⟩ st ⟨ha,rfl,i,hi,hR⟩
   simp only at ha
   subst ha
   have ge:min xs.size ys.size≤i:=by
    rcases Nat.lt_or_ge i (xs.toList.zip ys.toList).length with z|z
    ·rw[List.drop_eq_getElem_cons z] at hi
     cases hi
    ·exact len▸z
   rw[List.drop_of_length_le (by simpa using ge)] at hR
   wp_walk
   exact⟨_,rfl,by simpa [Builtin.Tuple.tupleCompareSizes] using hR⟩
  case h=>
   exact⟨rfl,rfl,0,rfl,by simpa using fin⟩
theorem RcP.tup {P:Program}{w:World}{A:Around}{s:Shared}{l m:Addr}{xs ys:Array Value}{f:Nat→Bool}(hl:s.heap.IsTuple l xs)(hm:s.heap.IsTuple m ys)(hu:A.units<cLine)
  (he:∀j (g1:j<xs.size) (g2:j<ys.size),EqP P w A.in1 s xs[j] ys[j] (f j)):RcP P w A s (.ref l) (.ref m) ((List.range (min xs.size ys.size)).all f&&xs.size==ys.size):=fun E Q q=>by
 obtain⟨⟨c1,d1,a1,s1⟩,o1,k1,n1,t1⟩:=id hl
 obtain⟨⟨c2,d2,a2,s2⟩,o2,k2,n2,t2⟩:=id hm
 simp only at k1 t1 k2 t2
 subst k1 t1 k2 t2
 refine wpAny_richCompare_same_room (op:= .Eq) ⟨_,o1,rfl⟩ ⟨_,o2,rfl⟩ PySem.F.slot_tuple_eq (call_meetsIn PySem.F.slot_tuple_eq ⟨_,o1,rfl⟩ PySem.F.entry_tuple_eq (PySem.F.args_tuple_eq_2 _ _) (uW l m xs ys n1 n2 d1 d2 s1 s2 f) ⟨o1,o2,he,?_⟩) hu
 exact⟨(fun z=>nomatch z),q⟩
def Q0:List V→List V→Bool
 |[],[]=>true
 |x::xs,y::ys=>cE x y&&Q0 xs ys
 |_,_=>false
inductive Eq1 (K:PySem.W.Frag) (H:Hp):V→V→Bool→Prop
 |flat {x y:V}:z9 x=true→z9 y=true→Eq1 K H x y (cE x y)
 |tup {a b:Addr} {xs ys:List V}:SqT K H a xs→SqT K H b ys→xs.all z9=true→ys.all z9=true→Eq1 K H (.ref a) (.ref b) (Q0 xs ys)
 |nt {a:Addr} {xs:List V}:SqT K H a xs→Eq1 K H .non (.ref a) false
 |tn {a:Addr} {xs:List V}:SqT K H a xs→Eq1 K H (.ref a) .non false
theorem gH:∀{x:V},z9 x=true→cE x x=true
 | .non,_=>rfl
 | .bl b,_=>by simp [cE]
 | .int i,_=>by simp [cE]
 | .str x,_=>by simp [cE]
theorem bT:∀{xs:List V},xs.all z9=true→Q0 xs xs=true
 |[],_=>rfl
 |x::xs,h=>by
  rw[List.all_cons,Bool.and_eq_true] at h
  show(cE x x&&Q0 xs xs)=true
  rw[gH h.1,bT h.2];rfl
theorem L6:∀(xs ys:List V),((List.range (min xs.length ys.length)).all (fun j=>cE (xs.getD j .non) (ys.getD j .non))&&xs.length==ys.length)=Q0 xs ys
 |[],[]=>rfl
 |[],_::_=>by simp [Q0]
 |_::_,[]=>by simp [Q0]
 |x::xs,y::ys=>by
  have ih:=L6 xs ys
  have e:min (x::xs).length (y::ys).length=min xs.length ys.length+1:=by simp
  rw[e,List.range_succ_eq_map,List.all_cons,List.all_map]
  show((cE x y&&(List.range (min xs.length ys.length)).all _)&&(xs.length+1==ys.length+1))=(cE x y&&Q0 xs ys)
  rw[←ih,Bool.and_assoc]
  congr 1
  congr 1
  simp
section
variable {X:Cx} {pins:List (Addr×Obj)} {σ:St} {H:Hp} {s:Shared} {A:Around}
theorem Eq1.at_ {x y:V}{u v:Value}{b:Bool}(I:Inv X pins σ H s)(h:Eq1 X.K H x y b)(rx:RelV x u)(ry:RelV y v)(hu:A.units+8<cLine):SeqAt.EqAt A s u v b:=by
 cases h with
 |flat fx fy=>exact aS rx ry fx fy
 | @tup a c xs ys ha hc fx fy=>
  cases rx
  cases ry
  obtain⟨its,r1,p1,z1⟩:=I.tuple ha
  obtain⟨its',r2,p2,z2⟩:=I.tuple hc
  by_cases hac:a=c
  ·subst hac
   have e:=I.tuple_inj ha hc
   subst e
   rw[bT fx]
   exact SeqAt.EqAt.same _
  ·have l1:=r1.length
   have l2:=r2.length
   have q:=SeqAt.RcAt.tuples (A:=A) (e:=fun j=>cE (xs.getD j .non) (ys.getD j .non)) (show s.heap.IsTuple a its.toArray from p1) (show s.heap.IsTuple c its'.toArray from p2) (by omega) fun j g1 g2=>by
    have g1':j<its.length:=by simpa using g1
    have g2':j<its'.length:=by simpa using g2
    have x1:xs[j]?=some (xs[j]'(by omega)):=by simp [show j<xs.length by omega]
    have y1:ys[j]?=some (ys[j]'(by omega)):=by simp [show j<ys.length by omega]
    obtain⟨u1,hu1,ru1⟩:=r1.get x1
    obtain⟨u2,hu2,ru2⟩:=r2.get y1
    have e1:its.toArray[j]=u1:=by
     have:=List.getElem?_eq_getElem g1'
     rw[hu1] at this
     simpa using(Option.some.inj this).symm
    have e2:its'.toArray[j]=u2:=by
     have:=List.getElem?_eq_getElem g2'
     rw[hu2] at this
     simpa using(Option.some.inj this).symm
    rw[e1,e2]
    have d1:xs.getD j .non=xs[j]'(by omega):=by rw[List.getD_eq_getElem?_getD,x1];rfl
    have d2:ys.getD j .non=ys[j]'(by omega):=by rw[List.getD_eq_getElem?_getD,y1];rfl
    rw[d1,d2]
    exact aS ru1 ru2 (List.all_eq_true.mp fx _ (List.getElem_mem _)) (List.all_eq_true.mp fy _ (List.getElem_mem _))
   have e3:its.toArray.size=xs.length:=by simp [l1]
   have e4:its'.toArray.size=ys.length:=by simp [l2]
   rw[e3,e4,L6] at q
   exact .of_refs hac q
 | @nt a xs ha=>
  cases rx
  cases ry
  obtain⟨its,r1,p1,z1⟩:=I.tuple ha
  exact SeqAt.EqAt.none_tuple (show s.heap.IsTuple a its.toArray from p1) (by omega)
 | @tn a xs ha=>
  cases rx
  cases ry
  obtain⟨its,r1,p1,z1⟩:=I.tuple ha
  exact SeqAt.EqAt.tuple_none (show s.heap.IsTuple a its.toArray from p1) (by omega)
end
inductive EqH (K:PySem.W.Frag) (H:Hp) (kb:List (g7×V)):List (g7×V)→Bool→Prop
 |nil:EqH K H kb [] true
 |miss {k:g7} {v:V} {r:List (g7×V)}:r6 kb k=none→EqH K H kb ((k,v)::r) false
 |hit {k:g7} {v y:V} {r:List (g7×V)} {e b:Bool}:r6 kb k=some y→Eq1 K H v y e→EqH K H kb r b→EqH K H kb ((k,v)::r) (e&&b)
def EqD (K:PySem.W.Frag)(H:Hp)(a b:Addr)(r:Bool):Prop:=(a=b∧r=true)∨(a≠b∧∃ka kb r0,Rd H a (.dK ka)∧Rd H b (.dK kb)∧EqH K H kb ka r0∧r=(ka.length==kb.length&&r0))
section
variable {X:Cx} {pins:List (Addr×Obj)} {σ:St} {H:Hp} {s:Shared} {A:Around}
theorem EqH.hits {kb:List (g7×V)}{vb:List (g7×Value)}(I:Inv X pins σ H s)(hu:A.units+8<cLine)(rb:KV kb vb){ka:List (g7×V)}{r:Bool}(h:EqH X.K H kb ka r):∀{va:List (g7×Value)},KV ka va→PySem.W.KeqHits A s vb va r:=by
 induction h with
 |nil=>
  intro va t
  cases t
  exact .nil
 | @miss k v r hn=>
  intro va t
  cases t with
  | @cons _ q _ l e t=>
   obtain⟨k',u⟩:=q
   have ek':k=k':=e.1
   subst ek'
   refine .miss ?_
   have z:=KV.val rb k
   rw[hn] at z
   cases e:valueAt vb k with
   |none=>rfl
   |some y=>rw[e] at z;exact False.elim z
 | @hit k v y r e b hy h1 hr ih=>
  intro va t
  cases t with
  | @cons _ q _ l e t=>
   obtain⟨k',u⟩:=q
   have ek':k=k':=e.1
   subst ek'
   have z:=KV.val rb k
   rw[hy] at z
   cases e5:valueAt vb k with
   |none=>rw[e5] at z;exact False.elim z
   |some y'=>
    rw[e5] at z
    exact .hit e5 (h1.at_ I e.2 z hu) (ih t)
theorem EqD.at_ {a b:Addr}{r:Bool}(I:Inv X pins σ H s)(h:EqD X.K H a b r)(hu:A.units+16<cLine):EqP X.prog X.w A s (.ref a) (.ref b) r:=by
 rcases h with⟨rfl,rfl⟩|⟨hne,ka,kb,r0,h1,h2,h3,rfl⟩
 ·exact .of (SeqAt.EqAt.same _)
 ·obtain⟨z1,d1,va,ra,da⟩:=J5 I.hok h1
  obtain⟨z2,d2,vb,rb,db⟩:=J5 I.hok h2
  refine .refs hne fun E Q q=>?_
  have l1:=KV.length ra
  have l2:=KV.length rb
  exact PySem.W.keq_eq (knd:=j2 X.prog X.w) d1 d2 da db (by omega) (fun _=>h3.hits (A:=A.in1) I (by show A.units+1+8<_;omega) rb ra) (by rw[←l1,←l2];exact q)
def wZ (K:PySem.W.Frag):R2:=fun x y H Q=>∃a b p q p' q' r r',x= .ref a∧y= .ref b∧SqT K H a [.ref p,.ref q]∧SqT K H b [.ref p',.ref q']∧EqD K H p p' r∧EqD K H q q' r'∧Q (.bl (r&&r')) H
theorem tG (hu:X.A.units+64<cLine):OpR X (compareOp .Eq) (wZ X.K):=by
 intro pins s σ H x y v u Q I rx ry h
 obtain⟨a,b,p,q,p',q',r,r',rfl,rfl,ha,hb,h1,h2,k⟩:=h
 cases rx
 cases ry
 obtain⟨its,v1,t1,_⟩:=I.tuple ha
 obtain⟨its',v2,t2,_⟩:=I.tuple hb
 obtain⟨_,_,rfl,e1,e2⟩:=cj v1
 obtain⟨_,_,rfl,e3,e4⟩:=cj v2
 cases e1
 cases e2
 cases e3
 cases e4
 refine RcP.tup (P:=X.prog) (w:=X.w) (f:=fun j=>if j=0 then r else r') (show s.heap.IsTuple a _ from t1) (show s.heap.IsTuple b _ from t2) (by omega) (fun j g1 g2=>?_) _ _ ⟨.bl (r&&r'),H,I,by show Value.bool _=Value.bool _;simp [List.range_succ],k⟩
 have g:j<2:=by simpa using g1
 match j,g with
 |0,_=>exact h1.at_ I (by show X.A.units+1+16<_;omega)
 |1,_=>exact h2.at_ I (by show X.A.units+1+16<_;omega)
def vP (K:PySem.W.Frag):R2:=fun x y H Q=>∃a b xs ys,x= .ref a∧y= .ref b∧SqL K H a xs∧SqL K H b ys∧xs.all z9=true∧ys.all z9=true∧Q (.bl (Q0 xs ys)) H
theorem dB:∀{xs ys:List V},xs.length≠ys.length→Q0 xs ys=false
 |[],[],h=>absurd rfl h
 |[],_::_,_=>rfl
 |_::_,[],_=>rfl
 |x::xs,y::ys,h=>by
  show(cE x y&&Q0 xs ys)=false
  rw[dB (by simpa using h),Bool.and_false]
theorem uL (hu:X.A.units+64<cLine):OpR X (compareOp .Eq) (vP X.K):=by
 intro pins s σ H x y v u Q I rx ry h
 obtain⟨a,b,xs,ys,rfl,rfl,ha,hb,fx,fy,k⟩:=h
 cases rx
 cases ry
 obtain⟨its,r1,p1,z1⟩:=I.list ha
 obtain⟨its',r2,p2,z2⟩:=I.list hb
 have l1:=r1.length
 have l2:=r2.length
 have e3:its.toArray.size=xs.length:=by simp [l1]
 have e4:its'.toArray.size=ys.length:=by simp [l2]
 by_cases hl:xs.length=ys.length
 ·have q:=SeqAt.RcAt.lists (A:=X.A) (e:=fun j=>cE (xs.getD j .non) (ys.getD j .non)) p1.isList p2.isList (by rw[e3,e4];exact hl) (by omega) fun j g1 g2=>by
   have g1':j<its.length:=by simpa using g1
   have g2':j<its'.length:=by simpa using g2
   have x1:xs[j]?=some (xs[j]'(by omega)):=by simp [show j<xs.length by omega]
   have y1:ys[j]?=some (ys[j]'(by omega)):=by simp [show j<ys.length by omega]
   obtain⟨u1,hu1,ru1⟩:=r1.get x1
   obtain⟨u2,hu2,ru2⟩:=r2.get y1
   have e1:its.toArray[j]=u1:=by
    have:=List.getElem?_eq_getElem g1'
    rw[hu1] at this
    simpa using(Option.some.inj this).symm
   have e2:its'.toArray[j]=u2:=by
    have:=List.getElem?_eq_getElem g2'
    rw[hu2] at this
    simpa using(Option.some.inj this).symm
   rw[e1,e2]
   have d1:xs.getD j .non=xs[j]'(by omega):=by rw[List.getD_eq_getElem?_getD,x1];rfl
   have d2:ys.getD j .non=ys[j]'(by omega):=by rw[List.getD_eq_getElem?_getD,y1];rfl
   rw[d1,d2]
   exact aS ru1 ru2 (List.all_eq_true.mp fx _ (List.getElem_mem _)) (List.all_eq_true.mp fy _ (List.getElem_mem _))
  have e5:=L6 xs ys
  rw[hl,Nat.min_self,beq_self_eq_true,Bool.and_true] at e5
  rw[e3,hl,e5] at q
  exact q X.prog X.w _ _ ⟨.bl _,H,I,rfl,k⟩
 ·refine SeqAt.RcAt.lists_lengths (A:=X.A) p1.isList p2.isList (by rw[e3,e4];simpa using hl) (by omega) X.prog X.w _ _ ⟨.bl _,H,I,?_,k⟩
  rw[dB hl];rfl
def vw (K:PySem.W.Frag):R2:=fun x y H Q=>(∃a b xs ys,x= .ref a∧y= .ref b∧SqT K H a xs∧SqT K H b ys∧xs.all z9=true∧ys.all z9=true∧Q (.bl (Q0 xs ys)) H)∨(∃a xs,x= .non∧y= .ref a∧SqT K H a xs∧Q (.bl false) H)
theorem uV (hu:X.A.units+64<cLine):OpR X (compareOp .Eq) (vw X.K):=by
 intro pins s σ H x y v u Q I rx ry h
 rcases h with⟨a,b,xs,ys,rfl,rfl,ha,hb,fx,fy,k⟩|⟨a,xs,rfl,rfl,ha,k⟩
 ·cases rx
  cases ry
  obtain⟨its,r1,p1,z1⟩:=I.tuple ha
  obtain⟨its',r2,p2,z2⟩:=I.tuple hb
  have l1:=r1.length
  have l2:=r2.length
  have q:=SeqAt.RcAt.tuples (A:=X.A) (e:=fun j=>cE (xs.getD j .non) (ys.getD j .non)) (show s.heap.IsTuple a its.toArray from p1) (show s.heap.IsTuple b its'.toArray from p2) (by omega) fun j g1 g2=>by
   have g1':j<its.length:=by simpa using g1
   have g2':j<its'.length:=by simpa using g2
   have x1:xs[j]?=some (xs[j]'(by omega)):=by simp [show j<xs.length by omega]
   have y1:ys[j]?=some (ys[j]'(by omega)):=by simp [show j<ys.length by omega]
   obtain⟨u1,hu1,ru1⟩:=r1.get x1
   obtain⟨u2,hu2,ru2⟩:=r2.get y1
   have e1:its.toArray[j]=u1:=by
    have:=List.getElem?_eq_getElem g1'
    rw[hu1] at this
    simpa using(Option.some.inj this).symm
   have e2:its'.toArray[j]=u2:=by
    have:=List.getElem?_eq_getElem g2'
    rw[hu2] at this
    simpa using(Option.some.inj this).symm
   rw[e1,e2]
   have d1:xs.getD j .non=xs[j]'(by omega):=by rw[List.getD_eq_getElem?_getD,x1];rfl
   have d2:ys.getD j .non=ys[j]'(by omega):=by rw[List.getD_eq_getElem?_getD,y1];rfl
   rw[d1,d2]
   exact aS ru1 ru2 (List.all_eq_true.mp fx _ (List.getElem_mem _)) (List.all_eq_true.mp fy _ (List.getElem_mem _))
  have e3:its.toArray.size=xs.length:=by simp [l1]
  have e4:its'.toArray.size=ys.length:=by simp [l2]
  rw[e3,e4,L6] at q
  exact q X.prog X.w _ _ ⟨.bl _,H,I,rfl,k⟩
 ·cases rx
  cases ry
  obtain⟨its,r1,p1,z1⟩:=I.tuple ha
  exact SeqAt.RcAt.none_tuple (A:=X.A) (show s.heap.IsTuple a its.toArray from p1) (by omega) X.prog X.w _ _ ⟨.bl false,H,I,rfl,k⟩
def dj (K:PySem.W.Frag):R2:=fun x y H Q=>vZ x y H Q∨vP K x y H Q∨vw K x y H Q∨wZ K x y H Q
theorem yZ (K:PySem.W.Frag){k:Nat}(hr:Room k X.A)(h:X.K=K:=by rfl):OpR X (compareOp .Eq) (dj K):=h▸op_eq.or ((uL hr.units).or ((uV hr.units).or (tG hr.units)))
end
section
variable {K:PySem.W.Frag} {H:Hp} {Q:VK}
theorem nZ {i j:Int}(q:Q (.bl (decide (i=j))) H):dj K (.int i) (.int j) H Q:= .inl (iq q)
theorem qa {i j:Bool}(q:Q (.bl (decide (i=j))) H):dj K (.bl i) (.bl j) H Q:= .inl (jG q)
theorem pv {i j:Str}(q:Q (.bl (decide (i=j))) H):dj K (.str i) (.str j) H Q:= .inl (gv q)
theorem ow {a b:Addr}{xs ys:List V}(ha:SqL K H a xs)(hb:SqL K H b ys)(fx:xs.all z9=true)(fy:ys.all z9=true)(q:Q (.bl (Q0 xs ys)) H):dj K (.ref a) (.ref b) H Q:= .inr (.inl ⟨a,b,xs,ys,rfl,rfl,ha,hb,fx,fy,q⟩)
theorem nR {a b:Addr}{xs ys:List V}(ha:SqT K H a xs)(hb:SqT K H b ys)(fx:xs.all z9=true)(fy:ys.all z9=true)(q:Q (.bl (Q0 xs ys)) H):dj K (.ref a) (.ref b) H Q:= .inr (.inr (.inl (.inl ⟨a,b,xs,ys,rfl,rfl,ha,hb,fx,fy,q⟩)))
end
end L2
set_option Elab.async false
set_option linter.all false
set_option maxRecDepth 100000
set_option maxHeartbeats 4000000
namespace L2
open PySem PySem.Spec PyProof.Rows
section
variable {K:PySem.W.Frag} {σ:St} {H H' H1:Hp} {Q:VK} {d:Addr} {kvs:List (g7×V)} {o:Obj}
theorem gn {i j:Int}(q:Q (.bl (!decide (i=j))) H):xZ (.int i) (.int j) H Q:=⟨rfl,by rw[cH];rw[show(i==j)=decide (i=j) from Bool.beq_eq_decide_eq i j];exact q⟩
theorem yk {r:V→Hp→VK→Prop}{ta:TE}(q:ta σ H fun x H1=>r x H1 Q):xP r ta σ H Q:=q
theorem xm {i:Int}(q:Q (.int (-i)) H):rU (fun i=> .int (-i)) (.int i) H Q:=⟨i,rfl,q⟩
def nf:HO→Bool
 | .frz _ _=>false
 |_=>true
def Le (H H':Hp):Prop:=∀a u,nf u=true→Rd H a u→Rd H' a u
theorem Le.refl (H:Hp):Le H H:=fun _ _ _ h=>h
theorem Le.trans (a:Le H H1)(b:Le H1 H'):Le H H':=fun x u n h=>b x u n (a x u n h)
theorem Same.le (s:Same H H'):Le H H':=fun a u _ h=>s.rd h
theorem dJ (h:H d=some (.dK kvs)):Le H (B9 d o kvs H):=fun a u n r=>by
 by_cases e:a=d
 ·subst e
  rcases r with r|⟨o',r⟩
  ·rw[h] at r;cases r
   exact .inr ⟨o,d9⟩
  ·rw[h] at r;cases r
 ·unfold B9 Rd
  rw[b9 e];exact r
theorem qi:Le H (thaw d H):=fun a u n r=>by
 by_cases e:a=d
 ·subst e
  rcases r with r|⟨o',r⟩
  ·rw[kB fun o v z=>by rw[r] at z;cases z;cases n];exact .inl r
  ·exact .inl (fw r)
 ·unfold Rd
  rw[N0 e];exact r
theorem Le.tup {a:Addr}{xs:List V}(l:Le H H')(h:SqT K H a xs):SqT K H' a xs:=by
 rcases h with h|h
 ·exact .inl (l _ _ rfl h)
 ·exact .inr h
theorem Le.lst {a:Addr}{xs:List V}(l:Le H H')(h:SqL K H a xs):SqL K H' a xs:=by
 rcases h with h|h
 ·exact .inl (l _ _ rfl h)
 ·exact .inr h
theorem Le.dic {a:Addr}(l:Le H H')(h:Rd H a (.dK kvs)):Rd H' a (.dK kvs):=l _ _ rfl h
abbrev J0:=Str×Str×Str
structure E4 where
 pts:List (Str×Str)
 ts:List (Str×J0)
def C0 (pts:List (Str×Str)):List (g7×V):=pts.map fun x=>(Sum.inr x.1,.str x.2)
def aw (t:J0):List V:=[.str t.1,.str t.2.1,.str t.2.2]
def TieAt (K:PySem.W.Frag)(H:Hp)(kv:g7×V)(x:Str×J0):Prop:=kv.1=Sum.inr x.1∧∃a,kv.2= .ref a∧SqT K H a (aw x.2)
def TiesIs (K:PySem.W.Frag)(H:Hp)(kvs:List (g7×V))(ts:List (Str×J0)):Prop:=Paired (TieAt K H) kvs ts
structure WebAt (K:PySem.W.Frag) (H:Hp) (a p q:Addr) (kvs:List (g7×V)) (W:E4):Prop where
 tup:SqT K H a [.ref p,.ref q]
 pts:Rd H p (.dK (C0 W.pts))
 ties:Rd H q (.dK kvs)
 ts:TiesIs K H kvs W.ts
theorem TieAt.mono {kv:g7×V}{x:Str×J0}(l:Le H H')(h:TieAt K H kv x):TieAt K H' kv x:=let ⟨e,a,ea,s⟩:=h;⟨e,a,ea,l.tup s⟩
theorem TiesIs.mono {ts:List (Str×J0)}(l:Le H H')(h:TiesIs K H kvs ts):TiesIs K H' kvs ts:=Paired.imp' (fun _ _ z=>z.mono l) h
theorem WebAt.mono {a p q:Addr}{W:E4}(l:Le H H')(h:WebAt K H a p q kvs W):WebAt K H' a p q kvs W:=⟨l.tup h.tup,l.dic h.pts,l.dic h.ties,h.ts.mono l⟩
theorem TiesIs.length {ts:List (Str×J0)}(h:TiesIs K H kvs ts):kvs.length=ts.length:=Paired.length h
theorem TiesIs.keys {ts:List (Str×J0)}(h:TiesIs K H kvs ts):kvs.map (·.1)=ts.map fun x=>Sum.inr x.1:=by
 unfold TiesIs at h
 induction h with
 |nil=>rfl
 |cons r _ ih=>rw[List.map_cons,List.map_cons,ih,r.1]
theorem TiesIs.get {ts:List (Str×J0)}{i:Nat}{kv:g7×V}(h:TiesIs K H kvs ts)(e:kvs[i]?=some kv):∃x,ts[i]?=some x∧TieAt K H kv x:=z8 h e
theorem TiesIs.val {ts:List (Str×J0)}{n:Str}:∀{kvs:List (g7×V)} {ts:List (Str×J0)},TiesIs K H kvs ts→n∈ts.map (·.1)→∃a x,r6 kvs (Sum.inr n:g7)=some (.ref a)∧(n,x)∈ts∧SqT K H a (aw x)
 |_,_,.nil,h=>by simp at h
 |kv::r,x::ts,.cons t u,h=>by
  obtain⟨e,a,ea,s⟩:=t
  by_cases hn:x.1=n
  ·subst hn
   refine⟨a,x.2,?_,List.mem_cons_self,s⟩
   rw[T2 e,ea]
  ·have h':n∈ts.map (·.1):=by
    rcases List.mem_cons.mp h with z|z
    ·exact absurd z.symm hn
    ·exact z
   obtain⟨b,y,h1,h2,h3⟩:=TiesIs.val (ts:=ts) u h'
   refine⟨b,y,?_,List.mem_cons_of_mem _ h2,h3⟩
   rw[U3 (by rw[e];intro z;exact hn (Sum.inr.inj z))]
   exact h1
theorem P5 (pts:List (Str×Str)):(C0 pts).map (·.1)=pts.map fun x=>Sum.inr x.1:=by
 unfold C0
 rw[List.map_map];rfl
def lt (a b:Str):Bool:=decide (a.cps.toList<b.cps.toList)
def oF (ss:List Str):Bool:=(ss.dropLast.zip ss.tail).all fun p=>lt p.1 p.2
theorem ki:∀a b:List Nat,ltCps a b=true∨a=b∨ltCps b a=true
 |[],[]=> .inr (.inl rfl)
 |[],_::_=> .inl rfl
 |_::_,[]=> .inr (.inr rfl)
 |x::r,y::t=>by
  rcases Nat.lt_trichotomy x y with h|h|h
  ·exact .inl (by simp [ltCps,h])
  ·subst h
   rcases ki r t with z|z|z
   ·exact .inl (by simp [ltCps,z])
   ·exact .inr (.inl (by rw[z]))
   ·exact .inr (.inr (by simp [ltCps,z]))
  ·exact .inr (.inr (by simp [ltCps,h]))
theorem wV {a b:Str}(h:ltCps b.cps.toList a.cps.toList=false)(hne:a≠b):lt a b=true:=by
 unfold lt
 rw[←ltCps_eq]
 rcases ki a.cps.toList b.cps.toList with z|z|z
 ·exact z
 ·exfalso
  apply hne
  obtain⟨⟨l⟩⟩:=a
  obtain⟨⟨m⟩⟩:=b
  have z':l=m:=z
  rw[z']
 ·rw[z] at h;cases h
theorem er (x y:Str)(r:List Str):oF (x::y::r)=(lt x y&&oF (y::r)):=by
 unfold oF
 simp [List.dropLast]
theorem aU:∀{ss:List Str},sortedS ss=true→ss.Nodup→oF ss=true
 |[],_,_=>rfl
 |[_],_,_=>rfl
 |x::y::r,h,n=>by
  have h':(!ltCps y.cps.toList x.cps.toList&&risingS y r)=true:=h
  rw[Bool.and_eq_true] at h'
  have n':=List.nodup_cons.mp n
  rw[er,wV (by simpa using h'.1) (fun z=>n'.1 (by rw[z];exact List.mem_cons_self)),aU (ss:=y::r) h'.2 n'.2];rfl
end
end L2
set_option Elab.async false
set_option linter.all false
set_option maxRecDepth 100000
set_option maxHeartbeats 4000000
namespace L2
open PySem PySem.Spec PyProof.Rows
theorem Inv.off {X:Cx}{pins:List (Addr×Obj)}{σ:St}{H:Hp}{s:Shared}{C:Addr}{h':Heap}(I:Inv X pins σ H s)(hH:H C=none)(h0:X.s₀.heap.objs.size≤C)(h1:C≠X.env.locals)(h2:∀x c,X.env.cells.lookup x=some c→c≠C)(h3:∀p∈X.pn++pins,p.1≠C)(sb:Heap.SameBut C s.heap h'):Inv X pins σ H {s with heap:=h'}:=by
 refine I.call' (s':={s with heap:=h'}) (ch:=[C]) rfl ?_ ?_ I.bare fun b hb=>?_
 ·have same:∀b,b∉[C]→h'.get? b=s.heap.get? b:=fun b hb=>sb.2 b fun z=>hb (by rw[z];exact List.mem_cons_self)
  refine⟨fun b o q n hb hx=>?_,fun b o q n hb hx=>?_,fun b o q n hx=>n,fun b o q hx=>?_,fun b xs q=>q,fun b o u q=>q,fun b ps q=>⟨#[],by rw[Array.append_empty];exact q⟩⟩
  ·show h'.get? b=_
   rw[same b hx];exact q
  ·exact⟨o.slots,(same b hx).trans q⟩
  ·exact⟨o,(same b hx).trans q⟩
 ·refine fun b ob e=>(I.hok b ob e).stay (fun c w' hc q=>(sb.2 c ?_).trans q) (fun _ q=>q) fun _ _ q=>q
  rintro rfl
  rcases hc with rfl|hc
  ·rw[hH] at e;cases e
  ·rw[hH] at hc;cases hc
 ·rw[List.mem_singleton.mp hb]
  exact⟨.inr h0,h1,h2,h3⟩
theorem jt {X:Cx}{own:List Str}{js:List Nat}{scope:Scope}{tg iter elt:Expr}{ifs:List Expr}{pos spos py:Pos}{g:TG}{ti:TT}{te:TE}{wi:gR}{i:Nat}{y:Str}(hN:X.N.Nodup)(hy:X.N[i]?=some y)(hl:rL X.env.scope y)(S:vm X own js scope=true)(hc:X.calm=true)(hit:qN X tg iter wi)
  (hg:∀C s H fp,PG (aB X own js scope C s H fp) tg g) (hi:∀C s H fp,iQ (aB X own js scope C s H fp) ifs ti) (he:∀C s H fp,PE (aB X own js scope C s H fp) elt te)
  (hsw:swapsWith (.ListComp elt [⟨tg,iter,ifs,0⟩] scope pos) (some (.Name y py)) spos.line X.env=pure true)
  (hf:X.fn y=true∨X.env.scope.names.lookup y=some .local)
  (hs:∀x,foldedSetIterable iter X.env x=pure x):
  PS X (.Assign [.Name y py] (.ListComp elt [⟨tg,iter,ifs,0⟩] scope pos) spos) (iu (dz own js wi g ti te) (Z8 i)):=by
 have SB:=oI S
 intro pins s σ H D I h
 rw[exec_Assign_Name_used _ _ _ _ hsw]
 refine wpAny_bind (wpAny_standAt (wpAny_bind ?_))
 show wpAny _ X.A (do let _←comprehension (.ListComp elt [⟨tg,iter,ifs,0⟩] scope pos) scope X.env _ (newList []) false (eval iter X.env) (some (assign (.Name y py) X.env))) _ _ s
 refine wpAny_bind (wpAny_mono (wpAny_comprehension_free (use:=some (assign (.Name y py) X.env)) (Q:=fun _ s'=>SP X pins D .next s') rfl hs (dh (SB.cells I)) SB.kind SB.names (G3 (hit pins s σ H _ I h) fun v s1 h1=>G3 h1 fun itv s2 h2=>?_)) (fun _ s' hq=>wpAny_pure (wpAny_pure hq)) fun _ _ e=>e)
 obtain⟨it,fp,tn,J,H2,e,I2,T,st2,f2,th,hth,W,⟨m0,w0⟩,turn⟩:=h2
 subst e
 refine wpAny_newObj_type (wpAny_newFunctionEnv SB.nocell (by intro y hy;simp at hy) (fun h₁ hns₁ hsb₁=>?_) SB.kind)
 dsimp only at hns₁ hsb₁⊢
 generalize hH2:s2.heap.push {cls:= .type "list",dict:=none,data:= .seq ([]:List Value).toArray}=G2 at hns₁ hsb₁⊢
 have hCs:G2.objs.size=s2.heap.objs.size+1:=by rw[←hH2,Heap.size_push]
 have hDC:s2.heap.objs.size≠G2.objs.size:=by rw[hCs];exact Nat.ne_of_lt (Nat.lt_succ_self _)
 have hC:s2.heap.objs.size≤G2.objs.size:=by rw[hCs];exact Nat.le_succ _
 have old:∀b o,s2.heap.get? b=some o→h₁.get? b=some o:=fun b o e=>
  hsb₁.extBut b o (Nat.ne_of_lt (Nat.lt_of_lt_of_le (Heap.lt_size e) hC)) (Heap.get?_push_of_some _ (hH2▸Heap.get?_push_of_some _ e))
 have off:∀b o,s2.heap.get? b=some o→b≠G2.objs.size:=fun b o e=>Nat.ne_of_lt (Nat.lt_of_lt_of_le (Heap.lt_size e) hC)
 have hob:∀b∈fp,∃o,s2.heap.get? b=some o:=fun b hb=>let ⟨o,e,_⟩:=T.obj _ _ st2 b hb;⟨o,e⟩
 have hacc:h₁.get? s2.heap.objs.size=some {cls:= .type "list",data:= .seq ([]:List Value).toArray}:=
  hsb₁.extBut _ _ hDC (Heap.get?_push_of_some _ (hH2▸Heap.get?_push_size _ rfl))
 have loop:∀s3:Shared,s3={s2 with heap:=h₁,toks:=s2.toks+([]:List (Str×Value)).length}→
   codeAny (model X.prog X.w) X.A (.compLoop (.ListComp elt [⟨tg,iter,ifs,0⟩] scope pos) 0 (.ref it) (.ref s2.heap.objs.size) (compEnvC scope (cw scope X.env) G2.objs.size X.env))
    (compPost (model X.prog X.w) X.A X.xe (some (assign (.Name y py) X.env)) (fun _ s'=>SP X pins D .next s') (.ref s2.heap.objs.size) G2.objs.size) s3:=by
  rintro s3 rfl
  refine eu (K:=fun out H'=>Z8 i (.ref s2.heap.objs.size) σ (th (n0 H' s2.heap.objs.size (.lst out))) D.nx) SB hc T I2 f2 (Nat.le_refl _) hC hDC hob (hg _ _ _ _) (hi _ _ _ _) (he _ _ _ _) W (fun i m out H' w=>?_) (fun out H' s' B hl' k=>?_) w0
   ⟨Inv.block SB I2 f2 hob hC hns₁ old,I2.hok.fresh (Nat.le_refl _),[],_,.nil,hacc⟩ (T.keep _ _ _ st2 fun b _ o e=>old b o e) (fun b hb=>(f2 b hb).1)
  ·rcases turn i m out H' w with⟨a,b⟩|c
   ·exact .inl ⟨a,fun n=>b _ n⟩
   ·exact .inr c
  ·obtain⟨mm,hn,_⟩:=B.inv.loc
   have hHC:H' G2.objs.size=none:=B.inv.free
   have IJ:=B.out I2 f2 (Nat.le_refl _) hC hDC hl' (h':=s'.heap) (Heap.SameBut.refl _ _)
   show wpAny _ X.A (assign (.Name y py) X.env (.ref s2.heap.objs.size)) _ _ s'
   refine wpAny_assign_Name (eG IJ hN hy hl (v:= .ref s2.heap.objs.size) rfl (fun s'' I'' hx=>?_) hf)
   obtain⟨a,sa,ha⟩:=hx
   have haC:G2.objs.size≠a:=by
    rcases ha with rfl|ha
    ·exact Ne.symm (Nat.ne_of_lt (Nat.lt_of_lt_of_le I2.lt hC))
    ·obtain⟨_,o,ho,_⟩:=I2.cell _ _ ha
     exact Ne.symm (off _ _ ho)
   refine⟨mm,hn.sameBut sa haC,fun h' sb=>⟨_,_,hth _ _ _ _ (I''.off (by rw[b9 (Ne.symm hDC)];exact hHC) (Nat.le_trans I2.sz hC) (Ne.symm (Nat.ne_of_lt (Nat.lt_of_lt_of_le I2.lt hC))) (fun x c e=>?_) (fun p hp=>off _ _ (I2.pin p hp).1) sb),k⟩⟩
   obtain⟨_,o,ho,_⟩:=I2.cell _ _ e
   exact off _ _ ho
 exact codeAny_compStart_list (loop _ rfl) (T.self _ 0 _ _ _ (T.keep _ _ _ st2 fun b _ o e=>old b o e) (loop _ rfl))
theorem cK {X:Cx}{own:List Str}{js:List Nat}{scope:Scope}{tg iter elt:Expr}{ifs:List Expr}{pos spos py:Pos}{g:TG}{ti:TT}{te:TE}{wi:gR}{i:Nat}{y:Str}(hN:X.N.Nodup)(hy:X.N[i]?=some y)(hl:rL X.env.scope y)(S:vm X own js scope=true)(hc:X.calm=true)(hit:QI X tg iter wi)
  (hg:∀C s H fp,QG (aB X own js scope C s H fp) tg g) (hi:∀C s H fp,xG (aB X own js scope C s H fp) ifs ti) (he:∀C s H fp,QE (aB X own js scope C s H fp) elt te)
  (hsw:swapsWith (.ListComp elt [⟨tg,iter,ifs,0⟩] scope pos) (some (.Name y py)) spos.line X.env=pure true:=by rfl)
  (hf:X.fn y=true∨X.env.scope.names.lookup y=some .local:=by first|exact .inl rfl|exact .inr rfl)
  (hs:∀x,foldedSetIterable iter X.env x=pure x:=by intro _;rfl):QS X (.Assign [.Name y py] (.ListComp elt [⟨tg,iter,ifs,0⟩] scope pos) spos) (iu (dz own js wi g ti te) (Z8 i)):=
 ⟨jt hN hy hl S hc hit.r (fun C s H fp=>(hg C s H fp).r) (fun C s H fp=>(hi C s H fp).r) (fun C s H fp=>(he C s H fp).r) hsw hf hs⟩
end L2
set_option Elab.async false
set_option linter.all false
set_option maxRecDepth 100000
set_option maxHeartbeats 4000000
namespace L2
open PySem PySem.Spec PyProof.Rows
open PySem.AutoSeq1 (wpAny_loadPart')
def NcP (P:Program)(w:World)(A:Around)(s:Shared)(y x:Value)(b:Bool):Prop:=∀(E:Value→Shared→Prop) (Q:Value→Shared→Prop),Q (.bool b) s→wpAny (model P w) A (richCompare .NotEq y x) Q E s
theorem sH {P:Program}{w:World}(l m:Addr)(xs ys:Array Value)(n1 n2:Nat)(d1 d2:Option Addr)(s1 s2:Array (Option Value))(f:Nat→Bool):
  MeetsIn P w (Builtin.«tuple.__ne__» ⟨[.ref l,.ref m],[]⟩) (fun A R s=>
   s.heap.get? l=some {cls:= .type "tuple",dict:=d1,data:= .seq xs n1,slots:=s1}∧s.heap.get? m=some {cls:= .type "tuple",dict:=d2,data:= .seq ys n2,slots:=s2}∧
   (∀j (g1:j<xs.size) (g2:j<ys.size),EqP P w A.in1 s xs[j] ys[j] (f j))∧
   R (.ok (.ret (.bool (!((List.range (min xs.size ys.size)).all f&&xs.size==ys.size))))) s):=
 .of_wp fun A R s hyp=>by
  obtain⟨hp,gg,dr,tk,os⟩:=s
  obtain⟨e1,e2,he,fin⟩:=hyp
  have sub:=AutoSeq1.sub_tuple_tuple
  have len:(xs.toList.zip ys.toList).length=min xs.size ys.size:=by simp
  wp_walk using wpAny_loadPart' e1,wpAny_loadPart' e2,wpAny_forIn_list _ (fun more acc st=>acc.1=none∧st=⟨hp,gg,dr,tk,os⟩∧∃i,more=(xs.toList.zip ys.toList).drop i∧
   R (.ok (.ret (.bool (!(((List.range (min xs.size ys.size)).drop i).all f&&xs.size==ys.size))))) ⟨hp,gg,dr,tk,os⟩) _
  case turn=>
   rintro⟨y,x⟩ more acc st ⟨ha,rfl,i,hi,hR⟩
   have lt:i<(xs.toList.zip ys.toList).length:=by
    rcases Nat.lt_or_ge i (xs.toList.zip ys.toList).length with z|z
    ·exact z
    ·rw[List.drop_of_length_le z] at hi
     cases hi
   have lm:i<min xs.size ys.size:=len▸lt
   have lx:i<xs.size:=Nat.lt_of_lt_of_le lm (Nat.min_le_left _ _)
   have ly:i<ys.size:=Nat.lt_of_lt_of_le lm (Nat.min_le_right _ _)
   rw[List.drop_eq_getElem_cons lt] at hi
   injection hi with h1 h2
   have q1:y=xs[i]:=by simpa using congrArg Prod.fst h1
   have q2:x=ys[i]:=by simpa using congrArg Prod.snd h1
   subst q1 q2
   have dr1:(List.range (min xs.size ys.size)).drop i=i::(List.range (min xs.size ys.size)).drop (i+1):=by simp [List.drop_eq_getElem_cons,lm]
   rw[dr1,List.all_cons] at hR
   refine wpAny_bind (he i lx ly _ _ ?_)
   cases hf:f i with
   |true=>
    rw[hf] at hR
    wp_walk
    exact⟨rfl,rfl,i+1,h2,by simpa using hR⟩
   |false=>
    rw[hf] at hR
    wp_walk
    exact⟨_,rfl,by simpa using hR⟩
  case fin=>
   rintro⟨c1,c2⟩ st ⟨ha,rfl,i,hi,hR⟩
   simp only at ha
   subst ha
   have ge:min xs.size ys.size≤i:=by
    rcases Nat.lt_or_ge i (xs.toList.zip ys.toList).length with z|z
    ·rw[List.drop_eq_getElem_cons z] at hi
     cases hi
    ·exact len▸z
   rw[List.drop_of_length_le (by simpa using ge)] at hR
   wp_walk
   exact⟨_,rfl,by simpa [Builtin.Tuple.tupleCompareSizes,bne] using hR⟩
  case h=>
   exact⟨rfl,rfl,0,rfl,by simpa using fin⟩
theorem NcP.tup {P:Program}{w:World}{A:Around}{s:Shared}{l m:Addr}{xs ys:Array Value}{f:Nat→Bool}(hl:s.heap.IsTuple l xs)(hm:s.heap.IsTuple m ys)(hu:A.units<cLine)
  (he:∀j (g1:j<xs.size) (g2:j<ys.size),EqP P w A.in1 s xs[j] ys[j] (f j)):NcP P w A s (.ref l) (.ref m) (!((List.range (min xs.size ys.size)).all f&&xs.size==ys.size)):=fun E Q q=>by
 obtain⟨⟨c1,d1,a1,s1⟩,o1,k1,n1,t1⟩:=id hl
 obtain⟨⟨c2,d2,a2,s2⟩,o2,k2,n2,t2⟩:=id hm
 simp only at k1 t1 k2 t2
 subst k1 t1 k2 t2
 refine wpAny_richCompare_same_room (op:= .NotEq) ⟨_,o1,rfl⟩ ⟨_,o2,rfl⟩ PySem.F.slot_tuple_ne (call_meetsIn PySem.F.slot_tuple_ne ⟨_,o1,rfl⟩ PySem.F.entry_tuple_ne (PySem.F.args_tuple_ne_2 _ _) (sH l m xs ys n1 n2 d1 d2 s1 s2 f) ⟨o1,o2,he,?_⟩) hu
 exact⟨(fun z=>nomatch z),q⟩
section
variable {X:Cx} {pins:List (Addr×Obj)} {σ:St} {H:Hp} {s:Shared} {A:Around}
def xv (K:PySem.W.Frag):R2:=fun x y H Q=>∃a b p q p' q' r r',x= .ref a∧y= .ref b∧SqT K H a [.ref p,.ref q]∧SqT K H b [.ref p',.ref q']∧EqD K H p p' r∧EqD K H q q' r'∧Q (.bl (!(r&&r'))) H
theorem tP (hu:X.A.units+64<cLine):OpR X (compareOp .NotEq) (xv X.K):=by
 intro pins s σ H x y v u Q I rx ry h
 obtain⟨a,b,p,q,p',q',r,r',rfl,rfl,ha,hb,h1,h2,k⟩:=h
 cases rx
 cases ry
 obtain⟨its,v1,t1,_⟩:=I.tuple ha
 obtain⟨its',v2,t2,_⟩:=I.tuple hb
 obtain⟨_,_,rfl,e1,e2⟩:=cj v1
 obtain⟨_,_,rfl,e3,e4⟩:=cj v2
 cases e1
 cases e2
 cases e3
 cases e4
 refine NcP.tup (P:=X.prog) (w:=X.w) (f:=fun j=>if j=0 then r else r') (show s.heap.IsTuple a _ from t1) (show s.heap.IsTuple b _ from t2) (by omega) (fun j g1 g2=>?_) _ _ ⟨.bl (!(r&&r')),H,I,by show Value.bool _=Value.bool _;simp [List.range_succ],k⟩
 have g:j<2:=by simpa using g1
 match j,g with
 |0,_=>exact h1.at_ I (by show X.A.units+1+16<_;omega)
 |1,_=>exact h2.at_ I (by show X.A.units+1+16<_;omega)
def wx (K:PySem.W.Frag):R2:=fun x y H Q=>∃a b xs ys,x= .ref a∧y= .ref b∧SqL K H a xs∧SqL K H b ys∧xs.all z9=true∧ys.all z9=true∧Q (.bl (!Q0 xs ys)) H
theorem vd (hu:X.A.units+64<cLine):OpR X (compareOp .NotEq) (wx X.K):=by
 intro pins s σ H x y v u Q I rx ry h
 obtain⟨a,b,xs,ys,rfl,rfl,ha,hb,fx,fy,k⟩:=h
 cases rx
 cases ry
 obtain⟨its,r1,p1,z1⟩:=I.list ha
 obtain⟨its',r2,p2,z2⟩:=I.list hb
 have l1:=r1.length
 have l2:=r2.length
 have e3:its.toArray.size=xs.length:=by simp [l1]
 have e4:its'.toArray.size=ys.length:=by simp [l2]
 by_cases hl:xs.length=ys.length
 ·have q:=SeqAt.RcNeAt.lists (A:=X.A) (e:=fun j=>cE (xs.getD j .non) (ys.getD j .non)) p1.isList p2.isList (by rw[e3,e4];exact hl) (by omega) fun j g1 g2=>by
   have g1':j<its.length:=by simpa using g1
   have g2':j<its'.length:=by simpa using g2
   have x1:xs[j]?=some (xs[j]'(by omega)):=by simp [show j<xs.length by omega]
   have y1:ys[j]?=some (ys[j]'(by omega)):=by simp [show j<ys.length by omega]
   obtain⟨u1,hu1,ru1⟩:=r1.get x1
   obtain⟨u2,hu2,ru2⟩:=r2.get y1
   have e1:its.toArray[j]=u1:=by
    have:=List.getElem?_eq_getElem g1'
    rw[hu1] at this
    simpa using(Option.some.inj this).symm
   have e2:its'.toArray[j]=u2:=by
    have:=List.getElem?_eq_getElem g2'
    rw[hu2] at this
    simpa using(Option.some.inj this).symm
   rw[e1,e2]
   have d1:xs.getD j .non=xs[j]'(by omega):=by rw[List.getD_eq_getElem?_getD,x1];rfl
   have d2:ys.getD j .non=ys[j]'(by omega):=by rw[List.getD_eq_getElem?_getD,y1];rfl
   rw[d1,d2]
   exact aS ru1 ru2 (List.all_eq_true.mp fx _ (List.getElem_mem _)) (List.all_eq_true.mp fy _ (List.getElem_mem _))
  have e5:=L6 xs ys
  rw[hl,Nat.min_self,beq_self_eq_true,Bool.and_true] at e5
  rw[e3,hl,e5] at q
  exact q X.prog X.w _ _ ⟨.bl _,H,I,rfl,k⟩
 ·refine SeqAt.RcNeAt.lists_lengths (A:=X.A) p1.isList p2.isList (by rw[e3,e4];simpa using hl) (by omega) X.prog X.w _ _ ⟨.bl _,H,I,?_,k⟩
  rw[dB hl];rfl
def vT (K:PySem.W.Frag):R2:=fun x y H Q=>(∃a b xs ys,x= .ref a∧y= .ref b∧SqT K H a xs∧SqT K H b ys∧xs.all z9=true∧ys.all z9=true∧Q (.bl (!Q0 xs ys)) H)∨(∃a xs,x= .non∧y= .ref a∧SqT K H a xs∧Q (.bl true) H)
theorem sj (hu:X.A.units+64<cLine):OpR X (compareOp .NotEq) (vT X.K):=by
 intro pins s σ H x y v u Q I rx ry h
 rcases h with⟨a,b,xs,ys,rfl,rfl,ha,hb,fx,fy,k⟩|⟨a,xs,rfl,rfl,ha,k⟩
 ·cases rx
  cases ry
  obtain⟨its,r1,p1,z1⟩:=I.tuple ha
  obtain⟨its',r2,p2,z2⟩:=I.tuple hb
  have l1:=r1.length
  have l2:=r2.length
  have q:=SeqAt.RcNeAt.tuples (A:=X.A) (e:=fun j=>cE (xs.getD j .non) (ys.getD j .non)) (show s.heap.IsTuple a its.toArray from p1) (show s.heap.IsTuple b its'.toArray from p2) (by omega) fun j g1 g2=>by
   have g1':j<its.length:=by simpa using g1
   have g2':j<its'.length:=by simpa using g2
   have x1:xs[j]?=some (xs[j]'(by omega)):=by simp [show j<xs.length by omega]
   have y1:ys[j]?=some (ys[j]'(by omega)):=by simp [show j<ys.length by omega]
   obtain⟨u1,hu1,ru1⟩:=r1.get x1
   obtain⟨u2,hu2,ru2⟩:=r2.get y1
   have e1:its.toArray[j]=u1:=by
    have:=List.getElem?_eq_getElem g1'
    rw[hu1] at this
    simpa using(Option.some.inj this).symm
   have e2:its'.toArray[j]=u2:=by
    have:=List.getElem?_eq_getElem g2'
    rw[hu2] at this
    simpa using(Option.some.inj this).symm
   rw[e1,e2]
   have d1:xs.getD j .non=xs[j]'(by omega):=by rw[List.getD_eq_getElem?_getD,x1];rfl
   have d2:ys.getD j .non=ys[j]'(by omega):=by rw[List.getD_eq_getElem?_getD,y1];rfl
   rw[d1,d2]
   exact aS ru1 ru2 (List.all_eq_true.mp fx _ (List.getElem_mem _)) (List.all_eq_true.mp fy _ (List.getElem_mem _))
  have e3:its.toArray.size=xs.length:=by simp [l1]
  have e4:its'.toArray.size=ys.length:=by simp [l2]
  rw[e3,e4,L6] at q
  exact q X.prog X.w _ _ ⟨.bl _,H,I,rfl,k⟩
 ·cases rx
  cases ry
  obtain⟨its,r1,p1,z1⟩:=I.tuple ha
  exact SeqAt.RcNeAt.none_tuple (A:=X.A) (show s.heap.IsTuple a its.toArray from p1) (by omega) X.prog X.w _ _ ⟨.bl true,H,I,rfl,k⟩
def rN (K:PySem.W.Frag):R2:=fun x y H Q=>∃a b ka kb r0,x= .ref a∧y= .ref b∧Rd H a (.dK ka)∧Rd H b (.dK kb)∧EqH K H kb ka r0∧Q (.bl (ka.length==kb.length&&r0)) H
def rW (K:PySem.W.Frag):R2:=fun x y H Q=>∃a b ka kb r0,x= .ref a∧y= .ref b∧Rd H a (.dK ka)∧Rd H b (.dK kb)∧EqH K H kb ka r0∧Q (.bl (!(ka.length==kb.length&&r0))) H
theorem rD (hu:X.A.units+64<cLine):OpR X (compareOp .Eq) (rN X.K):=by
 intro pins s σ H x y v u Q I rx ry h
 obtain⟨a,b,ka,kb,r0,rfl,rfl,h1,h2,h3,k⟩:=h
 cases rx
 cases ry
 obtain⟨z1,d1,va,ra,da⟩:=J5 I.hok h1
 obtain⟨z2,d2,vb,rb,db⟩:=J5 I.hok h2
 have l1:=KV.length ra
 have l2:=KV.length rb
 exact PySem.W.keq_eq (knd:=j2 X.prog X.w) d1 d2 da db (by omega) (fun _=>h3.hits (A:=X.A.in1) I (by show X.A.units+1+8<_;omega) rb ra) ⟨.bl _,H,I,rfl,by rw[←l1,←l2];exact k⟩
theorem qS (hu:X.A.units+64<cLine):OpR X (compareOp .NotEq) (rW X.K):=by
 intro pins s σ H x y v u Q I rx ry h
 obtain⟨a,b,ka,kb,r0,rfl,rfl,h1,h2,h3,k⟩:=h
 cases rx
 cases ry
 obtain⟨z1,d1,va,ra,da⟩:=J5 I.hok h1
 obtain⟨z2,d2,vb,rb,db⟩:=J5 I.hok h2
 have l1:=KV.length ra
 have l2:=KV.length rb
 exact PySem.W.keq_ne (knd:=j2 X.prog X.w) d1 d2 da db (by omega) (fun _=>h3.hits (A:=X.A.in1) I (by show X.A.units+1+8<_;omega) rb ra) ⟨.bl _,H,I,rfl,by rw[←l1,←l2];exact k⟩
def ug (K:PySem.W.Frag):R2:=fun x y H Q=>dj K x y H Q∨rN K x y H Q
theorem xV (K:PySem.W.Frag){k:Nat}(hr:Room k X.A)(h:X.K=K:=by rfl):OpR X (compareOp .Eq) (ug K):=(yZ K hr h).or (h▸rD hr.units)
def fk (K:PySem.W.Frag):R2:=fun x y H Q=>xZ x y H Q∨wx K x y H Q∨vT K x y H Q∨xv K x y H Q∨rW K x y H Q
theorem yV (K:PySem.W.Frag){k:Nat}(hr:Room k X.A)(h:X.K=K:=by rfl):OpR X (compareOp .NotEq) (fk K):=h▸op_ne.or ((vd hr.units).or ((sj hr.units).or ((tP hr.units).or (qS hr.units))))
end
section
variable {K:PySem.W.Frag} {H:Hp} {Q:VK}
theorem xW {x y:V}(q:dj K x y H Q):ug K x y H Q:= .inl q
theorem gh {i j:Int}(q:Q (.bl (!decide (i=j))) H):fk K (.int i) (.int j) H Q:= .inl (gn q)
theorem jR {i j:Bool}(q:Q (.bl (!decide (i=j))) H):fk K (.bl i) (.bl j) H Q:= .inl ⟨rfl,by rw[fO];rw[show(i==j)=decide (i=j) from Bool.beq_eq_decide_eq i j];exact q⟩
theorem gr {i j:Str}(q:Q (.bl (!decide (i=j))) H):fk K (.str i) (.str j) H Q:= .inl ⟨rfl,by rw[show decide (V.str i=V.str j)=decide (i=j) by simp];exact q⟩
theorem ij {a b:Addr}{xs ys:List V}(ha:SqL K H a xs)(hb:SqL K H b ys)(fx:xs.all z9=true)(fy:ys.all z9=true)(q:Q (.bl (!Q0 xs ys)) H):fk K (.ref a) (.ref b) H Q:= .inr (.inl ⟨a,b,xs,ys,rfl,rfl,ha,hb,fx,fy,q⟩)
theorem oE {a b:Addr}{ka kb:List (g7×V)}{r:Bool}(ha:Rd H a (.dK ka))(hb:Rd H b (.dK kb))(h:EqH K H kb ka r)(q:Q (.bl (!(ka.length==kb.length&&r))) H):fk K (.ref a) (.ref b) H Q:= .inr (.inr (.inr (.inr ⟨a,b,ka,kb,r,rfl,rfl,ha,hb,h,q⟩)))
theorem fQ {j:Str}(q:Q (.bl false) H):dj K .non (.str j) H Q:= .inl ⟨rfl,by rw[show decide (V.non=V.str j)=false by simp];exact q⟩
theorem eT {a:Addr}{xs:List V}(ha:SqT K H a xs)(q:Q (.bl false) H):dj K .non (.ref a) H Q:= .inr (.inr (.inl (.inr ⟨a,xs,rfl,rfl,ha,q⟩)))
end
section
variable {X:Cx} {o e f:Expr} {apos cpos:Pos} {td ty tx:TE} {name:Str}
theorem wR (hb:attributeBase o name X.env (eval o X.env)=eval o X.env)(hl:(apos.endLine==cpos.line)=true)(h:q5 e=true):M1 X o name apos e cpos:=by
 have z:starEach [e] X.env=[(false,eval e X.env)]:=V3 (es:=[]) h
 have z2:backTo cpos (starEach [e] X.env)=[(false,eval e X.env)]:=by rw[z];rfl
 exact⟨hb,by rw[z2];rfl,hl,z2⟩
theorem et (hu:X.A.units+1<cLine)(ho:QE X o td)(he:QE X e ty)(hb:attributeBase o "get" X.env (eval o X.env)=eval o X.env:=by rfl)(hl:(apos.endLine==cpos.line)=true:=by rfl)(h:q5 e=true:=by rfl):
  QE X (.Call (.Attribute o "get" apos) [e] [] cpos) (iJ td ty):=⟨my hu ho.r he.r (wR hb hl h)⟩
end
section
variable {σ:St} {H:Hp} {Q:VK} {td ty tx:TE}
theorem vz (q:td σ H fun x H1=>∃a,x= .ref a∧xS H1 a∧ty σ H1 fun y H2=>∃o,DGet H2 a y o∧Q (o.getD .non) H2):iJ td ty σ H Q:=q
end
end L2
set_option Elab.async false
set_option linter.all false
set_option maxRecDepth 100000
set_option maxHeartbeats 4000000
namespace L2
open PySem PySem.Spec PyProof.Rows
open Sem (wp)
section
variable {prog:Program} {w:World} {KT:Type} [DecidableEq KT] {knd:KeyKind prog w KT} {A:Around} {E:Value→Shared→Prop} {s:Shared}
theorem cn {it d:Addr}{i ep:Nat}{kvs:List (KT×Value)}{k:KT}{v:Value}{Q:Value→Shared→Prop}(hit:s.heap.IsKeyIter it d i kvs.length ep)
  (hm:s.heap.DictAt knd d kvs ep) (hx:kvs[i]?=some (k,v))
  (hQ:∀key h',knd.is k key=true→h'.IsKeyIter it d (i+1) kvs.length ep→Heap.SameBut it s.heap h'→Q key {s with heap:=h'}):
  wpAny (model prog w) A (Builtin.SmallTypes.nextOf (.ref it)) Q E s:=by
 obtain⟨o,ho,hc,hd⟩:=id hit
 obtain⟨od,es,hod,hcd,hdd,hk,hp,hn⟩:=id hm
 have hsz:es.size=kvs.length:=by rw[←hp.length];simp
 have hlt:i<kvs.length:=(List.getElem?_eq_some_iff.mp hx).1
 have hlt':i<es.size:=by rw[hsz];exact hlt
 have hkey:knd.is k es[i].key=true:=(hp.get? (e:=es[i]) (by simp [hlt']) hx).1
 have hown:Builtin.Dict_items.ownsTuple "dict_keyiterator"=false:=by decide
 unfold Builtin.SmallTypes.nextOf
 refine wpAny_bind (wpAny_callSpecial?_slot (name:=Str.ofString "__next__") hit.typeIs F.slot_dict_keyiterator_next
  (wpAny_call_entry F.slot_dict_keyiterator_next hit.typeIs F.entry_dict_keyiterator_next ?_ (F.args_dict_keyiterator_next_1 _)))
 refine wpAny_bind (wpAny_pure (wpAny_bind (wpAny_bind ?_)))
 first|refine wpAny_bind (wpAny_typeNameOfWhole_keyiter hit.typeIs (wpAny_pure ?_))|refine wpAny_bind (wpAny_typeNameOf_keyiter hit.typeIs (wpAny_pure ?_))
 refine wpAny_bind (wpAny_fieldsOf ho hd ?_)
 simp only[hown,Bool.false_eq_true,if_false]
 show wpAny _ _ (if(Value.ref d==Value.none)=true then _ else _) _ _ s
 rw[if_neg (show ¬((Value.ref d==Value.none)=true) from Bool.false_ne_true)]
 refine wpAny_bind (wpAny_pure (wpAny_bind (wpAny_dictEntries hod hdd ?_)))
 rw[if_neg (by rw[hsz];simp)]
 refine wpAny_bind (wpAny_pure (wpAny_bind (wpAny_dictEpoch hod hdd ?_)))
 rw[if_neg (by simp)]
 refine wpAny_pure ?_
 simp only[show ¬((i:Int)<0) from by omega,if_false,Int.toNat_natCast,Array.getElem?_eq_getElem hlt']
 refine wpAny_bind ?_
 first|refine wpAny_bind (wpAny_typeNameOfWhole_keyiter hit.typeIs (wpAny_pure ?_))|refine wpAny_bind (wpAny_typeNameOf_keyiter hit.typeIs (wpAny_pure ?_))
 refine wpAny_bind (wpAny_isOneOf_keyiter hit.typeIs ?_)
 show wpAny _ _ (setField (.ref it) 1 (rawInt ((i:Int)+1))>>=_) _ _ s
 refine wpAny_bind (wpAny_setField ho hd (by simp) ?_)
 have hit':(s.heap.update it (Obj.mapFields (·.setIfInBounds 1 (rawInt ((i:Int)+1))))).IsKeyIter it d (i+1) kvs.length ep:=
  ⟨_,Heap.get?_update_self _ ho (Obj.isFreed_of_fields (Obj.data_mapFields hd _)),(Obj.cls_mapFields ..).trans hc,by rw[Obj.data_mapFields hd];simp [rawInt]⟩
 refine wpAny_bind (wpAny_holding ?_)
 refine wpAny_bind (wpAny_isOneOf_keyiter (s:={s with heap:=s.heap.update it (Obj.mapFields (·.setIfInBounds 1 (rawInt ((i:Int)+1))))}) hit'.typeIs ?_)
 show wpAny _ _ (pure es[i].key) _ _ _
 exact wpAny_pure (wpAny_pure ⟨_,rfl,wpAny_pure (hQ _ _ hkey hit' (Heap.SameBut.update ..))⟩)
theorem dc {it d:Addr}{i ep:Nat}{kvs:List (KT×Value)}{Q:Value→Shared→Prop}(hh:A.handled=none)(hit:s.heap.IsKeyIter it d i kvs.length ep)
  (hm:s.heap.DictAt knd d kvs ep) (hx:kvs[i]?=none)
  (hE:∀h' e,Heap.ExtBut it s.heap h'→(∃o,h'.get? e=some o∧o.cls= .type "StopIteration")→E (.ref e) {s with heap:=h'}):
  wpAny (model prog w) A (Builtin.SmallTypes.nextOf (.ref it)) Q E s:=by
 obtain⟨o,ho,hc,hd⟩:=id hit
 obtain⟨od,es,hod,hcd,hdd,hk,hp,hn⟩:=id hm
 have hsz:es.size=kvs.length:=by rw[←hp.length];simp
 have hge:es.size≤i:=by rw[hsz];simpa using hx
 have hown:Builtin.Dict_items.ownsTuple "dict_keyiterator"=false:=by decide
 unfold Builtin.SmallTypes.nextOf
 refine wpAny_bind (wpAny_callSpecial?_slot (name:=Str.ofString "__next__") hit.typeIs F.slot_dict_keyiterator_next
  (wpAny_call_entry F.slot_dict_keyiterator_next hit.typeIs F.entry_dict_keyiterator_next ?_ (F.args_dict_keyiterator_next_1 _)))
 refine wpAny_bind (wpAny_pure (wpAny_bind (wpAny_bind ?_)))
 first|refine wpAny_bind (wpAny_typeNameOfWhole_keyiter hit.typeIs (wpAny_pure ?_))|refine wpAny_bind (wpAny_typeNameOf_keyiter hit.typeIs (wpAny_pure ?_))
 refine wpAny_bind (wpAny_fieldsOf ho hd ?_)
 simp only[hown,Bool.false_eq_true,if_false]
 show wpAny _ _ (if(Value.ref d==Value.none)=true then _ else _) _ _ s
 rw[if_neg (show ¬((Value.ref d==Value.none)=true) from Bool.false_ne_true)]
 refine wpAny_bind (wpAny_pure (wpAny_bind (wpAny_dictEntries hod hdd ?_)))
 rw[if_neg (by rw[hsz];simp)]
 refine wpAny_bind (wpAny_pure (wpAny_bind (wpAny_dictEpoch hod hdd ?_)))
 rw[if_neg (by simp)]
 refine wpAny_pure ?_
 simp only[show ¬((i:Int)<0) from by omega,if_false,Int.toNat_natCast,Array.getElem?_eq_none hge]
 refine wpAny_bind ?_
 first|refine wpAny_bind (wpAny_typeNameOfWhole_keyiter hit.typeIs (wpAny_pure ?_))|refine wpAny_bind (wpAny_typeNameOf_keyiter hit.typeIs (wpAny_pure ?_))
 show wpAny _ _ (setField (.ref it) 0 .none>>=_) _ _ s
 refine wpAny_bind (wpAny_setField ho hd (by simp) ?_)
 show wpAny _ _ (newExc (.type "StopIteration") []>>=_) _ _ _
 refine wpAny_bind ?_
 simp only[newExc,newTuple]
 refine wpAny_bind (wpAny_newObj_type ?_ (by size_fits))
 refine wpAny_bind (m:=firstArgMember _ _) (wpAny_of_eq (a:=Value.none) (by first|rfl|(simp only[firstArgMember];rfl)) ?_)
 refine wpAny_newObj_type ?_ (by size_fits)
 simp only[raiseNew]
 refine wpAny_bind (wpAny_handled ?_)
 first|rw[show A.in1.handled=none from hh]|rw[hh]
 refine wpAny_bind (wpAny_pure (wpAny_throw ?_))
 exact hE _ _ (((Heap.SameBut.update ..).extBut.push _).push _) ⟨_,Heap.get?_push_size _ rfl,rfl⟩
end
section
variable {prog:Program} {w:World} {KT:Type} [DecidableEq KT] {knd:KeyKind prog w KT} {A:Around} {E:Value→Shared→Prop} {s:Shared}
open PySem.AutoSeq1 (wpAny_loadPart')
abbrev O4 (d:Addr)(n ep:Nat):Obj:={cls:= .type "dict_keyiterator",data:= .fields #[.ref d,.int 0 0,.int n 0,.int ep 0]}
abbrev eZ (it:Addr):Obj:={cls:= .type "enumerate",data:= .fields #[.none,.bool false,.ref it,rawInt 0,.none,.none]}
theorem nO (d:Addr)(kvs:List (KT×Value))(ep:Nat)(hd:(d==sysModules)=false):
  MeetsIn prog w (Builtin.«enumerate.__new__» ⟨[.type "enumerate",.ref d],[]⟩) (fun _ R s=>s.heap.DictAt knd d kvs ep∧
   R (.ok (.ret (.ref (s.heap.push (O4 d kvs.length ep)).objs.size))) {s with heap:=(s.heap.push (O4 d kvs.length ep)).push (eZ s.heap.objs.size)}):=
 .of_wp fun A R s h=>by
  obtain⟨hp,g,dr,tk,os⟩:=s;obtain⟨hm,h⟩:=h
  have hsub:=sub_enumerate
  obtain⟨⟨c,dct,dt,sl⟩,es,hod,hcd,hdd,hk,hp',hn⟩:=id hm
  have hc:c= .type "dict":=hcd.1
  subst hc
  wp_walk using wpAny_loadPart' hod
  refine wpAny_stack_any fun st=>wpAny_pure ?_
  split
  ·rename_i c _ _ _ _ _
   cases (c==Value.type "enumerate")
   ·wp_walk using wpAny_loadPart' hod,wpAny_pyIter_dict hd hm
    exact⟨_,rfl,h⟩
   ·wp_walk using wpAny_loadPart' hod,wpAny_pyIter_dict hd hm
    exact⟨_,rfl,h⟩
  ·wp_walk using wpAny_loadPart' hod,wpAny_pyIter_dict hd hm
   exact⟨_,rfl,h⟩
theorem jh {d:Addr}{kvs:List (KT×Value)}{ep:Nat}{Q:Value→Shared→Prop}(hd:(d==sysModules)=false)(hm:s.heap.DictAt knd d kvs ep)
  (h:∀h',IsEnum h' (s.heap.objs.size+1) s.heap.objs.size 0 .none→h'.IsKeyIter s.heap.objs.size d 0 kvs.length ep→h'.objs.size=s.heap.objs.size+2→
   (∀b o,s.heap.get? b=some o→h'.get? b=some o)→Q (.ref (s.heap.objs.size+1)) {s with heap:=h'}):
  wpAny (model prog w) A (call (.type "enumerate") [.ref d]) Q E s:=by
 refine callType_newIn F.called_enumerate (by decide) (F.typeCall_enumerate_1 _) (F.newCall_enumerate_1 _) (fun obj=>F.args_object_init_2 obj _) F.entry_enumerate_new
  (nO (knd:=knd) d kvs ep hd) ⟨hm,?_⟩
 have hz:(s.heap.push (O4 d kvs.length ep)).objs.size=s.heap.objs.size+1:=Heap.size_push ..
 show _∧_
 rw[hz]
 have he:IsEnum ((s.heap.push (O4 d kvs.length ep)).push (eZ s.heap.objs.size)) (s.heap.objs.size+1) s.heap.objs.size 0 .none:=by
  have:=Heap.get?_push_size (s.heap.push (O4 d kvs.length ep)) (o:=eZ s.heap.objs.size) rfl
  rw[hz] at this;exact this
 refine⟨⟨_,he,rfl⟩,h _ he ⟨_,Heap.get?_push_of_some _ (Heap.get?_push_size _ rfl),rfl,rfl⟩ (by rw[Heap.size_push,hz]) fun b o x=>Heap.get?_push_of_some _ (Heap.get?_push_of_some _ x)⟩
theorem eK (hh:A.handled=none){it d:Addr}(hne:d≠it)(kvs:List (KT×Value))(ep:Nat):
  Draws prog w A it [it,d] kvs.length (fun i v=>∃k x,kvs[i]?=some (k,x)∧knd.is k v=true) (fun i h=>h.IsKeyIter it d i kvs.length ep∧h.DictAt knd d kvs ep) where
 live:=fun _ _ st=>let ⟨o,ho,_⟩:=st.1;⟨o,ho⟩
 frame:=fun _ _ _ st hk=>⟨st.1.at fun o e=>hk it (by simp) o e,let ⟨o,es,e,r⟩:=st.2;⟨o,es,hk d (by simp) o e,r⟩⟩
 item:=fun i s Q E hi st hQ=>by
  obtain⟨⟨k,x⟩,hx⟩:∃p,kvs[i]?=some p:=⟨kvs[i],by simp [hi]⟩
  refine cn st.1 st.2 hx fun key h' hkey hit' hs'=>?_
  exact hQ key h' s.toks ⟨k,x,hx,hkey⟩ ⟨hit',let ⟨o,es,e,r⟩:=st.2;⟨o,es,hs'.extBut _ _ hne e,r⟩⟩ hs'
 done:=fun s Q E st hE=>dc hh st.1 st.2 (by simp) hE
end
def uk (d:Addr)(o:Obj)(kvs:List (g7×V)):It:=
 ⟨fun i H=>H d=some (.frz o (.dK kvs))∧i<kvs.length,fun i H x H'=>∃t kv,kvs[i]?=some kv∧H t=none∧x= .ref t∧H'=n0 H t (.tup [.int i,kV kv.1]),fun i H=>H d=some (.frz o (.dK kvs))∧kvs.length=i⟩
theorem iY {P:Program}{w:World}{K:PySem.W.Frag}{elts:List Expr}{x1}{tpos:Pos}{d:Addr}{o:Obj}{kvs:List (g7×V)}{vs:List (g7×Value)}{ep:Nat}(D:nI P w d o kvs vs ep){en it:Addr}(hne:en≠it):
  bU P w K (.Tuple elts x1 tpos) (uk d o kvs) [en,it] en (fun i h=>∃old,IsEnum h en it i old∧h.IsKeyIter it d i vs.length ep) where
 mem:=by simp
 obj:=fun i h st b hb=>by
  obtain⟨old,h1,o,e,c,dd⟩:=st
  have hb':b=en∨b=it:=by simpa using hb
  rcases hb' with rfl|rfl
  ·exact⟨_,h1,fun v z=>by
    have z':Data.fields _=Data.cell v:=z
    cases z'⟩
  ·exact⟨o,e,fun v z=>by rw[dd] at z;cases z⟩
 keep:=fun i h h' st k=>by
  obtain⟨old,h1,h2⟩:=st
  exact⟨old,k en (by simp) _ h1,h2.at fun o e=>k it (by simp) o e⟩
 item:=by
  intro X hP hw hK hc i pins s σ H E I hf st hg
  subst hP hw hK
  obtain⟨old,st1,st2⟩:=st
  obtain⟨hfz,hi⟩:=hg
  have dat:=D.at_ s.heap (I.hok d _ hfz).1
  have hl:=KV.length D.kv
  have hdi:d≠it:=d8 hfz (hf it (by simp)).1
  have hde:d≠en:=d8 hfz (hf en (by simp)).1
  have hen:en<s.heap.objs.size:=Heap.lt_size st1
  have hit:it<s.heap.objs.size:=by obtain⟨o,e,_⟩:=st2;exact Heap.lt_size e
  obtain⟨kv,hkv⟩:∃kv,kvs[i]?=some kv:=⟨kvs[i],by simp [hi]⟩
  refine wpAny_pyNext_enum_itemD (eK (knd:=j2 X.prog X.w) (A:=X.A.in1) (show X.A.in1.handled=none from I.ok.hd hc) hdi vs ep) st1 ⟨st2,dat⟩ (by omega) hne (by simp;exact⟨hne,Ne.symm hde⟩) fun u h' tk hP heo hst1 ht1 hz1 hk1=>?_
  obtain⟨k,x,hx,hkey⟩:=hP
  have hkk:kv.1=k:=by
   have e1:(kvs.map (·.1))[i]?=some kv.1:=by rw[List.getElem?_map,hkv];rfl
   rw[KV.keys D.kv,List.getElem?_map,hx] at e1
   exact(Option.some.inj e1).symm
  refine⟨.ref s.heap.objs.size,rfl,wpAny_letOwnedTupleGo_enum (s:={s with heap:=h',toks:=tk+1}) heo fun h'' he'' hs''=>?_⟩
  have hs2:Heap.SameBut en h' h'':=hs''
  have tupAt:h''.get? s.heap.objs.size=some {cls:= .type "tuple",data:= .seq #[.int i tk,u]}:=hs2.extBut _ _ (Nat.ne_of_gt hen) ht1
  obtain⟨fr,I1,fr2⟩:=I.pairNew (fp:=[en,it]) (h':=h'') (tk:=tk+1) (x:= .int i) (y:=kV kv.1) hf (fun b o hb e=>by
   have hb':b≠en∧b≠it:=by simpa using hb
   exact hs2.extBut b o hb'.1 (hk1 b o hb'.1 hb'.2 e)) (fun b hb=>by
   have hb':b=en∨b=it:=by simpa using hb
   rcases hb' with rfl|rfl
   ·exact hen
   ·exact hit) tupAt ⟨_,rfl⟩ (by rw[hkk];exact bt hkey)
  refine⟨.ref s.heap.objs.size,_,I1,rfl,⟨_,kv,hkv,fr,rfl,rfl⟩,⟨_,he'',?_⟩,fr2⟩
  exact hst1.1.at fun o e=>hs2.extBut it o (Ne.symm hne) e
 done:=by
  intro X hP hw hK hc i pins s σ H E I hf st hg
  subst hP hw hK
  obtain⟨old,st1,st2⟩:=st
  obtain⟨hfz,hi⟩:=hg
  have dat:=D.at_ s.heap (I.hok d _ hfz).1
  have hl:=KV.length D.kv
  have hdi:d≠it:=d8 hfz (hf it (by simp)).1
  have e:i=vs.length:=by omega
  subst e
  exact wpAny_pyNext_enum_endD (eK (knd:=j2 X.prog X.w) (A:=X.A.in1) (show X.A.in1.handled=none from I.ok.hd hc) hdi vs ep) st1 ⟨st2,dat⟩ fun h' eb=>⟨rfl,I.turnedAll (fp:=[en,it]) (tk:=s.toks) hf fun b o hb e=>eb b o (by
   have hb':b≠en∧b≠it:=by simpa using hb
   exact hb'.2) e⟩
 self:=fun _ _ _ _ _ st h=>by
  obtain⟨old,st1,st2⟩:=st
  exact wpAny_pyIter_enum st1 h
section
variable {X:Cx} {a:Expr} {t:TA} {p pos:Pos}
def ju (K:PySem.W.Frag)(ta:TA):gR:=fun σ H R=>ta σ H fun vs H1=>∃v,vs=[v]∧((∃l xs,v= .ref l∧SqL K H1 l xs∧R (wO K l) id H1)∨rIterD uk v H1 R)
theorem mT {elts:List Expr}{x1}{tpos:Pos}(hg:Gl X "enumerate")(hm:X.mg "enumerate"=none)(ha:PA X [a] t)(hs:starEach [a] X.env=[(false,eval a X.env)]):qN X (.Tuple elts x1 tpos) (.Call (.Name "enumerate" p) [a] [] pos) (ju X.K t):=by
 intro pins s σ H R I h
 refine Call_ (bL I hg hm Boot.«enumerate» (PyProof.Rows.callWith_type1 (G3 (ha pos pins s σ H _ I h) fun us s1 ⟨vs,H1,I1,r1,q1⟩=>?_) hs rfl))
 obtain⟨v,e,q⟩:=q1
 subst e
 obtain⟨u,rfl,ru⟩:=M9 r1
 rcases q with⟨l,xs,rfl,hq,q⟩|q
 ·cases ru
  obtain⟨its,rv,pl,hz⟩:=I1.list hq
  refine call_enumerate_list pl.isList fun h' he hit hsz hk=>?_
  have I2:Inv X pins σ H1 {s1 with heap:=h'}:=I1.kept (t':=s1.toks) hk
  refine wpAny_pyIter_enum (s:={s1 with heap:=h'}) he ?_
  refine⟨s1.heap.objs.size+1,[s1.heap.objs.size+1,s1.heap.objs.size],_,_,H1,rfl,I2,mv (l:=l) (Nat.succ_ne_self _),⟨_,he,hit⟩,fun b hb=>?_,id,cF,q⟩
  have hb':b=s1.heap.objs.size+1∨b=s1.heap.objs.size:=by simpa using hb
  rcases hb' with rfl|rfl
  ·exact I1.fpOk (Nat.le_succ _) (I1.hok.fresh (Nat.le_succ _))
  ·exact I1.fpOk (Nat.le_refl _) (I1.hok.fresh (Nat.le_refl _))
 ·obtain⟨d,kvs,o,vs,ep,th,H',rfl,hd,ho,D,I2,hth,q⟩:=rIterD.go I1 ru q
  refine jh (knd:=j2 X.prog X.w) hd (D.at_ _ ho) fun h' he hit hsz hk=>?_
  have I3:Inv X pins σ H' {s1 with heap:=h'}:=I2.kept (t':=s1.toks) hk
  refine wpAny_pyIter_enum (s:={s1 with heap:=h'}) he ?_
  refine⟨s1.heap.objs.size+1,[s1.heap.objs.size+1,s1.heap.objs.size],_,_,H',rfl,I3,iY D (Nat.succ_ne_self _),⟨_,he,hit⟩,fun b hb=>?_,th,hth,q⟩
  have hb':b=s1.heap.objs.size+1∨b=s1.heap.objs.size:=by simpa using hb
  rcases hb' with rfl|rfl
  ·exact I2.fpOk (Nat.le_succ _) (I2.hok.fresh (Nat.le_succ _))
  ·exact I2.fpOk (Nat.le_refl _) (I2.hok.fresh (Nat.le_refl _))
theorem gw (K:PySem.W.Frag){elts:List Expr}{x1}{tpos:Pos}(hm:X.mg "enumerate"=none)(ha:QA X [a] t)(hg:Gl X "enumerate":=by rfl)(h:q5 a=true:=by rfl)(hK:X.K=K:=by rfl):QI X (.Tuple elts x1 tpos) (.Call (.Name "enumerate" p) [a] [] pos) (ju K t):=
 ⟨hK▸mT hg hm ha.r (V3 h)⟩
end
section
variable {K:PySem.W.Frag} {σ:St} {H:Hp} {ta:TA} {R:It→(Hp→Hp)→Hp→Prop}
theorem qf (q:ta σ H fun vs H1=>∃v,vs=[v]∧((∃l xs,v= .ref l∧SqL K H1 l xs∧R (wO K l) id H1)∨rIterD uk v H1 R)):ju K ta σ H R:=q
end
end L2
set_option Elab.async false
set_option linter.all false
set_option maxRecDepth 100000
set_option maxHeartbeats 4000000
namespace L2
open PySem PySem.Spec PyProof.Rows
open Sem (wp)
theorem eY:typeLookup (.type "list") "keys"=pure none:=by rw[typeLookup_type,builtinLookup_eq_fast];kernel_rfl
section
variable {prog:Program} {w:World} {A:Around} {E:Value→Shared→Prop} {s:Shared}
theorem kW {a:Addr}{o:Obj}{xs:Array Value}{k:Nat}{Q:Option Value→Shared→Prop}
  (hx:s.heap.get? a=some o) (hc:o.cls= .type "list") (hdat:o.data= .seq xs k) (hd:o.dict=none) (hA:A.handled=none)
  (h:∀h' tk,(∀b ob,s.heap.get? b=some ob→h'.get? b=some ob)→Q none {s with heap:=h',toks:=tk}):
  wpAny (model prog w) A (getAttr? (.ref a) "keys") Q E s:=by
 obtain⟨c,dct,dat,sl⟩:=o
 simp only at hc hdat hd
 subst hc hdat hd
 obtain⟨hp,g,d,tk,os⟩:=s
 have hT:∀tk',(⟨hp,g,d,tk',os⟩:Shared).TypeIs (.ref a) "list":=fun _=>⟨_,hx,rfl⟩
 have f1:=sub_AttributeError
 have f3:=F.slot_list_getattribute.lookup
 have f4:=F.slot_list_getattribute.bind (.ref a)
 have f5:=am_list_getattr_none
 unfold getAttr? getAttrBy? getAttrBy
 repeat(any_goals (first|assumption|exact hT _|((with_reducible show wpAny _ _ (call (Value.builtin "list.__getattribute__") _ _) _ _ _);refine call_meets F.slot_list_getattribute (hT _) am_entry_list_getattribute (F.args_list_getattribute_2 _ _) (meets_getattribute_miss_list a xs k sl "keys" _ eY (by decide+kernel) (by decide+kernel)) ⟨hx,hA,fun h' tk' e hx'=>?_⟩)|wp_step))
 obtain⟨t',u',he⟩:=hx'.there
 show wpAny _ _ (getattributeRaised _ _ _ _ _ _ _) _ _ _
 unfold getattributeRaised
 repeat(any_goals (first|assumption|wp_step))
 exact h _ _ hx'.keeps
end
theorem Y4:entryFor table "dict.update.loop"=some Builtin.«dict.update.loop»:=entryFor_of_tree (by kernel_rfl)
theorem K3:plainId "dict.update.loop"=true:=by decide+kernel
section
variable {prog:Program} {w:World} {KT:Type} [DecidableEq KT] {knd:KeyKind prog w KT} {A:Around} {E:Value→Shared→Prop}
def PairAt (knd:KeyKind prog w KT)(h:Heap)(d it:Addr)(u:Value)(kv:KT×Value):Prop:=∃t key,u= .ref t∧h.IsTuple t #[key,kv.2]∧knd.is kv.1 key=true∧t≠d∧t≠it
theorem PairAt.keep {h h':Heap}{d it:Addr}{u:Value}{kv:KT×Value}(p:PairAt knd h d it u kv)(k:∀b o,b≠d→b≠it→h.get? b=some o→h'.get? b=some o):PairAt knd h' d it u kv:=by
 obtain⟨t,key,e,⟨o,ho,r⟩,hk,h1,h2⟩:=p
 exact⟨t,key,e,⟨o,k t o h1 h2 ho,r⟩,hk,h1,h2⟩
theorem eN {d it l:Addr}{items:List Value}{res:Value}(hh:A.handled=none)(hdi:d≠it)(hli:l≠it)(hld:l≠d):
  ∀(more:List (KT×Value)) (i:Nat) (s:Shared) (kvs:List (KT×Value)) (R:Result→Shared→Prop),
   s.heap.IsListIter it l i→s.heap.IsList l items.toArray→Paired (PairAt knd s.heap d it) (items.drop i) more→s.heap.DictOf knd d kvs→kvs.length+more.length≤sizeLine→
   (∀h' tk,(∀b o,b≠d→b≠it→s.heap.get? b=some o→h'.get? b=some o)→h'.DictOf knd d (more.foldl (fun a x=>stored a x.1 x.2) kvs)→R (.ok (.ret res)) {s with heap:=h',toks:=tk})→
   codeAny (model prog w) A (.builtin "dict.update.loop" ⟨[.ref d,.ref it,rawInt (i:Int),res],[]⟩) R s
 |[],i,s,kvs,R,hit,hl,hp,hd,hz,hR=>by
  have hx:items.toArray[i]?=none:=by
   have hn:items.drop i=[]:=by cases hp':items.drop i with
    |nil=>rfl
    |cons x r=>rw[hp'] at hp;cases hp
   have:=List.drop_eq_nil_iff.mp hn
   simp;omega
  refine codeAny_builtin Y4 ?_
  rw[Around.under_plainId K3 _]
  show wpAny _ A.in1 (pyNext (.ref it)>>=_) _ _ s
  refine wpAny_bind (wpAny_pyNext_list_end (A:=A.in1) hh hit hl hx fun h' eb=>?_)
  show wpAny _ A.in1 (Builtin.Dict.addKeywords d []>>=_) _ _ _
  refine wpAny_bind (wpAny_pure (wpAny_pure ?_))
  exact hR h' s.toks (fun b o h1 h2 e=>eb b o h2 e) (hd.extBut eb hdi)
 |kv::more,i,s,kvs,R,hit,hl,hp,hd,hz,hR=>by
  obtain⟨x,hx,hp0,hp1⟩:∃x,items.toArray[i]?=some x∧PairAt knd s.heap d it x kv∧Paired (PairAt knd s.heap d it) (items.drop (i+1)) more:=by
   cases hp':items.drop i with
   |nil=>rw[hp'] at hp;cases hp
   |cons x r=>
    rw[hp'] at hp
    cases hp with
    |cons h1 h2=>
     refine⟨x,?_,h1,?_⟩
     ·have z:=congrArg List.head? hp'
      simpa using z
     ·have z:=congrArg List.tail hp'
      rw[List.tail_drop] at z
      rw[z];exact h2
  obtain⟨t,key,rfl,⟨ot,hot,hct,nt,hdt⟩,hkey,h1,h2⟩:=hp0
  refine codeAny_builtin Y4 ?_
  rw[Around.under_plainId K3 _]
  show wpAny _ A.in1 (pyNext (.ref it)>>=_) _ _ s
  refine wpAny_bind (wpAny_pyNext_list_item hit hl hx fun h' hit' hs'=>?_)
  have hot':h'.get? t=some ot:=hs'.extBut _ _ h2 hot
  refine wpAny_bind (wpAny_holding (wpAny_bind (wpAny_tryCatch ?_)))
  unfold Builtin.Dict.pairItems
  refine wpAny_bind (wpAny_typeOf (s:={s with heap:=h'}) ⟨_,hot',hct⟩ ?_)
  rw[if_pos (by decide)]
  refine wpAny_bind (wpAny_seqItems (s:={s with heap:=h'}) hot' hdt ?_)
  refine wpAny_pure ?_
  show wpAny _ A.in1 (holding [key,kv.2] (dictSet d key kv.2)) _ _ _
  refine wpAny_holding (wpAny_dictSet_pairs (s:={s with heap:=h'}) (kvs:=kvs) hkey (hd.extBut hs'.extBut hdi) (fun h'' dd hs''=>?_) (by simp only[List.length_cons] at hz;omega))
  have kp:∀b o,b≠d→b≠it→s.heap.get? b=some o→h''.get? b=some o:=fun b o hb1 hb2 e=>hs''.extBut b o hb1 (hs'.extBut b o hb2 e)
  refine wpAny_pure ⟨plainId_quiet K3 _,?_⟩
  refine eN hh hdi hli hld more (i+1) _ (stored kvs kv.1 kv.2) R ?_ ?_ (Paired.imp' (fun _ _ z=>z.keep kp) hp1) dd ?_ (fun h3 tk k3 d3=>hR h3 tk (fun b o e1 e2 e=>k3 b o e1 e2 (kp b o e1 e2 e)) d3)
  ·exact hit'.at fun o e=>hs''.extBut it o (Ne.symm hdi) e
  ·obtain⟨ol,hol,r⟩:=hl
   exact⟨ol,kp l ol hld hli hol,r⟩
  ·have z:=stored_length_le kvs kv.1 kv.2
   simp only[List.length_cons] at hz
   omega
theorem cq {l:Addr}{items:List Value}{o:Obj}{n:Nat}{more:List (KT×Value)}{s:Shared}{Q:Value→Shared→Prop}(hh:A.handled=none)(ho:s.heap.get? l=some o)(hc:o.cls= .type "list")(hdat:o.data= .seq items.toArray n)(hdn:o.dict=none)(hz:more.length≤sizeLine)
  (hp:Paired (fun u kv=>∃t key,u= .ref t∧s.heap.IsTuple t #[key,kv.2]∧knd.is kv.1 key=true) items more)
  (h:∀h' tk,h'.DictOf knd s.heap.objs.size (more.foldl (fun a x=>stored a x.1 x.2) [])→(∀b o,s.heap.get? b=some o→h'.get? b=some o)→Q (.ref s.heap.objs.size) {s with heap:=h',toks:=tk}):
  wpAny (model prog w) A (call (.type "dict") [.ref l]) Q E s:=by
 refine callType_codes (Q₁:=fun obj s₁=>obj= .ref s.heap.objs.size∧s₁={s with heap:=s.heap.push {cls:= .type "dict",data:= .dict #[]}}) F.kt_called_dict (F.kt_typeCall_dict_1 _) F.entry_dict_init (kt_code_dict_new _ ⟨rfl,rfl⟩) ?_
 rintro obj s₁ ⟨rfl,rfl⟩
 have hnew:(s.heap.push {cls:= .type "dict",data:= .dict #[]}).DictOf knd s.heap.objs.size []:=Heap.DictOf.new s.heap
 have hl0:l≠s.heap.objs.size:=Nat.ne_of_lt (Heap.lt_size ho)
 refine⟨hnew.typeIs,F.args_dict_init_2 _ _,?_⟩
 unfold Builtin.«dict.__init__»
 refine wpAny_bind ?_
 unfold Builtin.Dict.selfAndRest
 refine wpAny_bind (wpAny_notOrdered_dict hnew.typeIs ?_)
 show wpAny _ _ (pure (s.heap.objs.size,[Value.ref l])) _ _ _
 refine wpAny_pure ?_
 show wpAny _ _ (Builtin.Dict.updateFrom "dict.__init__" s.heap.objs.size (.ref l) [] .none) _ _ _
 unfold Builtin.Dict.updateFrom
 have ho1:(s.heap.push {cls:= .type "dict",data:= .dict #[]}).get? l=some o:=Heap.get?_push_of_some _ ho
 refine wpAny_bind (wpAny_typeOf (s:={s with heap:=s.heap.push {cls:= .type "dict",data:= .dict #[]}}) ⟨_,ho1,hc⟩ ?_)
 rw[if_pos (by decide)]
 refine wpAny_bind (kW (s:={s with heap:=s.heap.push {cls:= .type "dict",data:= .dict #[]}}) ho1 hc hdat hdn hh fun h2 tk2 k2=>?_)
 rw[if_pos (show((none:Option Value).isNone)=true from rfl)]
 have ho2:h2.get? l=some o:=k2 l o ho1
 have hd2:h2.DictOf knd s.heap.objs.size []:=let ⟨od,es,ep,e,r⟩:=hnew;⟨od,es,ep,k2 _ _ e,r⟩
 have hlt:s.heap.objs.size<h2.objs.size:=by obtain⟨od,es,ep,e,r⟩:=hd2;exact Heap.lt_size e
 have up:∀b ob,s.heap.get? b=some ob→(h2.push {cls:= .type "list_iterator",data:= .fields #[.ref l,.int 0 0]}).get? b=some ob:=fun b ob e=>Heap.get?_push_of_some _ (k2 b ob (Heap.get?_push_of_some _ e))
 refine wpAny_bind (wpAny_rule (wpAny_bind (wpAny_pyIter_list (l:=l) (items:=items.toArray) ⟨o,ho2,hc,n,hdat⟩ ?_)))
 refine wpAny_pure ⟨plainId_quiet K3 _,?_⟩
 refine eN (knd:=knd) (l:=l) (items:=items) (A:=A.in1) hh (Nat.ne_of_lt hlt) (Nat.ne_of_lt (Heap.lt_size ho2)) hl0 more 0 _ [] _ ⟨_,Heap.get?_push_size _ rfl,rfl,rfl⟩ ⟨o,Heap.get?_push_of_some _ ho2,hc,n,hdat⟩ ?_ (hd2.push _) (by simpa using hz) fun h3 tk k3 d3=>⟨rfl,h h3 tk d3 fun b ob e=>k3 b ob (Nat.ne_of_lt (Heap.lt_size e)) (Nat.ne_of_lt (Nat.lt_trans (Heap.lt_size e) hlt)) (up b ob e)⟩
 rw[List.drop_zero]
 refine Paired.imp' (fun u kv z=>?_) hp
 obtain⟨t,key,rfl,⟨ot,hot,r⟩,hk⟩:=z
 exact⟨t,key,rfl,⟨ot,up t ot hot,r⟩,hk,Nat.ne_of_lt (Heap.lt_size hot),Nat.ne_of_lt (Nat.lt_trans (Heap.lt_size hot) hlt)⟩
end
section
variable {X:Cx}
def PrV (K:PySem.W.Frag)(H:Hp)(x:V)(kv:g7×V):Prop:=∃t,x= .ref t∧SqT K H t [kV kv.1,kv.2]
def eJ (kvs:List (g7×V)):List (g7×V):=kvs.foldl (fun a x=>P8 a x.1 x.2) []
theorem KV.puts:∀{ps:List (g7×V)} {qs:List (g7×Value)} {a:List (g7×V)} {b:List (g7×Value)},KV ps qs→KV a b→KV (ps.foldl (fun a x=>P8 a x.1 x.2) a) (qs.foldl (fun a x=>stored a x.1 x.2) b)
 |_,_,_,_,.nil,h=>h
 |_::_,_::_,a,b,.cons r t,h=>by
  obtain⟨e,rv⟩:=r
  rw[List.foldl_cons,List.foldl_cons]
  refine KV.puts t ?_
  rw[←e]
  exact KV.put h _ rv
theorem cf:∀(ps:List (g7×V)) (a:List (g7×V)),(ps.foldl (fun a x=>P8 a x.1 x.2) a).length≤a.length+ps.length
 |[],a=>Nat.le_refl _
 |p::r,a=>by
  rw[List.foldl_cons,List.length_cons]
  have z:=cf r (P8 a p.1 p.2)
  have z2:=Z1 a p.1 p.2
  omega
theorem pe {pins:List (Addr×Obj)}{σ:L2.St}{H:Hp}{s:Shared}(I:Inv X pins σ H s):∀{xs:List V} {kvs:List (g7×V)} {us:List Value},Paired (PrV X.K H) xs kvs→Vals xs us→∃more:List (g7×Value),KV kvs more∧Paired (fun u kv=>∃t key,u=Value.ref t∧s.heap.IsTuple t #[key,kv.2]∧(j2 X.prog X.w).is kv.1 key=true) us more
 |_,_,_,.nil,.nil=>⟨[],.nil,.nil⟩
 |_::_,kv::_,_::_,.cons r t,.cons r' t'=>by
  obtain⟨tt,rfl,sq⟩:=r
  cases r'
  obtain⟨its,v1,t1,_⟩:=I.tuple sq
  obtain⟨key,v,rfl,rk,rv⟩:=cj v1
  obtain⟨more,h1,h2⟩:=pe I t t'
  exact⟨(kv.1,v)::more,.cons ⟨rfl,rv⟩ h1,.cons ⟨tt,key,rfl,t1,cM rk⟩ h2⟩
def nW (K:PySem.W.Frag):List V→Hp→VK→Prop:=fun xs H Q=>∃(p:Addr) (ys:List V) (kvs:List (g7×V)),xs=[.ref p]∧SqL K H p ys∧Paired (PrV K H) ys kvs∧kvs.length≤sizeLine∧∀l,H l=none→Q (.ref l) (n0 H l (.dK (eJ kvs)))
theorem ix (hc:X.calm=true):CallR X (.type "dict") (nW X.K):=by
 intro pins s σ H xs us Q I r h
 obtain⟨p,ys,kvs,rfl,hq,hp,hz,q⟩:=h
 obtain⟨u,rfl,ru⟩:=M9 r
 cases ru
 obtain⟨its,rv,pl,_⟩:=I.list hq
 obtain⟨more,kv,pr⟩:=pe I hp rv
 obtain⟨o,n,e,c,hd,dt⟩:=pl
 have hl:more.length=kvs.length:=(KV.length kv).symm
 refine cq (knd:=j2 X.prog X.w) (I.ok.hd hc) e c dt hd (by omega) pr fun h' tk dd k=>?_
 refine⟨.ref s.heap.objs.size,_,?_,rfl,q _ (I.hok.fresh (Nat.le_refl _))⟩
 refine I.laid (a:=s.heap.objs.size) (o:= .dK (eJ kvs)) (t':=tk) k (Nat.le_refl _) (jE ?_ (beq_eq_false_iff_ne.mpr (Ne.symm (Nat.ne_of_lt I.big))) (KV.puts kv .nil) dd)
 have z:=cf kvs []
 unfold eJ
 simp only[List.length_nil] at z
 omega
def iR (K:PySem.W.Frag):List V→Hp→VK→Prop:=fun xs H Q=>rQ xs H Q∨nW K xs H Q
theorem bV (K:PySem.W.Frag)(hc:X.calm=true)(h:X.K=K:=by rfl):CallR X (.type "dict") (iR K):=by
 subst h
 intro pins s σ H xs us Q I r h
 rcases h with h|h
 ·exact jl pins s σ H xs us Q I r h
 ·exact ix hc pins s σ H xs us Q I r h
end
section
variable {K:PySem.W.Frag} {H:Hp} {Q:VK}
theorem O1 {p:Addr}{kvs:List (g7×V)}(h:Rd H p (.dK kvs))(q:∀l,H l=none→Q (.ref l) (n0 H l (.dK kvs))):iR K [.ref p] H Q:= .inl ⟨p,kvs,rfl,h,q⟩
theorem aP {p:Addr}{xs:List V}{kvs:List (g7×V)}(h:SqL K H p xs)(hp:Paired (PrV K H) xs kvs)(hz:kvs.length≤sizeLine)(q:∀l,H l=none→Q (.ref l) (n0 H l (.dK (eJ kvs)))):iR K [.ref p] H Q:= .inr ⟨p,xs,kvs,rfl,h,hp,hz,q⟩
end
end L2
set_option Elab.async false
set_option linter.all false
set_option maxRecDepth 100000
set_option maxHeartbeats 4000000
namespace L2
open PySem PySem.Spec PyProof.Rows
section
variable {X:Cx}
end
end L2
set_option Elab.async false
set_option linter.all false
set_option maxRecDepth 100000
set_option maxHeartbeats 4000000
namespace L2
open PySem PySem.Spec PyProof.Rows
theorem ObjOk.there {P:Program}{w:World}{H:Hp}{h:Heap}{a:Addr}{o:HO}(x:ObjOk P w H h a o):∃u,h.get? a=some u:=by
 induction o with
 |lst xs=>obtain⟨_,_,_,_,e⟩:=x;exact⟨_,e⟩
 |tup xs=>obtain⟨_,_,_,o,e,_⟩:=x;exact⟨_,e⟩
 |dK kvs=>obtain⟨_,_,_,_,o,_,_,e,_⟩:=x;exact⟨_,e⟩
 |dT kvs=>obtain⟨_,_,_,_,o,_,_,e,_⟩:=x;exact⟨_,e⟩
 |set S n=>obtain⟨o,_,_,_,e,_⟩:=x;exact⟨_,e⟩
 |ins C dx fs=>obtain⟨_,_,_,e,_⟩:=x;exact⟨_,e⟩
 |own y=>exact x
 |xd fs=>obtain⟨_,⟨_,_,_,e,_⟩,_⟩:=x;exact⟨_,e⟩
 |rng lo hi=>obtain⟨_,_,_,e⟩:=x;exact⟨_,e⟩
 |frz ob u=>obtain⟨e,_⟩:=x;exact⟨_,e⟩
 |tbl ps=>exact⟨_,show h.get? a=some _ from x⟩
 |met f y=>exact⟨_,show h.get? a=some _ from x⟩
 |ext φ=>obtain⟨_,e,_⟩:=x;exact e
structure yX (P:Program) (w:World) (outer:List Env) (H:Hp) (s:Shared) (a C:Addr) (a0:Value) (B:Heap) (H':Hp) (s':Shared):Prop where
 fl:Heap.FlyingW B outer a (.ref C) a0 s'.heap
 os:s'.os=s.os
 bare:AllBare s'.gens
 un:Un (aC outer) [] H H' s.heap s'.heap
 hok:HOk P w H' s'.heap
 kp:∀b o,s.heap.get? b=some o→H b=none→b∉aC outer→B.get? b=some o
 th:∀b o,s.heap.get? b=some o→b∉aC outer→∃o',B.get? b=some o'
 tr:∀b o,H' b=some o→∃u,B.get? b=some u
 nw:H' a=none
def gc (P:Program)(w:World):gd:=fun outer H s E e s'=>∃(a C:Addr) (a0:Value) (B:Heap) (H':Hp),e= .ref a∧yX P w outer H s a C a0 B H' s'∧E (.ref C) (some a) H'
theorem uq {P:Program}{w:World}{H:Hp}{B h h':Heap}(ok:HOk P w H h)(tr:∀b o,H b=some o→∃u,B.get? b=some u)(k1:B.StaysIn h)(k2:B.StaysIn h'):HOk P w H h':=fun a o e=>
 (ok a o e).stay (fun b u hb q=>by
  have hH:∃o',H b=some o':=by
   rcases hb with rfl|hb
   ·exact⟨_,e⟩
   ·exact⟨_,hb⟩
  obtain⟨o',ho'⟩:=hH
  obtain⟨u',hu'⟩:=tr b o' ho'
  have z:=k1 b u' hu'
  rw[q] at z
  cases z
  exact k2 b _ hu') (fun _ z=>z) fun _ _ z=>z
section
variable {X:Cx} {pins:List (Addr×Obj)} {σ:St} {H:Hp} {s s':Shared}
theorem cc {base h:Heap}{l:List Env}(F:h.FunFrames base l){b:Addr}{o:Obj}(hb:b∈aC l)(e:h.get? b=some o):∀vs,o.data≠ .fields vs:=by
 obtain⟨_,o',h1,h2⟩:=F.mem hb
 rw[e] at h1;cases h1;exact h2
end
section
variable {P:Program} {w:World} {K:PySem.W.Frag} {mg:Str→Option Value} {base:Heap} {N:List Str} {qual:Str} {scope:Scope} {f:Addr} {cd:Value} {A:Around} {outer:List Env} {s0:Shared} {H0:Hp} {E:XK}
theorem jQ {b:Addr}(hb:b∈aC outer):b∈aC (envOfC qual scope s0.heap.objs.size f cd::outer):=by
 unfold aC at*
 rw[List.filterMap_cons]
 split
 ·exact hb
 ·exact List.mem_cons_of_mem _ hb
theorem ku {b:Addr}{o:Obj}(e:s0.heap.get? b=some o)(hb:b∉aC outer):b∉aC (envOfC qual scope s0.heap.objs.size f cd::outer):=fun z=>by
 unfold aC at z hb
 rw[List.filterMap_cons] at z
 have hl:=Heap.lt_size e
 rcases List.mem_cons.mp z with z|z
 ·rw[z] at hl;exact absurd hl (Nat.lt_irrefl _)
 ·exact hb z
theorem fZ {pins:List (Addr×Obj)}{σ:St}{H:Hp}{s:Shared}{h1:Heap}{e C:Addr}{vs:List Value}(I:Inv (ee (gc P w) P w K mg base N qual scope f cd A outer s0 H0 E) pins σ H s)
  (hx:Heap.MadeExcOf s.heap h1 e (.ref C) vs) (q:E (.ref C) (some e) H):(ee (gc P w) P w K mg base N qual scope f cd A outer s0 H0 E).xe (.ref e) {s with heap:=h1}:=by
 have hst:∀env∈(envOfC qual scope s0.heap.objs.size f cd::outer),∀b,env.frame=some b→b∈aC (envOfC qual scope s0.heap.objs.size f cd::outer):=fun env he b hb=>List.mem_filterMap.mpr ⟨env,he,hb⟩
 have fr:s.heap.FunFrames base (envOfC qual scope s0.heap.objs.size f cd::outer):=I.stack
 have tr:∀b o,H b=some o→∃u,(PySem.W.hideAll s.heap (aC (envOfC qual scope s0.heap.objs.size f cd::outer))).get? b=some u:=fun b o z=>by
  obtain⟨u,hu⟩:=(I.hok b o z).there
  refine⟨u,PySem.W.hideAll_get _ hu fun hb=>?_⟩
  have:=I.stkFree b hb
  rw[z] at this;cases this
 have nw:H e=none:=by
  cases z:H e with
  |none=>rfl
  |some o=>
   obtain⟨u,hu⟩:=(I.hok e o z).there
   rw[hx.new] at hu;cases hu
 have hb0:Un (aC outer) [] H0 H s0.heap s.heap:=I.base
 refine wpAny_leaves_madeW (base:=PySem.W.hideAll s.heap (aC (envOfC qual scope s0.heap.objs.size f cd::outer))) I.ok.frames rfl (fun b o z=>PySem.W.of_hideAll _ z) (PySem.W.funFrames_hide fr hst) hx fun h' t x1 x2 x3 x4=>?_
 have kp:∀b o,s0.heap.get? b=some o→H0 b=none→b∉aC outer→(PySem.W.hideAll s.heap (aC (envOfC qual scope s0.heap.objs.size f cd::outer))).get? b=some o:=fun b o z n hb=>
  PySem.W.hideAll_get _ (hb0.keep b o z n hb (by simp)) (ku z hb)
 have th:∀b o,s0.heap.get? b=some o→b∉aC outer→∃o',(PySem.W.hideAll s.heap (aC (envOfC qual scope s0.heap.objs.size f cd::outer))).get? b=some o':=fun b o z hb=>by
  obtain⟨o',z'⟩:=hb0.there b o z (by simp)
  exact⟨o',PySem.W.hideAll_get _ z' (ku z hb)⟩
 have hk:=x1.1
 refine⟨e,C,_,_,H,rfl,⟨x1,I.os,I.bare,⟨fun b o z n hb _=>hk b o (kp b o z n hb),fun b o z n hb _=>?_,fun b o z n _=>hb0.free b o z n (by simp),fun b o z _=>?_,hb0.tups,hb0.frzs,hb0.tbls⟩,?_,kp,th,tr,nw⟩,q⟩
 ·obtain⟨s1,e1⟩:=hb0.slot b o z n hb (by simp)
  have nf:=cc fr (jQ hb) e1
  obtain⟨s2,e2⟩:=x4 b _ (hx.keeps _ _ e1) nf
  exact⟨s2,e2⟩
 ·by_cases hb:b∈aC outer
  ·obtain⟨o',e1⟩:=hb0.there b o z (by simp)
   obtain⟨s2,e2⟩:=x4 b _ (hx.keeps _ _ e1) (cc fr (jQ hb) e1)
   exact⟨_,e2⟩
  ·obtain⟨o',e1⟩:=th b o z hb
   exact⟨o',hk b o' e1⟩
 ·exact uq I.hok tr (fun b o z=>PySem.W.of_hideAll _ z) hk
end
def yw:List Value:=[.type "ValueError",.type "Exception",.type "BaseException",.type "object"]
structure ExC (K:PySem.W.Frag) (mg:Str→Option Value) (x:Str) (C:Addr):Prop where
 bound:mg x=some (.ref C)
 exc:PySem.W.excIn K C yw "ValueError.__new__"=true
theorem ExC.own {K:PySem.W.Frag}{mg:Str→Option Value}{x:Str}{C:Addr}{h:Heap}(O:ExC K mg x C)(X:K.In h):OwnCls x C yw "ValueError.__new__" mg h:=by
 have q:=O.exc
 refine⟨O.bound,?_⟩
 unfold PySem.W.excIn at q
 split at q
 ·rename_i g1 g2 g3 lk
  split at q
  ·rename_i c2 l2 i0 i1 i2 i3 nn i5 em es
   simp only[Bool.and_eq_true,beq_iff_eq,Bool.not_eq_true'] at q
   obtain⟨⟨⟨⟨⟨ea,eb⟩,q1⟩,q2⟩,q3⟩,q4⟩:=q
   subst ea
   subst eb
   obtain⟨y1,y2,y3,y4,y5,y6,y7,y8,y9,y10,y11⟩:=g2
   dsimp only at em q1 q3 q4
   subst em q1
   have e3:g3= #[i0,i1,i2,i3,some (.builtin "ValueError.__new__"),i5]:=by
    cases g3 with
    |mk l=>
     have es':l=[i0,i1,i2,i3,some (.builtin "ValueError.__new__"),i5]:=es
     rw[es']
   subst e3
   exact⟨l2,y4,y1,y5,y2,y6,y7,y8,y9,y10,g1,i0,i1,i2,i3,i5,h.nsMap y4,X _ _ lk,Heap.Ns.of_isNs (PySem.W.isNs_of_in X q3),PySem.W.nsMap_none_of_in X q3 q4,PySem.W.tail_of_in X q2⟩
  ·cases q
 ·cases q
def jd (X:Cx)(E:XK):Prop:=∀(pins:List (Addr×Obj)) (σ:St) (H:Hp) (s:Shared) (h1:Heap) (e C:Addr) (vs:List Value),Inv X pins σ H s→Heap.MadeExcOf s.heap h1 e (.ref C) vs→E (.ref C) (some e) H→X.xe (.ref e) {s with heap:=h1}
theorem Q2 {P:Program}{w:World}{K:PySem.W.Frag}{mg:Str→Option Value}{base:Heap}{N:List Str}{qual:Str}{scope:Scope}{f:Addr}{cd:Value}{A:Around}{outer:List Env}{s0:Shared}{H0:Hp}{E:XK}:
  jd (ee (gc P w) P w K mg base N qual scope f cd A outer s0 H0 E) E:=fun _ _ _ _ _ _ _ _ I hx q=>fZ I hx q
def iy (C:Addr)(E:XK)(ta:TA):TS:=fun _ σ H=>ta σ H fun vs H1=>vs.length≤sizeLine∧∀e,H1 e=none→E (.ref C) (some e) H1
section
variable {X:Cx} {E:XK} {x:Str} {C:Addr} {np cpos pos:Pos} {e:Expr} {es:List Expr} {ta:TA}
theorem mW (R:jd X E)(O:ExC X.K X.mg x C)(hc:X.calm=true)(ha:PA X (e::es) ta)(hg:Gl X x:=by rfl)(hdb:(x==("__debug__":Str))=false:=by decide)(h:p8 (e::es)=true:=by rfl):
  PS X (.Raise (some (.Call (.Name x np) (e::es) [] cpos)) none pos) (iy C E ta):=by
 intro pins s σ H D I hw
 have h':(q5 e&&p8 es)=true:=h
 rw[Bool.and_eq_true] at h'
 have h1:starEach (e::es) X.env=(false,eval e X.env)::starEach es X.env:=V3 h'.1
 have h2:(backTo cpos (starEach es X.env)).any (·.1)=false:=aT h'.2
 obtain⟨tl,y0,y1,y2,y3,y4,y5,y6,y7,y8,y9,u0,u1,u2,u3,u5,mN,hC,hN,hni,T⟩:=(O.own I.ok.mod.kin).obj
 refine wpAny_Raise_call_subT (k5:=u5) (k3:=u3) (k2:=u2) (k1:=u1) (k0:=u0) (dd:=y9) (col:=y8) (ab:=y7) (sub:=y6) (sn:=y5) (hdct:=y4) (bs:=y3) (q:=y2) (nm:=y1) (N:=y0) (C:=C) (bm:=tl) (mN:=mN) PySem.F.excBase_ValueError (T.hasType (by decide)) (I.ok.hd hc) ?_ hni (fW I hg O.bound ⟨rfl,?_⟩ hdb)
 ·rw[h1]
  show(false||(backTo cpos (starEach es X.env)).any (·.1))=false
  rw[h2];rfl
 ·have hw':=ha cpos pins s σ H _ I hw
  rw[h1] at hw'⊢
  refine Calls.evalArgs_plain (G3 hw' fun us s1 ⟨vs,H1,I1,r,q1,q2⟩=>?_)
  refine⟨rfl,by rw[←r.length];exact q1,I1.bk _ _ hC,hN.keeps I1.bk,T.keeps I1.bk,fun h2 e2 hm=>?_⟩
  have nw:H1 e2=none:=by
   cases z:H1 e2 with
   |none=>rfl
   |some o=>
    obtain⟨u,hu⟩:=(I1.hok e2 o z).there
    rw[hm.new] at hu;cases hu
  exact R pins σ H1 s1 h2 e2 C us I1 hm (q2 e2 nw)
theorem Z2 (R:jd X E)(O:ExC X.K X.mg x C)(hc:X.calm=true)(ha:QA X (e::es) ta)(hg:Gl X x:=by rfl)(hdb:(x==("__debug__":Str))=false:=by decide)(h:p8 (e::es)=true:=by rfl):
  QS X (.Raise (some (.Call (.Name x np) (e::es) [] cpos)) none pos) (iy C E ta):=⟨mW R O hc ha.r hg hdb h⟩
def zg (te:TE)(c:Str):TE:=fun σ H Q=>te σ H fun v H1=>∃y:Str,v= .str y∧y.length+c.length≤1000∧∀z:Str,Q (.str z) H1
end
theorem Fun.okE {P:Program}{w:World}{K:PySem.W.Frag}{mg:Str→Option Value}{base:Heap}{x qual:Str}{st:Stmt}{f:Addr}{fd:FuncData}{N ps:List Str}{k:Nat}{sp:Sp}(F:Fun K x qual st f fd)(S:i9 N ps (b0 st))(len:∀vs H Q E,sp vs H Q E→vs.length=ps.length)
  (hbody:∀(cdv:Value) (A:Around) (outer:List Env) (s:Shared) (H:Hp) (vs:List V) (Q:VK) (E:XK),Room k (A.deeper (envOfC qual (b0 st) s.heap.objs.size f cdv))→sp vs H Q E→
   ∃t,PSs (ee (gc P w) P w K mg base N qual (b0 st) f cdv A outer s H E) (i4 st) t∧t {nx:=fun _ H'=>Q .non H',rt:=Q} (bB N vs) H):FnOk P w K mg base (gc P w) (k+1) f fd ps sp:=by
 obtain⟨oc,od,kV,doc,pm,an,cdv,ct,osl,rfl,lk,hcd⟩:=F.ex
 exact rR lk hcd S len fun A outer s H vs Q E hr hsp=>hbody cdv A outer s H vs Q E hr hsp
end L2
set_option Elab.async false
set_option linter.all false
set_option maxRecDepth 100000
set_option maxHeartbeats 4000000
namespace L2
open PySem PySem.Spec PyProof.Rows
abbrev Cx.pinned (X:Cx)(pins:List (Addr×Obj)):Cx:={X with pn:=X.pn++pins}
abbrev Cx.suite (X:Cx)(e:Addr):Cx:={X with A:=X.A.mark (some (.ref e)),calm:=false,xe:=fun _ _=>False}
section
variable {X:Cx} {pins pins':List (Addr×Obj)} {Es:St→XK} {σ:St} {H:Hp} {s:Shared} {e:Addr}
def ez (a C:Addr)(h:Heap):Prop:=∃o vs,h.get? a=some o∧o.cls= .ref C∧o.data= .fields vs
theorem nG {P:Program}{w:World}{H:Hp}{h:Heap}{a C:Addr}(x:ez a C h):ObjOk P w H h a (.ext (ez a C)):=by
 obtain⟨o,vs,e,c,d⟩:=x
 refine⟨⟨o,vs,e,c,d⟩,⟨o,e⟩,fun h1 h2 ⟨o',vs',e',c',d'⟩ k=>⟨o',vs',k _ e',c',d'⟩⟩
theorem Inv.track {a C:Addr}(I:Inv X pins σ H s)(hn:H a=none)(x:ez a C s.heap)(h0:X.s₀.heap.get? a=none)(hp:∀p∈X.pn++pins,p.1≠a):Inv X pins σ (n0 H a (.ext (ez a C))) s:=by
 obtain⟨o,vs,e,c,d⟩:=id x
 have ne0:∀b ob,X.s₀.heap.get? b=some ob→b≠a:=fun b ob z q=>by rw[q,h0] at z;cases z
 refine⟨I.ok,I.os,I.bare,⟨I.base.keep,I.base.slot,fun b ob z n hx=>?_,I.base.there,fun b xs z=>?_,fun b ob u z=>?_,fun b ps z=>?_⟩,I.loc,I.cell,?_,fun y c' z=>?_,fun p hq=>?_,fun b u z=>?_,I.len⟩
 ·rw[b9 (ne0 b ob z)];exact I.base.free b ob z n hx
 ·have z':=I.base.tups b xs z
  rw[b9 fun q=>by rw[q,hn] at z';cases z'];exact z'
 ·have z':=I.base.frzs b ob u z
  rw[b9 fun q=>by rw[q,hn] at z';cases z'];exact z'
 ·obtain⟨more,z'⟩:=I.base.tbls b ps z
  exact⟨more,by rw[b9 fun q=>by rw[q,hn] at z';cases z'];exact z'⟩
 ·obtain⟨m,⟨oL,es,ep,hL,dL,_⟩,_⟩:=I.loc
  rw[b9 fun q=>?_]
  ·exact I.free
  ·rw[q,e] at hL;cases hL;rw[d] at dL;cases dL
 ·obtain⟨v,oc,hoc,hod⟩:=I.cell y c' z
  rw[b9 fun q=>?_]
  ·exact I.freeC y c' z
  ·rw[q,e] at hoc;cases hoc;rw[d] at hod;cases hod
 ·obtain⟨p1,p2,p3,p4,p5⟩:=I.pin p hq
  exact⟨p1,by rw[b9 (hp p hq)];exact p2,p3,p4,p5⟩
 ·by_cases q:b=a
  ·subst q
   rw[d9] at z;cases z
   exact nG x
  ·rw[b9 q] at z
   refine(I.hok b u z).stay (fun _ _ _ q=>q) (fun b' q'=>?_) fun b' xs q'=>?_
   ·rw[b9 fun k=>by rw[k,hn] at q';cases q'];exact q'
   ·rw[b9 fun k=>by rw[k,hn] at q';cases q'];exact q'
end
def vj (sp:Sp)(dvs:List V)(Es:St→XK)(t:TA):TE:=fun σ H Q=>t σ H fun vs H1=>sp (vs++dvs) H1 Q (Es σ)
section
variable {X:Cx} {pins:List (Addr×Obj)} {Es:St→XK} {k:Nat} {ps:List Str} {dvs:List V} {sp:Sp} {x:Str} {p pos:Pos} {e:Expr} {es:List Expr} {t:TA}
end
structure zm (K:PySem.W.Frag) (mg:Str→Option Value) (x:Str) (T:Addr):Prop where
 bound:mg x=some (.ref T)
 ty:PySem.W.typeIn K (.ref T)=some (.type "type")
 exc:PySem.W.subIn K (.ref T) (.type "BaseException")=some true
 cls:(PySem.W.clsIn K T).isSome=true
def yp (K:PySem.W.Frag)(T:Addr)(i:Nat)(tb:(St→XK)→TS)(ts:TS):TS:=fun D σ H=>
 tb (fun σ' c oa H'=>∃C a,c= .ref C∧oa=some a∧PySem.W.subIn K (.ref C) (.ref T)=some true∧
  ts {nx:=fun σ2 H2=>D.nx (σ2.set i none) H2,rt:=D.rt,bk:=fun σ2 H2=>D.bk (σ2.set i none) H2,ct:=fun σ2 H2=>D.ct (σ2.set i none) H2} (σ'.set i (some (.ref a))) (n0 H' a (.ext (ez a C)))) D σ H
section
variable {X:Cx} {x n:Str} {T:Addr} {np hpos pos:Pos} {i:Nat} {b₀:Stmt} {body suite:List Stmt} {tb:(St→XK)→TS} {ts:TS}
end
end L2
set_option Elab.async false
set_option linter.all false
set_option maxRecDepth 100000
set_option maxHeartbeats 4000000
namespace L2
open PySem PySem.Spec PyProof.Rows PySem.W
section
variable {X:Cx}
end
def cA (K:Frag)(x:Str):Addr:=match nsIn K mainGlobals x with
 |some (some (.ref C))=>C
 |_=>0
theorem ia {P:Program}{w:World}{X:Cx}:aM (gc P w) X E0:=fun _ _ _ _ _ _ _ ⟨_,_,_,_,_,_,_,z⟩=>z.elim
section
variable {K:Frag} {σ:St} {H:Hp} {Q:VK} {D:iA}
theorem qk {C:Addr}{E:XK}{ta:TA}(q:ta σ H fun vs H1=>vs.length≤sizeLine∧∀e,H1 e=none→E (.ref C) (some e) H1):iy C E ta D σ H:=q
theorem xN {te:TE}{c:Str}(q:te σ H fun v H1=>∃y:Str,v= .str y∧y.length+c.length≤1000∧∀z:Str,Q (.str z) H1):zg te c σ H Q:=q
theorem xq {T:Addr}{i:Nat}{tb:(St→XK)→TS}{ts:TS}(q:tb (fun σ' c oa H'=>∃C a,c= .ref C∧oa=some a∧PySem.W.subIn K (.ref C) (.ref T)=some true∧
  ts {nx:=fun σ2 H2=>D.nx (σ2.set i none) H2,rt:=D.rt,bk:=fun σ2 H2=>D.bk (σ2.set i none) H2,ct:=fun σ2 H2=>D.ct (σ2.set i none) H2} (σ'.set i (some (.ref a))) (n0 H' a (.ext (ez a C)))) D σ H):yp K T i tb ts D σ H:=q
theorem qJ {sp:Sp}{dvs:List V}{Es:St→XK}{t:TA}(q:t σ H fun vs H1=>sp (vs++dvs) H1 Q (Es σ)):vj sp dvs Es t σ H Q:=q
end
section
variable {X:Cx}
def wd (K:Frag):R2:=fun x y H Q=>(∃a xs i,x= .ref a∧y= .int i∧SqT K H a xs∧Q (.bl true) H)∨(∃a xs i,x= .int i∧y= .ref a∧SqT K H a xs∧Q (.bl true) H)
theorem uU (hu:X.A.units+64<cLine):OpR X (compareOp .NotEq) (wd X.K):=by
 intro pins s σ H x y v u Q I rx ry h
 rcases h with⟨a,xs,i,rfl,rfl,ha,k⟩|⟨a,xs,i,rfl,rfl,ha,k⟩
 ·cases rx
  obtain⟨t,rfl⟩:=(show ∃t,u=Value.int i t from ry)
  obtain⟨its,r1,p1,z1⟩:=I.tuple ha
  exact SeqAt.RcNeAt.tuple_int (A:=X.A) i t (show s.heap.IsTuple a its.toArray from p1) (by omega) X.prog X.w _ _ ⟨.bl true,H,I,rfl,k⟩
 ·cases ry
  obtain⟨t,rfl⟩:=(show ∃t,v=Value.int i t from rx)
  obtain⟨its,r1,p1,z1⟩:=I.tuple ha
  exact SeqAt.RcNeAt.int_tuple (A:=X.A) i t (show s.heap.IsTuple a its.toArray from p1) (by omega) X.prog X.w _ _ ⟨.bl true,H,I,rfl,k⟩
def kM (K:Frag):R2:=fun x y H Q=>fk K x y H Q∨wd K x y H Q
theorem yo (K:Frag){k:Nat}(hr:Room k X.A)(h:X.K=K:=by rfl):OpR X (compareOp .NotEq) (kM K):=(yV K hr h).or (h▸uU hr.units)
end
section
variable {K:Frag} {H:Hp} {Q:VK}
theorem yx {x y:V}(q:fk K x y H Q):kM K x y H Q:= .inl q
theorem oi {i j:Int}(q:Q (.bl (!decide (i=j))) H):kM K (.int i) (.int j) H Q:= .inl (gh q)
theorem qx {i j:Bool}(q:Q (.bl (!decide (i=j))) H):kM K (.bl i) (.bl j) H Q:= .inl (jR q)
theorem oA {i j:Str}(q:Q (.bl (!decide (i=j))) H):kM K (.str i) (.str j) H Q:= .inl (gr q)
end
end L2
set_option Elab.async false
set_option linter.all false
set_option maxRecDepth 100000
set_option maxHeartbeats 4000000
namespace L2
open PySem PySem.Spec PyProof.Rows
section
variable {X:Cx}
end
section
open PySem.Builtin PySem.Builtin.Str
end
end L2
set_option Elab.async false
set_option linter.all false
set_option maxRecDepth 100000
set_option maxHeartbeats 4000000
namespace L2
open PySem PySem.Spec PyProof.Rows
def cN (σ:List Str)(x:Str):List Str:=if x∈σ then σ else σ++[x]
def rh (ss:List Str):List Str:=ss.foldl cN []
theorem rf (σ:List Str)(x:Str):(cN σ x).length≤σ.length+1:=by
 unfold cN;split
 ·omega
 ·rw[List.length_append];simp
theorem pI {σ:List Str}{x y:Str}:y∈cN σ x↔y∈σ∨y=x:=by
 unfold cN;split
 ·next h=>exact⟨.inl,fun z=>z.elim id fun e=>e▸h⟩
 ·simp
section
variable {prog:Program} {w:World} {A:Around} {E:Value→Shared→Prop}
def StrsAre:List Value→List Str→Prop:=Paired fun u x=>∃t,u= .str x t
theorem hU {d it l:Addr}{items:List Value}(hh:A.handled=none)(hdi:d≠it)(hli:l≠it)(hld:l≠d):
  ∀(more:List Str) (i:Nat) (s:Shared) (σ:List Str) (R:Result→Shared→Prop),
   s.heap.IsListIter it l i→s.heap.IsList l items.toArray→StrsAre (items.drop i) more→s.heap.SetOf (strKind prog w) d (fun k=>decide (k∈σ)) σ.length→σ.length+more.length<2000→
   (∀h' tk,(∀b o,b≠d→b≠it→s.heap.get? b=some o→h'.get? b=some o)→h'.SetOf (strKind prog w) d (fun k=>decide (k∈more.foldl cN σ)) (more.foldl cN σ).length→R (.ok (.ret .none)) {s with heap:=h',toks:=tk})→
   codeAny (model prog w) A (.builtin "set.update.loop" ⟨[.ref d,.ref it],[]⟩) R s
 |[],i,s,σ,R,hit,hl,hp,hd,hz,hR=>by
  have hx:items.toArray[i]?=none:=by
   have hn:items.drop i=[]:=by cases hp':items.drop i with
    |nil=>rfl
    |cons x r=>rw[hp'] at hp;cases hp
   have:=List.drop_eq_nil_iff.mp hn
   simp;omega
  refine codeAny_builtin F.entry_set_update_loop ?_
  rw[Around.under_plainId F.plain_set_update_loop _]
  show wpAny _ A.in1 (pyNext (.ref it)>>=_) _ _ s
  refine wpAny_bind (wpAny_pyNext_list_end (A:=A.in1) hh hit hl hx fun h' eb=>?_)
  show wpAny _ A.in1 (ret Value.none) _ _ _
  refine wpAny_pure (hR h' s.toks (fun b o h1 h2 e=>eb b o h2 e) ?_)
  obtain⟨o,es,ep,t,ho,r⟩:=hd
  exact⟨o,es,ep,t,eb d o hdi ho,r⟩
 |x::more,i,s,σ,R,hit,hl,hp,hd,hz,hR=>by
  obtain⟨u,hx,⟨t,rfl⟩,hp1⟩:∃u,items.toArray[i]?=some u∧(∃t,u=Value.str x t)∧StrsAre (items.drop (i+1)) more:=by
   cases hp':items.drop i with
   |nil=>rw[hp'] at hp;cases hp
   |cons u r=>
    rw[hp'] at hp
    cases hp with
    |cons h1 h2=>
     refine⟨u,?_,h1,?_⟩
     ·have z:=congrArg List.head? hp'
      simpa using z
     ·have z:=congrArg List.tail hp'
      rw[List.tail_drop] at z
      rw[z];exact h2
  simp only[List.length_cons] at hz
  refine codeAny_builtin F.entry_set_update_loop ?_
  rw[Around.under_plainId F.plain_set_update_loop _]
  show wpAny _ A.in1 (pyNext (.ref it)>>=_) _ _ s
  refine wpAny_bind (wpAny_pyNext_list_item hit hl hx fun h' hit' hs'=>?_)
  have hd':h'.SetOf (strKind prog w) d (fun k=>decide (k∈σ)) σ.length:=by
   obtain⟨o,es,ep,tb,ho,r⟩:=hd
   exact⟨o,es,ep,tb,hs'.extBut d o hdi ho,r⟩
  refine wpAny_bind (wpAny_holding ?_)
  unfold setAdd
  refine wpAny_holding (wpAny_bind ((strKind prog w).pyHash (k:=x) (strKind_is _ _ _ _) ?_))
  refine wpAny_setAddHashed_of (knd:=strKind prog w) (s:={s with heap:=h',toks:=s.toks+1}) (strKind_is _ _ _ _) rfl hd' (by unfold scanBound;omega) fun h'' hs'' hS2=>?_
  have hS3:h''.SetOf (strKind prog w) d (fun k=>decide (k∈cN σ x)) (cN σ x).length:=by
   refine SetOf_congr hS2 (fun k=>?_) ?_
   ·rw[Bool.eq_iff_iff]
    simp [pI]
   ·unfold cN
    by_cases h:x∈σ
    ·rw[if_pos (by simpa using h),if_pos h]
    ·rw[if_neg (by simpa using h),if_neg h,List.length_append];rfl
  have kp:∀b o,b≠d→b≠it→s.heap.get? b=some o→h''.get? b=some o:=fun b o hb1 hb2 e=>(hs''.2 b hb1).trans (hs'.extBut b o hb2 e)
  have hle:=rf σ x
  refine wpAny_pure ⟨plainId_quiet F.plain_set_update_loop _,?_⟩
  refine hU hh hdi hli hld more (i+1) _ (cN σ x) R ?_ ?_ hp1 hS3 (by omega) (fun h3 tk k3 d3=>hR h3 tk (fun b o e1 e2 e=>k3 b o e1 e2 (kp b o e1 e2 e)) d3)
  ·exact hit'.at fun o e=>(hs''.2 it (Ne.symm hdi)).trans e
  ·obtain⟨ol,hol,r⟩:=hl
   exact⟨ol,kp l ol hld hli hol,r⟩
end
section
variable {prog:Program} {w:World} {A:Around} {E:Value→Shared→Prop}
set_option maxHeartbeats 3200000 in
theorem pM {l:Addr}{items:List Value}{o:Obj}{n:Nat}{ss:List Str}{s:Shared}{Q:Value→Shared→Prop}(hh:A.handled=none)(ho:s.heap.get? l=some o)(hc:o.cls= .type "list")(hdat:o.data= .seq items.toArray n)(hz:ss.length<1000)(hp:StrsAre items ss)
  (h:∀h' tk,h'.SetOf (strKind prog w) s.heap.objs.size (fun k=>decide (k∈rh ss)) (rh ss).length→(∀b o,s.heap.get? b=some o→h'.get? b=some o)→Q (.ref s.heap.objs.size) {s with heap:=h',toks:=tk}):
  wpAny (model prog w) A (call (.type "set") [.ref l]) Q E s:=by
 obtain⟨c1,c2,c3⟩:=F.called_set.mro
 have c4:=F.called_set.made;have c5:=F.called_set.sub;have c6:=F.called_set.notType;have c7:=F.called_set.canCreate;have c8:=F.typeCall_set_1 (.ref l)
 refine wpAny_call (codeAny_of_tree (show wpAny _ _ (callAny (.type "set") _) _ _ _ from wpAny_pure ⟨Code.quiet_builtin _ (by decide+kernel),codeAny_builtin F.entry_type_call ?_⟩))
 rw[Around.under_plain (weight_type_call_type "set" [Value.ref l] []) rfl]
 repeat(any_goals first|assumption|wp_step)
 refine codeAny_mono (code_set_new_1 (E:=E) (.ref l) (Q₁:=fun ob st=>∃led:Bool,ob= .ref s.heap.objs.size∧st={s with heap:=s.heap.push {cls:= .type "set",dict:=none,data:= .set #[] 0 (.fresh 0 0 led)}}) fun led=>⟨led,rfl,rfl⟩) fun r1 st1 hr1=>?_
 match r1,hr1 with
 | .error _,hr1=>exact hr1
 | .ok .next,hr1=>exact hr1.elim
 | .ok .brk,hr1=>exact hr1.elim
 | .ok .cont,hr1=>exact hr1.elim
 | .ok (.ret ob),hr1=>
  obtain⟨led,rfl,rfl⟩:=hr1
  have hS0:(s.heap.push {cls:= .type "set",dict:=none,data:= .set #[] 0 (.fresh 0 0 led)}).get? s.heap.objs.size=some {cls:= .type "set",dict:=none,data:= .set #[] 0 (.fresh 0 0 led)}:=Heap.get?_push_size _ rfl
  have ho1:(s.heap.push {cls:= .type "set",dict:=none,data:= .set #[] 0 (.fresh 0 0 led)}).get? l=some o:=Heap.get?_push_of_some _ ho
  have hl0:l≠s.heap.objs.size:=Nat.ne_of_lt (Heap.lt_size ho)
  generalize hP:s.heap.push {cls:= .type "set",dict:=none,data:= .set #[] 0 (.fresh 0 0 led)}=hp1 at hS0 ho1
  have c9:Shared.TypeIs {s with heap:=hp1} (.ref s.heap.objs.size) "set":=⟨_,hS0,rfl⟩
  have c10:=F.called_set.init.lookup;have c11:=F.called_set.init.bind (.ref s.heap.objs.size)
  repeat(any_goals first|assumption|wp_step)
  refine codeAny_mono (codeAny_call_builtin (R:=wants (fun r st=>r= .none∧∃h2 tk2,st={s with heap:=h2,toks:=tk2}∧h2.SetOf (strKind prog w) s.heap.objs.size (fun k=>decide (k∈rh ss)) (rh ss).length∧(∀b o,s.heap.get? b=some o→h2.get? b=some o)) E) F.called_set.init.plain F.entry_set_init (check_set_init_1 c9 ?_)) fun r2 st2 hr2=>?_
  ·obtain⟨k1,k2,k3,k4⟩:=o
   dsimp only at hc hdat
   subst hc hdat
   have d1:=F.sub_list_set;have d2:=F.sub_list_frozenset;have d3:(Value.type "list"==Value.type "dict")=false:=by decide
   have hl1:hp1.IsList l items.toArray:=⟨_,ho1,rfl,n,rfl⟩
   unfold Builtin.«set.__init__» noKeywords Builtin.Frozenset.updateFrom
   generalize hPI:pyIter=PI
   wp_walk
   subst hPI
   refine wpAny_pyIter_list hl1 (wpAny_bind (wpAny_runValue ?_))
   have hsz:s.heap.objs.size<hp1.objs.size:=Heap.lt_size hS0
   refine hU (l:=l) (items:=items) (A:=A.in1.in1) (by simpa using hh) (Nat.ne_of_lt hsz) (Nat.ne_of_lt (Heap.lt_size ho1)) hl0 ss 0 _ [] _ ⟨_,Heap.get?_push_size _ rfl,rfl,rfl⟩ (hl1.push _) (by rw[List.drop_zero];exact hp) ?_ (by simpa using(show ss.length<2000 by omega)) fun h3 tk3 k3' d3'=>?_
   ·have hg:(hp1.push {cls:= .type "list_iterator",data:= .fields #[.ref l,.int 0 0]}).get? s.heap.objs.size=some {cls:= .type "set",dict:=none,data:= .set #[] 0 (.fresh 0 0 led)}:=Heap.get?_push_of_some _ hS0
    exact SetOf_congr ((setObjOf_fresh (knd:=strKind prog w) led).setOf hg (by unfold scanBound;omega)) (fun _=>by simp) rfl
   ·show wpAny _ _ _ _ _ _
    refine wpAny_pure (show wpAny _ _ (ret Value.none) _ _ _ from wpAny_pure ⟨rfl,h3,tk3,rfl,d3',fun b ob e=>?_⟩)
    have e1:hp1.get? b=some ob:=by rw[←hP];exact Heap.get?_push_of_some _ e
    exact k3' b ob (Nat.ne_of_lt (Heap.lt_size e)) (Nat.ne_of_lt (Heap.lt_size e1)) (Heap.get?_push_of_some _ e1)
  ·match r2,hr2 with
   | .error _,hr2=>exact hr2
   | .ok .next,hr2=>exact hr2.elim
   | .ok .brk,hr2=>exact hr2.elim
   | .ok .cont,hr2=>exact hr2.elim
   | .ok (.ret r),hr2=>
    obtain⟨rfl,h2,tk2,rfl,hS2,hk2⟩:=hr2
    repeat(any_goals first|assumption|wp_step)
    exact h _ _ hS2 hk2
end
def sC (a:Addr)(n:Nat)(h:Heap):Prop:=∃o es ep t,h.get? a=some o∧o.ExactSet∧o.data= .set es ep t∧t.fits es.size=true∧es.size=n
section
variable {X:Cx}
def rJ (K:PySem.W.Frag):List V→Hp→VK→Prop:=fun xs H Q=>jg K xs H Q∨∃p n,xs=[V.ref p]∧H p=some (.ext (sC p n))∧n≤1000∧Q (.int n) H
theorem call_lenS:CallR X (.builtin "len") (rJ X.K):=by
 refine call_lenX.or ?_
 intro pins s σ H xs us Q I r h
 obtain⟨p,n,rfl,hp,hn,q⟩:=h
 obtain⟨u,rfl,ru⟩:=M9 r
 cases ru
 obtain⟨o,es,ep,t,h1,h2,h3,h4,h5⟩:=(I.hok p _ hp).1
 exact call_len_set h1 h2 h3 h4 (by omega) ⟨.int n,H,I.tok _,⟨_,by rw[h5]⟩,q⟩
end
end L2
set_option Elab.async false
set_option linter.all false
set_option maxRecDepth 100000
set_option maxHeartbeats 4000000
namespace L2
open PySem PySem.Spec PyProof.Rows
open PySem.AutoSeq1 (wpAny_loadPart')
open PySem.MeetsSeq PySem.MeetsSeq2 PySem.MeetsSeq3
theorem ig:plainId "list.__eq__.loop"=true:=plain_eq_loop
section
variable {P:Program} {w:World}
theorem cV (l m:Addr)(xs ys:Array Value)(n1 n2:Nat)(d1 d2:Option Addr)(s1 s2:Array (Option Value))(hz:xs.size=ys.size)(f:Nat→Bool)(md:Int)(hmd:md=2∨md=3):∀(k i:Nat),xs.size -i=k→
  MeetsIn P w (Builtin.«list.__eq__.loop» ⟨[.ref l,.ref m,rawInt i,rawInt md],[]⟩) (fun A R s=>
   s.heap.get? l=some {cls:= .type "list",dict:=d1,data:= .seq xs n1,slots:=s1}∧s.heap.get? m=some {cls:= .type "list",dict:=d2,data:= .seq ys n2,slots:=s2}∧
   (∀j (g1:j<xs.size) (g2:j<ys.size),EqP P w A.in1 s xs[j] ys[j] (f j))∧
   R (.ok (.ret (.bool (if md=2 then((List.range xs.size).drop i).all f else !((List.range xs.size).drop i).all f)))) s)
 |0,i,hk=>by
  intro A R s hyp
  obtain⟨hp,gg,dr,tk,os⟩:=s
  obtain⟨e1,e2,he,fin⟩:=hyp
  have x1:xs[((i:Nat):Int).toNat]?=none:=by simp;omega
  have x2:ys[((i:Nat):Int).toNat]?=none:=by simp;omega
  have x3:(List.range xs.size).drop i=[]:=by simp;omega
  rw[x3] at fin
  rcases hmd with rfl|rfl
  ·wp_walk using wpAny_loadPart' e1,wpAny_loadPart' e2
   rw[x1,x2]
   wp_walk using wpAny_loadPart' e1,wpAny_loadPart' e2
   show R (.ok (.ret (.bool (xs.size==ys.size)))) _
   rw[hz];simpa using fin
  ·wp_walk using wpAny_loadPart' e1,wpAny_loadPart' e2
   rw[x1,x2]
   wp_walk using wpAny_loadPart' e1,wpAny_loadPart' e2
   show R (.ok (.ret (.bool (xs.size !=ys.size)))) _
   rw[hz];simpa using fin
 |k+1,i,hk=>by
  intro A R s hyp
  have ih:=cV l m xs ys n1 n2 d1 d2 s1 s2 hz f md hmd k (i+1) (by omega)
  obtain⟨hp,gg,dr,tk,os⟩:=s
  obtain⟨e1,e2,he,fin⟩:=hyp
  have l1:i<xs.size:=by omega
  have l2:i<ys.size:=by omega
  have x1:xs[((i:Nat):Int).toNat]?=some xs[i]:=by simp [l1]
  have x2:ys[((i:Nat):Int).toNat]?=some ys[i]:=by simp [l2]
  have x3:(List.range xs.size).drop i=i::(List.range xs.size).drop (i+1):=by simp [List.drop_eq_getElem_cons,l1]
  have x4:((i:Int)+1)=((i+1:Nat):Int):=by push_cast;rfl
  rw[x3,List.all_cons] at fin
  rcases hmd with rfl|rfl
  ·wp_walk using wpAny_loadPart' e1,wpAny_loadPart' e2
   rw[x1,x2]
   refine wpAny_bind (he i l1 l2 _ _ ?_)
   cases hf:f i with
   |true=>
    rw[hf] at fin
    wp_walk
    rw[x4]
    refine⟨plainId_quiet ig _,codeAny_builtin entry_eq_loop ?_⟩
    rw[Around.under_plainId ig _]
    exact ih A R _ ⟨e1,e2,he,by simpa using fin⟩
   |false=>
    rw[hf] at fin
    wp_walk using wpAny_loadPart' e1,wpAny_loadPart' e2
    rw[x1,x2]
    wp_walk
    simpa using fin
  ·wp_walk using wpAny_loadPart' e1,wpAny_loadPart' e2
   rw[x1,x2]
   refine wpAny_bind (he i l1 l2 _ _ ?_)
   cases hf:f i with
   |true=>
    rw[hf] at fin
    wp_walk
    rw[x4]
    refine⟨plainId_quiet ig _,codeAny_builtin entry_eq_loop ?_⟩
    rw[Around.under_plainId ig _]
    exact ih A R _ ⟨e1,e2,he,by simpa using fin⟩
   |false=>
    rw[hf] at fin
    wp_walk using wpAny_loadPart' e1,wpAny_loadPart' e2
    rw[x1,x2]
    wp_walk
    simpa using fin
theorem tD (l m:Addr)(xs ys:Array Value)(n1 n2:Nat)(d1 d2:Option Addr)(s1 s2:Array (Option Value))(hz:xs.size=ys.size)(f:Nat→Bool):
  MeetsIn P w (Builtin.«list.__eq__» ⟨[.ref l,.ref m],[]⟩) (fun A R s=>
   s.heap.get? l=some {cls:= .type "list",dict:=d1,data:= .seq xs n1,slots:=s1}∧s.heap.get? m=some {cls:= .type "list",dict:=d2,data:= .seq ys n2,slots:=s2}∧
   (∀j (g1:j<xs.size) (g2:j<ys.size),EqP P w A.in1 s xs[j] ys[j] (f j))∧R (.ok (.ret (.bool ((List.range xs.size).all f)))) s):=by
 intro A R s hyp
 obtain⟨hp,gg,dr,tk,os⟩:=s
 obtain⟨e1,e2,he,fin⟩:=hyp
 have q1:=AutoSeq1.sub_list_list;have q2:¬(xs.size !=ys.size)=true:=by simp [hz]
 wp_walk using wpAny_loadPart' e1,wpAny_loadPart' e2
 refine⟨plainId_quiet ig _,codeAny_builtin entry_eq_loop ?_⟩
 rw[Around.under_plainId ig _]
 exact cV l m xs ys n1 n2 d1 d2 s1 s2 hz f 2 (.inl rfl) _ 0 rfl A R _ ⟨e1,e2,he,by simpa using fin⟩
theorem uO (l m:Addr)(xs ys:Array Value)(n1 n2:Nat)(d1 d2:Option Addr)(s1 s2:Array (Option Value))(hz:xs.size=ys.size)(f:Nat→Bool):
  MeetsIn P w (Builtin.«list.__ne__» ⟨[.ref l,.ref m],[]⟩) (fun A R s=>
   s.heap.get? l=some {cls:= .type "list",dict:=d1,data:= .seq xs n1,slots:=s1}∧s.heap.get? m=some {cls:= .type "list",dict:=d2,data:= .seq ys n2,slots:=s2}∧
   (∀j (g1:j<xs.size) (g2:j<ys.size),EqP P w A.in1 s xs[j] ys[j] (f j))∧R (.ok (.ret (.bool (!(List.range xs.size).all f)))) s):=by
 intro A R s hyp
 obtain⟨hp,gg,dr,tk,os⟩:=s
 obtain⟨e1,e2,he,fin⟩:=hyp
 have q1:=AutoSeq1.sub_list_list;have q2:¬(xs.size !=ys.size)=true:=by simp [hz]
 wp_walk using wpAny_loadPart' e1,wpAny_loadPart' e2
 refine⟨plainId_quiet ig _,codeAny_builtin entry_eq_loop ?_⟩
 rw[Around.under_plainId ig _]
 exact cV l m xs ys n1 n2 d1 d2 s1 s2 hz f 3 (.inr rfl) _ 0 rfl A R _ ⟨e1,e2,he,by simpa using fin⟩
theorem RcP.lst {A:Around}{s:Shared}{l m:Addr}{xs ys:Array Value}{f:Nat→Bool}(hl:s.heap.IsList l xs)(hm:s.heap.IsList m ys)(hz:xs.size=ys.size)(hu:A.units<cLine)
  (he:∀j (g1:j<xs.size) (g2:j<ys.size),EqP P w A.in1 s xs[j] ys[j] (f j)):RcP P w A s (.ref l) (.ref m) ((List.range xs.size).all f):=fun E Q q=>by
 obtain⟨⟨c1,d1,a1,s1⟩,o1,k1,n1,t1⟩:=id hl
 obtain⟨⟨c2,d2,a2,s2⟩,o2,k2,n2,t2⟩:=id hm
 simp only at k1 t1 k2 t2
 subst k1 t1 k2 t2
 refine wpAny_richCompare_same_room (op:= .Eq) ⟨_,o1,rfl⟩ ⟨_,o2,rfl⟩ PySem.F.slot_list_eq (call_meetsIn PySem.F.slot_list_eq ⟨_,o1,rfl⟩ PySem.F.entry_list_eq (PySem.F.args_list_eq_2 _ _) (tD l m xs ys n1 n2 d1 d2 s1 s2 hz f) ⟨o1,o2,he,?_⟩) hu
 exact⟨(fun z=>nomatch z),q⟩
theorem NcP.lst {A:Around}{s:Shared}{l m:Addr}{xs ys:Array Value}{f:Nat→Bool}(hl:s.heap.IsList l xs)(hm:s.heap.IsList m ys)(hz:xs.size=ys.size)(hu:A.units<cLine)
  (he:∀j (g1:j<xs.size) (g2:j<ys.size),EqP P w A.in1 s xs[j] ys[j] (f j)):NcP P w A s (.ref l) (.ref m) (!(List.range xs.size).all f):=fun E Q q=>by
 obtain⟨⟨c1,d1,a1,s1⟩,o1,k1,n1,t1⟩:=id hl
 obtain⟨⟨c2,d2,a2,s2⟩,o2,k2,n2,t2⟩:=id hm
 simp only at k1 t1 k2 t2
 subst k1 t1 k2 t2
 refine wpAny_richCompare_same_room (op:= .NotEq) ⟨_,o1,rfl⟩ ⟨_,o2,rfl⟩ PySem.F.slot_list_ne (call_meetsIn PySem.F.slot_list_ne ⟨_,o1,rfl⟩ PySem.F.entry_list_ne (PySem.F.args_list_ne_2 _ _) (uO l m xs ys n1 n2 d1 d2 s1 s2 hz f) ⟨o1,o2,he,?_⟩) hu
 exact⟨(fun z=>nomatch z),q⟩
end
def EqN (K:PySem.W.Frag)(H:Hp):Nat→V→V→Bool→Prop
 |0,x,y,b=>Eq1 K H x y b∨∃a c,x= .ref a∧y= .ref c∧EqD K H a c b
 |n+1,x,y,b=>EqN K H n x y b∨∃(a c:Addr) (xs ys:List V) (bs:List Bool),x= .ref a∧y= .ref c∧a≠c∧((SqT K H a xs∧SqT K H c ys)∨(SqL K H a xs∧SqL K H c ys))∧xs.length=ys.length∧bs.length=xs.length∧
   (∀(j:Nat) (x' y':V) (b':Bool),xs[j]?=some x'→ys[j]?=some y'→bs[j]?=some b'→EqN K H n x' y' b')∧b=bs.all id
theorem A4:∀(bs:List Bool),(List.range bs.length).all (fun j=>bs.getD j true)=bs.all id
 |[]=>rfl
 |b::r=>by
  rw[List.length_cons,List.range_succ_eq_map,List.all_cons,List.all_map]
  show(b&&(List.range r.length).all fun j=>r.getD j true)=(b&&r.all id)
  rw[A4 r]
section
variable {X:Cx} {pins:List (Addr×Obj)} {σ:St} {H:Hp} {s:Shared}
theorem bG {n:Nat}{xs ys:List V}{bs:List Bool}{us vs:List Value}{A:Around}(r1:Vals xs us)(r2:Vals ys vs)(hl:xs.length=ys.length)(hb:bs.length=xs.length)
  (he:∀(j:Nat) (x' y':V) (b':Bool),xs[j]?=some x'→ys[j]?=some y'→bs[j]?=some b'→EqN X.K H n x' y' b')
  (at_:∀{x y:V} {u v:Value} {b:Bool},EqN X.K H n x y b→RelV x u→RelV y v→EqP X.prog X.w A.in1 s u v b):
  ∀j (g1:j<us.toArray.size) (g2:j<vs.toArray.size),EqP X.prog X.w A.in1 s us.toArray[j] vs.toArray[j] (bs.getD j true):=fun j g1 g2=>by
 have l1:=r1.length
 have l2:=r2.length
 have g1':j<us.length:=by simpa using g1
 have g2':j<vs.length:=by simpa using g2
 have x1:xs[j]?=some (xs[j]'(by omega)):=List.getElem?_eq_getElem _
 have y1:ys[j]?=some (ys[j]'(by omega)):=List.getElem?_eq_getElem _
 have b1:bs[j]?=some (bs[j]'(by omega)):=List.getElem?_eq_getElem _
 obtain⟨u1,hu1,ru1⟩:=r1.get x1
 obtain⟨u2,hu2,ru2⟩:=r2.get y1
 have e1:us.toArray[j]=u1:=by
  have:=List.getElem?_eq_getElem g1'
  rw[hu1] at this
  simpa using(Option.some.inj this).symm
 have e2:vs.toArray[j]=u2:=by
  have:=List.getElem?_eq_getElem g2'
  rw[hu2] at this
  simpa using(Option.some.inj this).symm
 rw[e1,e2,List.getD_eq_getElem?_getD,b1]
 exact at_ (he j _ _ _ x1 y1 b1) ru1 ru2
theorem EqN.at_ (I:Inv X pins σ H s):∀{n:Nat} {A:Around} {x y:V} {u v:Value} {b:Bool},EqN X.K H n x y b→RelV x u→RelV y v→A.units+32+n<cLine→EqP X.prog X.w A s u v b
 |0,A,x,y,u,v,b,h,rx,ry,hu=>by
  rcases h with h|⟨a,c,rfl,rfl,h⟩
  ·exact .of (h.at_ I rx ry (by omega))
  ·cases rx
   cases ry
   exact h.at_ I (by omega)
 |n+1,A,x,y,u,v,b,h,rx,ry,hu=>by
  rcases h with h|⟨a,c,xs,ys,bs,rfl,rfl,hne,hh,hl,hb,he,rfl⟩
  ·exact EqN.at_ I h rx ry (by omega)
  ·cases rx
   cases ry
   have hin:A.in1.units=A.units+1:=rfl
   rcases hh with⟨h1,h2⟩|⟨h1,h2⟩
   ·obtain⟨us,r1,p1,z1⟩:=I.tuple h1
    obtain⟨vs,r2,p2,z2⟩:=I.tuple h2
    have l1:=r1.length
    have l2:=r2.length
    have q:=RcP.tup (P:=X.prog) (w:=X.w) (A:=A) (f:=fun j=>bs.getD j true) (show s.heap.IsTuple a us.toArray from p1) (show s.heap.IsTuple c vs.toArray from p2) (by omega) (bG r1 r2 hl hb he fun z q1 q2=>EqN.at_ I z q1 q2 (by omega))
    have e3:min us.toArray.size vs.toArray.size=bs.length:=by simp;omega
    have e4:(us.toArray.size==vs.toArray.size)=true:=by simp;omega
    rw[e3,e4,A4,Bool.and_true] at q
    exact .refs hne q
   ·obtain⟨us,r1,p1,z1⟩:=I.list h1
    obtain⟨vs,r2,p2,z2⟩:=I.list h2
    have l1:=r1.length
    have l2:=r2.length
    have q:=RcP.lst (P:=X.prog) (w:=X.w) (A:=A) (f:=fun j=>bs.getD j true) p1.isList p2.isList (by simp;omega) (by omega) (bG r1 r2 hl hb he fun z q1 q2=>EqN.at_ I z q1 q2 (by omega))
    have e3:us.toArray.size=bs.length:=by simp;omega
    rw[e3,A4] at q
    exact .refs hne q
end
def xE (K:PySem.W.Frag)(H:Hp)(x y:V)(bs:List Bool):Prop:=∃(a c:Addr) (xs ys:List V),x= .ref a∧y= .ref c∧((SqT K H a xs∧SqT K H c ys)∨(SqL K H a xs∧SqL K H c ys))∧xs.length=ys.length∧bs.length=xs.length∧
 ∀(j:Nat) (x' y':V) (b':Bool),xs[j]?=some x'→ys[j]?=some y'→bs[j]?=some b'→EqN K H 8 x' y' b'
section
variable {X:Cx}
def wo (K:PySem.W.Frag):R2:=fun x y H Q=>∃bs,xE K H x y bs∧Q (.bl (bs.all id)) H
def we (K:PySem.W.Frag):R2:=fun x y H Q=>∃bs,xE K H x y bs∧Q (.bl (!bs.all id)) H
theorem tK (hu:X.A.units+64<cLine):OpR X (compareOp .Eq) (wo X.K):=by
 intro pins s σ H x y v u Q I rx ry h
 obtain⟨bs,⟨a,c,xs,ys,rfl,rfl,hh,hl,hb,he⟩,k⟩:=h
 cases rx
 cases ry
 have hin:X.A.in1.units=X.A.units+1:=rfl
 rcases hh with⟨h1,h2⟩|⟨h1,h2⟩
 ·obtain⟨us,r1,p1,z1⟩:=I.tuple h1
  obtain⟨vs,r2,p2,z2⟩:=I.tuple h2
  have l1:=r1.length
  have l2:=r2.length
  have q:=RcP.tup (P:=X.prog) (w:=X.w) (A:=X.A) (f:=fun j=>bs.getD j true) (show s.heap.IsTuple a us.toArray from p1) (show s.heap.IsTuple c vs.toArray from p2) (by omega) (bG r1 r2 hl hb he fun z q1 q2=>EqN.at_ I z q1 q2 (by omega))
  have e3:min us.toArray.size vs.toArray.size=bs.length:=by simp;omega
  have e4:(us.toArray.size==vs.toArray.size)=true:=by simp;omega
  rw[e3,e4,A4,Bool.and_true] at q
  exact q _ _ ⟨.bl _,H,I,rfl,k⟩
 ·obtain⟨us,r1,p1,z1⟩:=I.list h1
  obtain⟨vs,r2,p2,z2⟩:=I.list h2
  have l1:=r1.length
  have l2:=r2.length
  have q:=RcP.lst (P:=X.prog) (w:=X.w) (A:=X.A) (f:=fun j=>bs.getD j true) p1.isList p2.isList (by simp;omega) (by omega) (bG r1 r2 hl hb he fun z q1 q2=>EqN.at_ I z q1 q2 (by omega))
  have e3:us.toArray.size=bs.length:=by simp;omega
  rw[e3,A4] at q
  exact q _ _ ⟨.bl _,H,I,rfl,k⟩
theorem sF (hu:X.A.units+64<cLine):OpR X (compareOp .NotEq) (we X.K):=by
 intro pins s σ H x y v u Q I rx ry h
 obtain⟨bs,⟨a,c,xs,ys,rfl,rfl,hh,hl,hb,he⟩,k⟩:=h
 cases rx
 cases ry
 have hin:X.A.in1.units=X.A.units+1:=rfl
 rcases hh with⟨h1,h2⟩|⟨h1,h2⟩
 ·obtain⟨us,r1,p1,z1⟩:=I.tuple h1
  obtain⟨vs,r2,p2,z2⟩:=I.tuple h2
  have l1:=r1.length
  have l2:=r2.length
  have q:=NcP.tup (P:=X.prog) (w:=X.w) (A:=X.A) (f:=fun j=>bs.getD j true) (show s.heap.IsTuple a us.toArray from p1) (show s.heap.IsTuple c vs.toArray from p2) (by omega) (bG r1 r2 hl hb he fun z q1 q2=>EqN.at_ I z q1 q2 (by omega))
  have e3:min us.toArray.size vs.toArray.size=bs.length:=by simp;omega
  have e4:(us.toArray.size==vs.toArray.size)=true:=by simp;omega
  rw[e3,e4,A4,Bool.and_true] at q
  exact q _ _ ⟨.bl _,H,I,rfl,k⟩
 ·obtain⟨us,r1,p1,z1⟩:=I.list h1
  obtain⟨vs,r2,p2,z2⟩:=I.list h2
  have l1:=r1.length
  have l2:=r2.length
  have q:=NcP.lst (P:=X.prog) (w:=X.w) (A:=X.A) (f:=fun j=>bs.getD j true) p1.isList p2.isList (by simp;omega) (by omega) (bG r1 r2 hl hb he fun z q1 q2=>EqN.at_ I z q1 q2 (by omega))
  have e3:us.toArray.size=bs.length:=by simp;omega
  rw[e3,A4] at q
  exact q _ _ ⟨.bl _,H,I,rfl,k⟩
def eQ (K:PySem.W.Frag):R2:=fun x y H Q=>kM K x y H Q∨we K x y H Q
theorem T7 (K:PySem.W.Frag){k:Nat}(hr:Room k X.A)(h:X.K=K:=by rfl):OpR X (compareOp .NotEq) (eQ K):=(yo K hr h).or (h▸sF hr.units)
def aD (K:PySem.W.Frag):R2:=fun x y H Q=>ug K x y H Q∨wo K x y H Q
theorem aV (K:PySem.W.Frag){k:Nat}(hr:Room k X.A)(h:X.K=K:=by rfl):OpR X (compareOp .Eq) (aD K):=(xV K hr h).or (h▸tK hr.units)
end
end L2
set_option Elab.async false
set_option linter.all false
set_option maxRecDepth 100000
set_option maxHeartbeats 4000000
namespace L2
open PySem PySem.Spec PyProof.Rows
def wX (v d:Addr)(h:Heap):Prop:=h.IsValuesView v d
section
variable {X:Cx}
def ji (K:PySem.W.Frag):List V→Hp→VK→Prop:=fun xs H Q=>jV K xs H Q∨∃(v d:Addr) (kvs:List (g7×V)),xs=[.ref v]∧H v=some (.ext (wX v d))∧Rd H d (.dK kvs)∧∀l,H l=none→Q (.ref l) (n0 H l (.lst (kvs.map (·.2))))
theorem jz (hc:X.calm=true):CallR X (.type "list") (ji X.K):=by
 refine(iV hc).or ?_
 intro pins s σ H xs us Q I r h
 obtain⟨v,d,kvs,rfl,hv,hx,q⟩:=h
 obtain⟨u,rfl,ru⟩:=M9 r
 cases ru
 have hvv:wX v d s.heap:=(I.hok v _ hv).1
 obtain⟨hd,o,vs,ep,ho,D⟩:=aY I.hok hx
 have hlv:=KV.length D.kv
 have hz:kvs.length≤sizeLine:=(J5 I.hok hx).1
 refine PySem.W.kdl_call (PySem.W.kdl_values (knd:=j2 X.prog X.w) (kvs:=vs) (ep:=ep)) (I.ok.hd hc) ⟨hvv,D.at_ _ ho⟩ (by omega) fun h' tk acc c hkp hS hacc=>?_
 refine⟨.ref s.heap.objs.size,_,I.newL (tk:=tk) hkp (Nat.le_refl _) hS (Q6 (by have:=hacc.1;simp;omega) fun i x u e1 e2=>?_) (by rw[List.length_map];exact hz),rfl,q _ (I.hok.fresh (Nat.le_refl _))⟩
 obtain⟨k,hy⟩:=hacc.2 i u (by rw[←Array.getElem?_toList];exact e2)
 rw[List.getElem?_map] at e1
 obtain⟨kv,e4,rfl⟩:=Option.map_eq_some_iff.mp e1
 obtain⟨q1,hq1,q2,q3⟩:=z8 (show Paired _ kvs vs from D.kv) e4
 rw[hy] at hq1
 cases hq1
 exact q3
theorem jy (K:PySem.W.Frag)(hc:X.calm=true)(h:X.K=K:=by rfl):CallR X (.type "list") (ji K):=h▸jz hc
end
section
variable {K:PySem.W.Frag} {H:Hp} {Q:VK}
theorem iK {xs:List V}(h:jV K xs H Q):ji K xs H Q:= .inl h
end
section
variable {prog:Program} {w:World} {A:Around} {E:Value→Shared→Prop}
end
section
variable {X:Cx}
end
end L2
set_option Elab.async false
set_option linter.all false
set_option maxRecDepth 100000
set_option maxHeartbeats 4000000
namespace L2
open PySem PySem.Spec PyProof.Rows
section
variable {prog:Program} {w:World} {A:Around} {E:Value→Shared→Prop} {s:Shared}
theorem lz {Q:Int→Shared→Prop}(h:Q 0xFCA86420 {s with toks:=s.toks+1}):wpAny (model prog w) A (pyHash .none) Q E s:=by
 have hT:s.TypeIs Value.none "NoneType":=rfl
 unfold pyHash pyHashByItsType
 refine wpAny_bind ?_
 rw[cRoomFor,if_neg (show ¬([Value.none].any Value.onHeap)=true by decide)]
 refine wpAny_pure (wpAny_bind (wpAny_specialOf hT PySem.F.slot_NoneType_hash.lookup ?_))
 refine(show wpAny _ _ (if(some (Value.builtin "NoneType.__hash__")==some Value.none)=true then _ else _) Q E s from ?_)
 rw[if_neg (by decide)]
 refine wpAny_bind (wpAny_specialOf hT PySem.F.slot_NoneType_hash.lookup ?_)
 refine(show wpAny _ _ (callSpecialIfBoundUnlessNone? Value.none "__hash__" _>>=_) Q E s from ?_)
 refine wpAny_bind (wpAny_callSpecialIfBoundUnlessNone?_slot hT PySem.F.slot_NoneType_hash (wpAny_call_entry PySem.F.slot_NoneType_hash hT PySem.F.entry_NoneType_hash (show wpAny _ _ (do ret (←mkInt 0xFCA86420)) _ _ s from wpAny_ret_mkInt ?_) (PySem.F.args_NoneType_hash_1 _)))
 refine(show wpAny _ _ (if(decide (-(2:Int) ^ 63≤0xFCA86420)&&decide ((0xFCA86420:Int)<2 ^ 63))=true then _ else _) Q E _ from ?_)
 rw[if_pos (by decide)]
 exact wpAny_pure h
end
abbrev eo:=Option g7
def yS:eo→Value→Bool
 |none,.none=>true
 |none,_=>false
 |some k,v=>aE k v
theorem L3:∀{k:eo} {v:Value},yS k v=true→(k=none∧v=Value.none)∨(∃i t,k=some (Sum.inl i)∧v=Value.int i t)∨(∃x t,k=some (Sum.inr x)∧v=Value.str x t)
 |none,v,h=>by cases v<;>first|exact .inl ⟨rfl,rfl⟩|cases h
 |some k,v,h=>by
  rcases p9 (show aE k v=true from h) with⟨i,t,rfl,rfl⟩|⟨x,t,rfl,rfl⟩
  ·exact .inr (.inl ⟨i,t,rfl,rfl⟩)
  ·exact .inr (.inr ⟨x,t,rfl,rfl⟩)
def vD (w:World):eo→Int
 |none=>0xFCA86420
 |some k=>xc w k
def br (prog:Program)(w:World):PySem.KeyKind prog w eo where
 is:=yS
 hash:=vD w
 inj:=fun v a b ha hb=>by
  rcases L3 ha with⟨rfl,rfl⟩|⟨i,t,rfl,rfl⟩|⟨x,t,rfl,rfl⟩<;>rcases L3 hb with⟨rfl,e⟩|⟨j,u,rfl,e⟩|⟨y,u,rfl,e⟩<;>first|rfl|(cases e<;>rfl)
 byValue:=fun k v h=>by
  rcases L3 h with⟨rfl,rfl⟩|⟨i,t,rfl,rfl⟩|⟨x,t,rfl,rfl⟩<;>rfl
 pyHash:=fun hv h=>by
  rcases L3 hv with⟨rfl,rfl⟩|⟨i,t,rfl,rfl⟩|⟨x,t,rfl,rfl⟩
  ·exact lz h
  ·exact wpAny_pyHash_int h
  ·exact wpAny_pyHash_str h
 eqBool:=fun{A E s a b u v Q} hu hv h=>by
  have dk:∀{k k':g7},decide ((some k:eo)=some k')=decide (k=k'):=fun{k k'}=>by
   by_cases e:k=k'
   ·subst e;simp
   ·rw[decide_eq_false e,decide_eq_false fun z=>e (Option.some.inj z)]
  rcases L3 hu with⟨rfl,rfl⟩|⟨i,t,rfl,rfl⟩|⟨x,t,rfl,rfl⟩<;>rcases L3 hv with⟨rfl,rfl⟩|⟨j,t',rfl,rfl⟩|⟨y,t',rfl,rfl⟩
  ·exact SeqAt.EqAt.same _ _ _ _ _ (by simpa using h)
  ·exact SeqAt.EqAt.none_int j t' _ _ _ _ (by simpa using h)
  ·exact SeqAt.EqAt.none_str y t' _ _ _ _ (by simpa using h)
  ·exact SeqAt.EqAt.int_none i t _ _ _ _ (by simpa using h)
  ·rw[dk,mK] at h;exact wpAny_eqBool_int h
  ·rw[dk,mQ] at h;exact SeqAt.EqAt.int_str i t y t' _ _ _ _ h
  ·exact SeqAt.EqAt.str_none x t _ _ _ _ (by simpa using h)
  ·rw[dk,nV] at h;exact SeqAt.EqAt.str_int x t j t' _ _ _ _ h
  ·rw[dk,pJ] at h;exact wpAny_eqBool_str h
 «strs»:=fun k x t v h=>by
  rcases L3 h with⟨rfl,e⟩|⟨i,u,rfl,e⟩|⟨y,u,rfl,e⟩
  ·exact nomatch e
  ·exact nomatch e
  ·injection e with e1 _
   subst e1
   cases v<;>rfl
def bg (P:Program)(w:World)(a:Addr)(n:Nat)(h:Heap):Prop:=(a==sysModules)=false∧∃vs,h.DictOf (br P w) a vs∧vs.length=n
theorem iP {P P':Program}{w w':World}{H:Hp}{h:Heap}{a:Addr}{n:Nat}(x:bg P w a n h):ObjOk P' w' H h a (.ext (bg P w a n)):=by
 obtain⟨hs,vs,⟨o,es,ep,e,r⟩,hl⟩:=x
 exact⟨⟨hs,vs,⟨o,es,ep,e,r⟩,hl⟩,⟨o,e⟩,fun h1 h2 ⟨hs',vs',⟨o',es',ep',e',r'⟩,hl'⟩ k=>⟨hs',vs',⟨o',es',ep',k _ e',r'⟩,hl'⟩⟩
theorem du {P:Program}{w:World}:∀{es:List DictEntry} {vs:List (g7×Value)},Pairs (j2 P w) es vs→Pairs (br P w) es (vs.map fun x=>(some x.1,x.2))
 |_,_,.nil=> .nil
 |_,_,.cons h e t=> .cons h e (du t)
theorem pR {P:Program}{w:World}{h:Heap}{a:Addr}{vs:List (g7×Value)}(dd:h.DictOf (j2 P w) a vs):h.DictOf (br P w) a (vs.map fun x=>(some x.1,x.2)):=by
 obtain⟨o,es,ep,h1,h2,h3,h4,h5,h6⟩:=dd
 refine⟨o,es,ep,h1,h2,h3,fun e he=>?_,du h5,?_⟩
 ·obtain⟨k,q1,q2⟩:=h4 e he
  exact⟨some k,q1,q2⟩
 ·rw[List.map_map]
  have e:((fun x:eo×Value=>x.1)∘fun x:g7×Value=>((some x.1:eo),x.2))=(fun k:g7=>(some k:eo))∘fun x:g7×Value=>x.1:=rfl
  rw[e,←List.map_map]
  exact List.Pairwise.map _ (fun a b h z=>h (Option.some.inj z)) h6
theorem iX {vs:List (g7×Value)}{v:Value}:stored (vs.map fun x=>((some x.1:eo),x.2)) none v=(vs.map fun x=>((some x.1:eo),x.2))++[(none,v)]:=by
 unfold stored
 rw[if_neg]
 intro z
 obtain⟨x,hx,e⟩:=List.any_eq_true.mp z
 obtain⟨y,_,rfl⟩:=List.mem_map.mp hx
 cases of_decide_eq_true e
section
variable {X:Cx}
def mD (P:Program)(w:World):iN:=fun o i v H Q=>kj o i v H Q∨∃a kvs,o= .ref a∧i= .non∧H a=some (.dK kvs)∧kvs.length<1000∧Q (n0 H a (.ext (bg P w a (kvs.length+1))))
theorem mH (hu:X.A.units+1<cLine):lU X (mD X.prog X.w):=by
 intro pins s σ H o i v ov iv u Q I ro ri rv h
 rcases h with h|⟨a,kvs,rfl,rfl,hA,hl,q⟩
 ·exact qp hu pins s σ H o i v ov iv u Q I ro ri rv h
 ·cases ro
  cases ri
  obtain⟨z,hd,vs,rel,dd⟩:=rV I.hok hA
  have hlv:=rel.length
  refine wpAny_setItem_pairs (knd:=br X.prog X.w) (k:=none) (hsz:=by rw[List.length_map];omega) rfl (pR dd) fun h' dd' hs=>?_
  rw[iX] at dd'
  have he:∃q,h'.get? a=some q:=let ⟨q,_,_,hq,_⟩:=dd';⟨q,hq⟩
  exact⟨_,ff I (by rw[hA];exact True.intro) hs he (iP ⟨hd,_,dd',by rw[List.length_append,List.length_map,hlv];rfl⟩),q⟩
def kr (K:PySem.W.Frag)(P:Program)(w:World):List V→Hp→VK→Prop:=fun xs H Q=>rJ K xs H Q∨∃p n,xs=[V.ref p]∧H p=some (.ext (bg P w p n))∧n≤1000∧Q (.int n) H
theorem kN:CallR X (.builtin "len") (kr X.K X.prog X.w):=by
 refine call_lenS.or ?_
 intro pins s σ H xs us Q I r h
 obtain⟨p,n,rfl,hp,hn,q⟩:=h
 obtain⟨u,rfl,ru⟩:=M9 r
 cases ru
 obtain⟨hs,vs,dd,hl⟩:=(I.hok p _ hp).1
 refine call_len_dict hs dd (by omega) ?_
 rw[hl]
 exact⟨.int n,H,I.tok _,⟨_,rfl⟩,q⟩
theorem vH (K:PySem.W.Frag)(h:X.K=K:=by rfl):CallR X (.builtin "len") (kr K X.prog X.w):=h▸kN
def kH (K:PySem.W.Frag)(P:Program)(w:World):List V→Hp→VK→Prop:=fun xs H Q=>ql K xs H Q∨∃p n T,xs=[V.ref p,.ty T]∧H p=some (.ext (bg P w p n))∧(T="str"∨T="int"∨T="bool"∨T="list"∨T="tuple"∨T="dict")∧Q (.bl (Y3 "dict" T)) H
theorem lC:CallR X (.builtin "isinstance") (kH X.K X.prog X.w):=by
 refine call_isi.or ?_
 intro pins s σ H xs us Q I r h
 obtain⟨p,n,T,rfl,hp,hT,q⟩:=h
 obtain⟨u,c,rfl,rx,rc⟩:=cj r
 cases rx
 cases rc
 obtain⟨hs,vs,⟨o,es,ep,h1,h2,r⟩,hl⟩:=(I.hok p _ hp).1
 exact PySem.W.kia_one PySem.W.kitx_dict I.kIn ⟨o,h1,h2.1⟩ (Q9 (by simp) hT) (fun z=>nomatch z) fun tk=>⟨.bl _,H,I.tok tk,rfl,q⟩
theorem wM (K:PySem.W.Frag)(h:X.K=K:=by rfl):CallR X (.builtin "isinstance") (kH K X.prog X.w):=h▸lC
end
section
variable {K:PySem.W.Frag} {P:Program} {w:World} {H:Hp} {Q:VK}
theorem E7 {xs:List V}(h:jg K xs H Q):kr K P w xs H Q:= .inl (.inl h)
theorem M3 {xs:List V}(h:ql K xs H Q):kH K P w xs H Q:= .inl h
theorem gq {o i v:V}{Qh:Hp→Prop}(h:kj o i v H Qh):mD P w o i v H Qh:= .inl h
theorem gB {x y:V}(h:dj K x y H Q):aD K x y H Q:= .inl (xW h)
theorem mU {i j:Int}(q:Q (.bl (decide (i=j))) H):aD K (.int i) (.int j) H Q:=gB (nZ q)
theorem qu {i j:Bool}(q:Q (.bl (decide (i=j))) H):aD K (.bl i) (.bl j) H Q:=gB (qa q)
theorem gf {i j:Str}(q:Q (.bl (decide (i=j))) H):aD K (.str i) (.str j) H Q:=gB (pv q)
theorem sY {x y:V}(h:fk K x y H Q):eQ K x y H Q:= .inl (yx h)
theorem nB {i j:Int}(q:Q (.bl (!decide (i=j))) H):eQ K (.int i) (.int j) H Q:= .inl (oi q)
theorem rz {i j:Bool}(q:Q (.bl (!decide (i=j))) H):eQ K (.bl i) (.bl j) H Q:= .inl (qx q)
theorem nv {i j:Str}(q:Q (.bl (!decide (i=j))) H):eQ K (.str i) (.str j) H Q:= .inl (oA q)
end
theorem Q4 {X:Cx}(K:PySem.W.Frag)(P:Program)(w:World)(h:X.K=K:=by rfl)(hp:X.prog=P:=by rfl)(hw:X.w=w:=by rfl):CallR X (.builtin "isinstance") (kH K P w):=by subst hp hw;exact wM K h
theorem E6 {X:Cx}(K:PySem.W.Frag)(P:Program)(w:World)(h:X.K=K:=by rfl)(hp:X.prog=P:=by rfl)(hw:X.w=w:=by rfl):CallR X (.builtin "len") (kr K P w):=by subst hp hw;exact vH K h
theorem T8 {X:Cx}(P:Program)(w:World)(hu:X.A.units+1<cLine)(hp:X.prog=P:=by rfl)(hw:X.w=w:=by rfl):lU X (mD P w):=by subst hp hw;exact mH hu
end L2
set_option Elab.async false
set_option linter.all false
set_option maxRecDepth 100000
namespace L2
open PySem PySem.Spec PyProof.Rows
section
variable {X:Cx} {a b:Expr} {ta:TA} {x y:Str} {pos:Pos}
end
section
variable {σ:St} {H:Hp} {nx:St→Hp→Prop} {rt:VK} {bk ct:St→Hp→Prop} {ta:TA}
theorem wm {i j:Nat}(q:ta σ H fun vs H1=>∃v w,vs=[v,w]∧nx ((σ.set i (some v)).set j (some w)) H1):ym i j ta ⟨nx,rt,bk,ct⟩ σ H:=q
end
end L2
set_option Elab.async false
set_option linter.all false
set_option maxRecDepth 100000
set_option maxHeartbeats 4000000
namespace L2
open PySem PySem.Spec PyProof.Rows
section
variable {P:Program} {w:World}
end
section
variable {X:Cx} {tg:Expr}
abbrev yR (d:Addr)(o:Obj)(kvs:List (g7×V)):It:=yl d o kvs fun kv=>kv.2
def qI (tl:TE):gR:=fun σ H R=>tl σ H fun v H1=>rIterD yR v H1 R
theorem lM {tl:TE}{σ:St}{H:Hp}{R:It→(Hp→Hp)→Hp→Prop}(q:tl σ H fun v H1=>rIterD yR v H1 R):qI tl σ H R:=q
end
end L2
set_option Elab.async false
set_option linter.all false
namespace L2
open PySem PySem.Spec PyProof.Rows
section
variable {J:It} {th:Hp→Hp} {n:Nat} {g:TG} {tb:TS} {nx:L2.St→Hp→Prop} {rt:VK} {σ:L2.St} {H:Hp}
theorem O7 (Pv:Nat→L2.St→Hp→Prop)(h0:Pv 0 σ H)(hgo:∀i σ H,i<n→Pv i σ H→J.go i H)
  (hs:∀(bk:L2.St→Hp→Prop) i x σ H H',i<n→Pv i σ H→J.yld i H x H'→g x σ H' fun σ2 H2=>tb ⟨Pv (i+1),fun v H=>rt v (th H),bk,Pv (i+1)⟩ σ2 H2)
  (hd:∀σ H,Pv n σ H→J.stop n H∧nx σ (th H)):qK J th g tb nx rt σ H:=uz Pv h0 hgo (hs fun σ H=>nx σ (th H)) hd
end
end L2
set_option Elab.async false
set_option linter.all false
set_option maxRecDepth 100000
set_option maxHeartbeats 4000000
namespace L2
open PySem PySem.Spec PyProof.Rows PySem.Builtin PySem.Builtin.Str
theorem cX:∀(l:List (Str×Tok)),Vals ((l.map (·.1)).map V.str) (strValues l)
 |[]=> .nil
 |p::r=> .cons ⟨p.2,rfl⟩ (cX r)
theorem jK:∀{ts:List Str} {its:List Value},Vals (ts.map V.str) its→∃l:List (Str×Tok),its=strValues l∧l.map (·.1)=ts
 |[],_,.nil=>⟨[],rfl,rfl⟩
 |t::ts,_,.cons ⟨tk,e⟩ r=>by
  obtain⟨l,e1,e2⟩:=jK r
  exact⟨(t,tk)::l,by rw[e,e1];rfl,by rw[List.map_cons,e2]⟩
section
variable {X:Cx}
def iI:V→List V→Hp→VK→Prop:=fun x vs H Q=>∃a b:Str,x= .str a∧vs=[.str b]∧b.length=1∧a.length≤100000∧∀p,H p=none→Q (.ref p) (n0 H p (.tup [.str (PySem.Txt.partition a b).1,.str (PySem.Txt.partition a b).2.1,.str (PySem.Txt.partition a b).2.2]))
theorem K1:MtR X "str.partition" iI:=by
 intro pins s σ H x vs v us Q I rx rv h
 obtain⟨a,b,rfl,rfl,hb,ha,q⟩:=h
 obtain⟨t,rfl⟩:=rx
 obtain⟨u,rfl,tu,rfl⟩:=M9 rv
 have hz:a.length≤sizeLine:=Nat.le_trans ha (by decide)
 refine call_meets F.slot_str_partition (typeIs_str _ _ _) F.entry_str_partition (F.args_str_partition_2 _ _) (meets_str_partition a b t tu (by rw[hb];rfl) hz) ?_
 have q':=q _ (I.hok.fresh (Nat.le_refl _))
 have tri:∀(a b c:Str) (x y z:Tok),Vals [.str a,.str b,.str c] [.str a x,.str b y,.str c z]:=fun a b c x y z=> .cons ⟨_,rfl⟩ (.cons ⟨_,rfl⟩ (.cons ⟨_,rfl⟩ .nil))
 unfold PySem.Txt.partition at q'
 revert q'
 cases occurrences a b 0 a.length 1 with
 |nil=>intro q';exact⟨.ref s.heap.objs.size,_,I.laid (fun _ _ z=>Heap.get?_push_of_some _ z) (Nat.le_refl _) (show ObjOk X.prog X.w _ _ _ (.tup _) from⟨by show 3≤sizeLine;decide,_,tri _ _ _ _ _ _,IsTup.new _ _⟩),rfl,q'⟩
 |cons i r=>intro q';exact⟨.ref s.heap.objs.size,_,I.laid (fun _ _ z=>Heap.get?_push_of_some _ z) (Nat.le_refl _) (show ObjOk X.prog X.w _ _ _ (.tup _) from⟨by show 3≤sizeLine;decide,_,tri _ _ _ _ _ _,IsTup.new _ _⟩),rfl,q'⟩
def lB:V→List V→Hp→VK→Prop:=fun x vs H Q=>∃a b:Str,x= .str a∧vs=[.str b]∧Q (.bl (PySem.Txt.endswith a b)) H
theorem bM:MtR X "str.endswith" lB:=by
 intro pins s σ H x vs v us Q I rx rv h
 obtain⟨a,b,rfl,rfl,q⟩:=h
 obtain⟨t,rfl⟩:=rx
 obtain⟨u,rfl,tu,rfl⟩:=M9 rv
 exact call_gives F.slot_str_endswith (typeIs_str _ _ _) F.entry_str_endswith (F.args_str_endswith_2 _ _) (gives_str_endswith a b t tu) ⟨.bl (PySem.Txt.endswith a b),H,I,rfl,q⟩
def uB:V→List V→Hp→VK→Prop:=fun x vs H Q=>∃a b:Str,x= .str a∧vs=[.str b]∧1≤b.length∧a.length≤100000∧∀p,H p=none→Q (.ref p) (n0 H p (.lst ((PySem.Txt.split a b).map V.str)))
theorem R9:MtR X "str.split" uB:=by
 intro pins s σ H x vs v us Q I rx rv h
 obtain⟨a,b,rfl,rfl,hb,ha,q⟩:=h
 obtain⟨t,rfl⟩:=rx
 obtain⟨u,rfl,tu,rfl⟩:=M9 rv
 have hz:a.length+2≤sizeLine:=Nat.le_trans (Nat.add_le_add_right ha 2) (by decide)
 have hy:(b.length==0)=false:=by rw[beq_eq_false_iff_ne];omega
 have hn:(partsBetween a (occurrences a b 0 a.length (a.length+1)) b.length).length≤sizeLine:=by
  have e1:=StrLaws.occ_length_le a b 0 a.length (a.length+1)
  rw[length_partsBetween];omega
 have fin:∀(l:List (Str×Tok)) (k:Nat),l.map (·.1)=PySem.Txt.split a b→l.length≤sizeLine→EP X pins σ Q (.ref s.heap.objs.size) {s with heap:=s.heap.push {cls:= .type "list",data:= .seq (strValues l).toArray},toks:=k}:=fun l k e hl=>
  ⟨.ref s.heap.objs.size,_,I.lnew (cX l) (by rw[List.length_map,List.length_map];exact hl),rfl,e▸q _ I.fresh⟩
 have one:[(a,t)].length≤sizeLine:=by show 1≤sizeLine;decide
 cases h1:(decide (a.length<b.length)||decide (strKind a<strKind b))
 ·cases hf:(occurrences a b 0 a.length (a.length+1)).isEmpty
  ·refine call_meets F.slot_str_split (typeIs_str _ _ _) F.entry_str_split (F.args_str_split_2 _ _) (meets_str_split_sep a b t tu h1 hy hf (by omega) hn) ?_
   show wants _ _ _ {s with toks:=_,heap:=s.heap.push {cls:= .type "list",data:= .seq (strsFrom s.toks (partsBetween a (occurrences a b 0 a.length (a.length+1)) b.length)).toArray}}
   rw[strsFrom_eq]
   exact fin (numbered s.toks _) _ ((numbered_texts _ _).trans ((if_neg (ne_true_of_eq_false h1)).trans (if_neg (ne_true_of_eq_false hf))).symm) (by rw[←List.length_map (f:=fun p:Str×Tok=>p.1),numbered_texts];exact hn)
  ·exact call_meets F.slot_str_split (typeIs_str _ _ _) F.entry_str_split (F.args_str_split_2 _ _) (meets_str_split_not_found a b t tu h1 hy hf)
    (fin [(a,t)] s.toks ((if_neg (ne_true_of_eq_false h1)).trans (if_pos hf)).symm one)
 ·exact call_meets F.slot_str_split (typeIs_str _ _ _) F.entry_str_split (F.args_str_split_2 _ _) (meets_str_split_cannot_occur a b t tu h1)
   (fin [(a,t)] s.toks (if_pos h1).symm one)
def rF (K:PySem.W.Frag):V→List V→Hp→VK→Prop:=fun x vs H Q=>∃(a:Str) (l:Addr) (ts:List Str),x= .str a∧vs=[.ref l]∧SqL K H l (ts.map V.str)∧a.length≤10∧ts.length≤1000∧(∀y∈ts,y.length≤1000)∧Q (.str (Str.join a ts)) H
theorem gb:MtR X "str.join" (rF X.K):=by
 intro pins s σ H x vs v us Q I rx rv h
 obtain⟨a,l,ts,rfl,rfl,hl,ha,hn,hy,q⟩:=h
 obtain⟨t,rfl⟩:=rx
 obtain⟨u,rfl,ru⟩:=M9 rv
 cases ru
 obtain⟨its,r,pl,hz⟩:=I.list hl
 obtain⟨l2,rfl,e2⟩:=jK r
 refine SC.join pl.isList e2 ?_ fun t' k=>⟨.str (PySem.Txt.join a ts),H,I.tok k,⟨t',rfl⟩,?_⟩
 ·unfold JoinOk
  rw[Bool.not_eq_true']
  refine StrLaws.joinFits hy ?_
  have e1:ts.length*a.length≤ts.length*10:=Nat.mul_le_mul_left _ ha
  omega
 ·show Q (.str (glued a ts)) H
  rw[StrLaws.glued_eq_join]
  exact q
theorem D3 {X:Cx}(K:PySem.W.Frag)(h:X.K=K:=by rfl):MtR X "str.join" (rF K):=h▸gb
def tQ:List TE→Str→TE
 |[],acc=>fun _ H Q=>Q (.str acc) H
 |te::r,acc=>fun σ H Q=>te σ H fun v H1=>∃y:Str,v= .str y∧(acc++y).length≤1000∧tQ r (acc++y) σ H1 Q
structure QF (X:Cx) (es:List Expr) (ts:List TE):Prop where
 r:∀(pins:List (Addr×Obj)) (s:Shared) (σ:St) (H:Hp) (acc:Str) (Q:VK),Inv X pins σ H s→acc.length≤1000→tQ ts acc σ H Q→wpAny (model X.prog X.w) X.A (joinParts acc (evalEach es X.env)) (EP X pins σ Q) X.xe s
theorem yP:QF X [] []:=⟨fun pins s σ H acc Q I ha h=>joinParts_nil ⟨.str acc,H,I.tok _,⟨_,rfl⟩,h⟩ (b8 ha)⟩
theorem vk {e:Expr}{es:List Expr}{te:TE}{ts:List TE}{p1:Pos}(he:QE X e te)(hr:QF X es ts):QF X (.FormattedValue e (-1) none p1::es) (te::ts):=⟨by
 intro pins s σ H acc Q I ha h
 refine joinParts_cons (FormattedValue_plain (G3 (he.r pins s σ H _ I h) fun u s1 ⟨v,H1,I1,r,y,ev,hl,q⟩=>?_))
 subst ev
 obtain⟨t,rfl⟩:=(show ∃t,u=Value.str y t from r)
 have hy:y.length≤1000:=by rw[strLen_append] at hl;omega
 refine formatField_str (fun t' tk=>?_) (b8 hy)
 exact⟨b8 hl,hr.r pins {s1 with toks:=tk} σ H1 (acc++y) Q (I1.tok tk) hl q⟩⟩
theorem wF {c:Str}{es:List Expr}{ts:List TE}{p2:Pos}{j}(hr:QF X es ts):QF X (.Constant (.str c) j p2::es) (tC (.str c)::ts):=⟨by
 intro pins s σ H acc Q I ha h
 refine joinParts_cons (G3 ((A5 (X:=X) (x:=c) (j:=j) (pos:=p2)).r pins s σ H (fun v H1=>∃y:Str,v= .str y∧(acc++y).length≤1000∧tQ ts (acc++y) σ H1 Q) I h) fun u s1 ⟨v,H1,I1,r,y,ev,hl,q⟩=>?_)
 subst ev
 obtain⟨t,rfl⟩:=(show ∃t,u=Value.str y t from r)
 exact⟨b8 hl,hr.r pins s1 σ H1 (acc++y) Q I1 hl q⟩⟩
theorem yO {v₁ v₂:Expr}{R0:List Expr}{ts:List TE}{pos:Pos}(h:QF X (v₁::v₂::R0) ts):QE X (.JoinedStr (v₁::v₂::R0) pos) (tQ ts Str.empty):=⟨by
 intro pins s σ H Q I q
 exact JoinedStr_many (h.r pins s σ H Str.empty Q I (by decide) q)⟩
end
end L2
set_option Elab.async false
set_option linter.all false
set_option maxRecDepth 100000
set_option maxHeartbeats 1000000
namespace K72
open PySem PySem.Spec PyProof.Rows L2
def az (i:Nat):Stmt:=PySem.Challenge.pw_gluework_k72_rules_written.main.body.getD i (.Pass ⟨0,0,0,0⟩)
abbrev C9:Stmt:=az 8
theorem sc_is_text_of:i9 ["thing","signs","most"] ["thing","signs","most"] (b0 C9):=⟨rfl,rfl,rfl,by decide+kernel,rfl,by decide+kernel,by decide+kernel⟩
abbrev N4:Stmt:=az 9
theorem sc_is_name:i9 ["thing"] ["thing"] (b0 N4):=⟨rfl,rfl,rfl,by decide+kernel,rfl,by decide+kernel,by decide+kernel⟩
abbrev N2:Stmt:=az 10
theorem sc_is_kind:i9 ["thing"] ["thing"] (b0 N2):=⟨rfl,rfl,rfl,by decide+kernel,rfl,by decide+kernel,by decide+kernel⟩
abbrev U1:Stmt:=az 11
theorem sc_is_tie:i9 ["thing","points"] ["thing","points"] (b0 U1):=⟨rfl,rfl,rfl,by decide+kernel,rfl,by decide+kernel,by decide+kernel⟩
abbrev V2:Stmt:=az 12
theorem sc_is_web:i9 ["thing","points","ties"] ["thing"] (b0 V2):=⟨rfl,rfl,rfl,by decide+kernel,rfl,by decide+kernel,by decide+kernel⟩
abbrev K9:Stmt:=az 13
theorem sc_in_order:i9 ["named"] ["named"] (b0 K9):=⟨rfl,rfl,rfl,by decide+kernel,rfl,by decide+kernel,by decide+kernel⟩
abbrev U5:Stmt:=az 14
theorem sc_copied:i9 ["web"] ["web"] (b0 U5):=⟨rfl,rfl,rfl,by decide+kernel,rfl,by decide+kernel,by decide+kernel⟩
abbrev T9:Stmt:=az 15
theorem sc_things:i9 ["web"] ["web"] (b0 T9):=⟨rfl,rfl,rfl,by decide+kernel,rfl,by decide+kernel,by decide+kernel⟩
abbrev N6:Stmt:=az 16
theorem sc_is_part:i9 ["web","other"] ["web","other"] (b0 N6):=⟨rfl,rfl,rfl,by decide+kernel,rfl,by decide+kernel,by decide+kernel⟩
abbrev K8:Stmt:=az 21
theorem sc_is_piece:i9 ["thing","most"] ["thing","most"] (b0 K8):=⟨rfl,rfl,rfl,by decide+kernel,rfl,by decide+kernel,by decide+kernel⟩
abbrev N7:Stmt:=az 22
theorem sc_is_same:i9 ["name","left","right"] ["name","left","right"] (b0 N7):=⟨rfl,rfl,rfl,by decide+kernel,rfl,by decide+kernel,by decide+kernel⟩
abbrev bD:Stmt:=az 23
theorem sc_both:i9 ["web","other"] ["web","other"] (b0 bD):=⟨rfl,rfl,rfl,by decide+kernel,rfl,by decide+kernel,by decide+kernel⟩
abbrev N3:Stmt:=az 24
theorem sc_is_rule:i9 ["thing","left","right","bars"] ["thing"] (b0 N3):=⟨rfl,rfl,rfl,by decide+kernel,rfl,by decide+kernel,by decide+kernel⟩
abbrev V5:Stmt:=az 29
theorem sc_joined:i9 ["texts"] ["texts"] (b0 V5):=⟨rfl,rfl,rfl,by decide+kernel,rfl,by decide+kernel,by decide+kernel⟩
abbrev B5:Stmt:=az 30
theorem sc_point_shown:i9 ["name","kind"] ["name","kind"] (b0 B5):=⟨rfl,rfl,rfl,by decide+kernel,rfl,by decide+kernel,by decide+kernel⟩
abbrev G8:Stmt:=az 31
theorem sc_tie_shown:i9 ["name","tie","kind","start","end"] ["name","tie"] (b0 G8):=⟨rfl,rfl,rfl,by decide+kernel,rfl,by decide+kernel,by decide+kernel⟩
abbrev G7:Stmt:=az 32
theorem sc_web_shown:i9 ["web","points"] ["web"] (b0 G7):=⟨rfl,rfl,rfl,by decide+kernel,rfl,by decide+kernel,by decide+kernel⟩
abbrev D7:Stmt:=az 33
theorem sc_rule_shown:i9 ["rule","sides"] ["rule"] (b0 D7):=⟨rfl,rfl,rfl,by decide+kernel,rfl,by decide+kernel,by decide+kernel⟩
abbrev B1:Stmt:=az 34
theorem sc_match_shown:i9 ["piece","match"] ["piece","match"] (b0 B1):=⟨rfl,rfl,rfl,by decide+kernel,rfl,by decide+kernel,by decide+kernel⟩
abbrev D1:Stmt:=az 35
theorem sc_thing_read:i9 ["text","named","told","ends"] ["text"] (b0 D1):=⟨rfl,rfl,rfl,by decide+kernel,rfl,by decide+kernel,by decide+kernel⟩
abbrev B7:Stmt:=az 36
theorem sc_things_read:i9 ["text"] ["text"] (b0 B7):=⟨rfl,rfl,rfl,by decide+kernel,rfl,by decide+kernel,by decide+kernel⟩
abbrev L5:Stmt:=az 37
theorem sc_web_read:i9 ["text","told","points","ties"] ["text"] (b0 L5):=⟨rfl,rfl,rfl,by decide+kernel,rfl,by decide+kernel,by decide+kernel⟩
abbrev G5:Stmt:=az 38
theorem sc_rule_read:i9 ["text","sides","behind","rule"] ["text"] (b0 G5):=⟨rfl,rfl,rfl,by decide+kernel,rfl,by decide+kernel,by decide+kernel⟩
abbrev E5:Stmt:=az 40
theorem sc__law_mixed:i9 ["_law_cell","_law_k","_law_number"] ["_law_cell","_law_k"] (b0 E5):=⟨rfl,rfl,rfl,by decide+kernel,rfl,by decide+kernel,by decide+kernel⟩
abbrev E3:Stmt:=az 41
theorem sc__law_names:i9 ["_law_cell","_law_many","_law_letters","_law_signs","_law_base","_law_k","_law_at"] ["_law_cell","_law_many"] (b0 E3):=⟨rfl,rfl,rfl,by decide+kernel,rfl,by decide+kernel,by decide+kernel⟩
abbrev C6:Stmt:=az 42
theorem sc__law_kinds:i9 ["_law_cell","_law_letters","_law_sign","_law_other","_law_many"] ["_law_cell"] (b0 C6):=⟨rfl,rfl,rfl,by decide+kernel,rfl,by decide+kernel,by decide+kernel⟩
abbrev C7:Stmt:=az 43
theorem sc__law_words:i9 ["_law_cell","_law_many","_law_letters","_law_base","_law_k","_law_at"] ["_law_cell","_law_many"] (b0 C7):=⟨rfl,rfl,rfl,by decide+kernel,rfl,by decide+kernel,by decide+kernel⟩
abbrev E2:Stmt:=az 44
theorem sc__law_piece:i9 ["_law_points","_law_ties","_law_words_here","_law_kinds_here","_law_cell","_law_k","_law_some","_law_one","_law_other"] ["_law_points","_law_ties","_law_words_here","_law_kinds_here","_law_cell"] (b0 E2):=⟨rfl,rfl,rfl,by decide+kernel,rfl,by decide+kernel,by decide+kernel⟩
abbrev I0:Stmt:=az 45
theorem sc__law_rule:i9 ["_law_cell","_law_kinds_here","_law_most","_law_words_here","_law_left","_law_points","_law_ties","_law_k","_law_name","_law_right","_law_bars","_law_some"] ["_law_cell","_law_kinds_here","_law_most"] (b0 I0):=⟨rfl,rfl,rfl,by decide+kernel,rfl,by decide+kernel,by decide+kernel⟩
abbrev D4:Stmt:=az 46
theorem sc__law_shown:i9 ["_law_web","_law_words_here","_law_name","_law_kind","_law_one","_law_other"] ["_law_web"] (b0 D4):=⟨rfl,rfl,rfl,by decide+kernel,rfl,by decide+kernel,by decide+kernel⟩
abbrev I9:Stmt:=az 47
theorem sc__law_kept:i9 ["_law_rule_here"] ["_law_rule_here"] (b0 I9):=⟨rfl,rfl,rfl,by decide+kernel,rfl,by decide+kernel,by decide+kernel⟩
abbrev D9:Stmt:=az 48
theorem sc__law_match:i9 ["_law_left","_law_cell","_law_names_here","_law_match_here","_law_name","_law_other"] ["_law_left","_law_cell"] (b0 D9):=⟨rfl,rfl,rfl,by decide+kernel,rfl,by decide+kernel,by decide+kernel⟩
abbrev bq:Stmt:=az 49
theorem sc_law:i9 ["_law_script","_law_cell","_law_rule_here","_law_held","_law_text","_law_found","_law_told","_law_match_here","_law_words_here","_law_due"] ["_law_script"] (b0 bq):=⟨rfl,rfl,rfl,by decide+kernel,rfl,by decide+kernel,by decide+kernel⟩
abbrev Y2:Str:="abcdefghijklmnopqrstuvwxyz"
abbrev bc:Str:="abcdefghijklmnopqrstuvwxyz0123456789."
abbrev ai:Str:="-"
structure Txt (K:PySem.W.Frag) (mg:Str→Option Value):Prop where
 r_NoText:ExC K mg "NoText" (cA K "NoText")
 b_all:mg "all"=none
 b_dict:mg "dict"=none
 b_enumerate:mg "enumerate"=none
 b_isinstance:mg "isinstance"=none
 b_len:mg "len"=none
 b_list:mg "list"=none
 b_range:mg "range"=none
 b_sorted:mg "sorted"=none
 b_str:mg "str"=none
 b_tuple:mg "tuple"=none
 b_zip:mg "zip"=none
 c_MOST_BARS:mx mg "MOST_BARS" (.int 3)
 c_MOST_IN_BAR:mx mg "MOST_IN_BAR" (.int 6)
 c_MOST_IN_SIDE:mx mg "MOST_IN_SIDE" (.int 4)
 c_MOST_KIND_SIGNS:mx mg "MOST_KIND_SIGNS" (.int 8)
 c_MOST_NAME_SIGNS:mx mg "MOST_NAME_SIGNS" (.int 24)
 c_MOST_POINTS:mx mg "MOST_POINTS" (.int 40)
 c_MOST_TIES:mx mg "MOST_TIES" (.int 60)
 c_NAME_SIGNS:mx mg "NAME_SIGNS" (.str bc)
 c_NOTHING:mx mg "NOTHING" (.str ai)
 c_SMALL_LETTERS:mx mg "SMALL_LETTERS" (.str Y2)
abbrev kSL:Str:="abcdefghijklmnopqrstuvwxyz"
abbrev kNS:Str:="abcdefghijklmnopqrstuvwxyz0123456789."
def A9 (x signs:Str):Bool:=x.cps.toList.all fun c=>decide (c∈signs.cps.toList)
def C1 (x signs:Str)(most:Int):Bool:=decide (1≤(x.length:Int))&&decide ((x.length:Int)≤most)&&A9 x signs
def nz (x signs:Str):Bool:=decide (x.cps.toList.headD 0∈signs.cps.toList)
def u6 (x:Str):Bool:=C1 x kNS 24&&nz x kSL
def A0 (x:Str):Bool:=C1 x kSL 8
def NoTxt (K:PySem.W.Frag)(H:Hp)(v:V):Prop:=∃t,TyB K H v t∧t≠"str"
theorem NoTxt.mono {K:PySem.W.Frag}{H H':Hp}{v:V}(h:NoTxt K H v)(s:Same H H'):NoTxt K H' v:=by
 obtain⟨t,ty,ht⟩:=h
 exact⟨t,ty.mono s,ht⟩
def nK (K:PySem.W.Frag)(f:Str→Bool)(v:V)(H:Hp)(Q:VK):Prop:=
 (∃x,v= .str x∧x.length≤1000∧∀H',Same H H'→Q (.bl (f x)) H')∨(NoTxt K H v∧∀H',Same H H'→Q (.bl false) H')
def L8 (K:PySem.W.Frag):Sp:=fun vs H Q _=>∃v signs most,vs=[v,.str signs,.int most]∧nK K (fun x=>C1 x signs most) v H Q
def W6 (K:PySem.W.Frag):Sp:=fun vs H Q _=>∃v,vs=[v]∧nK K u6 v H Q
def O8 (K:PySem.W.Frag):Sp:=fun vs H Q _=>∃v,vs=[v]∧nK K A0 v H Q
def B0 (K:PySem.W.Frag):Sp:=fun vs H Q _=>∃c k:Int,vs=[.int c,.int k]∧0≤k∧k≤1000∧∀m:Int,0≤m→Q (.int m) H
def uH (H:Hp)(Q:VK)(P:List Str→Prop):Prop:=∀(p:Addr) (H':Hp) (ss:List Str),H p=none→Same H H'→H' p=some (.lst (ss.map V.str))→P ss→Q (.ref p) H'
def i6 (W:E4):List Str:=W.pts.map (·.1)++W.ts.map (·.1)
structure WebIs (n:Nat) (K:PySem.W.Frag) (H:Hp) (a p q:Addr) (kvs:List (g7×V)) (W:E4):Prop where
 at_:WebAt K H a p q kvs W
 hp:H p=some (.dK (C0 W.pts))
 hq:H q=some (.dK kvs)
 ne:p≠q
 nd:(i6 W).Nodup
 len:(i6 W).length≤n
 ends:∀x∈W.ts,x.2.2.1∈W.pts.map (·.1)∧x.2.2.2∈W.pts.map (·.1)
 nl:∀x∈i6 W,x.length≤100
theorem WebIs.same {n:Nat}{K:PySem.W.Frag}{H H':Hp}{a p q:Addr}{kvs:List (g7×V)}{W:E4}(h:WebIs n K H a p q kvs W)(s:Same H H'):WebIs n K H' a p q kvs W:=⟨h.at_.mono s.le,s _ _ h.hp,s _ _ h.hq,h.ne,h.nd,h.len,h.ends,h.nl⟩
def T1 (K:PySem.W.Frag):Sp:=fun vs H Q _=>∃c n:Int,vs=[.int c,.int n]∧0≤n∧n≤24∧uH H Q fun ss=>ss.length=n.toNat∧ss.Nodup∧∀s∈ss,u6 s=true
def S0 (K:PySem.W.Frag):Sp:=fun vs H Q _=>∃c:Int,vs=[.int c]∧uH H Q fun ss=>ss.length=3∧∀s∈ss,A0 s=true
def fm (K:PySem.W.Frag):Sp:=fun vs H Q _=>∃(a:Addr) (ns:List Int),vs=[.ref a]∧SqL K H a (ns.map V.int)∧ns.length≤63∧∀H',Q (.bl true) H'
local macro_rules| `(tactic|walk_at "E")=> `(tactic|first
 |(with_reducible (first|refine wm ?_|refine qk ?_|refine xN ?_|refine qJ ?_|refine wN ?_|refine tI ?_|refine ze ?_|refine xO ?_|refine vq ?_|refine vY ?_|refine tN ?_|refine uT ?_|refine vQ ?_|refine tw ?_|refine yu ?_|refine qo ?_|refine lM ?_|refine uc ?_|refine xw ?_|refine xo ?_|refine ux ?_|refine yc ?_|refine vG ?_|refine vV ?_|refine wH ?_|refine ye ?_|refine so ?_|refine wL ?_|refine ve ?_|refine yB ?_|refine vy ?_|refine uC ?_|refine tm ?_|refine yE ?_|refine xX ?_|refine mP ?_|refine uy ?_|refine vC ?_|refine qr ?_|refine kX ?_|refine yG ?_|refine mY ?_|refine oN ?_|refine iq ?_|refine jG ?_|refine gv ?_|refine oU ?_|refine gu ?_|refine yH ?_|refine mU ?_|refine qu ?_|refine gf ?_|refine gn ?_|refine nB ?_|refine rz ?_|refine nv ?_|refine gh ?_|refine jR ?_|refine gr ?_|refine vz ?_|refine qf ?_|refine tF ?_|refine tV ?_|refine xj ?_|refine qd ?_|refine vi ?_|refine yt ?_|refine vA ?_|refine yk ?_|refine xm ?_|refine vE ?_|refine mS ?_|refine wK ?_|refine vW ?_|refine yf ?_|refine yz ?_|refine vJ ?_|refine vp ?_))
 |((with_reducible refine' xh ?h ?_);(case h=>rfl))
 |with_reducible refine ua _ ?_
 |((with_reducible refine' ll ?c ?_);(case c=>(unfold CMul;omega)))
 |((with_reducible refine' yY ?c ?_);(case c=>(first|omega|(dsimp only<;>omega)|(unfold CMul;omega)|(unfold wy;omega)|(unfold xi;decide)|exact Int.pow_pos (by decide)))))
local macro_rules| `(tactic|walk_at "R")=> `(tactic|first|with_reducible refine eL ?_|with_reducible refine xq ?_|walk_at "E")
local macro_rules| `(tactic|walk_at "r")=> `(tactic|repeat walk_at "R")
local macro_rules| `(tactic|walk_at "e")=> `(tactic|repeat walk_at "E")
local macro_rules| `(tactic|walk_at "l")=> `(tactic|first|exact Or.inl rfl|exact Or.inr rfl)
section
variable {P:Program} {w:World} {K:PySem.W.Frag} {mg:Str→Option Value} {base:Heap}
theorem aX (c:Array Nat):∀(n:Nat) (a:Array Nat),((List.replicate n c).foldl (·++·) a).size=a.size+n*c.size
 |0,a=>by simp
 |n+1,a=>by
  rw[List.replicate_succ,List.foldl_cons,aX c n,Array.size_append,Nat.add_mul];omega
theorem kE (ch:Nat)(n:Int)(h:n≤60):(Txt.mul ⟨#[ch]⟩ n).length≤60:=by
 unfold Txt.mul
 split
 ·show 0≤60
  omega
 ·split
  ·show 1≤60
   omega
  ·show((List.replicate n.toNat (#[ch]:Array Nat)).foldl (·++·) #[]).size≤60
   rw[aX]
   simp
   omega
def Q1 (i:Int):Nat:=("abcdefghijklmnopqrstuvwxyz":Str).cps.toList.getD i.toNat 0
theorem aN (i:Int)(h0:0≤i)(h1:i<26):fv ("abcdefghijklmnopqrstuvwxyz":Str).cps.toList i=some (Q1 i):=by
 have hl:("abcdefghijklmnopqrstuvwxyz":Str).cps.toList.length=26:=by decide+kernel
 obtain⟨v,hv,hv2⟩:=jb (xs:=("abcdefghijklmnopqrstuvwxyz":Str).cps.toList) h0 (by rw[hl];exact h1)
 rw[hv]
 unfold Q1
 rw[List.getD_eq_getElem?_getD,hv2];rfl
theorem nc:∀i j:Nat,i<26→j<26→Q1 i=Q1 j→i=j:=by
 have h:∀i,i<26→∀j,j<26→Q1 (i:Nat)=Q1 (j:Nat)→i=j:=by decide+kernel
 exact fun i j hi hj=>h i hi j hj
theorem rC {x y:Str}{c d:Nat}(h:x++(⟨#[c]⟩:Str)++y=x++(⟨#[d]⟩:Str)++y):c=d:=by
 have h':(x.cps++ #[c]++y.cps)=(x.cps++ #[d]++y.cps):=congrArg Str.cps h
 have h2:=congrArg Array.toList h'
 simpa using h2
theorem dC {f:Nat→Str}:∀{n:Nat},(∀i j,i<n→j<n→f i=f j→i=j)→((List.range n).map f).Nodup
 |0,_=>List.nodup_nil
 |n+1,h=>by
  rw[List.range_succ,List.map_append]
  refine cz (dC fun i j hi hj=>h i j (by omega) (by omega)) fun m=>?_
  obtain⟨i,hi,e⟩:=List.mem_map.mp m
  have hi':=List.mem_range.mp hi
  have z:=h i n (by omega) (by omega) e
  omega
def jc (c:Int)(k:Nat):Str:=Txt.mul ⟨#[Q1 (c/4 % 26)]⟩ (0+(k:Int)+1)
def dg (b:Str)(at_ c:Int)(k:Nat):Str:=Txt.slice b none (some at_)++(⟨#[Q1 ((0+(k:Int)+c/4) % 26)]⟩:Str)++Txt.slice b (some at_) none
theorem dH (c:Int)(k:Nat):(jc c k).length=k+1:=by
 unfold jc Txt.mul
 rw[if_neg (by omega)]
 split
 ·next h=>
  have hl:(⟨#[Q1 (c/4 % 26)]⟩:Str).length=1:=rfl
  have h':(k:Int)+1=1:=by simpa [hl] using h
  show 1=k+1
  omega
 ·show((List.replicate (0+(k:Int)+1).toNat (#[Q1 (c/4 % 26)]:Array Nat)).foldl (·++·) #[]).size=k+1
  rw[aX]
  simp
theorem qP (c:Int)(n:Nat):((List.range n).map (jc c)).Nodup:=dC fun i j _ _ e=>by
 have z:=congrArg Str.length e
 rw[dH,dH] at z;omega
theorem jO (b:Str)(at_ c:Int)(n:Nat)(hn:n≤26):((List.range n).map (dg b at_ c)).Nodup:=dC fun i j hi hj e=>by
 have z:=rC e
 have e1:(0+(i:Int)+c/4) % 26=(((0+(i:Int)+c/4) % 26).toNat:Int):=by omega
 have e2:(0+(j:Int)+c/4) % 26=(((0+(j:Int)+c/4) % 26).toNat:Int):=by omega
 rw[e1,e2] at z
 have z2:=nc _ _ (by omega) (by omega) z
 omega
theorem L4:("abcdefghijklmnopqrstuvwxyz":Str).length≤sizeLine:=by decide+kernel
theorem dN (ss:List Str):(ss.map V.str).all z9=true:=by
 rw[List.all_map,List.all_eq_true];intro _ _;rfl
theorem qW {K:PySem.W.Frag}{H:Hp}{d:Addr}{k1 k2 kv:_}{x:Str×J0}(h:H d=some (.dK k1))(t:TieAt K H kv x):TieAt K (n0 H d (.dK k2)) kv x:=by
 obtain⟨e,a,ea,s⟩:=t
 refine⟨e,a,ea,?_⟩
 rcases s with s|s
 ·refine .inl ?_
  by_cases z:a=d
  ·subst z
   rcases s with s|⟨_,s⟩<;>(rw[h] at s;cases s)
  ·unfold Rd
   rw[b9 z];exact s
 ·exact .inr s
theorem bY {H H1:Hp}{d:Addr}{o:HO}(s:Same H H1)(h:H d=none):Same H (n0 H1 d o):=fun b u e=>by
 rw[b9 (d8 e h)];exact s _ _ e
theorem bw {ss:List Str}{i:Int}(h0:0≤i)(h1:i<ss.length):∃x,fv (ss.map V.str) i=some (.str x)∧x∈ss:=by
 obtain⟨v,hv,hv2⟩:=jb (xs:=ss.map V.str) h0 (by rw[List.length_map];exact h1)
 rw[List.getElem?_map] at hv2
 obtain⟨x,hx,e⟩:=Option.map_eq_some_iff.mp hv2
 exact⟨x,by rw[hv,e],List.mem_of_getElem? hx⟩
theorem A3 {α:Type}(l:List (Str×α)):(l.map (·.1)).map (Sum.inr:Str→g7)=l.map fun x=>Sum.inr x.1:=by rw[List.map_map];rfl
theorem fD {l:List Str}{n:Str}(h:(Sum.inr n:g7)∈l.map (Sum.inr:Str→g7)):n∈l:=by
 obtain⟨x,hx,e⟩:=List.mem_map.mp h
 rw[←Sum.inr.inj e];exact hx
theorem aG {kvs:List (g7×V)}{k:g7}(h:k∉kvs.map (·.1)):r6 kvs k=none:=by
 cases e:r6 kvs k with
 |none=>rfl
 |some v=>exact absurd (kf e) h
theorem uQ {a:List (Str×Str)}{b:List (Str×J0)}{n:Str}{t:J0}(h:(a.map (·.1)++b.map (·.1)).Nodup)(f:n∉a.map (·.1)++b.map (·.1)):(a.map (·.1)++(b++[(n,t)]).map (·.1)).Nodup:=by
 rw[List.map_append,←List.append_assoc];exact cz h f
theorem um {a:List (Str×Str)}{b:List (Str×J0)}{n s:Str}(h:(a.map (·.1)++b.map (·.1)).Nodup)(f:n∉a.map (·.1)++b.map (·.1)):((a++[(n,s)]).map (·.1)++b.map (·.1)).Nodup:=by
 have z:=cz h f
 refine(List.Perm.nodup_iff ?_).mpr z
 rw[List.map_append,List.append_assoc,List.append_assoc]
 exact List.Perm.append_left _ List.perm_append_comm
theorem r9 {α β:Type}{F:α→β→Prop}:∀{l:List α} {m:List β} {a:α} {b:β},Paired F l m→F a b→Paired F (l++[a]) (m++[b])
 |_,_,_,_,.nil,h=> .cons h .nil
 |_,_,_,_,.cons r t,h=> .cons r (r9 t h)
theorem ba:∀{kvs:List (g7×V)} {kv:g7×V},(kvs.map (·.1)).Nodup→kv∈kvs→r6 kvs kv.1=some kv.2
 |p::r,kv,nd,h=>by
  have nd':=List.nodup_cons.mp (show(p.1::r.map (·.1)).Nodup from nd)
  rcases List.mem_cons.mp h with z|z
  ·rw[z];exact T2 rfl
  ·rw[U3 fun e=>nd'.1 (by rw[e];exact List.mem_map.mpr ⟨kv,z,rfl⟩)]
   exact ba nd'.2 z
theorem uv {kvs:List (g7×V)}{ss:List Str}(hk:kvs.map (·.1)=ss.map Sum.inr)(nd:(kvs.map (·.1)).Nodup):kvs=ss.map fun s=>(Sum.inr s,(r6 kvs (Sum.inr s:g7)).getD .non):=by
 have h1:kvs=kvs.map fun kv=>(kv.1,(r6 kvs kv.1).getD .non):=by
  have:∀kv∈kvs,kv=(kv.1,(r6 kvs kv.1).getD .non):=fun kv h=>by rw[ba nd h];rfl
  exact(List.map_id' kvs).symm.trans (List.map_congr_left this)
 have h2:(kvs.map fun kv=>(kv.1,(r6 kvs kv.1).getD V.non))=(kvs.map (·.1)).map fun k=>(k,(r6 kvs k).getD .non):=by rw[List.map_map];rfl
 rw[hk,List.map_map] at h2
 exact h1.trans h2
theorem gP:∀{r a:List (g7×V)},((a++r).map (·.1)).Nodup→r.foldl (fun a x=>P8 a x.1 x.2) a=a++r
 |[],a,_=>by simp
 |p::r,a,nd=>by
  rw[List.foldl_cons]
  have nd':((a++[p]++r).map (·.1)).Nodup:=by rw[List.append_assoc];exact nd
  have hf:p.1∉a.map (·.1):=fun m=>by
   rw[List.map_append] at nd
   exact(List.nodup_append.mp nd).2.2 p.1 m p.1 (by simp) rfl
  rw[cP p.2 (aG hf),gP (r:=r) (a:=a++[(p.1,p.2)]) nd',List.append_assoc];rfl
theorem cT {kvs:List (g7×V)}(nd:(kvs.map (·.1)).Nodup):eJ kvs=kvs:=by
 unfold eJ
 rw[gP (by simpa using nd)];rfl
theorem PrV.mono {K:PySem.W.Frag}{H H':Hp}{x:V}{kv:g7×V}(l:Le H H')(h:PrV K H x kv):PrV K H' x kv:=let ⟨t,e,s⟩:=h;⟨t,e,l.tup s⟩
theorem Q7 {α β:Type}{F:α→β→Prop}{l2 m:List α}(h:l2.Perm m):∀{r:List β},Paired F m r→∃r',Paired F l2 r'∧r'.Perm r:=by
 induction h with
 |nil=>intro r p;cases p;exact⟨[],.nil,.nil⟩
 |cons x _ ih=>
  intro r p
  cases p with
  |cons a b=>
   obtain⟨r',h1,h2⟩:=ih b
   exact⟨_::r',.cons a h1,h2.cons _⟩
 |swap x y l=>
  intro r p
  cases p with
  |cons a b=>
   cases b with
   |cons c d=>exact⟨_::_::_,.cons c (.cons a d),.swap _ _ _⟩
 |trans _ _ ih1 ih2=>
  intro r p
  obtain⟨r',h1,h2⟩:=ih2 p
  obtain⟨r'',h3,h4⟩:=ih1 h1
  exact⟨r'',h3,h4.trans h2⟩
theorem cY:∀pts:List (Str×Str),Paired (fun(kv:g7×V) (x:Str×Str)=>kv=(Sum.inr x.1,.str x.2)) (C0 pts) pts
 |[]=> .nil
 |x::r=> .cons rfl (cY r)
theorem dD:∀{kvs:List (g7×V)} {pts:List (Str×Str)},Paired (fun(kv:g7×V) (x:Str×Str)=>kv=(Sum.inr x.1,.str x.2)) kvs pts→kvs=C0 pts
 |_,_,.nil=>rfl
 |_,_,.cons e t=>by rw[e,dD t];rfl
theorem pC {kvs:List (g7×V)}{pts:List (Str×Str)}(h:kvs.Perm (C0 pts)):∃pts',kvs=C0 pts'∧pts'.Perm pts:=by
 obtain⟨r,h1,h2⟩:=Q7 h (cY pts)
 exact⟨r,dD h1,h2⟩
theorem A1 (pts:List (Str×Str)):(C0 pts).length=pts.length:=by unfold C0;rw[List.length_map]
theorem fg {pts:List (Str×Str)}{i:Nat}{kv:g7×V}(h:(C0 pts)[i]?=some kv):∃x,pts[i]?=some x∧kv=(Sum.inr x.1,.str x.2):=by
 unfold C0 at h
 rw[List.getElem?_map] at h
 obtain⟨x,hx,e⟩:=Option.map_eq_some_iff.mp h
 exact⟨x,hx,e.symm⟩
theorem aZ {D d:Addr}{kvs:List (g7×V)}{o:Obj}{u:HO}{H H1:Hp}(h:H d=some (.dK kvs))(s:Same (B9 d o kvs H) H1)(hD:H1 D=none):Same H (thaw d (n0 H1 D u)):=
 Same.thaw h fun b v z=>by rw[b9 (d8 (s _ _ z) hD)];exact s _ _ z
theorem fb {D d:Addr}{kvs:List (g7×V)}{o:Obj}{u:HO}{H H1:Hp}(s:Same (B9 d o kvs H) H1)(hD:H1 D=none):(thaw d (n0 H1 D u)) D=some u:=by
 have hDq:D≠d:=fun z=>by rw[z,s _ _ d9] at hD;cases hD
 rw[N0 hDq,d9]
theorem jZ {pts:List (Str×Str)}(h:(pts.map (·.1)).Nodup):((C0 pts).map (·.1)).Nodup:=by
 rw[P5,←A3]
 refine List.Pairwise.map _ ?_ h
 exact fun a b h z=>h (Sum.inr.inj z)
theorem C5 {α:Type}:∀{l:List (Str×α)} {n:Str} {x y:α},(l.map (·.1)).Nodup→(n,x)∈l→(n,y)∈l→x=y
 |p::r,n,x,y,nd,hx,hy=>by
  have nd':=List.nodup_cons.mp (show(p.1::r.map (·.1)).Nodup from nd)
  rcases List.mem_cons.mp hx with zx|zx
  ·rcases List.mem_cons.mp hy with zy|zy
   ·have:=zx.trans zy.symm
    exact(Prod.mk.inj this).2
   ·exact absurd (List.mem_map.mpr ⟨(n,y),zy,by rw[←zx]⟩) nd'.1
  ·rcases List.mem_cons.mp hy with zy|zy
   ·exact absurd (List.mem_map.mpr ⟨(n,x),zx,by rw[←zy]⟩) nd'.1
   ·exact C5 nd'.2 zx zy
theorem fP {K:PySem.W.Frag}{H:Hp}{kvs:List (g7×V)}{ts:List (Str×J0)}{n:Str}{t:J0}(w:TiesIs K H kvs ts)(nd:(ts.map (·.1)).Nodup)(h:(n,t)∈ts):∃a,r6 kvs (Sum.inr n:g7)=some (.ref a)∧SqT K H a (aw t):=by
 obtain⟨a,x,h1,h2,h3⟩:=TiesIs.val (ts:=ts) w (List.mem_map.mpr ⟨(n,t),h,rfl⟩)
 rw[C5 nd h h2];exact⟨a,h1,h3⟩
theorem Y9 {pts:List (Str×Str)}{n k:Str}(nd:(pts.map (·.1)).Nodup)(h:(n,k)∈pts):r6 (C0 pts) (Sum.inr n:g7)=some (.str k):=
 ba (kv:=(Sum.inr n,.str k)) (jZ nd) (List.mem_map.mpr ⟨(n,k),h,rfl⟩)
theorem rq {K:PySem.W.Frag}{H:Hp}{kvs:List (g7×V)}{ts:List (Str×J0)}(w:TiesIs K H kvs ts)(h:(ts.map (·.1)).Nodup):(kvs.map (·.1)).Nodup:=by
 rw[w.keys,←A3]
 refine List.Pairwise.map _ ?_ h
 exact fun a b h z=>h (Sum.inr.inj z)
theorem gW {K:PySem.W.Frag}{H:Hp}{d:Addr}{k1 k2:List (g7×V)}{kvs:List (g7×V)}{ts:List (Str×J0)}(h:H d=some (.dK k1))(w:TiesIs K H kvs ts):TiesIs K (n0 H d (.dK k2)) kvs ts:=Paired.imp' (fun _ _ z=>qW h z) w
theorem X4 {pts:List (Str×Str)}{n:Str}:(r6 (C0 pts) (Sum.inr n:g7)).isSome=decide (n∈pts.map (·.1)):=by
 rw[←Z5,Bool.eq_iff_iff,List.any_eq_true,decide_eq_true_eq]
 constructor
 ·rintro⟨kv,hkv,e⟩
  obtain⟨x,hx,rfl⟩:=List.mem_map.mp hkv
  exact List.mem_map.mpr ⟨x,hx,Sum.inr.inj (of_decide_eq_true e)⟩
 ·intro m
  obtain⟨x,hx,rfl⟩:=List.mem_map.mp m
  exact⟨_,List.mem_map.mpr ⟨x,hx,rfl⟩,decide_eq_true rfl⟩
theorem bS {K:PySem.W.Frag}{H:Hp}{kvs:List (g7×V)}{ts:List (Str×J0)}{n:Str}(w:TiesIs K H kvs ts):(r6 kvs (Sum.inr n:g7)).isSome=decide (n∈ts.map (·.1)):=by
 by_cases hn:n∈ts.map (·.1)
 ·obtain⟨a,x,h1,_⟩:=TiesIs.val (ts:=ts) w hn
  rw[h1,decide_eq_true hn];rfl
 ·cases e:r6 kvs (Sum.inr n:g7) with
  |none=>simp [hn]
  |some v=>
   have z:=kf e
   rw[w.keys,←A3] at z
   exact absurd (fD z) hn
def TsOk (K:PySem.W.Frag)(H:Hp)(kvq:List (g7×V)):Prop:=∀kv∈kvq,∃x,TieAt K H kv x∧x.1.length≤100
theorem TsOk.mono {K:PySem.W.Frag}{H H':Hp}{kvq:List (g7×V)}(l:Le H H')(h:TsOk K H kvq):TsOk K H' kvq:=fun kv hk=>let ⟨x,e,z⟩:=h kv hk;⟨x,e.mono l,z⟩
theorem atI_last {α:Type}{xs:List α}(h:0<xs.length):∃v,fv xs (-1)=some v∧v∈xs:=by
 have e:pw xs.length (-1)=some (xs.length -1):=by
  unfold pw
  rw[if_neg (by omega),if_pos (by omega)]
  congr 1
  omega
 refine⟨xs[xs.length -1],?_,List.getElem_mem _⟩
 unfold fv
 rw[e]
 show xs[xs.length -1]?=_
 exact List.getElem?_eq_getElem (by omega)
theorem fK {K:PySem.W.Frag}{H:Hp}{kb:List (g7×V)}:∀{ka:List (g7×V)},(∀kv∈ka,∃y,r6 kb kv.1=some y∧Eq1 K H kv.2 y true)→EqH K H kb ka true
 |[],_=> .nil
 |kv::r,h=>by
  obtain⟨y,h1,h2⟩:=h kv List.mem_cons_self
  exact EqH.hit (e:=true) (b:=true) h1 h2 (fK fun x hx=>h x (List.mem_cons_of_mem _ hx))
theorem jN {K:PySem.W.Frag}{H:Hp}(s:Str):Eq1 K H (.str s) (.str s) true:=by
 have z:=Eq1.flat (K:=K) (H:=H) (x:= .str s) (y:= .str s) rfl rfl
 rw[gH rfl] at z;exact z
theorem ph {K:PySem.W.Frag}{H:Hp}{a b:Addr}{t:J0}(h:SqT K H a (aw t))(h':SqT K H b (aw t)):Eq1 K H (.ref a) (.ref b) true:=by
 have z:=Eq1.tup h h' rfl rfl
 rw[bT rfl] at z;exact z
theorem qQ {K:PySem.W.Frag}{H:Hp}{p p':Addr}{pts pts':List (Str×Str)}(hne:p≠p')(h1:Rd H p (.dK (C0 pts)))(h2:Rd H p' (.dK (C0 pts')))(pm:pts.Perm pts')(nd:(pts'.map (·.1)).Nodup):EqD K H p p' true:=
 .inr ⟨hne,_,_,true,h1,h2,fK fun kv hkv=>by
  obtain⟨x,hx,rfl⟩:=List.mem_map.mp hkv
  exact⟨_,Y9 nd (pm.mem_iff.mp hx),jN _⟩,by rw[A1,A1,pm.length_eq];simp⟩
theorem oD {K:PySem.W.Frag}{H:Hp}{q q':Addr}{kvs kvs':List (g7×V)}{ts ts':List (Str×J0)}(hne:q≠q')(h1:Rd H q (.dK kvs))(h2:Rd H q' (.dK kvs'))(w:TiesIs K H kvs ts)(w':TiesIs K H kvs' ts')(pm:ts.Perm ts')(nd:(ts'.map (·.1)).Nodup):EqD K H q q' true:=
 .inr ⟨hne,_,_,true,h1,h2,fK fun kv hkv=>by
  obtain⟨i,hi⟩:=List.getElem?_of_mem hkv
  obtain⟨x,hx,ex,b,eb,sb⟩:=w.get hi
  obtain⟨c,e1,e2⟩:=fP w' nd (pm.mem_iff.mp (List.mem_of_getElem? hx))
  refine⟨.ref c,by rw[ex];exact e1,?_⟩
  rw[eb];exact ph sb e2,by rw[w.length,w'.length,pm.length_eq];simp⟩
theorem kF:∀{kvs:List (g7×V)} {k:g7} {v:V},r6 kvs k=some v→(k,v)∈kvs
 |p::r,k,v,h=>by
  by_cases e:p.1=k
  ·rw[T2 e] at h
   rw[←e,←Option.some.inj h];exact List.mem_cons_self
  ·rw[U3 e] at h
   exact List.mem_cons_of_mem _ (kF h)
theorem oy (a b:J0):Q0 (aw a) (aw b)=decide (a=b):=by
 obtain⟨a1,a2,a3⟩:=a
 obtain⟨b1,b2,b3⟩:=b
 show(a1==b1&&(a2==b2&&(a3==b3&&true)))=_
 rw[Bool.eq_iff_iff]
 simp
theorem ic (a:J0):(aw a).all z9=true:=rfl
theorem eU {pts:List (Str×Str)}{n:Str}{v:V}(h:r6 (C0 pts) (Sum.inr n:g7)=some v):∃k,v= .str k∧(n,k)∈pts:=by
 obtain⟨x,hx,e⟩:=List.mem_map.mp (kF h)
 obtain⟨x1,x2⟩:=x
 have e1:=(Prod.mk.inj e).1
 have e2:=(Prod.mk.inj e).2
 exact⟨x2,e2.symm,by rw[←Sum.inr.inj e1];exact hx⟩
theorem rT {H:Hp}{Q:VK}{pts:List (Str×Str)}{m k:Str}(nd:(pts.map (·.1)).Nodup)(q:Q (.bl (decide ((m,k)∈pts))) H):aD K ((r6 (C0 pts) (Sum.inr m:g7)).getD .non) (.str k) H Q:=by
 cases e:r6 (C0 pts) (Sum.inr m:g7) with
 |none=>
  refine gB (fQ ?_)
  rw[decide_eq_false (fun z=>by rw[Y9 nd z] at e;cases e)] at q;exact q
 |some v=>
  obtain⟨k2,rfl,hk⟩:=eU e
  refine gf ?_
  have:decide (k2=k)=decide ((m,k)∈pts):=by
   rw[Bool.eq_iff_iff,decide_eq_true_eq,decide_eq_true_eq]
   exact⟨fun z=>z▸hk,fun z=>C5 nd hk z⟩
  rw[this];exact q
theorem nj {H:Hp}{Q:VK}{kvs:List (g7×V)}{ts:List (Str×J0)}{m:Str}{y:J0}{l:Addr}(w:TiesIs K H kvs ts)(nd:(ts.map (·.1)).Nodup)(hl:SqT K H l (aw y))(q:Q (.bl (decide ((m,y)∈ts))) H):aD K ((r6 kvs (Sum.inr m:g7)).getD .non) (.ref l) H Q:=by
 by_cases hm:m∈ts.map (·.1)
 ·obtain⟨a,x,h1,h2,h3⟩:=TiesIs.val (ts:=ts) w hm
  rw[h1]
  refine gB (nR h3 hl (ic _) (ic _) ?_)
  rw[oy]
  have:decide (x=y)=decide ((m,y)∈ts):=by
   rw[Bool.eq_iff_iff,decide_eq_true_eq,decide_eq_true_eq]
   exact⟨fun z=>z▸h2,fun z=>C5 nd h2 z⟩
  rw[this];exact q
 ·have e:r6 kvs (Sum.inr m:g7)=none:=by
   have z:=bS (n:=m) w
   rw[decide_eq_false hm] at z
   cases e:r6 kvs (Sum.inr m:g7) with
   |none=>rfl
   |some v=>rw[e] at z;cases z
  rw[e]
  refine gB (eT hl ?_)
  rw[decide_eq_false (fun z=>hm (List.mem_map.mpr ⟨_,z,rfl⟩))] at q;exact q
theorem O5 {W:E4}(h:(i6 W).Nodup):(W.pts.map (·.1)).Nodup:=(List.nodup_append.mp h).1
theorem aF {W:E4}(h:(i6 W).Nodup):(W.ts.map (·.1)).Nodup:=(List.nodup_append.mp h).2.1
theorem uS {t:String}(h:t≠"str"):Y3 t "str"=false:=by
 unfold Y3
 have e1:(t=="str")=false:=by simpa using h
 rw[e1]
 simp
theorem dY {f:Addr}{fd:FuncData}(T:Txt K mg)(F:Fun K "is_text_of" "is_text_of" C9 f fd):FnOk P w K mg base x6 1 f fd ["thing","signs","most"] (L8 K):=by
 refine F.ok sc_is_text_of (fun vs H Q E h=>?_) (fun cdv A outer s H vs Q E hr h=>?_)
 ·obtain⟨v,signs,most,rfl,_⟩:=h
  rfl
 ·obtain⟨v,signs,most,rfl,h⟩:=h
  have hN:=sc_is_text_of.nd
  have hu:=x8 hr
  refine⟨_,QSs.r (z7 (aO (iW (W9 (E8 (A8 K (qB (Q4 K P w) T.b_isinstance Boot.«isinstance» (g0 (qV 0) (g0 (kx "str" T.b_str Boot.«str») j0))))) (W9 (z6 iO (qB (E6 K P w) T.b_len Boot.«len» (g0 (qV 0) j0)) d0 (j8 _)) (U8 (z6 cZ (qB (E6 K P w) T.b_len Boot.«len» (g0 (qV 0) j0)) (qV 2) (j8 _)))))) (B8 (x5 jA)) aL)
   (B8 (x5 (qB (eW K rfl) T.b_all Boot.«all» (g0 (C2 (own:=["sign"]) (js:=[1]) (by kernel_rfl) rfl (P9 K (qV 0)) (fun _ _ _ _=>(P0 (i:=0) (show List.Nodup (["sign","signs"]:List Str) by decide+kernel) rfl (by walk_at "l"))) (fun _ _ _ _=>O2) (fun _ _ _ _=>(hX (kIn K hu) (qV 0) (qV 1) (by rfl)))) j0))))),?_⟩
  rcases h with⟨x,rfl,hx,k⟩|⟨⟨t,ty,ht⟩,k⟩
  ·walk_at "r"
   refine M3 (M5 (t:="str") rfl (by simp) ?_)
   walk_at "r"
   rw[if_neg (by decide)]
   walk_at "r"
   refine E7 (ak (b8 hx) ?_)
   walk_at "r"
   refine bj (fun h1=>?_) (fun h1=>?_)
   ·walk_at "r"
    have e:C1 x signs most=false:=by
     unfold C1
     rw[decide_eq_false (by omega)];rfl
    rw[←e];exact k H (Same.refl H)
   ·walk_at "r"
    refine E7 (ak (b8 hx) ?_)
    walk_at "r"
    refine bj (fun h2=>?_) (fun h2=>?_)
    ·walk_at "r"
     have e:C1 x signs most=false:=by
      unfold C1
      rw[decide_eq_false (show ¬((x.length:Int)≤most) by omega)];simp
     rw[←e];exact k H (Same.refl H)
    ·walk_at "r"
     refine j4 (n:=x.cps.size) (fun i out H'=>H'=H∧out=(x.cps.toList.take i).map fun c=>V.bl (decide (c∈signs.cps.toList))) ⟨rfl,rfl⟩ (fun i out H' hi _=>by exact hi) ?_ ?_
     ·rintro N i v out H1 H2 hi ⟨rfl,rfl⟩ y hN
      obtain⟨rfl,c,hc,rfl⟩:=Its.lt y
      walk_at "r"
      refine⟨rfl,?_⟩
      walk_at "r"
      refine⟨b8 (by rw[List.length_map,List.length_take,←fo];omega),hN _ _ ⟨rfl,?_⟩⟩
      exact ei (fun c=>V.bl (decide (c∈signs.cps.toList))) hc
     ·rintro out H1 ⟨rfl,rfl⟩
      refine⟨Nat.le_refl _,fun D hD=>⟨b8 (by rw[List.length_map,List.length_take,←fo];omega),?_⟩⟩
      walk_at "r"
      refine aW (bs:=x.cps.toList.map fun c=>decide (c∈signs.cps.toList)) (SqL.of ?_) ?_
      ·show n0 H1 D _ D=_
       rw[d9,List.take_of_length_le (by simp),List.map_map];rfl
      ·have e:C1 x signs most=(x.cps.toList.map fun c=>decide (c∈signs.cps.toList)).all id:=by
        unfold C1 A9
        rw[decide_eq_true (show 1≤(x.length:Int) by omega),decide_eq_true (show(x.length:Int)≤most by omega),List.all_map];rfl
       rw[←e]
       exact k _ fun b o q=>by
        show n0 H1 D _ b=_
        rw[b9 (d8 q hD)];exact q
  ·walk_at "r"
   refine M3 (M5 ty (by simp) ?_)
   rw[uS ht]
   walk_at "r"
   exact k H (Same.refl H)
theorem nM {x:Str}(h:1≤(x.length:Int)):fv x.cps.toList 0=some (x.cps.toList.headD 0):=by
 refine b6 (j:=0) ?_
 have hl:=fo x
 cases e:x.cps.toList with
 |nil=>rw[e] at hl;simp at hl;omega
 |cons c r=>rfl
theorem jv {f:Addr}{fd:FuncData}(T:Txt K mg)(C8:A7 P w K mg base x6 1 "is_text_of" ["thing","signs","most"] [] (L8 K))(F:Fun K "is_name" "is_name" N4 f fd):FnOk P w K mg base x6 2 f fd ["thing"] (W6 K):=by
 refine F.ok sc_is_name (fun vs H Q E h=>?_) (fun cdv A outer s H vs Q E hr h=>?_)
 ·obtain⟨v,rfl,_⟩:=h
  rfl
 ·obtain⟨v,rfl,h⟩:=h
  have hN:=sc_is_name.nd
  have hu:=x8 hr
  refine⟨_,QSs.r (B8 (x5 (iw (qC C8 (hr.mono (by decide)) j1 (g0 (qV 0) (g0 (lR T.c_NAME_SIGNS) (g0 (lR T.c_MOST_NAME_SIGNS) j0)))) (lF (hX (kIn K hu) (u4 (u9 K hu) (qV 0) d0 (fun _ _=>rfl)) (lR T.c_SMALL_LETTERS) (by rfl)))))),?_⟩
  walk_at "r"
  refine⟨v,_,_,rfl,?_⟩
  rcases h with⟨x,rfl,hx,k⟩|⟨no,k⟩
  ·refine .inl ⟨x,rfl,hx,fun H' sm=>?_⟩
   walk_at "r"
   refine iE (fun e=>?_) (fun e=>?_)
   ·walk_at "r"
    have h1:1≤(x.length:Int):=by
     unfold C1 at e
     simp only[Bool.and_eq_true,decide_eq_true_eq] at e
     exact e.1.1
    refine K2 (b8 hx) (nM h1) ?_
    walk_at "r"
    have e2:u6 x=nz x kSL:=by
     unfold u6
     rw[show C1 x kNS 24=true from e,Bool.true_and]
    have q:=k H' sm
    rw[e2] at q
    exact q
   ·have e2:u6 x=false:=by
     unfold u6
     rw[show C1 x kNS 24=false from e,Bool.false_and]
    have q:=k H' sm
    rw[e2] at q
    exact q
  ·refine .inr ⟨no,fun H' sm=>?_⟩
   walk_at "r"
   exact k H' sm
theorem jf {f:Addr}{fd:FuncData}(T:Txt K mg)(C8:A7 P w K mg base x6 1 "is_text_of" ["thing","signs","most"] [] (L8 K))(F:Fun K "is_kind" "is_kind" N2 f fd):FnOk P w K mg base x6 2 f fd ["thing"] (O8 K):=by
 refine F.ok sc_is_kind (fun vs H Q E h=>?_) (fun cdv A outer s H vs Q E hr h=>?_)
 ·obtain⟨v,rfl,_⟩:=h
  rfl
 ·obtain⟨v,rfl,h⟩:=h
  have hN:=sc_is_kind.nd
  have hu:=x8 hr
  refine⟨_,QSs.r (B8 (x5 (qC C8 (hr.mono (by decide)) j1 (g0 (qV 0) (g0 (lR T.c_SMALL_LETTERS) (g0 (lR T.c_MOST_KIND_SIGNS) j0)))))),?_⟩
  walk_at "r"
  exact⟨v,_,_,rfl,h⟩
def rE (a b:Str):Prop:=a.cps.toList<b.cps.toList
theorem Z9:∀{ss:List Str},oF ss=true→ss.Pairwise rE
 |[],_=> .nil
 |[_],_=>List.pairwise_singleton _ _
 |x::y::r,h=>by
  rw[er,Bool.and_eq_true] at h
  have ih:=Z9 h.2
  have hxy:x.cps.toList<y.cps.toList:=of_decide_eq_true h.1
  refine List.pairwise_cons.mpr ⟨fun z hz=>?_,ih⟩
  rcases List.mem_cons.mp hz with e|e
  ·rw[e];exact hxy
  ·exact List.lt_trans hxy ((List.pairwise_cons.mp ih).1 z e)
theorem gk:∀{a b:List Str},a.Pairwise rE→b.Pairwise rE→a.Perm b→a=b
 |[],b,_,_,p=>(List.Perm.nil_eq p)
 |x::r,[],_,_,p=>(List.Perm.eq_nil p)
 |x::r,y::t,h1,h2,p=>by
  have h1':=List.pairwise_cons.mp h1
  have h2':=List.pairwise_cons.mp h2
  have e:x=y:=Classical.byContradiction fun ne=>by
   have m1:x∈y::t:=p.mem_iff.mp List.mem_cons_self
   have m2:y∈x::r:=p.mem_iff.mpr List.mem_cons_self
   rcases List.mem_cons.mp m1 with z|z
   ·exact ne z
   ·rcases List.mem_cons.mp m2 with z'|z'
    ·exact ne z'.symm
    ·have q1:y.cps.toList<x.cps.toList:=h2'.1 x z
     have q2:x.cps.toList<y.cps.toList:=h1'.1 y z'
     exact List.lt_asymm q1 q2
  subst e
  rw[gk h1'.2 h2'.2 (List.Perm.cons_inv p)]
theorem bZ {a b:List Str}(h1:sortedS a=true)(h2:sortedS b=true)(nd:a.Nodup)(p:a.Perm b):a=b:=
 gk (Z9 (aU h1 nd)) (Z9 (aU h2 (p.nodup_iff.mp nd))) p
structure Ordr (W:E4) (s1 s2:List Str):Prop where
 p1:s1.Perm (W.pts.map (·.1))
 p2:s2.Perm (W.ts.map (·.1))
 o1:sortedS s1=true
 o2:sortedS s2=true
theorem Ordr.mem {W:E4}{s1 s2:List Str}(h:Ordr W s1 s2){n:Str}:n∈s1++s2↔n∈i6 W:=by
 unfold i6
 rw[List.mem_append,List.mem_append,h.p1.mem_iff,h.p2.mem_iff]
theorem Ordr.perm {W:E4}{s1 s2:List Str}(h:Ordr W s1 s2):(s1++s2).Perm (i6 W):=h.p1.append h.p2
theorem Ordr.len {W:E4}{s1 s2:List Str}(h:Ordr W s1 s2):(s1++s2).length=(i6 W).length:=h.perm.length_eq
def kY (kvm:List (g7×V))(n:Str):Str:=match r6 kvm (Sum.inr n:g7) with
 |some (.str s)=>s
 |_=>""
theorem jJ {kvm:List (g7×V)}{n s:Str}(h:r6 kvm (Sum.inr n:g7)=some (.str s)):kY kvm n=s:=by unfold kY;rw[h]
def TxtAt (kvm:List (g7×V))(n:Str):Prop:=∃s,r6 kvm (Sum.inr n:g7)=some (.str s)
theorem TxtAt.at_ {kvm:List (g7×V)}{n:Str}(h:TxtAt kvm n):r6 kvm (Sum.inr n:g7)=some (.str (kY kvm n)):=by
 obtain⟨s,hs⟩:=h
 rw[jJ hs];exact hs
theorem yy {H:Hp}{Q:VK}{d:Addr}{kvm:List (g7×V)}{n:Str}(hD:Rd H d (.dK kvm))(h:TxtAt kvm n)(q:Q (.str (kY kvm n)) H):iZ K (.ref d) (.str n) H Q:=
 E9 (by have z:=V0 (k:=Sum.inr n) hD;rw[h.at_] at z;exact z) q
def U9 (K:PySem.W.Frag):Sp:=fun vs H Q _=>∃(a p q:Addr) (kvs:List (g7×V)) (W:E4),vs=[.ref a]∧WebAt K H a p q kvs W∧(i6 W).length≤60∧∀(l:Addr) (H':Hp) (s1 s2:List Str),H l=none→Same H H'→H' l=some (.lst ((s1++s2).map V.str))→Ordr W s1 s2→Q (.ref l) H'
theorem L9 (W:E4):(i6 W).length=W.pts.length+W.ts.length:=by unfold i6;rw[List.length_append,List.length_map,List.length_map]
theorem lH {f:Addr}{fd:FuncData}(T:Txt K mg)(F:Fun K "things" "things" T9 f fd):FnOk P w K mg base x6 1 f fd ["web"] (U9 K):=by
 refine F.ok sc_things (fun vs H Q E h=>?_) (fun cdv A outer s H vs Q E hr h=>?_)
 ·obtain⟨a,p,q,kvs,W,rfl,_⟩:=h
  rfl
 ·obtain⟨a,p,q,kvs,W,rfl,hW,h1,k⟩:=h
  rw[L9] at h1
  have hN:=sc_things.nd
  have hu:=x8 hr
  refine⟨_,QSs.r (B8 (x5 (q8 (q9 K) (qB (N1 K rfl) T.b_sorted Boot.«sorted» (g0 (u4 (u9 K hu) (qV 0) d0 (fun _ _=>rfl)) j0)) (qB (N1 K rfl) T.b_sorted Boot.«sorted» (g0 (u4 (u9 K hu) (qV 0) d0 (fun _ _=>rfl)) j0))))),?_⟩
  walk_at "r"
  refine b5 hW.tup (b6 (j:=0) rfl) ?_
  walk_at "r"
  refine x9 (ss:=W.pts.map (·.1)) hW.pts (by rw[P5,A3]) (by rw[List.length_map];omega) (fun s1 a1 a2 l1 n1=>?_)
  obtain⟨H1,e1,f1,m1,_⟩:=b7 (o:= .lst _) n1
  rw[e1]
  have W1:=hW.mono m1.le
  walk_at "r"
  refine b5 W1.tup (b6 (j:=1) rfl) ?_
  walk_at "r"
  refine x9 (ss:=W.ts.map (·.1)) W1.ties (by rw[W1.ts.keys,A3]) (by rw[List.length_map];omega) (fun s2 b1 b2 l2 n2=>?_)
  obtain⟨H2,e2,f2,m2,_⟩:=b7 (o:= .lst _) n2
  rw[e2]
  have g1:=a1.length_eq
  have g2:=b1.length_eq
  rw[List.length_map] at g1 g2
  refine cg (m2 _ _ f1) f2 (b8 (by rw[List.length_map,List.length_map];omega)) (fun l3 n3=>?_)
  obtain⟨H3,e3,f3,m3,_⟩:=b7 (o:= .lst _) n3
  rw[e3]
  refine k l3 H3 s1 s2 (m1.free (m2.free n3)) (m1.trans (m2.trans m3)) ?_ ⟨a1,b1,a2,b2⟩
  rw[f3,List.map_append]
def aa (K:PySem.W.Frag):Sp:=fun vs H Q _=>∃(d:Addr) (kvs:List (g7×V)) (ss:List Str),vs=[.ref d]∧Rd H d (.dK kvs)∧kvs.map (·.1)=ss.map Sum.inr∧ss.Nodup∧ss.length≤60∧∀(l:Addr) (H':Hp) (kvs':List (g7×V)),H l=none→Same H H'→H' l=some (.dK kvs')→kvs'.Perm kvs→Q (.ref l) H'
def wG (K:PySem.W.Frag)(H:Hp)(Q:VK)(W:E4):Prop:=∀(a p q:Addr) (kvs:List (g7×V)) (W':E4) (H':Hp),Same H H'→WebAt K H' a p q kvs W'→H' p=some (.dK (C0 W'.pts))→H' q=some (.dK kvs)→p≠q→H p=none→H q=none→W'.pts.Perm W.pts→W'.ts.Perm W.ts→Q (.ref a) H'
def bR (K:PySem.W.Frag):Sp:=fun vs H Q _=>∃(a p q:Addr) (kvs:List (g7×V)) (W:E4),vs=[.ref a]∧WebAt K H a p q kvs W∧(W.pts.map (·.1)).Nodup∧(W.ts.map (·.1)).Nodup∧W.pts.length≤60∧W.ts.length≤60∧wG K H Q W
theorem hJ {f:Addr}{fd:FuncData}(T:Txt K mg)(F:Fun K "in_order" "in_order" K9 f fd):FnOk P w K mg base x6 1 f fd ["named"] (aa K):=by
 refine F.ok sc_in_order (fun vs H Q E h=>?_) (fun cdv A outer s H vs Q E hr h=>?_)
 ·obtain⟨d,kvs,ss,rfl,_⟩:=h
  rfl
 ·obtain⟨d,kvs,ss,rfl,hd,hk,hnd,hl,k⟩:=h
  have nd:(kvs.map (·.1)).Nodup:=by
   rw[hk]
   refine List.Pairwise.map _ ?_ hnd
   exact fun a b h z=>h (Sum.inr.inj z)
  have hN:=sc_in_order.nd
  have hu:=x8 hr
  refine⟨_,QSs.r (B8 (x5 (nC (bV K rfl) T.b_dict Boot.«dict» (g0 (C2 (own:=["name"]) (js:=[0]) (by kernel_rfl) rfl (P9 K (qB (N1 K rfl) T.b_sorted Boot.«sorted» (g0 (qV 0) j0))) (fun _ _ _ _=>(P0 (i:=0) (show List.Nodup (["name","named"]:List Str) by decide+kernel) rfl (by walk_at "l"))) (fun _ _ _ _=>O2) (fun _ _ _ _=>(cm (g0 (qV 0) (g0 (u4 (u9 K hu) (qV 1) (qV 0) (fun _ _=>rfl)) j0))))) j0)))),?_⟩
  walk_at "r"
  refine x9 (ss:=ss) hd hk (by omega) (fun s1 a1 a2 l1 n1=>?_)
  obtain⟨H1,e1,f1,m1,_⟩:=b7 (o:= .lst _) n1
  rw[e1]
  have hd1:=m1.rd hd
  have hl1:=a1.length_eq
  refine o3 (SqL.of f1) ?_
  refine j4 (n:=s1.length) (fun i out H'=>Same H1 H'∧Paired (PrV K H') out ((s1.take i).map fun s=>(Sum.inr s,(r6 kvs (Sum.inr s:g7)).getD .non))) ⟨Same.refl _,.nil⟩ (fun i out H' hi hp=>⟨_,.str (s1[i]),SqL.of (hp.1 _ _ f1),by rw[List.getElem?_map,List.getElem?_eq_getElem hi];rfl⟩) ?_ ?_
  ·rintro N i v out H2 H3 hi ⟨s2,pr⟩ y hN'
   obtain⟨rfl,hx⟩:=Itl.get y (SqL.of (s2 _ _ f1))
   rw[List.getElem?_map] at hx
   obtain⟨x,hx',rfl⟩:=Option.map_eq_some_iff.mp hx
   have hxk:(Sum.inr x:g7)∈kvs.map (·.1):=by
    rw[hk];exact List.mem_map.mpr ⟨x,a1.mem_iff.mp (List.mem_of_getElem? hx'),rfl⟩
   obtain⟨kv,hkv,ekv⟩:=List.mem_map.mp hxk
   have ev:=ba nd hkv
   rw[ekv] at ev
   have e7:s1.take (i+1)=s1.take i++[x]:=by rw[List.take_succ,hx'];rfl
   walk_at "r"
   refine⟨rfl,?_⟩
   walk_at "r"
   refine E9 (v:=kv.2) (by have z':=V0 (k:=Sum.inr x) (s2.rd hd1);rw[ev] at z';exact z') ?_
   walk_at "r"
   refine⟨b8 (by simp),fun t nt=>?_⟩
   obtain⟨H4,e4,f4,m4,_⟩:=b7 (o:= .tup _) nt
   rw[e4]
   have hol:=Paired.length pr
   rw[List.length_map,List.length_take] at hol
   refine⟨b8 (by omega),hN' _ _ ⟨s2.trans m4,?_⟩⟩
   rw[e7,List.map_append]
   refine r9 (Paired.imp' (fun _ _ z=>PrV.mono m4.le z) pr) ⟨t,rfl,?_⟩
   show SqT K _ t [V.str x,(r6 kvs (Sum.inr x:g7)).getD V.non]
   rw[ev]
   exact SqT.of f4
  ·rintro out H2 ⟨s2,pr⟩
   have hol:=Paired.length pr
   rw[List.length_map,List.length_take] at hol
   refine⟨⟨_,SqL.of (s2 _ _ f1),by rw[List.length_map];exact Nat.le_refl _⟩,fun D hD=>⟨b8 (by omega),?_⟩⟩
   obtain⟨H5,e5,f5,m5,_⟩:=b7 (o:= .lst out) hD
   show jk _ (n0 _ D _) _
   rw[e5]
   walk_at "r"
   rw[List.take_of_length_le (Nat.le_refl _)] at pr
   refine aP (SqL.of f5) (Paired.imp' (fun _ _ z=>PrV.mono m5.le z) pr) (b8 (by rw[List.length_map];omega)) (fun l nl=>?_)
   obtain⟨H6,e6,f6,m6,_⟩:=b7 (o:= .dK _) nl
   rw[e6]
   have mA:=m1.trans (s2.trans (m5.trans m6))
   have hperm:(s1.map fun s=>((Sum.inr s:g7),(r6 kvs (Sum.inr s:g7)).getD V.non)).Perm kvs:=by
    refine List.Perm.trans (a1.map _) ?_
    rw[←uv hk nd]
   rw[cT ((hperm.map _).nodup_iff.mpr nd)] at f6
   exact k l H6 _ ((m1.trans (s2.trans m5)).free nl) mA f6 hperm
theorem kR {f:Addr}{fd:FuncData}(T:Txt K mg)(X0:A7 P w K mg base x6 1 "in_order" ["named"] [] (aa K))(F:Fun K "copied" "copied" U5 f fd):FnOk P w K mg base x6 2 f fd ["web"] (bR K):=by
 refine F.ok sc_copied (fun vs H Q E h=>?_) (fun cdv A outer s H vs Q E hr h=>?_)
 ·obtain⟨a,p,q,kvs,W,rfl,_⟩:=h
  rfl
 ·obtain⟨a,p,q,kvs,W,rfl,hW,d1,d2,l1,l2,k⟩:=h
  have hN:=sc_copied.nd
  have hu:=x8 hr
  refine⟨_,QSs.r (B8 (x5 (cm (g0 (qC X0 (hr.mono (by decide)) j1 (g0 (u4 (u9 K hu) (qV 0) d0 (fun _ _=>rfl)) j0)) (g0 (qC X0 (hr.mono (by decide)) j1 (g0 (u4 (u9 K hu) (qV 0) d0 (fun _ _=>rfl)) j0)) j0))))),?_⟩
  walk_at "r"
  refine b5 hW.tup (b6 (j:=0) rfl) ?_
  walk_at "r"
  refine⟨p,C0 W.pts,W.pts.map (·.1),rfl,hW.pts,by rw[P5,A3],d1,by rw[List.length_map];exact l1,fun p' H1 kp np' m1 f1 pm1=>?_⟩
  have W1:=hW.mono m1.le
  walk_at "r"
  refine b5 W1.tup (b6 (j:=1) rfl) ?_
  walk_at "r"
  refine⟨q,kvs,W.ts.map (·.1),rfl,W1.ties,by rw[W1.ts.keys,A3],d2,by rw[List.length_map];exact l2,fun q' H2 kq nq' m2 f2 pm2=>?_⟩
  walk_at "r"
  refine⟨b8 (by simp),fun l9 n9=>?_⟩
  obtain⟨H9,e9,f9,m9,_⟩:=b7 (o:= .tup _) n9
  rw[e9]
  obtain⟨pts',rfl,pp⟩:=pC pm1
  have W2:=hW.mono (m1.trans (m2.trans m9)).le
  obtain⟨ts',w',pt⟩:=Q7 pm2 W2.ts
  have g1:=m9 _ _ (m2 _ _ f1)
  have g2:=m9 _ _ f2
  exact k l9 p' q' kq ⟨pts',ts'⟩ H9 (m1.trans (m2.trans m9)) ⟨SqT.of f9,.inl g1,.inl g2,w'⟩ g1 g2 (d8 f1 nq') np' (m1.free nq') pp pt
structure bh (W:E4):Prop where
 nm:∀x∈i6 W,u6 x=true
 kd:∀x∈W.pts,A0 x.2=true
 tk:∀x∈W.ts,A0 x.2.1=true
def bP (K:PySem.W.Frag):Sp:=fun vs H Q _=>∃(t p:Addr) (x:J0) (pts:List (Str×Str)),vs=[.ref t,.ref p]∧SqT K H t (aw x)∧Rd H p (.dK (C0 pts))∧A0 x.1=true∧u6 x.2.1=true∧u6 x.2.2=true∧x.2.1∈pts.map (·.1)∧x.2.2∈pts.map (·.1)∧∀H',Same H H'→Q (.bl true) H'
def ao (K:PySem.W.Frag):Sp:=fun vs H Q _=>∃(a p q:Addr) (kvs:List (g7×V)) (W:E4),vs=[.ref a]∧WebIs 24 K H a p q kvs W∧bh W∧∀H',Same H H'→Q (.bl true) H'
theorem ah {x s:Str}{m:Int}(h:C1 x s m=true):(x.length:Int)≤m:=by
 unfold C1 at h
 simp only[Bool.and_eq_true,decide_eq_true_eq] at h
 exact h.1.2
theorem dw {x:Str}(h:u6 x=true):x.length≤1000:=by
 unfold u6 at h
 have:=ah (Bool.and_eq_true _ _▸h).1
 omega
theorem dv {x:Str}(h:A0 x=true):x.length≤1000:=by
 have:=ah (show C1 x kSL 8=true from h)
 omega
theorem fB:Y3 "tuple" "tuple"=true:=rfl
theorem oH:Y3 "dict" "dict"=true:=rfl
theorem mh {f:Addr}{fd:FuncData}(T:Txt K mg)(D0:A7 P w K mg base x6 2 "is_kind" ["thing"] [] (O8 K))(K7:A7 P w K mg base x6 2 "is_name" ["thing"] [] (W6 K))(F:Fun K "is_tie" "is_tie" U1 f fd):FnOk P w K mg base x6 3 f fd ["thing","points"] (bP K):=by
 refine F.ok sc_is_tie (fun vs H Q E h=>?_) (fun cdv A outer s H vs Q E hr h=>?_)
 ·obtain⟨t,p,x,pts,rfl,_⟩:=h
  rfl
 ·obtain⟨t,p,⟨x1,x2,x3⟩,pts,rfl,hT,hp,h1,h2,h3,h4,h5,k⟩:=h
  have hN:=sc_is_tie.nd
  have hu:=x8 hr
  refine⟨_,QSs.r (z7 (aO (iW (W9 (E8 (A8 K (qB (Q4 K P w) T.b_isinstance Boot.«isinstance» (g0 (qV 0) (g0 (kx "tuple" T.b_tuple Boot.«tuple») j0))))) (W9 (z6 (T7 K hr) (qB (E6 K P w) T.b_len Boot.«len» (g0 (qV 0) j0)) d0 (j8 _)) (U8 (E8 (A8 K (qC D0 (hr.mono (by decide)) j1 (g0 (u4 (u9 K hu) (qV 0) d0 (fun _ _=>rfl)) j0)))))))) (B8 (x5 jA)) aL)
   (B8 (x5 (qB (eW K rfl) T.b_all Boot.«all» (g0 (C2 (own:=["end"]) (js:=[1]) (by kernel_rfl) rfl (P9 K (mw (lp K) (qV 0) (ir d0) pN)) (fun _ _ _ _=>(P0 (i:=0) (show List.Nodup (["end","points"]:List Str) by decide+kernel) rfl (by walk_at "l"))) (fun _ _ _ _=>O2) (fun _ _ _ _=>(iw (qC K7 (hr.mono (by decide)) j1 (g0 (qV 0) j0)) (lF (hX (kIn K hu) (qV 0) (qV 1) (by rfl)))))) j0))))),?_⟩
  walk_at "r"
  refine M3 (M5 (t:="tuple") (.inr (.inl ⟨rfl,_,hT⟩)) (by simp) ?_)
  rw[fB]
  walk_at "r"
  refine E7 (av hT ?_)
  walk_at "r"
  rw[show(!decide (((aw (x1,x2,x3)).length:Int)=3))=false from rfl]
  walk_at "r"
  refine b5 hT (b6 (j:=0) rfl) ?_
  walk_at "r"
  refine⟨.str x1,rfl,.inl ⟨x1,rfl,dv h1,fun H1 m1=>?_⟩⟩
  rw[h1]
  walk_at "r"
  refine nU (m1.tup hT) (by rintro⟨z,_⟩;exact absurd (show(1:Nat)=0 from z) (by decide)) (fun l2 n2=>?_)
  obtain⟨H2,e2,f2,m2,_⟩:=b7 (o:= .tup [.str x2,.str x3]) n2
  rw[show S9 (aw (x1,x2,x3)) (some 1) none=[V.str x2,.str x3] from rfl,e2]
  have hp2:=(m1.trans m2).rd hp
  refine .inl (.inr (.inl ⟨l2,rfl,⟨_,SqT.of f2⟩,?_⟩))
  refine j4 (n:=2) (fun i out H'=>Same H2 H'∧out=List.replicate i (V.bl true)) ⟨Same.refl _,rfl⟩ (fun i out H' hi hp=>?_) ?_ ?_
  ·refine⟨[.str x2,.str x3],[V.str x2,.str x3][i]'(by show i<2;omega),SqT.of (hp.1 _ _ f2),List.getElem?_eq_getElem _⟩
  ·rintro N i v out H3' H3 hi ⟨s3,rfl⟩ ⟨rfl,hx⟩ hN'
   have hx':=hx _ (SqT.of (s3 _ _ f2))
   obtain⟨n,rfl,hn1,hn2⟩:∃n,v= .str n∧u6 n=true∧n∈pts.map (·.1):=by
    match i,hi,hx' with
    |0,_,hx'=>cases hx';exact⟨x2,rfl,h2,h4⟩
    |1,_,hx'=>cases hx';exact⟨x3,rfl,h3,h5⟩
   walk_at "r"
   refine⟨rfl,?_⟩
   walk_at "r"
   refine⟨.str n,rfl,.inl ⟨n,rfl,dw hn1,fun H4 m4=>?_⟩⟩
   rw[hn1]
   refine⟨true,rfl,?_⟩
   rw[if_pos rfl]
   walk_at "r"
   refine Z0 (V0 (k:=Sum.inr n) ((s3.trans m4).rd hp2)) ?_
   rw[X4,decide_eq_true hn2]
   refine⟨b8 (by rw[List.length_replicate];omega),hN' _ _ ⟨s3.trans m4,?_⟩⟩
   rw[List.replicate_succ']
  ·rintro out H3 ⟨s3,rfl⟩
   refine⟨⟨_,SqT.of (s3 _ _ f2),by show 2≤2;omega⟩,fun D hD=>⟨b8 (by rw[List.length_replicate];omega),?_⟩⟩
   obtain⟨H4,e4,f4,m4,_⟩:=b7 (H:=H3) (o:= .lst (List.replicate 2 (V.bl true))) hD
   walk_at "r"
   change iU K _ (n0 H3 D _) _
   rw[e4]
   refine aW (bs:=[true,true]) (SqL.of f4) ?_
   exact k _ (m1.trans (m2.trans (s3.trans m4)))
theorem lT {f:Addr}{fd:FuncData}(T:Txt K mg)(D0:A7 P w K mg base x6 2 "is_kind" ["thing"] [] (O8 K))(K7:A7 P w K mg base x6 2 "is_name" ["thing"] [] (W6 K))(dy:A7 P w K mg base x6 3 "is_tie" ["thing","points"] [] (bP K))(F:Fun K "is_web" "is_web" V2 f fd):FnOk P w K mg base x6 4 f fd ["thing"] (ao K):=by
 refine F.ok sc_is_web (fun vs H Q E h=>?_) (fun cdv A outer s H vs Q E hr h=>?_)
 ·obtain⟨a,p,q,kvs,W,rfl,_⟩:=h
  rfl
 ·obtain⟨a,p,q,kvs,W,rfl,hW,hG,k⟩:=h
  have hWl:=hW.len
  rw[L9] at hWl
  have hptl:=A1 W.pts
  have hkl:=hW.at_.ts.length
  have hN:=sc_is_web.nd
  have hu:=x8 hr
  refine⟨_,QSs.r (z7 (aO (iW (W9 (E8 (A8 K (qB (Q4 K P w) T.b_isinstance Boot.«isinstance» (g0 (qV 0) (g0 (kx "tuple" T.b_tuple Boot.«tuple») j0))))) (U8 (z6 (T7 K hr) (qB (E6 K P w) T.b_len Boot.«len» (g0 (qV 0) j0)) d0 (j8 _))))) (B8 (x5 jA)) aL)
   (z7 (p0 (i:=1) hN rfl (by walk_at "l") (u4 (u9 K hu) (qV 0) d0 (fun _ _=>rfl)))
   (z7 (p0 (i:=2) hN rfl (by walk_at "l") (u4 (u9 K hu) (qV 0) d0 (fun _ _=>rfl)))
   (z7 (aO (iW (W9 (E8 (A8 K (qB (Q4 K P w) T.b_isinstance Boot.«isinstance» (g0 (qV 1) (g0 (kx "dict" T.b_dict Boot.«dict») j0))))) (U8 (E8 (A8 K (qB (Q4 K P w) T.b_isinstance Boot.«isinstance» (g0 (qV 2) (g0 (kx "dict" T.b_dict Boot.«dict») j0)))))))) (B8 (x5 jA)) aL)
   (z7 (aO (E8 (A8 K (qB (eW K rfl) T.b_all Boot.«all» (g0 (C2 (own:=["name","kind"]) (js:=[]) (by kernel_rfl) rfl (cI (qV 1)) (fun _ _ _ _=>(se K rfl (gs (P0 (i:=0) (show List.Nodup (["name","kind"]:List Str) by decide+kernel) rfl (by walk_at "l")) (gs (P0 (i:=1) (show List.Nodup (["name","kind"]:List Str) by decide+kernel) rfl (by walk_at "l")) rO)))) (fun _ _ _ _=>O2) (fun _ _ _ _=>(iw (qC K7 (hr.mono (by decide)) j1 (g0 (qV 0) j0)) (lF (qC D0 (hr.mono (by decide)) j1 (g0 (qV 1) j0)))))) j0)))) (B8 (x5 jA)) aL)
   (B8 (x5 (qB (eW K rfl) T.b_all Boot.«all» (g0 (C2 (own:=["name","tie"]) (js:=[1]) (by kernel_rfl) rfl (cI (qV 2)) (fun _ _ _ _=>(se K rfl (gs (P0 (i:=0) (show List.Nodup (["name","tie","points"]:List Str) by decide+kernel) rfl (by walk_at "l")) (gs (P0 (i:=1) (show List.Nodup (["name","tie","points"]:List Str) by decide+kernel) rfl (by walk_at "l")) rO)))) (fun _ _ _ _=>O2) (fun _ _ _ _=>(iw (qC K7 (hr.mono (by decide)) j1 (g0 (qV 0) j0)) (iw (hX (ud K hu) (qV 0) (qV 2) (by rfl)) (lF (qC dy (hr.mono (by decide)) j1 (g0 (qV 1) (g0 (qV 2) j0)))))))) j0))))))))),?_⟩
  walk_at "r"
  refine M3 (M5 (t:="tuple") (.inr (.inl ⟨rfl,_,hW.at_.tup⟩)) (by simp) ?_)
  rw[fB]
  walk_at "r"
  refine E7 (av hW.at_.tup ?_)
  walk_at "r"
  rw[show(!decide ((([V.ref p,V.ref q]:List V).length:Int)=2))=false from rfl]
  walk_at "r"
  refine b5 hW.at_.tup (b6 (j:=0) rfl) ?_
  walk_at "r"
  refine b5 hW.at_.tup (b6 (j:=1) rfl) ?_
  walk_at "r"
  refine M3 (M5 (t:="dict") (.inr (.inr ⟨rfl,_,hW.at_.pts⟩)) (by simp) ?_)
  rw[oH]
  walk_at "r"
  refine M3 (M5 (t:="dict") (.inr (.inr ⟨rfl,_,hW.at_.ties⟩)) (by simp) ?_)
  rw[oH]
  walk_at "r"
  refine Q3 hW.hp (fun ndp o8=>?_)
  refine j4 (n:=(C0 W.pts).length) (fun i out H'=>Same (B9 p o8 (C0 W.pts) H) H'∧out=List.replicate i (V.bl true)) ⟨Same.refl _,rfl⟩ (fun i out H' hi hp=>⟨hp.1 _ _ d9,hi⟩) ?_ ?_
  ·rintro N i v out H8' H8 hi ⟨s8,rfl⟩ ⟨t,kv,hkv,nt,rfl,rfl⟩ hN'
   obtain⟨x,hx,rfl⟩:=fg hkv
   obtain⟨H9,e9,f9,m9,_⟩:=b7 (o:= .tup _) nt
   rw[e9]
   have hxm:=List.mem_of_getElem? hx
   have hn:=hG.nm x.1 (List.mem_append_left _ (List.mem_map.mpr ⟨x,hxm,rfl⟩))
   have hk:=hG.kd x hxm
   refine Z4 (SqT.of f9) rfl ?_
   walk_at "r"
   refine⟨rfl,?_⟩
   walk_at "r"
   refine⟨.str x.1,rfl,.inl ⟨x.1,rfl,dw hn,fun H10 m10=>?_⟩⟩
   rw[hn]
   refine⟨true,rfl,?_⟩
   rw[if_pos rfl]
   walk_at "r"
   refine⟨.str x.2,rfl,.inl ⟨x.2,rfl,dv hk,fun H11 m11=>?_⟩⟩
   rw[hk]
   refine⟨b8 (by rw[List.length_replicate];omega),hN' _ _ ⟨s8.trans (m9.trans (m10.trans m11)),?_⟩⟩
   rw[List.replicate_succ']
  ·rintro out H8 ⟨s8,rfl⟩
   refine⟨⟨s8 _ _ d9,Nat.le_refl _⟩,fun D8 hD8=>⟨b8 (by rw[List.length_replicate];omega),?_⟩⟩
   have sM:=aZ hW.hp s8 hD8 (u:= .lst (List.replicate (C0 W.pts).length (V.bl true)))
   have fM:=fb s8 hD8 (u:= .lst (List.replicate (C0 W.pts).length (V.bl true)))
   generalize thaw p (n0 H8 D8 (.lst (List.replicate (C0 W.pts).length (V.bl true))))=HM at sM fM⊢
   walk_at "r"
   refine aW (bs:=List.replicate (C0 W.pts).length true) (SqL.of (by rw[fM,List.map_replicate])) ?_
   rw[show(List.replicate (C0 W.pts).length true).all id=true by rw[List.all_eq_true];intro b hb;exact(List.mem_replicate.mp hb).2]
   walk_at "r"
   have WM:=hW.same sM
   refine Q3 WM.hq (fun ndq o10=>?_)
   refine j4 (n:=kvs.length) (fun i out H'=>Same (B9 q o10 kvs HM) H'∧out=List.replicate i (V.bl true)) ⟨Same.refl _,rfl⟩ (fun i out H' hi hp=>⟨hp.1 _ _ d9,hi⟩) ?_ ?_
   ·rintro N i v out H11' H11 hi ⟨s11,rfl⟩ ⟨t,kv,hkv,nt,rfl,rfl⟩ hN'
    obtain⟨H12,e12,f12,m12,_⟩:=b7 (o:= .tup _) nt
    rw[e12]
    have le12:=(dJ (o:=o10) WM.hq).trans (s11.trans m12).le
    have W12:=WM.at_.mono le12
    obtain⟨x,hx,ex,bb,eb,sb⟩:=W12.ts.get hkv
    obtain⟨kk,kvv⟩:=kv
    have ex':kk=Sum.inr x.1:=ex
    have eb':kvv= .ref bb:=eb
    subst ex' eb'
    have hxm:=List.mem_of_getElem? hx
    have hxe:=hW.ends x hxm
    have hxn:x.1∈W.ts.map (·.1):=List.mem_map.mpr ⟨x,hxm,rfl⟩
    have hn:=hG.nm x.1 (List.mem_append_right _ hxn)
    have hnp:x.1∉W.pts.map (·.1):=fun z=>(List.nodup_append.mp hW.nd).2.2 _ z _ hxn rfl
    refine Z4 (SqT.of f12) rfl ?_
    walk_at "r"
    refine⟨rfl,?_⟩
    walk_at "r"
    refine⟨.str x.1,rfl,.inl ⟨x.1,rfl,dw hn,fun H13 m13=>?_⟩⟩
    rw[hn]
    refine⟨true,rfl,?_⟩
    rw[if_pos rfl]
    walk_at "r"
    refine ik (V0 (k:=Sum.inr x.1) (m13.rd W12.pts)) ?_
    rw[X4,decide_eq_false hnp]
    refine⟨true,rfl,?_⟩
    rw[if_pos rfl]
    walk_at "r"
    refine⟨bb,p,x.2,W.pts,rfl,m13.tup sb,m13.rd W12.pts,hG.tk x hxm,hG.nm _ (List.mem_append_left _ hxe.1),hG.nm _ (List.mem_append_left _ hxe.2),hxe.1,hxe.2,fun H14 m14=>?_⟩
    refine⟨b8 (by rw[List.length_replicate];omega),hN' _ _ ⟨s11.trans (m12.trans (m13.trans m14)),?_⟩⟩
    rw[List.replicate_succ']
   ·rintro out H11 ⟨s11,rfl⟩
    refine⟨⟨s11 _ _ d9,Nat.le_refl _⟩,fun D11 hD11=>⟨b8 (by rw[List.length_replicate];omega),?_⟩⟩
    have sN:=aZ WM.hq s11 hD11 (u:= .lst (List.replicate kvs.length (V.bl true)))
    have fN:=fb s11 hD11 (u:= .lst (List.replicate kvs.length (V.bl true)))
    generalize thaw q (n0 H11 D11 (.lst (List.replicate kvs.length (V.bl true))))=HN at sN fN⊢
    walk_at "r"
    refine aW (bs:=List.replicate kvs.length true) (SqL.of (by rw[fN,List.map_replicate])) ?_
    rw[show(List.replicate kvs.length true).all id=true by rw[List.all_eq_true];intro b hb;exact(List.mem_replicate.mp hb).2]
    exact k _ (sM.trans sN)
def aQ (K:PySem.W.Frag):Sp:=fun vs H Q _=>∃(a p q a' p' q':Addr) (kvs kvs':List (g7×V)) (W O:E4),vs=[.ref a,.ref a']∧WebIs 24 K H a p q kvs W∧WebIs 24 K H a' p' q' kvs' O∧(∀x∈W.pts,x∈O.pts)∧(∀x∈W.ts,x∈O.ts)∧∀H',Same H H'→Q (.bl true) H'
structure PieceW (m:Nat) (W:E4):Prop where
 good:bh W
 kds:∀n∈i6 W,A0 n=true
 l1:W.pts.length≤m
 l2:W.ts.length≤m
def Z3 (K:PySem.W.Frag):Sp:=fun vs H Q _=>∃(a p q:Addr) (kvs:List (g7×V)) (W:E4) (m:Nat),vs=[.ref a,.int m]∧WebIs 24 K H a p q kvs W∧PieceW m W∧∀H',Same H H'→Q (.bl true) H'
def fI (K:PySem.W.Frag):Sp:=fun vs H Q _=>∃(a p q a' p' q':Addr) (kvs kvs':List (g7×V)) (W O:E4),vs=[.ref a,.ref a']∧WebIs 24 K H a p q kvs W∧WebIs 24 K H a' p' q' kvs' O∧∀(l:Addr) (H':Hp) (s1 s2:List Str),H l=none→Same H H'→Ordr W s1 s2→H' l=some (.lst (((s1++s2).filter fun n=>decide (n∈i6 O)).map V.str))→Q (.ref l) H'
theorem aj (n:Nat):(List.replicate n true).all id=true:=by rw[List.all_eq_true];intro b hb;exact(List.mem_replicate.mp hb).2
theorem iS {f:Addr}{fd:FuncData}(T:Txt K mg)(F:Fun K "is_part" "is_part" N6 f fd):FnOk P w K mg base x6 1 f fd ["web","other"] (aQ K):=by
 refine F.ok sc_is_part (fun vs H Q E h=>?_) (fun cdv A outer s H vs Q E hr h=>?_)
 ·obtain⟨a,p,q,a',p',q',kvs,kvs',W,O,rfl,_⟩:=h
  rfl
 ·obtain⟨a,p,q,a',p',q',kvs,kvs',W,O,rfl,hW,hO,h1,h2,k⟩:=h
  have hWl:=hW.len
  rw[L9] at hWl
  have hptl:=A1 W.pts
  have hkl:=hW.at_.ts.length
  have hN:=sc_is_part.nd
  have hu:=x8 hr
  refine⟨_,QSs.r (z7 (aO (E8 (A8 K (qB (eW K rfl) T.b_all Boot.«all» (g0 (C2 (own:=["name","kind"]) (js:=[1]) (by kernel_rfl) rfl (cI (u4 (u9 K hu) (qV 0) d0 (fun _ _=>rfl))) (fun _ _ _ _=>(se K rfl (gs (P0 (i:=0) (show List.Nodup (["name","kind","other"]:List Str) by decide+kernel) rfl (by walk_at "l")) (gs (P0 (i:=1) (show List.Nodup (["name","kind","other"]:List Str) by decide+kernel) rfl (by walk_at "l")) rO)))) (fun _ _ _ _=>O2) (fun _ _ _ _=>(hX (aV K hr) (et hu (u4 (u9 K hu) (qV 2) d0 (fun _ _=>rfl)) (qV 0)) (qV 1) (j8 _)))) j0)))) (B8 (x5 jA)) aL)
   (B8 (x5 (qB (eW K rfl) T.b_all Boot.«all» (g0 (C2 (own:=["name","tie"]) (js:=[1]) (by kernel_rfl) rfl (cI (u4 (u9 K hu) (qV 0) d0 (fun _ _=>rfl))) (fun _ _ _ _=>(se K rfl (gs (P0 (i:=0) (show List.Nodup (["name","tie","other"]:List Str) by decide+kernel) rfl (by walk_at "l")) (gs (P0 (i:=1) (show List.Nodup (["name","tie","other"]:List Str) by decide+kernel) rfl (by walk_at "l")) rO)))) (fun _ _ _ _=>O2) (fun _ _ _ _=>(hX (aV K hr) (et hu (u4 (u9 K hu) (qV 2) d0 (fun _ _=>rfl)) (qV 0)) (qV 1) (j8 _)))) j0))))),?_⟩
  walk_at "r"
  refine b5 hW.at_.tup (b6 (j:=0) rfl) ?_
  refine Q3 hW.hp (fun ndp o8=>?_)
  refine j4 (n:=(C0 W.pts).length) (fun i out H'=>Same (B9 p o8 (C0 W.pts) H) H'∧out=List.replicate i (V.bl true)) ⟨Same.refl _,rfl⟩ (fun i out H' hi hp=>⟨hp.1 _ _ d9,hi⟩) ?_ ?_
  ·rintro N i v out H8' H8 hi ⟨s8,rfl⟩ ⟨t,kv,hkv,nt,rfl,rfl⟩ hN'
   obtain⟨x,hx,rfl⟩:=fg hkv
   obtain⟨H9,e9,f9,m9,_⟩:=b7 (o:= .tup _) nt
   rw[e9]
   have hxm:=List.mem_of_getElem? hx
   have O9:=hO.at_.mono ((dJ (o:=o8) hW.hp).trans (s8.trans m9).le)
   refine Z4 (SqT.of f9) rfl ?_
   walk_at "r"
   refine⟨rfl,?_⟩
   walk_at "r"
   refine b5 O9.tup (b6 (j:=0) rfl) ?_
   refine⟨p',rfl,.inl ⟨_,O9.pts⟩,?_⟩
   walk_at "r"
   refine⟨_,V0 (k:=Sum.inr x.1) O9.pts,?_⟩
   walk_at "r"
   refine rT (O5 hO.nd) ?_
   rw[decide_eq_true (h1 x hxm)]
   refine⟨b8 (by rw[List.length_replicate];omega),hN' _ _ ⟨s8.trans m9,?_⟩⟩
   rw[List.replicate_succ']
  ·rintro out H8 ⟨s8,rfl⟩
   refine⟨⟨s8 _ _ d9,Nat.le_refl _⟩,fun D8 hD8=>⟨b8 (by rw[List.length_replicate];omega),?_⟩⟩
   have sM:=aZ hW.hp s8 hD8 (u:= .lst (List.replicate (C0 W.pts).length (V.bl true)))
   have fM:=fb s8 hD8 (u:= .lst (List.replicate (C0 W.pts).length (V.bl true)))
   generalize thaw p (n0 H8 D8 (.lst (List.replicate (C0 W.pts).length (V.bl true))))=HM at sM fM⊢
   walk_at "r"
   refine aW (bs:=List.replicate (C0 W.pts).length true) (SqL.of (by rw[fM,List.map_replicate])) ?_
   rw[aj]
   walk_at "r"
   have WM:=hW.same sM
   have OM:=hO.same sM
   refine b5 WM.at_.tup (b6 (j:=1) rfl) ?_
   refine Q3 WM.hq (fun ndq o10=>?_)
   refine j4 (n:=kvs.length) (fun i out H'=>Same (B9 q o10 kvs HM) H'∧out=List.replicate i (V.bl true)) ⟨Same.refl _,rfl⟩ (fun i out H' hi hp=>⟨hp.1 _ _ d9,hi⟩) ?_ ?_
   ·rintro N i v out H11' H11 hi ⟨s11,rfl⟩ ⟨t,kv,hkv,nt,rfl,rfl⟩ hN'
    obtain⟨H12,e12,f12,m12,_⟩:=b7 (o:= .tup _) nt
    rw[e12]
    have le12:=(dJ (o:=o10) WM.hq).trans (s11.trans m12).le
    have W12:=WM.at_.mono le12
    have O12:=OM.at_.mono le12
    obtain⟨x,hx,ex,bb,eb,sb⟩:=W12.ts.get hkv
    obtain⟨kk,kvv⟩:=kv
    have ex':kk=Sum.inr x.1:=ex
    have eb':kvv= .ref bb:=eb
    subst ex' eb'
    have hxm:=List.mem_of_getElem? hx
    refine Z4 (SqT.of f12) rfl ?_
    walk_at "r"
    refine⟨rfl,?_⟩
    walk_at "r"
    refine b5 O12.tup (b6 (j:=1) rfl) ?_
    refine⟨q',rfl,.inl ⟨_,O12.ties⟩,?_⟩
    walk_at "r"
    refine⟨_,V0 (k:=Sum.inr x.1) O12.ties,?_⟩
    walk_at "r"
    refine nj O12.ts (aF hO.nd) sb ?_
    rw[decide_eq_true (show(x.1,x.2)∈O.ts from h2 x hxm)]
    refine⟨b8 (by rw[List.length_replicate];omega),hN' _ _ ⟨s11.trans m12,?_⟩⟩
    rw[List.replicate_succ']
   ·rintro out H11 ⟨s11,rfl⟩
    refine⟨⟨s11 _ _ d9,Nat.le_refl _⟩,fun D11 hD11=>⟨b8 (by rw[List.length_replicate];omega),?_⟩⟩
    have sN:=aZ WM.hq s11 hD11 (u:= .lst (List.replicate kvs.length (V.bl true)))
    have fN:=fb s11 hD11 (u:= .lst (List.replicate kvs.length (V.bl true)))
    generalize thaw q (n0 H11 D11 (.lst (List.replicate kvs.length (V.bl true))))=HN at sN fN⊢
    walk_at "r"
    refine aW (bs:=List.replicate kvs.length true) (SqL.of (by rw[fN,List.map_replicate])) ?_
    rw[aj]
    exact k _ (sM.trans sN)
theorem il {f:Addr}{fd:FuncData}(T:Txt K mg)(T4:A7 P w K mg base x6 4 "is_web" ["thing"] [] (ao K))(D0:A7 P w K mg base x6 2 "is_kind" ["thing"] [] (O8 K))(J6:A7 P w K mg base x6 1 "things" ["web"] [] (U9 K))(F:Fun K "is_piece" "is_piece" K8 f fd):FnOk P w K mg base x6 5 f fd ["thing","most"] (Z3 K):=by
 refine F.ok sc_is_piece (fun vs H Q E h=>?_) (fun cdv A outer s H vs Q E hr h=>?_)
 ·obtain⟨a,p,q,kvs,W,m,rfl,_⟩:=h
  rfl
 ·obtain⟨a,p,q,kvs,W,m,rfl,hW,hP,k⟩:=h
  have hWl:=hW.len
  have hN:=sc_is_piece.nd
  have hu:=x8 hr
  refine⟨_,QSs.r (z7 (aO (iW (W9 (E8 (A8 K (qC T4 (hr.mono (by decide)) j1 (g0 (qV 0) j0)))) (W9 (z6 cZ (qB (E6 K P w) T.b_len Boot.«len» (g0 (u4 (u9 K hu) (qV 0) d0 (fun _ _=>rfl)) j0)) (qV 1) (j8 _)) (U8 (z6 cZ (qB (E6 K P w) T.b_len Boot.«len» (g0 (u4 (u9 K hu) (qV 0) d0 (fun _ _=>rfl)) j0)) (qV 1) (j8 _)))))) (B8 (x5 jA)) aL)
   (B8 (x5 (qB (eW K rfl) T.b_all Boot.«all» (g0 (C2 (own:=["name"]) (js:=[]) (by kernel_rfl) rfl (P9 K (qC J6 (hr.mono (by decide)) j1 (g0 (qV 0) j0))) (fun _ _ _ _=>(P0 (i:=0) (show List.Nodup (["name"]:List Str) by decide+kernel) rfl (by walk_at "l"))) (fun _ _ _ _=>O2) (fun _ _ _ _=>(qC D0 (hr.mono (by decide)) j1 (g0 (qV 0) j0)))) j0))))),?_⟩
  walk_at "r"
  refine⟨a,p,q,kvs,W,rfl,hW,hP.good,fun H1 m1=>?_⟩
  have W1:=hW.same m1
  have l1:=hP.l1
  have l2:=hP.l2
  walk_at "r"
  refine b5 W1.at_.tup (b6 (j:=0) rfl) ?_
  walk_at "r"
  refine E7 (G9 W1.at_.pts ?_)
  rw[A1]
  walk_at "r"
  rw[decide_eq_false (by omega)]
  walk_at "r"
  refine b5 W1.at_.tup (b6 (j:=1) rfl) ?_
  walk_at "r"
  refine E7 (G9 W1.at_.ties ?_)
  rw[W1.at_.ts.length]
  walk_at "r"
  rw[decide_eq_false (by omega)]
  walk_at "r"
  refine⟨a,p,q,kvs,W,rfl,W1.at_,by omega,fun l2 H2 s1 s2 n2 m2 f2 or=>?_⟩
  have hlen:=or.len
  refine o3 (SqL.of f2) ?_
  refine j4 (n:=(s1++s2).length) (fun i out H'=>Same H2 H'∧out=List.replicate i (V.bl true)) ⟨Same.refl _,rfl⟩ (fun i out H' hi hp=>⟨_,.str ((s1++s2)[i]),SqL.of (hp.1 _ _ f2),by rw[List.getElem?_map,List.getElem?_eq_getElem hi];rfl⟩) ?_ ?_
  ·rintro N i v out H3' H3 hi ⟨s3,rfl⟩ y hN'
   obtain⟨rfl,hx⟩:=Itl.get y (SqL.of (s3 _ _ f2))
   rw[List.getElem?_map,List.getElem?_eq_getElem hi] at hx
   cases hx
   have hk:=hP.kds _ (or.mem.mp (List.getElem_mem hi))
   walk_at "r"
   refine⟨rfl,?_⟩
   walk_at "r"
   refine⟨_,rfl,.inl ⟨_,rfl,dv hk,fun H4 m4=>?_⟩⟩
   rw[hk]
   refine⟨b8 (by rw[List.length_replicate];omega),hN' _ _ ⟨s3.trans m4,?_⟩⟩
   rw[List.replicate_succ']
  ·rintro out H3 ⟨s3,rfl⟩
   refine⟨⟨_,SqL.of (s3 _ _ f2),by rw[List.length_map];exact Nat.le_refl _⟩,fun D hD=>⟨b8 (by rw[List.length_replicate];omega),?_⟩⟩
   obtain⟨H4,e4,f4,m4,_⟩:=b7 (H:=H3) (o:= .lst (List.replicate (s1++s2).length (V.bl true))) hD
   walk_at "r"
   change iU K _ (n0 H3 D _) _
   rw[e4]
   refine aW (bs:=List.replicate (s1++s2).length true) (SqL.of (by rw[f4,List.map_replicate])) ?_
   rw[aj]
   exact k _ (m1.trans (m2.trans (s3.trans m4)))
theorem pY {f:Addr}{fd:FuncData}(T:Txt K mg)(J6:A7 P w K mg base x6 1 "things" ["web"] [] (U9 K))(F:Fun K "both" "both" bD f fd):FnOk P w K mg base x6 2 f fd ["web","other"] (fI K):=by
 refine F.ok sc_both (fun vs H Q E h=>?_) (fun cdv A outer s H vs Q E hr h=>?_)
 ·obtain⟨a,p,q,a',p',q',kvs,kvs',W,O,rfl,_⟩:=h
  rfl
 ·obtain⟨a,p,q,a',p',q',kvs,kvs',W,O,rfl,hW,hO,k⟩:=h
  have hWl:=hW.len
  have hN:=sc_both.nd
  have hu:=x8 hr
  refine⟨_,QSs.r (B8 (x5 (C2 (own:=["name"]) (js:=[1]) (by kernel_rfl) rfl (P9 K (qC J6 (hr.mono (by decide)) j1 (g0 (qV 0) j0))) (fun _ _ _ _=>(P0 (i:=0) (show List.Nodup (["name","other"]:List Str) by decide+kernel) rfl (by walk_at "l"))) (fun _ _ _ _=>(tO (iW (W9 (z6 (kIn K hu) (qV 0) (u4 (u9 K hu) (qV 1) d0 (fun _ _=>rfl)) (by rfl)) (U8 (z6 (kIn K hu) (qV 0) (u4 (u9 K hu) (qV 1) d0 (fun _ _=>rfl)) (by rfl))))))) (fun _ _ _ _=>(qV 0))))),?_⟩
  walk_at "r"
  refine⟨a,p,q,kvs,W,rfl,hW.at_,by omega,fun l1 H1 s1 s2 n1 m1 f1 or=>?_⟩
  have hlen:=or.len
  refine o3 (SqL.of f1) ?_
  refine j4 (n:=(s1++s2).length) (fun i out H'=>Same H1 H'∧out=(((s1++s2).take i).filter fun n=>decide (n∈i6 O)).map V.str) ⟨Same.refl _,rfl⟩ (fun i out H' hi hp=>⟨_,.str ((s1++s2)[i]),SqL.of (hp.1 _ _ f1),by rw[List.getElem?_map,List.getElem?_eq_getElem hi];rfl⟩) ?_ ?_
  ·rintro N i v out H3' H3 hi ⟨s3,rfl⟩ y hN'
   obtain⟨rfl,hx⟩:=Itl.get y (SqL.of (s3 _ _ f1))
   rw[List.getElem?_map,List.getElem?_eq_getElem hi] at hx
   cases hx
   have O3:=hO.at_.mono (m1.trans s3).le
   have e7:(s1++s2).take (i+1)=(s1++s2).take i++[(s1++s2)[i]]:=by rw[List.take_succ,List.getElem?_eq_getElem hi];rfl
   have hfl:=List.length_filter_le (fun n=>decide (n∈i6 O)) ((s1++s2).take i)
   rw[List.length_take] at hfl
   have yes:(decide ((s1++s2)[i]∈i6 O))=true→((((s1++s2).take i).filter fun n=>decide (n∈i6 O)).map V.str).length≤sizeLine∧N ((((s1++s2).take i).filter fun n=>decide (n∈i6 O)).map V.str++[V.str (s1++s2)[i]]) H3:=fun hb=>by
    refine⟨b8 (by rw[List.length_map];omega),hN' _ _ ⟨s3,?_⟩⟩
    rw[e7,List.filter_append,List.filter_cons_of_pos (p:=fun n=>decide (n∈i6 O)) hb,List.filter_nil,List.map_append];rfl
   have no:(decide ((s1++s2)[i]∈i6 O))=false→N ((((s1++s2).take i).filter fun n=>decide (n∈i6 O)).map V.str) H3:=fun hb=>by
    refine hN' _ _ ⟨s3,?_⟩
    rw[e7,List.filter_append,List.filter_cons_of_neg (p:=fun n=>decide (n∈i6 O)) (by rw[hb];simp),List.filter_nil,List.append_nil]
   walk_at "r"
   refine⟨rfl,?_⟩
   walk_at "r"
   refine b5 O3.tup (b6 (j:=0) rfl) ?_
   refine Z0 (V0 (k:=Sum.inr (s1++s2)[i]) O3.pts) ?_
   rw[X4]
   walk_at "r"
   refine bj (fun b1=>?_) (fun b1=>?_)
   ·walk_at "r"
    refine yes (by rw[decide_eq_true (show(s1++s2)[i]∈i6 O from List.mem_append_left _ b1)])
   ·walk_at "r"
    refine b5 O3.tup (b6 (j:=1) rfl) ?_
    refine Z0 (V0 (k:=Sum.inr (s1++s2)[i]) O3.ties) ?_
    rw[bS O3.ts]
    walk_at "r"
    refine bj (fun b2=>?_) (fun b2=>?_)
    ·walk_at "r"
     refine yes (by rw[decide_eq_true (show(s1++s2)[i]∈i6 O from List.mem_append_right _ b2)])
    ·exact no (by rw[decide_eq_false (show(s1++s2)[i]∉i6 O from fun z=>(List.mem_append.mp z).elim b1 b2)])
  ·rintro out H3 ⟨s3,rfl⟩
   have hfl:=List.length_filter_le (fun n=>decide (n∈i6 O)) ((s1++s2).take (s1++s2).length)
   rw[List.length_take] at hfl
   refine⟨⟨_,SqL.of (s3 _ _ f1),by rw[List.length_map];exact Nat.le_refl _⟩,fun D hD=>⟨b8 (by rw[List.length_map];omega),?_⟩⟩
   rw[List.take_of_length_le (Nat.le_refl _)]
   obtain⟨H4,e4,f4,m4,_⟩:=b7 (H:=H3) (o:= .lst (((s1++s2).filter fun n=>decide (n∈i6 O)).map V.str)) hD
   refine k D _ s1 s2 ((m1.trans s3).free hD) ?_ or ?_
   ·show Same _ (n0 _ D _)
    rw[e4];exact m1.trans (s3.trans m4)
   ·show n0 _ D _ D=_
    rw[d9]
structure Sd where
 a:Addr
 p:Addr
 q:Addr
 kvs:List (g7×V)
 W:E4
def SdIs (K:PySem.W.Frag)(H:Hp)(s:Sd):Prop:=WebIs 24 K H s.a s.p s.q s.kvs s.W
theorem SdIs.same {H H':Hp}{s:Sd}(h:SdIs K H s)(m:Same H H'):SdIs K H' s:=WebIs.same h m
structure RuleIs (K:PySem.W.Frag) (H:Hp) (r bl:Addr) (L R:Sd) (bs:List Sd):Prop where
 tup:SqT K H r [.ref L.a,.ref R.a,.ref bl]
 l:SdIs K H L
 r:SdIs K H R
 bl:SqL K H bl (bs.map fun s=>V.ref s.a)
 bars:∀b∈bs,SdIs K H b
theorem RuleIs.same {H H':Hp}{r bl:Addr}{L R:Sd}{bs:List Sd}(h:RuleIs K H r bl L R bs)(m:Same H H'):RuleIs K H' r bl L R bs:=⟨m.tup h.tup,h.l.same m,h.r.same m,m.seq h.bl,fun b hb=>(h.bars b hb).same m⟩
structure ko (n:Str) (L R:E4):Prop where
 p:∀k,(n,k)∈L.pts↔(n,k)∈R.pts
 t:∀t,(n,t)∈L.ts↔(n,t)∈R.ts
structure RuleOk (L R:E4) (bs:List Sd):Prop where
 l:PieceW 4 L
 r:PieceW 4 R
 ag:∀n∈i6 L,n∈i6 R→ko n L R
 len:bs.length≤3
 bars:∀b∈bs,PieceW 6 b.W∧(∀x∈L.pts,x∈b.W.pts)∧∀x∈L.ts,x∈b.W.ts
def aH (K:PySem.W.Frag):Sp:=fun vs H Q _=>∃(n:Str) (L R:Sd),vs=[.str n,.ref L.a,.ref R.a]∧SdIs K H L∧SdIs K H R∧ko n L.W R.W∧Q (.bl true) H
def aJ (K:PySem.W.Frag):Sp:=fun vs H Q _=>∃(r bl:Addr) (L R:Sd) (bs:List Sd),vs=[.ref r]∧RuleIs K H r bl L R bs∧RuleOk L.W R.W bs∧∀H',Same H H'→Q (.bl true) H'
theorem rH {H:Hp}{Q:VK}(q:Q (.bl true) H):aD K .non .non H Q:=gB (.inl ⟨rfl,by rw[decide_eq_true rfl];exact q⟩)
theorem pU {H:Hp}{Q:VK}{n:Str}{A B:List (Str×Str)}(ndA:(A.map (·.1)).Nodup)(ndB:(B.map (·.1)).Nodup)(h:∀k,(n,k)∈A↔(n,k)∈B)(q:Q (.bl true) H):aD K ((r6 (C0 A) (Sum.inr n:g7)).getD .non) ((r6 (C0 B) (Sum.inr n:g7)).getD .non) H Q:=by
 cases e:r6 (C0 B) (Sum.inr n:g7) with
 |none=>
  cases e':r6 (C0 A) (Sum.inr n:g7) with
  |none=>exact rH q
  |some v=>
   obtain⟨k,rfl,hk⟩:=eU e'
   rw[Y9 ndB ((h k).mp hk)] at e;cases e
 |some v=>
  obtain⟨k,rfl,hk⟩:=eU e
  refine rT ndA ?_
  rw[decide_eq_true ((h k).mpr hk)];exact q
theorem uD {H:Hp}{Q:VK}{n:Str}{ka kb:List (g7×V)}{A B:List (Str×J0)}(wA:TiesIs K H ka A)(wB:TiesIs K H kb B)(ndA:(A.map (·.1)).Nodup)(h:∀t,(n,t)∈A↔(n,t)∈B)(q:Q (.bl true) H):aD K ((r6 ka (Sum.inr n:g7)).getD .non) ((r6 kb (Sum.inr n:g7)).getD .non) H Q:=by
 by_cases hb:n∈B.map (·.1)
 ·obtain⟨c,x,h1,h2,h3⟩:=TiesIs.val (ts:=B) wB hb
  rw[h1]
  refine nj wA ndA h3 ?_
  rw[decide_eq_true ((h x).mpr h2)];exact q
 ·have none_of:∀{kz:List (g7×V)} {Z:List (Str×J0)},TiesIs K H kz Z→n∉Z.map (·.1)→r6 kz (Sum.inr n:g7)=none:=fun w hz=>by
   have z:=bS (n:=n) w
   rw[decide_eq_false hz] at z
   cases e:r6 _ (Sum.inr n:g7) with
   |none=>rfl
   |some v=>rw[e] at z;cases z
  have ha:n∉A.map (·.1):=fun z=>by
   obtain⟨x,hx,e⟩:=List.mem_map.mp z
   obtain⟨x1,x2⟩:=x
   have e':x1=n:=e
   subst e'
   exact hb (List.mem_map.mpr ⟨_,(h x2).mp hx,rfl⟩)
  rw[none_of wA ha,none_of wB hb]
  exact rH q
theorem iM {f:Addr}{fd:FuncData}(T:Txt K mg)(F:Fun K "is_same" "is_same" N7 f fd):FnOk P w K mg base x6 1 f fd ["name","left","right"] (aH K):=by
 refine F.ok sc_is_same (fun vs H Q E h=>?_) (fun cdv A outer s H vs Q E hr h=>?_)
 ·obtain⟨n,L,R,rfl,_⟩:=h
  rfl
 ·obtain⟨n,L,R,rfl,hL,hR,ag,k⟩:=h
  have hN:=sc_is_same.nd
  have hu:=x8 hr
  refine⟨_,QSs.r (B8 (x5 (iw (hX (aV K hr) (et hu (u4 (u9 K hu) (qV 1) d0 (fun _ _=>rfl)) (qV 0)) (et hu (u4 (u9 K hu) (qV 2) d0 (fun _ _=>rfl)) (qV 0)) (j8 _)) (lF (hX (aV K hr) (et hu (u4 (u9 K hu) (qV 1) d0 (fun _ _=>rfl)) (qV 0)) (et hu (u4 (u9 K hu) (qV 2) d0 (fun _ _=>rfl)) (qV 0)) (j8 _)))))),?_⟩
  walk_at "r"
  refine b5 hL.at_.tup (b6 (j:=0) rfl) ?_
  refine⟨L.p,rfl,.inl ⟨_,hL.at_.pts⟩,?_⟩
  walk_at "r"
  refine⟨_,V0 (k:=Sum.inr n) hL.at_.pts,?_⟩
  walk_at "r"
  refine b5 hR.at_.tup (b6 (j:=0) rfl) ?_
  refine⟨R.p,rfl,.inl ⟨_,hR.at_.pts⟩,?_⟩
  walk_at "r"
  refine⟨_,V0 (k:=Sum.inr n) hR.at_.pts,?_⟩
  refine pU (O5 hL.nd) (O5 hR.nd) ag.p ?_
  refine⟨true,rfl,?_⟩
  rw[if_pos rfl]
  walk_at "r"
  refine b5 hL.at_.tup (b6 (j:=1) rfl) ?_
  refine⟨L.q,rfl,.inl ⟨_,hL.at_.ties⟩,?_⟩
  walk_at "r"
  refine⟨_,V0 (k:=Sum.inr n) hL.at_.ties,?_⟩
  walk_at "r"
  refine b5 hR.at_.tup (b6 (j:=1) rfl) ?_
  refine⟨R.q,rfl,.inl ⟨_,hR.at_.ties⟩,?_⟩
  walk_at "r"
  refine⟨_,V0 (k:=Sum.inr n) hR.at_.ties,?_⟩
  exact uD hL.at_.ts hR.at_.ts (aF hL.nd) ag.t k
theorem jr {f:Addr}{fd:FuncData}(T:Txt K mg)(O0:A7 P w K mg base x6 5 "is_piece" ["thing","most"] [] (Z3 K))(bN:A7 P w K mg base x6 1 "is_same" ["name","left","right"] [] (aH K))(jq:A7 P w K mg base x6 2 "both" ["web","other"] [] (fI K))(bH:A7 P w K mg base x6 1 "is_part" ["web","other"] [] (aQ K))(F:Fun K "is_rule" "is_rule" N3 f fd):FnOk P w K mg base x6 6 f fd ["thing"] (aJ K):=by
 refine F.ok sc_is_rule (fun vs H Q E h=>?_) (fun cdv A outer s H vs Q E hr h=>?_)
 ·obtain⟨r,bl,L,R,bs,rfl,_⟩:=h
  rfl
 ·obtain⟨r,bl,L,R,bs,rfl,hR,hO,k⟩:=h
  have hbl:=hO.len
  have hN:=sc_is_rule.nd
  have hu:=x8 hr
  refine⟨_,QSs.r (z7 (aO (iW (W9 (E8 (A8 K (qB (Q4 K P w) T.b_isinstance Boot.«isinstance» (g0 (qV 0) (g0 (kx "tuple" T.b_tuple Boot.«tuple») j0))))) (U8 (z6 (T7 K hr) (qB (E6 K P w) T.b_len Boot.«len» (g0 (qV 0) j0)) d0 (j8 _))))) (B8 (x5 jA)) aL)
   (z7 (p0 (i:=1) hN rfl (by walk_at "l") (u4 (u9 K hu) (qV 0) d0 (fun _ _=>rfl)))
   (z7 (p0 (i:=2) hN rfl (by walk_at "l") (u4 (u9 K hu) (qV 0) d0 (fun _ _=>rfl)))
   (z7 (p0 (i:=3) hN rfl (by walk_at "l") (u4 (u9 K hu) (qV 0) d0 (fun _ _=>rfl)))
   (z7 (aO (iW (W9 (E8 (A8 K (qC O0 (hr.mono (by decide)) j1 (g0 (qV 1) (g0 (lR T.c_MOST_IN_SIDE) j0))))) (U8 (E8 (A8 K (qC O0 (hr.mono (by decide)) j1 (g0 (qV 2) (g0 (lR T.c_MOST_IN_SIDE) j0)))))))) (B8 (x5 jA)) aL)
   (z7 (aO (E8 (A8 K (qB (eW K rfl) T.b_all Boot.«all» (g0 (C2 (own:=["name"]) (js:=[1,2]) (by kernel_rfl) rfl (P9 K (qC jq (hr.mono (by decide)) j1 (g0 (qV 1) (g0 (qV 2) j0)))) (fun _ _ _ _=>(P0 (i:=0) (show List.Nodup (["name","left","right"]:List Str) by decide+kernel) rfl (by walk_at "l"))) (fun _ _ _ _=>O2) (fun _ _ _ _=>(qC bN (hr.mono (by decide)) j1 (g0 (qV 0) (g0 (qV 1) (g0 (qV 2) j0)))))) j0)))) (B8 (x5 jA)) aL)
   (z7 (aO (iW (W9 (E8 (A8 K (qB (Q4 K P w) T.b_isinstance Boot.«isinstance» (g0 (qV 3) (g0 (kx "list" T.b_list Boot.«list») j0))))) (U8 (z6 cZ (qB (E6 K P w) T.b_len Boot.«len» (g0 (qV 3) j0)) (lR T.c_MOST_BARS) (j8 _))))) (B8 (x5 jA)) aL)
   (B8 (x5 (qB (eW K rfl) T.b_all Boot.«all» (g0 (C2 (own:=["bar"]) (js:=[1]) (by kernel_rfl) rfl (P9 K (qV 3)) (fun _ _ _ _=>(P0 (i:=0) (show List.Nodup (["bar","left"]:List Str) by decide+kernel) rfl (by walk_at "l"))) (fun _ _ _ _=>O2) (fun _ _ _ _=>(iw (qC O0 (hr.mono (by decide)) j1 (g0 (qV 0) (g0 (lR T.c_MOST_IN_BAR) j0))) (lF (qC bH (hr.mono (by decide)) j1 (g0 (qV 1) (g0 (qV 0) j0))))))) j0))))))))))),?_⟩
  walk_at "r"
  refine M3 (M5 (t:="tuple") (.inr (.inl ⟨rfl,_,hR.tup⟩)) (by simp) ?_)
  rw[fB]
  walk_at "r"
  refine E7 (av hR.tup ?_)
  walk_at "r"
  rw[show(!decide ((([V.ref L.a,V.ref R.a,V.ref bl]:List V).length:Int)=3))=false from rfl]
  walk_at "r"
  refine b5 hR.tup (b6 (j:=0) rfl) ?_
  walk_at "r"
  refine b5 hR.tup (b6 (j:=1) rfl) ?_
  walk_at "r"
  refine b5 hR.tup (b6 (j:=2) rfl) ?_
  walk_at "r"
  refine⟨L.a,L.p,L.q,L.kvs,L.W,4,rfl,hR.l,hO.l,fun H1 m1=>?_⟩
  walk_at "r"
  refine⟨R.a,R.p,R.q,R.kvs,R.W,4,rfl,(hR.same m1).r,hO.r,fun H2 m2=>?_⟩
  have m12:=m1.trans m2
  have R2:=hR.same m12
  walk_at "r"
  refine⟨_,_,_,_,_,_,_,_,_,_,rfl,R2.l,R2.r,fun l3 H3 s1 s2 n3 m3 or f3=>?_⟩
  have hlen:=or.len
  have hLl:=hR.l.len
  generalize hss:((s1++s2).filter fun n=>decide (n∈i6 R.W))=ss at f3
  have hssl:ss.length≤24:=by
   have z:=List.length_filter_le (fun n=>decide (n∈i6 R.W)) (s1++s2)
   rw[hss] at z;omega
  have hmem:∀n∈ss,n∈i6 L.W∧n∈i6 R.W:=fun n hn=>by
   rw[←hss] at hn
   obtain⟨z1,z2⟩:=List.mem_filter.mp hn
   exact⟨or.mem.mp z1,of_decide_eq_true z2⟩
  refine o3 (SqL.of f3) ?_
  refine j4 (n:=ss.length) (fun i out H'=>Same H3 H'∧out=List.replicate i (V.bl true)) ⟨Same.refl _,rfl⟩ (fun i out H' hi hp=>⟨_,.str (ss[i]),SqL.of (hp.1 _ _ f3),by rw[List.getElem?_map,List.getElem?_eq_getElem hi];rfl⟩) ?_ ?_
  ·rintro N i v out H4' H4 hi ⟨s4,rfl⟩ y hN'
   obtain⟨rfl,hx⟩:=Itl.get y (SqL.of (s4 _ _ f3))
   rw[List.getElem?_map,List.getElem?_eq_getElem hi] at hx
   cases hx
   have hm:=hmem _ (List.getElem_mem hi)
   have R4:=R2.same (m3.trans s4)
   walk_at "r"
   refine⟨rfl,?_⟩
   walk_at "r"
   refine⟨_,L,R,rfl,R4.l,R4.r,hO.ag _ hm.1 hm.2,?_⟩
   refine⟨b8 (by rw[List.length_replicate];omega),hN' _ _ ⟨s4,?_⟩⟩
   rw[List.replicate_succ']
  rintro out H4 ⟨s4,rfl⟩
  refine⟨⟨_,SqL.of (s4 _ _ f3),by rw[List.length_map];exact Nat.le_refl _⟩,fun D hD=>⟨b8 (by rw[List.length_replicate];omega),?_⟩⟩
  obtain⟨H5,e5,f5,m5,_⟩:=b7 (H:=H4) (o:= .lst (List.replicate ss.length (V.bl true))) hD
  walk_at "r"
  change iU K _ (n0 H4 D _) _
  rw[e5]
  refine aW (bs:=List.replicate ss.length true) (SqL.of (by rw[f5,List.map_replicate])) ?_
  rw[aj]
  have m15:=m12.trans (m3.trans (s4.trans m5))
  have R5:=hR.same m15
  walk_at "r"
  refine M3 (M5 (t:="list") (.inl ⟨rfl,_,R5.bl⟩) (by simp) ?_)
  rw[show Y3 "list" "list"=true from rfl]
  walk_at "r"
  refine E7 (N5 R5.bl ?_)
  rw[List.length_map]
  walk_at "r"
  rw[decide_eq_false (by omega)]
  walk_at "r"
  refine o3 R5.bl ?_
  refine j4 (n:=bs.length) (fun i out H'=>Same H5 H'∧out=List.replicate i (V.bl true)) ⟨Same.refl _,rfl⟩ (fun i out H' hi hp=>⟨_,.ref (bs[i]).a,hp.1.seq R5.bl,by rw[List.getElem?_map,List.getElem?_eq_getElem hi];rfl⟩) ?_ ?_
  ·rintro N i v out H6' H6 hi ⟨s6,rfl⟩ y hN'
   obtain⟨rfl,hx⟩:=Itl.get y (s6.seq R5.bl)
   rw[List.getElem?_map,List.getElem?_eq_getElem hi] at hx
   cases hx
   have hb:=hO.bars _ (List.getElem_mem hi)
   have R6:=R5.same s6
   have B6:=R6.bars _ (List.getElem_mem hi)
   walk_at "r"
   refine⟨rfl,?_⟩
   walk_at "r"
   refine⟨_,_,_,_,_,6,rfl,B6,hb.1,fun H7 m7=>?_⟩
   refine⟨true,rfl,?_⟩
   rw[if_pos rfl]
   walk_at "r"
   refine⟨_,_,_,_,_,_,_,_,_,_,rfl,(R6.same m7).l,B6.same m7,hb.2.1,hb.2.2,fun H8 m8=>?_⟩
   refine⟨b8 (by rw[List.length_replicate];omega),hN' _ _ ⟨s6.trans (m7.trans m8),?_⟩⟩
   rw[List.replicate_succ']
  rintro out H6 ⟨s6,rfl⟩
  refine⟨⟨_,s6.seq R5.bl,by rw[List.length_map];exact Nat.le_refl _⟩,fun D6 hD6=>⟨b8 (by rw[List.length_replicate];omega),?_⟩⟩
  obtain⟨H7,e7,f7,m7,_⟩:=b7 (H:=H6) (o:= .lst (List.replicate bs.length (V.bl true))) hD6
  walk_at "r"
  change iU K _ (n0 H6 D6 _) _
  rw[e7]
  refine aW (bs:=List.replicate bs.length true) (SqL.of (by rw[f7,List.map_replicate])) ?_
  rw[aj]
  exact k _ (m15.trans (s6.trans m7))
theorem WebIs.perm {H:Hp}{a p q:Addr}{kvs:List (g7×V)}{W W':E4}(h:WebAt K H a p q kvs W')(hp:H p=some (.dK (C0 W'.pts)))(hq:H q=some (.dK kvs))(ne:p≠q)(p1:W'.pts.Perm W.pts)(p2:W'.ts.Perm W.ts)(nd:(i6 W).Nodup)(len:(i6 W).length≤24)(ends:∀x∈W.ts,x.2.2.1∈W.pts.map (·.1)∧x.2.2.2∈W.pts.map (·.1))(nl:∀x∈i6 W,x.length≤100):WebIs 24 K H a p q kvs W':=by
 have pm:(i6 W').Perm (i6 W):=(p1.map _).append (p2.map _)
 refine⟨h,hp,hq,ne,pm.nodup_iff.mpr nd,by rw[pm.length_eq];exact len,fun x hx=>?_,fun x hx=>nl x (pm.mem_iff.mp hx)⟩
 have z:=ends x (p2.mem_iff.mp hx)
 exact⟨(p1.map _).mem_iff.mpr z.1,(p1.map _).mem_iff.mpr z.2⟩
theorem T3 (x y s:Str):A9 (x++y) s=(A9 x s&&A9 y s):=by
 unfold A9
 rw[show(x++y).cps.toList=x.cps.toList++y.cps.toList from Array.toList_append,List.all_append]
theorem B2 {c:Nat}{s:Str}(h:c∈s.cps.toList):A9 ⟨#[c]⟩ s=true:=by
 unfold A9
 simpa using h
theorem G6 {x s:Str}(h:A9 x s=true){c:Nat}(hc:c∈x.cps.toList):c∈s.cps.toList:=of_decide_eq_true (List.all_eq_true.mp h c hc)
theorem V4 {x y s:Str}(h:A9 y s=true)(hs:∀c∈x.cps.toList,c∈y.cps.toList):A9 x s=true:=List.all_eq_true.mpr fun c hc=>decide_eq_true (G6 h (hs c hc))
theorem pE (b:Str)(i:Int)(h0:0≤i)(h1:i≤b.length):(Txt.slice b none (some i)).cps.toList=b.cps.toList.take i.toNat:=by
 have e:Txt.slice b none (some i)=⟨((b.cps.toList.drop 0).take (i -0).toNat).toArray⟩:=by
  show StrLaws.sliceText b none (some i)=_
  exact StrLaws.sliceText_to ⟨h0,by simpa [Str.length] using h1⟩
 rw[e]
 simp
theorem fe (b:Str)(i:Int)(h0:0≤i)(h1:i≤b.length):(Txt.slice b (some i) none).cps.toList=b.cps.toList.drop i.toNat:=by
 have hl:(b.length:Int)=b.cps.toList.length:=by simp [Str.length]
 have e:Txt.slice b (some i) none=⟨((b.cps.toList.drop i.toNat).take ((b.cps.toList.length:Int) -i).toNat).toArray⟩:=by
  show StrLaws.sliceText b (some i) none=_
  exact StrLaws.sliceText_from ⟨h0,by omega⟩
 rw[e]
 show(b.cps.toList.drop i.toNat).take ((b.cps.toList.length:Int) -i).toNat=_
 exact List.take_of_length_le (by rw[List.length_drop];omega)
theorem P4 (i:Int)(h0:0≤i)(h1:i<26):Q1 i∈kSL.cps.toList:=by
 have hl:kSL.cps.toList.length=26:=by decide+kernel
 unfold Q1
 rw[List.getD_eq_getElem?_getD,List.getElem?_eq_getElem (by rw[hl];omega)]
 exact List.getElem_mem _
theorem nu:∀c∈kSL.cps.toList,c∈kNS.cps.toList:=by decide+kernel
theorem vX:kSL++("0123456789.":Str)=kNS:=by decide+kernel
theorem kG (c:Nat):∀(n:Nat) (a:Array Nat) (x:Nat),x∈((List.replicate n #[c]).foldl (·++·) a).toList→x∈a.toList∨x=c
 |0,a,x,h=> .inl h
 |n+1,a,x,h=>by
  rw[List.replicate_succ,List.foldl_cons] at h
  rcases kG c n _ x h with h|h
  ·rw[Array.toList_append,List.mem_append] at h
   rcases h with h|h
   ·exact .inl h
   ·exact .inr (by simpa using h)
  ·exact .inr h
theorem fj (c:Nat)(n:Int)(x:Nat)(h:x∈(Txt.mul ⟨#[c]⟩ n).cps.toList):x=c:=by
 unfold Txt.mul at h
 split at h
 ·exact absurd h (by simp [Str.empty])
 ·split at h
  ·simpa using h
  ·rcases kG c _ _ x h with z|z
   ·simp at z
   ·exact z
theorem ip (c:Nat)(n:Int)(h:0≤n):(Txt.mul ⟨#[c]⟩ n).length=n.toNat:=by
 unfold Txt.mul
 split
 ·show 0=n.toNat
  omega
 ·split
  ·next h=>
   have h':n=1:=by simpa [Str.length] using h
   rw[h'];rfl
  ·show((List.replicate n.toNat (#[c]:Array Nat)).foldl (·++·) #[]).size=n.toNat
   rw[aX];simp
theorem gF {x s : Str} (h : A9 x s = true) (h1 : 1 ≤ x.length) : nz x s = true := by
  unfold nz
  refine decide_eq_true (G6 h ?_)
  cases e : x.cps.toList with
  | nil => exfalso; have : x.cps.toList.length = x.length := by simp [Str.length]
           rw [e] at this; simp at this; omega
  | cons a r => exact List.mem_cons_self
theorem U0 {x s:Str}{m:Int}(h1:1≤x.length)(h2:(x.length:Int)≤m)(h3:A9 x s=true):C1 x s m=true:=by
 unfold C1
 rw[h3,decide_eq_true (by omega),decide_eq_true h2];rfl
theorem lI (c:Int)(k:Nat)(hk:k<24):u6 (jc c k)=true:=by
 have hs:A9 (jc c k) kSL=true:=V4 (y:=⟨#[Q1 (c/4 % 26)]⟩) (B2 (P4 _ (by omega) (by omega))) fun x hx=>by
  rw[fj _ _ x hx];exact List.mem_singleton_self _
 have hl:=dH c k
 unfold u6
 rw[U0 (by omega) (by omega) (V4 (y:=kSL) (by decide+kernel) fun x hx=>G6 hs hx),gF hs (by omega)];rfl
theorem kJ (b:Str)(at_ c:Int)(k:Nat)(h0:0≤at_)(h1:at_≤b.length)(hb:b.length≤23)(hb1:1≤b.length)(ha:A9 b kNS=true)(hh:nz b kSL=true):u6 (dg b at_ c k)=true:=by
 have e:(dg b at_ c k).cps.toList=b.cps.toList.take at_.toNat++[Q1 ((0+(k:Int)+c/4) % 26)]++b.cps.toList.drop at_.toNat:=by
  unfold dg
  rw[show ∀x y:Str,(x++y).cps.toList=x.cps.toList++y.cps.toList from fun x y=>Array.toList_append,show ∀x y:Str,(x++y).cps.toList=x.cps.toList++y.cps.toList from fun x y=>Array.toList_append,pE b at_ h0 h1,fe b at_ h0 h1]
 have hm:=P4 ((0+(k:Int)+c/4) % 26) (by omega) (by omega)
 have hbl:b.cps.toList.length=b.length:=by simp [Str.length]
 have hl:(dg b at_ c k).length=b.length+1:=by
  have z:=congrArg List.length e
  rw[List.length_append,List.length_append,List.length_take,List.length_drop,List.length_singleton] at z
  have z2:(dg b at_ c k).cps.toList.length=(dg b at_ c k).length:=by simp [Str.length]
  omega
 unfold u6
 rw[U0 (by omega) (by omega) (List.all_eq_true.mpr fun x hx=>?_)]
 ·show(true&&nz _ _)=true
  rw[Bool.true_and]
  unfold nz
  rw[e]
  refine decide_eq_true ?_
  unfold nz at hh
  have hh':=of_decide_eq_true hh
  cases eb:b.cps.toList with
  |nil=>rw[eb] at hbl;simp at hbl;omega
  |cons y r=>
   rw[eb] at hh'
   cases hn:at_.toNat with
   |zero=>exact hm
   |succ j=>exact hh'
 ·rw[e] at hx
  refine decide_eq_true ?_
  rcases List.mem_append.mp hx with hx|hx
  ·rcases List.mem_append.mp hx with hx|hx
   ·exact G6 ha (List.mem_of_mem_take hx)
   ·rw[List.mem_singleton.mp hx];exact nu _ hm
  ·exact G6 ha (List.mem_of_mem_drop hx)
theorem vL (z:Str)(h:z.length≤9):(Txt.slice z (some 1) (some 9)).cps.toList=z.cps.toList.drop 1:=by
 by_cases h1:1≤z.length
 ·have e:Txt.slice z (some 1) (some 9)=Txt.slice z (some 1) none:=by
   show StrLaws.sliceText z (some 1) (some 9)=StrLaws.sliceText z (some 1) none
   have q:Builtin.Str.strSliceIndices (some 1) (some 9) 1 z.length=Builtin.Str.strSliceIndices (some 1) none 1 z.length:=by
    unfold Builtin.Str.strSliceIndices
    have e1:max (0:Int) (min (9:Int) (z.length:Int))=z.length:=by omega
    simp [e1]
   unfold StrLaws.sliceText
   rw[q]
  rw[e]
  exact fe z 1 (by omega) (by omega)
 ·have e:z.cps.toList=[]:=by
   have q:z.cps.toList.length=z.length:=by simp [Str.length]
   exact List.length_eq_zero_iff.mp (by omega)
  rw[e]
  have q:=Txt.slice_le z (some 1) (some 9)
  have q2:(Txt.slice z (some 1) (some 9)).cps.toList.length=(Txt.slice z (some 1) (some 9)).length:=by simp [Str.length]
  exact List.length_eq_zero_iff.mp (by omega)
theorem dS {f:Addr}{fd:FuncData}(T:Txt K mg)(F:Fun K "_law_mixed" "_law_mixed" E5 f fd):FnOk P w K mg base x6 1 f fd ["_law_cell","_law_k"] (B0 K):=by
 refine F.ok sc__law_mixed (fun vs H Q E h=>?_) (fun cdv A outer s H vs Q E hr h=>?_)
 ·obtain⟨c,k,rfl,_⟩:=h
  rfl
 ·obtain⟨c,k,rfl,h0,h1,q⟩:=h
  have hN:=sc__law_mixed.nd
  have hu:=x8 hr
  refine⟨_,QSs.r (z7 (p0 (i:=2) hN rfl (by walk_at "l") (q8 j9 (q8 (q9 K) (q8 j9 (qV 0) d0) (q8 G1 d0 (q8 (q9 K) (qV 1) d0))) d0))
   (z7 (p0 (i:=2) hN rfl (by walk_at "l") (q8 j9 (q8 (q9 K) (q8 (q9 K) (q8 G1 (qV 2) (qV 2)) (q8 G1 d0 (qV 1))) d0) d0))
   (B8 (x5 (q8 j9 (q8 G1 (qV 2) (qV 2)) d0))))),?_⟩
  walk_at "r"
  exact q _ (by omega)
theorem dW {f : Addr} {fd : FuncData} (T : Txt K mg) (h9 : A7 P w K mg base x6 1 "_law_mixed" ["_law_cell", "_law_k"] [] (B0 K)) (F : Fun K "_law_names" "_law_names" E3 f fd) : FnOk P w K mg base x6 2 f fd ["_law_cell", "_law_many"] (T1 K) := by
  refine F.ok sc__law_names (fun vs H Q E h => ?_) (fun cdv A outer s H vs Q E hr h => ?_)
  · obtain ⟨c, n, rfl, _⟩ := h
    rfl
  · obtain ⟨c, n, rfl, h0, h1, k⟩ := h
    have hN := sc__law_names.nd
    have hu := x8 hr
    refine ⟨_, QSs.r (z7 (p0 (i := 2) hN rfl (by walk_at "l") A5)
      (z7 (aO (z6 (aV K hr) (q8 j9 (qV 0) d0) d0 (j8 _)) (B8 (x5 (C2 (own := ["_law_k"]) (js := [2, 0]) (by kernel_rfl) rfl (gE T.b_range (g0 (qV 1) j0)) (fun _ _ _ _ => (P0 (i := 0) (show List.Nodup (["_law_k", "_law_letters", "_law_cell"] : List Str) by decide +kernel) rfl (by walk_at "l"))) (fun _ _ _ _ => O2) (fun _ _ _ _ => (q8 G1 (u4 (u9 K hu) (qV 1) (q8 j9 (q8 E1 (qV 2) d0) d0) (fun _ _ => rfl)) (q8 (q9 K) (qV 0) d0)))))) aL)
      (z7 (p0 (i := 3) hN rfl (by walk_at "l") (q8 (q9 K) (qV 2) A5))
      (z7 (p0 (i := 4) hN rfl (by walk_at "l") (u4 (u9 K hu) (qV 2) (q8 j9 (q8 E1 (qV 0) d0) d0) (fun _ _ => rfl)))
      (z7 (dn PassesOwn.never rfl (gE T.b_range (g0 (q8 j9 (q8 E1 (qV 0) d0) d0) j0)) (P0 (i := 5) hN rfl (by walk_at "l"))
        (B8 (p0 (i := 4) hN rfl (by walk_at "l") (q8 (q9 K) (qV 4) (u4 (u9 K hu) (qV 3) (q8 j9 (qC h9 (hr.mono (by decide)) j1 (g0 (q8 E1 (qV 0) d0) (g0 (qV 5) j0))) d0) (fun _ _ => rfl))))))
      (z7 (p0 (i := 6) hN rfl (by walk_at "l") (q8 j9 (qC h9 (hr.mono (by decide)) j1 (g0 (qV 0) (g0 d0 j0))) (q8 (q9 K) (qB (E6 K P w) T.b_len Boot.«len» (g0 (qV 4) j0)) d0)))
      (B8 (x5 (C2 (own := ["_law_k"]) (js := [4, 2, 6, 0]) (by kernel_rfl) rfl (gE T.b_range (g0 (qV 1) j0)) (fun _ _ _ _ => (P0 (i := 0) (show List.Nodup (["_law_k", "_law_base", "_law_letters", "_law_at", "_law_cell"] : List Str) by decide +kernel) rfl (by walk_at "l"))) (fun _ _ _ _ => O2) (fun _ _ _ _ => (q8 (q9 K) (q8 (q9 K) (mw (lp K) (qV 1) pN (ir (qV 3))) (u4 (u9 K hu) (qV 2) (q8 j9 (q8 (q9 K) (qV 0) (q8 E1 (qV 4) d0)) d0) (fun _ _ => rfl))) (mw (lp K) (qV 1) (ir (qV 3)) pN)))))))))))), ?_⟩
    refine eL ?_
    walk_at "e"
    refine rS (fun σ H' => H' = H ∧ σ = [some (.int c), some (.int n), some (.str kSL), none, none, none, none]) ?_ ?_
    · rintro σ H0 ⟨rfl, rfl⟩
      refine eL ?_
      walk_at "e"
      refine i7 (by decide +kernel) ?_
      walk_at "e"
      refine eL ?_
      walk_at "e"
      have hch := aN (c / 4 % 26) (by omega) (by omega)
      have hcm := P4 (c / 4 % 26) (by omega) (by omega)
      refine K2 L4 hch ?_
      walk_at "e"
      refine eL ?_
      walk_at "e"
      refine Q8 (by omega) (by omega) ?_
      refine O7 (n := (c / 104 % 23).toNat) (fun i σ H' => H' = H0 ∧ ∃ (b : Str) (v : Option V), σ = [some (.int c), some (.int n), some (.str kSL), some (.str (kSL ++ ("0123456789." : Str))), some (.str b), v, none] ∧ b.length = i + 1 ∧ A9 b kNS = true ∧ nz b kSL = true) ⟨rfl, _, none, rfl, rfl, B2 (nu _ hcm), gF (B2 hcm) (Nat.le_refl 1)⟩ (fun i σ H' hi _ => by exact hi) ?_ ?_
      · rintro _ i v σ H1 H2 hi ⟨rfl, b, v', rfl, hb, hba, hbh⟩ ⟨rfl, rfl⟩
        walk_at "e"
        refine ⟨_, _, rfl, by omega, by omega, fun m hm => ?_⟩
        walk_at "e"
        have hl : (kSL ++ ("0123456789." : Str)).cps.toList.length = 37 := by decide +kernel
        obtain ⟨c2, hc2, hc2m⟩ := jb (xs := (kSL ++ ("0123456789." : Str)).cps.toList) (i := m % 37) (by omega) (by rw [hl]; omega)
        refine K2 (by decide +kernel) hc2 ?_
        refine i7 (j := ⟨#[c2]⟩) (b8 (by rw [d6]; omega)) ?_
        walk_at "e"
        have hc2n : c2 ∈ kNS.cps.toList := by rw [← vX]; exact List.mem_of_getElem? hc2m
        refine ⟨rfl, _, _, rfl, by rw [d7, d6]; omega, by rw [T3, hba, B2 hc2n]; rfl, ?_⟩
        unfold nz at hbh ⊢
        rw [show (b ++ (⟨#[c2]⟩ : Str)).cps.toList = b.cps.toList ++ [c2] from Array.toList_append]
        cases eb : b.cps.toList with
        | nil => have z : b.cps.toList.length = b.length := by simp [Str.length]
                 rw [eb] at z; simp at z; omega
        | cons y r => rw [eb] at hbh; exact hbh
      · rintro σ H1 ⟨rfl, b, v', rfl, hb, hba, hbh⟩
        refine ⟨Nat.le_refl _, ?_⟩
        have hb2 : b.length ≤ 23 := by omega
        refine eL ?_
        walk_at "e"
        refine ⟨_, _, rfl, by omega, by omega, fun m hm => ?_⟩
        walk_at "e"
        refine E7 (ak (b8 (by omega)) ?_)
        walk_at "e"
        refine Q8 h0 (by omega) ?_
        refine j4 (n := n.toNat) (fun i out H' => H' = H1 ∧ out = (List.range i).map fun k => V.str (dg b (m % ((b.length : Int) + 1)) c k)) ⟨rfl, rfl⟩ (fun i out H' hi _ => by exact hi) ?_ ?_
        · rintro N i v out H2 H3 hi ⟨rfl, rfl⟩ ⟨rfl, rfl⟩ hN'
          walk_at "e"
          refine ⟨rfl, ?_⟩
          walk_at "e"
          refine T5 (b8 (by omega)) ?_
          walk_at "e"
          have hc3 := aN ((0 + (i : Int) + c / 4) % 26) (by omega) (by omega)
          refine K2 L4 hc3 ?_
          have g1 := Txt.slice_le b Option.none (some (m % ((b.length : Int) + 1)))
          have g2 := Txt.slice_le b (some (m % ((b.length : Int) + 1))) Option.none
          refine i7 (j := ⟨#[Q1 ((0 + (i : Int) + c / 4) % 26)]⟩) (b8 (by rw [d6]; omega)) ?_
          walk_at "e"
          refine T5 (b8 (by omega)) ?_
          refine i7 (b8 (by rw [d7, d6]; omega)) ?_
          refine ⟨b8 (by rw [List.length_map, List.length_range]; omega), hN' _ _ ⟨rfl, ?_⟩⟩
          rw [List.range_succ, List.map_append]; rfl
        · rintro out H2 ⟨rfl, rfl⟩
          refine ⟨Nat.le_refl _, fun D hD => ⟨b8 (by rw [List.length_map, List.length_range]; omega), ?_⟩⟩
          obtain ⟨H5, e5, f5, m5, _⟩ := b7 (o := .lst _) hD
          refine k D _ ((List.range n.toNat).map (dg b (m % ((b.length : Int) + 1)) c)) hD ?_ ?_ ⟨by rw [List.length_map, List.length_range], jO _ _ _ _ (by omega), fun s hs => ?_⟩
          · show Same _ (n0 _ D _)
            rw [e5]; exact m5
          · show n0 _ D _ D = _
            rw [d9, List.map_map]; rfl
          · obtain ⟨i, _, rfl⟩ := List.mem_map.mp hs
            have hz0 := Int.emod_nonneg m (show (b.length : Int) + 1 ≠ 0 by omega)
            have hz1 := Int.emod_lt_of_pos m (show (0 : Int) < (b.length : Int) + 1 by omega)
            exact kJ b _ c i hz0 (by omega) (by omega) (by omega) hba hbh
    · intro nx hn
      walk_at "e"
      refine bj (fun h => ?_) (fun h => ?_)
      · walk_at "e"
        refine Q8 h0 (by omega) ?_
        refine j4 (n := n.toNat) (fun i out H' => H' = H ∧ out = (List.range i).map fun k => V.str (jc c k)) ⟨rfl, rfl⟩ (fun i out H' hi _ => by exact hi) ?_ ?_
        · rintro N i v out H2 H3 hi ⟨rfl, rfl⟩ ⟨rfl, rfl⟩ hN'
          walk_at "e"
          refine ⟨rfl, ?_⟩
          walk_at "e"
          have hc3 := aN (c / 4 % 26) (by omega) (by omega)
          refine K2 L4 hc3 ?_
          walk_at "e"
          refine au (z := ⟨#[Q1 (c / 4 % 26)]⟩) (by rw [d6]; omega) (by omega) (by omega) ?_
          refine ⟨b8 (by rw [List.length_map, List.length_range]; omega), hN' _ _ ⟨rfl, ?_⟩⟩
          rw [List.range_succ, List.map_append]; rfl
        · rintro out H2 ⟨rfl, rfl⟩
          refine ⟨Nat.le_refl _, fun D hD => ⟨b8 (by rw [List.length_map, List.length_range]; omega), ?_⟩⟩
          obtain ⟨H5, e5, f5, m5, _⟩ := b7 (o := .lst _) hD
          refine k D _ ((List.range n.toNat).map (jc c)) hD ?_ ?_ ⟨by rw [List.length_map, List.length_range], qP _ _, fun s hs => ?_⟩
          · show Same _ (n0 _ D _)
            rw [e5]; exact m5
          · show n0 _ D _ D = _
            rw [d9, List.map_map]; rfl
          · obtain ⟨i, hi, rfl⟩ := List.mem_map.mp hs
            have hi' := List.mem_range.mp hi
            exact lI c i (by omega)
      · walk_at "e"
        exact hn _ _ ⟨rfl, rfl⟩
theorem dO {f:Addr}{fd:FuncData}(T:Txt K mg)(F:Fun K "_law_kinds" "_law_kinds" C6 f fd):FnOk P w K mg base x6 1 f fd ["_law_cell"] (S0 K):=by
 refine F.ok sc__law_kinds (fun vs H Q E h=>?_) (fun cdv A outer s H vs Q E hr h=>?_)
 ·obtain⟨c,rfl,_⟩:=h
  rfl
 ·obtain⟨c,rfl,k⟩:=h
  have hN:=sc__law_kinds.nd
  have hu:=x8 hr
  refine⟨_,QSs.r (z7 (p0 (i:=1) hN rfl (by walk_at "l") A5)
   (z7 (p0 (i:=2) hN rfl (by walk_at "l") (u4 (u9 K hu) (qV 1) (q8 j9 (qV 0) d0) (fun _ _=>rfl)))
   (z7 (p0 (i:=3) hN rfl (by walk_at "l") (u4 (u9 K hu) (qV 1) (q8 j9 (q8 E1 (qV 0) d0) d0) (fun _ _=>rfl)))
   (z7 (p0 (i:=4) hN rfl (by walk_at "l") (q8 j9 (q8 E1 (qV 0) d0) d0))
   (B8 (x5 (cv (g0 (q8 (q9 K) (qV 2) (q8 G1 (qV 3) (qV 4))) (g0 (q8 (q9 K) (q8 G1 (qV 3) (qV 4)) (qV 2)) (g0 (mw (lp K) (q8 (q9 K) (q8 G1 (qV 2) (q8 (q9 K) (qV 4) d0)) (qV 3)) (ir d0) (ir d0)) j0)))))))))),?_⟩
  walk_at "r"
  have hch:=aN (c % 26) (by omega) (by omega)
  have hcm:=P4 (c % 26) (by omega) (by omega)
  generalize Q1 (c % 26)=ch at hch hcm
  refine K2 L4 hch ?_
  walk_at "r"
  have hco:=aN (c/26 % 26) (by omega) (by omega)
  have hom:=P4 (c/26 % 26) (by omega) (by omega)
  generalize Q1 (c/26 % 26)=co at hco hom
  refine K2 L4 hco ?_
  walk_at "r"
  have b1:=kE co (c/676 % 8) (by omega)
  have b2:=kE ch (c/676 % 8+1) (by omega)
  refine au (z:=⟨#[co]⟩) (by rw[d6];omega) (by omega) (by omega) ?_
  refine i7 (i:=⟨#[ch]⟩) (b8 (by rw[d6];omega)) ?_
  walk_at "r"
  refine au (z:=⟨#[co]⟩) (by rw[d6];omega) (by omega) (by omega) ?_
  walk_at "r"
  refine i7 (j:=⟨#[ch]⟩) (b8 (by rw[d6];omega)) ?_
  walk_at "r"
  refine au (z:=⟨#[ch]⟩) (by rw[d6];omega) (by omega) (by omega) ?_
  walk_at "r"
  refine i7 (j:=⟨#[co]⟩) (b8 (by rw[d6];omega)) ?_
  walk_at "r"
  refine T5 (b8 (by rw[d7,d6];omega)) ?_
  walk_at "r"
  refine⟨b8 (by simp),fun p n=>?_⟩
  obtain⟨H5,e5,f5,m5,_⟩:=b7 (o:= .lst _) n
  rw[e5]
  have z1:=ip co (c/676 % 8) (by omega)
  have z2:=ip ch (c/676 % 8+1) (by omega)
  have a1:A9 (Txt.mul ⟨#[co]⟩ (c/676 % 8)) kSL=true:=V4 (y:=⟨#[co]⟩) (B2 hom) fun x hx=>by rw[fj _ _ x hx];exact List.mem_singleton_self _
  have a2:A9 (Txt.mul ⟨#[ch]⟩ (c/676 % 8+1)) kSL=true:=V4 (y:=⟨#[ch]⟩) (B2 hcm) fun x hx=>by rw[fj _ _ x hx];exact List.mem_singleton_self _
  refine k p H5 [_,_,_] n m5 f5 ⟨rfl,fun x hx=>?_⟩
  rcases List.mem_cons.mp hx with rfl|hx
  ·exact U0 (by rw[d7,d6];omega) (by rw[d7,d6];omega) (by rw[T3,B2 hcm,a1];rfl)
  rcases List.mem_cons.mp hx with rfl|hx
  ·exact U0 (by rw[d7,d6];omega) (by rw[d7,d6];omega) (by rw[T3,B2 hcm,a1];rfl)
  rw[List.mem_singleton.mp hx]
  have hA:A9 (Txt.mul ⟨#[ch]⟩ (c/676 % 8+1)++(⟨#[co]⟩:Str)) kSL=true:=by rw[T3,a2,B2 hom];rfl
  have hL:(Txt.mul ⟨#[ch]⟩ (c/676 % 8+1)++(⟨#[co]⟩:Str)).length=(c/676 % 8).toNat+2:=by rw[d7,d6];omega
  generalize Txt.mul ⟨#[ch]⟩ (c/676 % 8+1)++(⟨#[co]⟩:Str)=z at hA hL
  have e9:=vL z (by omega)
  have hl9:(Txt.slice z (some 1) (some 9)).length=(c/676 % 8).toNat+1:=by
   have q1:(Txt.slice z (some 1) (some 9)).cps.toList.length=(Txt.slice z (some 1) (some 9)).length:=by simp [Str.length]
   have q2:z.cps.toList.length=z.length:=by simp [Str.length]
   rw[e9,List.length_drop] at q1
   omega
  exact U0 (by omega) (by omega) (V4 hA fun x hx=>by rw[e9] at hx;exact List.mem_of_mem_drop hx)
theorem A6 (x y:Str):(x++y).cps.toList=x.cps.toList++y.cps.toList:=Array.toList_append
theorem aR {x y:Str}(h:x.cps.toList=y.cps.toList):x=y:=Str.ext' (Array.toList_inj.mp h)
theorem aK (x:Str):x.cps.toList.length=x.length:=by simp [Str.length]
theorem gK {c:Nat}:∀{u u' v v':List Nat},c∉u→c∉u'→u++c::v=u'++c::v'→u=u'∧v=v'
 |[],[],v,v',_,_,h=>⟨rfl,(List.cons.inj h).2⟩
 |[],y::t,v,v',_,h',h=>absurd (List.mem_cons.mpr (.inl (List.cons.inj h).1)) h'
 |x::r,[],v,v',h',_,h=>absurd (List.mem_cons.mpr (.inl (List.cons.inj h).1.symm)) h'
 |x::r,y::t,v,v',h1,h2,h=>by
  have e:=List.cons.inj h
  have z:=gK (fun m=>h1 (List.mem_cons_of_mem _ m)) (fun m=>h2 (List.mem_cons_of_mem _ m)) e.2
  exact⟨by rw[e.1,z.1],z.2⟩
theorem T6 (c:Nat)(x y:Str)(r:List Str):(Str.join ⟨#[c]⟩ (x::y::r)).cps.toList=x.cps.toList++c::(Str.join ⟨#[c]⟩ (y::r)).cps.toList:=by
 show((x++(⟨#[c]⟩:Str))++Str.join ⟨#[c]⟩ (y::r)).cps.toList=_
 rw[A6,A6,List.append_assoc];rfl
theorem gS (c:Nat):∀{a b:List Str},a≠[]→b≠[]→(∀x∈a,c∉x.cps.toList)→(∀x∈b,c∉x.cps.toList)→Str.join ⟨#[c]⟩ a=Str.join ⟨#[c]⟩ b→a=b
 |[],_,h,_,_,_,_=>absurd rfl h
 |_::_,[],_,h,_,_,_=>absurd rfl h
 |[x],[y],_,_,_,_,h=>by rw[show x=y from h]
 |[x],y::z::t,_,_,h1,_,h=>by
  have e:=congrArg (fun s:Str=>s.cps.toList) h
  have e':x.cps.toList=y.cps.toList++c::(Str.join ⟨#[c]⟩ (z::t)).cps.toList:=by rw[←T6];exact e
  exact absurd (show c∈x.cps.toList by rw[e'];simp) (h1 x List.mem_cons_self)
 |x::z::t,[y],_,_,_,h2,h=>by
  have e:=congrArg (fun s:Str=>s.cps.toList) h
  have e':x.cps.toList++c::(Str.join ⟨#[c]⟩ (z::t)).cps.toList=y.cps.toList:=by rw[←T6];exact e
  exact absurd (show c∈y.cps.toList by rw[←e'];simp) (h2 y List.mem_cons_self)
 |x::z::t,y::z'::t',_,_,h1,h2,h=>by
  have e:=congrArg (fun s:Str=>s.cps.toList) h
  have e':x.cps.toList++c::(Str.join ⟨#[c]⟩ (z::t)).cps.toList=y.cps.toList++c::(Str.join ⟨#[c]⟩ (z'::t')).cps.toList:=by rw[←T6,←T6];exact e
  have q:=gK (h1 x List.mem_cons_self) (h2 y List.mem_cons_self) e'
  rw[aR q.1,gS c (by simp) (by simp) (fun w hw=>h1 w (List.mem_cons_of_mem _ hw)) (fun w hw=>h2 w (List.mem_cons_of_mem _ hw)) (aR q.2)]
theorem oe (x y:Str):PySem.Txt.split x y≠[]:=by
 unfold PySem.Txt.split
 split
 ·simp
 ·split
  ·simp
  ·rw[StrLaws.partsBetween_eq]
   obtain⟨p,r,e⟩:=StrLaws.partsFrom_ne x y.length 0 (Builtin.Str.occurrences x y 0 x.length (x.length+1))
   rw[e];simp
theorem jx (c:Nat){ws:List Str}(h:ws≠[])(hf:∀x∈ws,c∉x.cps.toList):PySem.Txt.split (Str.join ⟨#[c]⟩ ws) ⟨#[c]⟩=ws:=
 gS c (oe _ _) h (StrLaws.split_free _ c) hf (StrLaws.join_split _ _)
theorem fH (x:Str)(c i:Nat):StrLaws.At x ⟨#[c]⟩ x.length i↔x.cps.toList[i]?=some c:=StrLaws.subAt_one x c i
theorem cD (c:Nat)(n r:Str)(h:c∉n.cps.toList):PySem.Txt.partition (n++(⟨#[c]⟩:Str)++r) ⟨#[c]⟩=(n,⟨#[c]⟩,r):=by
 have e:(n++(⟨#[c]⟩:Str)++r).cps.toList=n.cps.toList++c::r.cps.toList:=by rw[A6,A6,List.append_assoc];rfl
 generalize n++(⟨#[c]⟩:Str)++r=x at e
 have hn:x.cps.toList[n.cps.toList.length]?=some c:=by rw[e];simp
 unfold PySem.Txt.partition
 rcases StrLaws.occ_head x ⟨#[c]⟩ 1 (Nat.le_refl 1) with⟨_,h2⟩|⟨i,t,h1,h2,h3⟩
 ·exact absurd ((fH x c _).mpr hn) (h2 _)
 ·have hi:=(fH x c i).mp h2
  have e1:¬n.cps.toList.length<i:=fun z=>h3 _ z ((fH x c _).mpr hn)
  have e2:¬i<n.cps.toList.length:=fun z=>by
   rw[e,List.getElem?_append_left z] at hi
   exact h (List.mem_of_getElem? hi)
  have e3:i=n.cps.toList.length:=by omega
  rw[h1]
  show(Builtin.Str.strSub x 0 i,(⟨#[c]⟩:Str),Builtin.Str.strSub x (i+1) x.length)=_
  have q1:Builtin.Str.strSub x 0 i=n:=aR (by rw[StrLaws.strSub_toList,e,e3];simp)
  have q2:Builtin.Str.strSub x (i+1) x.length=r:=aR (by
   rw[StrLaws.strSub_toList,←aK,e,e3]
   have z:(n.cps.toList++c::r.cps.toList).drop (n.cps.toList.length+1)=r.cps.toList:=by
    rw[List.drop_append];simp
   rw[z]
   exact List.take_of_length_le (by simp;omega))
  rw[q1,q2]
theorem pS (c:Nat)(x:Str)(h:c∉x.cps.toList):PySem.Txt.partition x ⟨#[c]⟩=(x,Str.empty,Str.empty):=by
 unfold PySem.Txt.partition
 rcases StrLaws.occ_head x ⟨#[c]⟩ 1 (Nat.le_refl 1) with⟨h1,_⟩|⟨i,t,_,h2,_⟩
 ·rw[h1]
 ·exact absurd (List.mem_of_getElem? ((fH x c i).mp h2)) h
theorem lW (c:Nat)(x:Str):PySem.Txt.endswith (x++(⟨#[c]⟩:Str)) ⟨#[c]⟩=true:=by
 unfold PySem.Txt.endswith
 have hl:(x++(⟨#[c]⟩:Str)).length=x.length+1:=by rw[d7,d6]
 have h:=(StrLaws.subAt_one (x++(⟨#[c]⟩:Str)) c x.length).mpr (by rw[A6,←aK x];simp)
 rw[hl]
 show(decide (0+1≤x.length+1)&&Builtin.Str.subAt (x++(⟨#[c]⟩:Str)) ⟨#[c]⟩ (x.length+1 -1))=true
 rw[Nat.add_sub_cancel,h.2,decide_eq_true (by omega)];rfl
theorem qq (c:Nat)(x:Str):PySem.Txt.slice (x++(⟨#[c]⟩:Str)) none (some (-1))=x:=by
 have hl:(x++(⟨#[c]⟩:Str)).length=x.length+1:=by rw[d7,d6]
 show StrLaws.sliceText _ none (some (-1))=x
 rw[StrLaws.sliceText_neg_hi _ _ (by omega) (by omega),hl]
 show PySem.Txt.slice (x++(⟨#[c]⟩:Str)) none (some (-1+((x.length+1:Nat):Int)))=x
 refine aR ?_
 rw[pE _ _ (by omega) (by omega),A6,show(-1+((x.length+1:Nat):Int)).toNat=x.cps.toList.length by rw[aK];omega]
 simp
def lj (x:Str×Str):Str:=x.1++":"++x.2
def bO (x:Str×J0):Str:=x.1++":"++x.2.1++"("++x.2.2.1++","++x.2.2.2++")"
abbrev L0:=Str×Sum Str J0
def w4 (x:L0):Str:=match x.2 with
 | .inl k=>lj (x.1,k)
 | .inr t=>bO (x.1,t)
def oV (x:Str×Str):L0:=(x.1,.inl x.2)
def dG (x:Str×J0):L0:=(x.1,.inr x.2)
def items (W:E4):List L0:=W.pts.map oV++W.ts.map dG
def M6:List Str→Str
 |[]=>"-"
 |w::r=>Str.join " " (w::r)
theorem me:(" ":Str)=⟨#[32]⟩:=by decide+kernel
theorem G4:(":":Str)=⟨#[58]⟩:=by decide+kernel
theorem U4:("(":Str)=⟨#[40]⟩:=by decide+kernel
theorem aA:(",":Str)=⟨#[44]⟩:=by decide+kernel
theorem dF:(")":Str)=⟨#[41]⟩:=by decide+kernel
structure P7 (x:L0):Prop where
 nm:u6 x.1=true
 pt:∀k,x.2= .inl k→A0 k=true
 ti:∀t,x.2= .inr t→A0 t.1=true∧u6 t.2.1=true∧u6 t.2.2=true
theorem K5 {x:Str}(h:u6 x=true):A9 x kNS=true:=by
 unfold u6 C1 at h
 simp only[Bool.and_eq_true] at h
 exact h.1.2
theorem aq {x:Str}(h:A0 x=true):A9 x kSL=true:=by
 unfold A0 C1 at h
 simp only[Bool.and_eq_true] at h
 exact h.2
theorem A2 {x:Str}(h:u6 x=true):x.length≤24:=by
 unfold u6 at h
 have:=ah (Bool.and_eq_true _ _▸h).1
 omega
theorem C4 {x:Str}(h:A0 x=true):x.length≤8:=by
 have:=ah (show C1 x kSL 8=true from h)
 omega
theorem M0 {x s:Str}{c:Nat}(h:A9 x s=true)(hc:c∉s.cps.toList):c∉x.cps.toList:=fun m=>hc (G6 h m)
theorem xF:32∉kNS.cps.toList:=by decide+kernel
theorem yN:58∉kNS.cps.toList:=by decide+kernel
theorem yW:44∉kNS.cps.toList:=by decide+kernel
theorem vn:32∉kSL.cps.toList:=by decide+kernel
theorem yI:40∉kSL.cps.toList:=by decide+kernel
theorem bF (c:Nat):(⟨#[c]⟩:Str).cps.toList=[c]:=rfl
theorem mf {x:L0}(h:P7 x):32∉(w4 x).cps.toList:=by
 obtain⟨n,k|t⟩:=x
 ·show 32∉(n++":"++k:Str).cps.toList
  rw[G4,A6,A6,bF]
  have h1:=M0 (K5 h.nm) xF
  have h2:=M0 (aq (h.pt k rfl)) vn
  simp only[List.mem_append,List.mem_singleton,not_or]
  exact⟨⟨h1,by decide⟩,h2⟩
 ·obtain⟨k,a,b⟩:=t
  show 32∉(n++":"++k++"("++a++","++b++")":Str).cps.toList
  rw[G4,U4,aA,dF]
  have h1:=M0 (K5 h.nm) xF
  have h2:=M0 (aq (h.ti _ rfl).1) vn
  have h3:=M0 (K5 (h.ti _ rfl).2.1) xF
  have h4:=M0 (K5 (h.ti _ rfl).2.2) xF
  simp only[A6,bF,List.mem_append,List.mem_singleton,not_or]
  exact⟨⟨⟨⟨⟨⟨⟨h1,by decide⟩,h2⟩,by decide⟩,h3⟩,by decide⟩,h4⟩,by decide⟩
theorem ja (x:L0):58∈(w4 x).cps.toList:=by
 obtain⟨n,k|t⟩:=x
 ·show 58∈(n++":"++k:Str).cps.toList
  rw[G4,A6,A6,bF];simp
 ·obtain⟨k,a,b⟩:=t
  show 58∈(n++":"++k++"("++a++","++b++")":Str).cps.toList
  rw[G4,U4,aA,dF]
  simp only[A6,bF];simp
theorem U2 {x:L0}(h:P7 x):(w4 x).length≤100:=by
 obtain⟨n,k|t⟩:=x
 ·show(n++":"++k:Str).length≤100
  have l1:n.length≤24:=A2 h.nm
  have l2:=C4 (h.pt k rfl)
  rw[G4,d7,d7,d6];omega
 ·obtain⟨k,a,b⟩:=t
  show(n++":"++k++"("++a++","++b++")":Str).length≤100
  have l1:n.length≤24:=A2 h.nm
  have l2:k.length≤8:=C4 (h.ti _ rfl).1
  have l3:a.length≤24:=A2 (h.ti _ rfl).2.1
  have l4:b.length≤24:=A2 (h.ti _ rfl).2.2
  rw[G4,U4,aA,dF]
  simp only[d7,d6];omega
theorem ib (c:Nat){s:Str}:∀{ws:List Str},s∈ws→∀d∈s.cps.toList,d∈(Str.join ⟨#[c]⟩ ws).cps.toList
 |[x],h,d,hd=>by rw[List.mem_singleton.mp h] at hd;exact hd
 |x::y::r,h,d,hd=>by
  rw[T6]
  rcases List.mem_cons.mp h with e|e
  ·rw[e] at hd;exact List.mem_append_left _ hd
  ·exact List.mem_append_right _ (List.mem_cons_of_mem _ (ib c e d hd))
theorem jw {x:L0}{r:List L0}:M6 ((x::r).map w4)≠"-":=fun h=>by
 have z:=ib 32 (s:=w4 x) (ws:=(x::r).map w4) (by simp) 58 (ja x)
 have e:Str.join ⟨#[32]⟩ ((x::r).map w4)=M6 ((x::r).map w4):=by
  show _=Str.join " " _
  rw[me];rfl
 rw[e,h] at z
 exact absurd z (by decide+kernel)
theorem eV {B:Nat}(c:Nat):∀{ws:List Str},(∀y∈ws,y.length≤B)→(Str.join ⟨#[c]⟩ ws).length≤ws.length*(B+1)
 |[],_=>Nat.zero_le _
 |[x],h=>by
  show x.length≤1*(B+1)
  have:=h x List.mem_cons_self
  omega
 |x::y::r,h=>by
  show((x++(⟨#[c]⟩:Str))++Str.join ⟨#[c]⟩ (y::r)).length≤(r.length+1+1)*(B+1)
  have ih:(Str.join ⟨#[c]⟩ (y::r)).length≤(r.length+1)*(B+1):=eV c (ws:=y::r) fun z hz=>h z (List.mem_cons_of_mem _ hz)
  have:=h x List.mem_cons_self
  rw[d7,d7,d6]
  rw[Nat.succ_mul (r.length+1)]
  omega
def ar (K:PySem.W.Frag):Sp:=fun vs H Q _=>∃(l:Addr) (ws:List Str),vs=[.ref l]∧SqL K H l (ws.map V.str)∧ws.length≤1000∧(∀y∈ws,y.length≤1000)∧Q (.str (M6 ws)) H
def P6 (K:PySem.W.Frag):Sp:=fun vs H Q _=>∃n k:Str,vs=[.str n,.str k]∧n.length≤100∧k.length≤100∧Q (.str (lj (n,k))) H
def V8 (K:PySem.W.Frag):Sp:=fun vs H Q _=>∃(n:Str) (a:Addr) (t:J0),vs=[.str n,.ref a]∧SqT K H a (aw t)∧n.length≤100∧t.1.length≤100∧t.2.1.length≤100∧t.2.2.length≤100∧Q (.str (bO (n,t))) H
structure jS (W:E4) (ps:List (Str×Str)) (ts:List (Str×J0)):Prop where
 p1:ps.Perm W.pts
 p2:ts.Perm W.ts
 o1:sortedS (ps.map (·.1))=true
 o2:sortedS (ts.map (·.1))=true
def K0 (ps:List (Str×Str))(ts:List (Str×J0)):Str:=M6 ((ps.map oV++ts.map dG).map w4)
def Y0 (K:PySem.W.Frag):Sp:=fun vs H Q _=>∃(a p q:Addr) (kvs:List (g7×V)) (W:E4),vs=[.ref a]∧WebIs 16 K H a p q kvs W∧bh W∧∀(H':Hp) (ps:List (Str×Str)) (ts:List (Str×J0)),Same H H'→jS W ps ts→Q (.str (K0 ps ts)) H'
def S5 (K:PySem.W.Frag):Sp:=fun vs H Q _=>∃(a p q:Addr) (kvs:List (g7×V)) (W:E4),vs=[.ref a]∧WebIs 16 K H a p q kvs W∧bh W∧∀(H':Hp) (ps:List (Str×Str)) (ts:List (Str×J0)),Same H H'→jS W ps ts→Q (.str (K0 ps ts)) H'
theorem K4 {te:TE}{r:List TE}{acc:Str}{σ:L2.St}{H:Hp}{Q:VK}(q:te σ H fun v H1=>∃y:Str,v= .str y∧(acc++y).length≤1000∧tQ r (acc++y) σ H1 Q):tQ (te::r) acc σ H Q:=q
theorem pq {acc:Str}{σ:L2.St}{H:Hp}{Q:VK}(q:Q (.str acc) H):tQ [] acc σ H Q:=q
theorem J1:Str.empty.length=0:=rfl
theorem la {f:Addr}{fd:FuncData}(T:Txt K mg)(F:Fun K "joined" "joined" V5 f fd):FnOk P w K mg base x6 1 f fd ["texts"] (ar K):=by
 refine F.ok sc_joined (fun vs H Q E h=>?_) (fun cdv A outer s H vs Q E hr h=>?_)
 ·obtain⟨l,ws,rfl,_⟩:=h
  rfl
 ·obtain⟨l,ws,rfl,hl,h1,h2,q⟩:=h
  have hN:=sc_joined.nd
  have hu:=x8 hr
  refine⟨_,QSs.r (B8 (x5 (yh (A8 K (qV 0)) (qM PySem.F.plainAttrs_str PySem.F.slot_str_join PySem.F.type_str_join (D3 K) K A5 (g0 (qV 0) j0)) (lR T.c_NOTHING)))),?_⟩
  walk_at "r"
  cases ws with
  |nil=>
   refine⟨false,.inl ⟨_,hl,rfl⟩,?_⟩
   rw[if_neg (by simp)]
   walk_at "r"
   exact q
  |cons x r=>
   refine⟨true,.inl ⟨_,hl,rfl⟩,?_⟩
   rw[if_pos rfl]
   walk_at "r"
   refine⟨rfl,?_⟩
   walk_at "r"
   exact⟨_,l,x::r,rfl,rfl,hl,by decide+kernel,h1,h2,q⟩
theorem dI {f:Addr}{fd:FuncData}(T:Txt K mg)(F:Fun K "point_shown" "point_shown" B5 f fd):FnOk P w K mg base x6 1 f fd ["name","kind"] (P6 K):=by
 refine F.ok sc_point_shown (fun vs H Q E h=>?_) (fun cdv A outer s H vs Q E hr h=>?_)
 ·obtain⟨n,k,rfl,_⟩:=h
  rfl
 ·obtain⟨n,k,rfl,h1,h2,q⟩:=h
  have hN:=sc_point_shown.nd
  have hu:=x8 hr
  refine⟨_,QSs.r (B8 (x5 (yO (vk (qV 0) (wF (vk (qV 1) yP)))))),?_⟩
  walk_at "r"
  refine K4 ?_
  walk_at "r"
  refine⟨n,rfl,by rw[d7,J1];omega,K4 ?_⟩
  walk_at "r"
  refine⟨_,rfl,by rw[G4];simp only[d7,J1,d6];omega,K4 ?_⟩
  walk_at "r"
  refine⟨k,rfl,by rw[G4];simp only[d7,J1,d6];omega,pq ?_⟩
  rw[Str.empty_append]
  exact q
theorem fV {f:Addr}{fd:FuncData}(T:Txt K mg)(F:Fun K "tie_shown" "tie_shown" G8 f fd):FnOk P w K mg base x6 1 f fd ["name","tie"] (V8 K):=by
 refine F.ok sc_tie_shown (fun vs H Q E h=>?_) (fun cdv A outer s H vs Q E hr h=>?_)
 ·obtain⟨n,a,t,rfl,_⟩:=h
  rfl
 ·obtain⟨n,a,⟨k,b,c⟩,rfl,hT,h1,h2,h3,h4,q⟩:=h
  have hN:=sc_tie_shown.nd
  have hu:=x8 hr
  refine⟨_,QSs.r (z7 (p0 (i:=2) hN rfl (by walk_at "l") (u4 (u9 K hu) (qV 1) d0 (fun _ _=>rfl)))
   (z7 (p0 (i:=3) hN rfl (by walk_at "l") (u4 (u9 K hu) (qV 1) d0 (fun _ _=>rfl)))
   (z7 (p0 (i:=4) hN rfl (by walk_at "l") (u4 (u9 K hu) (qV 1) d0 (fun _ _=>rfl)))
   (B8 (x5 (yO (vk (qV 0) (wF (vk (qV 2) (wF (vk (qV 3) (wF (vk (qV 4) (wF yP)))))))))))))),?_⟩
  walk_at "r"
  refine b5 hT (b6 (j:=0) rfl) ?_
  walk_at "r"
  refine b5 hT (b6 (j:=1) rfl) ?_
  walk_at "r"
  refine b5 hT (b6 (j:=2) rfl) ?_
  walk_at "r"
  have h2:k.length≤100:=h2
  have h3:b.length≤100:=h3
  have h4:c.length≤100:=h4
  refine K4 ?_
  walk_at "r"
  refine⟨n,rfl,by rw[d7,J1];omega,K4 ?_⟩
  walk_at "r"
  refine⟨_,rfl,by rw[G4];simp only[d7,J1,d6];omega,K4 ?_⟩
  walk_at "r"
  refine⟨k,rfl,by rw[G4];simp only[d7,J1,d6];omega,K4 ?_⟩
  walk_at "r"
  refine⟨_,rfl,by rw[G4,U4];simp only[d7,J1,d6];omega,K4 ?_⟩
  walk_at "r"
  refine⟨b,rfl,by rw[G4,U4];simp only[d7,J1,d6];omega,K4 ?_⟩
  walk_at "r"
  refine⟨_,rfl,by rw[G4,U4,aA];simp only[d7,J1,d6];omega,K4 ?_⟩
  walk_at "r"
  refine⟨c,rfl,by rw[G4,U4,aA];simp only[d7,J1,d6];omega,K4 ?_⟩
  walk_at "r"
  refine⟨_,rfl,by rw[G4,U4,aA,dF];simp only[d7,J1,d6];omega,pq ?_⟩
  rw[Str.empty_append]
  exact q
theorem lX {W:E4}{ps:List (Str×Str)}{ts:List (Str×J0)}(h:jS W ps ts):(ps.map oV++ts.map dG).Perm (items W):=(h.p1.map _).append (h.p2.map _)
theorem ie {pts:List (Str×Str)}{s1:List Str}(h:s1.Perm (pts.map (·.1))):∃ps:List (Str×Str),s1=ps.map (·.1)∧ps.Perm pts:=by
 have pr:∀l:List (Str×Str),Paired (fun(n:Str) (x:Str×Str)=>n=x.1) (l.map (·.1)) l:=fun l=>by
  induction l with
  |nil=>exact .nil
  |cons x r ih=>exact .cons rfl ih
 obtain⟨r,h1,h2⟩:=Q7 h (pr pts)
 refine⟨r,?_,h2⟩
 clear h2 h
 induction h1 with
 |nil=>rfl
 |cons e _ ih=>rw[List.map_cons,e,ih]
theorem kl {pts:List (Str×J0)}{s1:List Str}(h:s1.Perm (pts.map (·.1))):∃ps:List (Str×J0),s1=ps.map (·.1)∧ps.Perm pts:=by
 have pr:∀l:List (Str×J0),Paired (fun(n:Str) (x:Str×J0)=>n=x.1) (l.map (·.1)) l:=fun l=>by
  induction l with
  |nil=>exact .nil
  |cons x r ih=>exact .cons rfl ih
 obtain⟨r,h1,h2⟩:=Q7 h (pr pts)
 refine⟨r,?_,h2⟩
 clear h2 h
 induction h1 with
 |nil=>rfl
 |cons e _ ih=>rw[List.map_cons,e,ih]
theorem bp {W:E4}(h:bh W){x:Str×Str}(hx:x∈W.pts):P7 (oV x):=⟨h.nm _ (List.mem_append_left _ (List.mem_map.mpr ⟨x,hx,rfl⟩)),fun k e=>by cases e;exact h.kd x hx,fun t e=>by cases e⟩
theorem Y7 {W:E4}(h:bh W)(he:∀x∈W.ts,x.2.2.1∈W.pts.map (·.1)∧x.2.2.2∈W.pts.map (·.1)){x:Str×J0}(hx:x∈W.ts):P7 (dG x):=
 ⟨h.nm _ (List.mem_append_right _ (List.mem_map.mpr ⟨x,hx,rfl⟩)),(fun k e=>by cases e),fun t e=>by cases e;exact⟨h.tk x hx,h.nm _ (List.mem_append_left _ (he x hx).1),h.nm _ (List.mem_append_left _ (he x hx).2)⟩⟩
theorem gG (ps:List (Str×Str))(ts:List (Str×J0)):((ps.map oV++ts.map dG).map w4)=ps.map lj++ts.map bO:=by
 rw[List.map_append,List.map_map,List.map_map];rfl
theorem t7 {α:Type}{l:List α}{i:Nat}{x:α}(h:l[i]?=some x):l.take (i+1)=l.take i++[x]:=by rw[List.take_succ,h];rfl
theorem eX {f:Addr}{fd:FuncData}(T:Txt K mg)(S8:A7 P w K mg base x6 1 "point_shown" ["name","kind"] [] (P6 K))(U6:A7 P w K mg base x6 1 "joined" ["texts"] [] (ar K))(Y6:A7 P w K mg base x6 1 "tie_shown" ["name","tie"] [] (V8 K))(F:Fun K "web_shown" "web_shown" G7 f fd):FnOk P w K mg base x6 2 f fd ["web"] (Y0 K):=by
 refine F.ok sc_web_shown (fun vs H Q E h=>?_) (fun cdv A outer s H vs Q E hr h=>?_)
 ·obtain⟨a,p,q,kvs,W,rfl,_⟩:=h
  rfl
 ·obtain⟨a,p,q,kvs,W,rfl,hW,hG,k⟩:=h
  have hWl:=hW.len
  rw[L9] at hWl
  have hN:=sc_web_shown.nd
  have hu:=x8 hr
  refine⟨_,QSs.r (z7 (cK (i:=1) hN rfl (by walk_at "l") (own:=["name"]) (js:=[0]) (by kernel_rfl) rfl (P9 K (qB (N1 K rfl) T.b_sorted Boot.«sorted» (g0 (u4 (u9 K hu) (qV 0) d0 (fun _ _=>rfl)) j0))) (fun _ _ _ _=>(P0 (i:=0) (show List.Nodup (["name","web"]:List Str) by decide+kernel) rfl (by walk_at "l"))) (fun _ _ _ _=>O2) (fun _ _ _ _=>(qC S8 (hr.mono (by decide)) j1 (g0 (qV 0) (g0 (u4 (u9 K hu) (u4 (u9 K hu) (qV 1) d0 (fun _ _=>rfl)) (qV 0) (fun _ _=>rfl)) j0)))))
   (B8 (x5 (qC U6 (hr.mono (by decide)) j1 (g0 (q8 (q9 K) (qV 1) (C2 (own:=["name"]) (js:=[0]) (by kernel_rfl) rfl (P9 K (qB (N1 K rfl) T.b_sorted Boot.«sorted» (g0 (u4 (u9 K hu) (qV 0) d0 (fun _ _=>rfl)) j0))) (fun _ _ _ _=>(P0 (i:=0) (show List.Nodup (["name","web"]:List Str) by decide+kernel) rfl (by walk_at "l"))) (fun _ _ _ _=>O2) (fun _ _ _ _=>(qC Y6 (hr.mono (by decide)) j1 (g0 (qV 0) (g0 (u4 (u9 K hu) (u4 (u9 K hu) (qV 1) d0 (fun _ _=>rfl)) (qV 0) (fun _ _=>rfl)) j0)))))) j0))))),?_⟩
  walk_at "r"
  refine b5 hW.at_.tup (b6 (j:=0) rfl) ?_
  walk_at "r"
  refine x9 (ss:=W.pts.map (·.1)) hW.at_.pts (by rw[P5,A3]) (by rw[List.length_map];omega) (fun s1 a1 b1 l1 n1=>?_)
  obtain⟨ps,rfl,pp⟩:=ie a1
  obtain⟨H1,e1,f1,m1,_⟩:=b7 (o:= .lst _) n1
  rw[e1]
  have W1:=hW.same m1
  have hpl:=pp.length_eq
  refine o3 (SqL.of f1) ?_
  refine j4 (n:=ps.length) (fun i out H'=>Same H1 H'∧out=((ps.take i).map lj).map V.str) ⟨Same.refl _,rfl⟩ (fun i out H' hi hp=>⟨_,.str (ps[i].1),SqL.of (hp.1 _ _ f1),by rw[List.getElem?_map,List.getElem?_map,List.getElem?_eq_getElem hi];rfl⟩) ?_ ?_
  ·rintro N i v out H2 H3 hi ⟨s2,rfl⟩ y hN'
   obtain⟨rfl,hx⟩:=Itl.get y (SqL.of (s2 _ _ f1))
   rw[List.getElem?_map,List.getElem?_map] at hx
   have hxi:=List.getElem?_eq_getElem hi
   generalize ps[i]=x at hxi
   rw[hxi] at hx
   cases hx
   have hxm:x∈W.pts:=pp.mem_iff.mp (List.mem_of_getElem? hxi)
   have gx:=bp hG hxm
   have l1:=A2 gx.nm
   have l2:=C4 (gx.pt _ rfl)
   walk_at "r"
   refine⟨rfl,?_⟩
   have W2:=W1.same s2
   walk_at "r"
   refine b5 W2.at_.tup (b6 (j:=0) rfl) ?_
   walk_at "r"
   refine E9 (v:= .str x.2) (by have z':=V0 (k:=Sum.inr x.1) W2.at_.pts;rw[Y9 (O5 hW.nd) hxm] at z';exact z') ?_
   walk_at "r"
   refine⟨x.1,x.2,rfl,by have:x.1.length≤24:=l1;omega,by omega,?_⟩
   refine⟨b8 (by rw[List.length_map,List.length_map,List.length_take];omega),hN' _ _ ⟨s2,?_⟩⟩
   rw[t7 hxi,List.map_append,List.map_append];rfl
  ·rintro out H2 ⟨s2,rfl⟩
   refine⟨⟨_,SqL.of (s2 _ _ f1),by rw[List.length_map,List.length_map];exact Nat.le_refl _⟩,fun D hD=>⟨b8 (by rw[List.length_map,List.length_map,List.length_take];omega),?_⟩⟩
   rw[List.take_of_length_le (Nat.le_refl _)]
   obtain⟨H3,e3,f3,m3,_⟩:=b7 (o:= .lst ((ps.map lj).map V.str)) hD
   show Z8 _ _ _ (n0 H2 D _) _
   rw[e3]
   have W3:=W1.same (s2.trans m3)
   walk_at "r"
   refine b5 W3.at_.tup (b6 (j:=1) rfl) ?_
   walk_at "r"
   refine x9 (ss:=W.ts.map (·.1)) W3.at_.ties (by rw[W3.at_.ts.keys,A3]) (by rw[List.length_map];omega) (fun s4 a4 b4 l4 n4=>?_)
   obtain⟨ts,rfl,pt⟩:=kl a4
   obtain⟨H4,e4,f4,m4,_⟩:=b7 (o:= .lst _) n4
   rw[e4]
   have W4:=W3.same m4
   have htl:=pt.length_eq
   refine o3 (SqL.of f4) ?_
   refine j4 (n:=ts.length) (fun i out H'=>Same H4 H'∧out=((ts.take i).map bO).map V.str) ⟨Same.refl _,rfl⟩ (fun i out H' hi hp=>⟨_,.str (ts[i].1),SqL.of (hp.1 _ _ f4),by rw[List.getElem?_map,List.getElem?_map,List.getElem?_eq_getElem hi];rfl⟩) ?_ ?_
   ·rintro N i v out H5 H6 hi ⟨s5,rfl⟩ y hN'
    obtain⟨rfl,hx⟩:=Itl.get y (SqL.of (s5 _ _ f4))
    rw[List.getElem?_map,List.getElem?_map] at hx
    have hxi:=List.getElem?_eq_getElem hi
    generalize ts[i]=x at hxi
    rw[hxi] at hx
    cases hx
    have hxm:x∈W.ts:=pt.mem_iff.mp (List.mem_of_getElem? hxi)
    have gx:=Y7 hG hW.ends hxm
    have l1:=A2 gx.nm
    have l2:=gx.ti _ rfl
    have l3:=C4 l2.1
    have l4:=A2 l2.2.1
    have l5:=A2 l2.2.2
    walk_at "r"
    refine⟨rfl,?_⟩
    have W5:=W4.same s5
    obtain⟨b,hb,sb⟩:=fP W5.at_.ts (aF hW.nd) hxm
    walk_at "r"
    refine b5 W5.at_.tup (b6 (j:=1) rfl) ?_
    walk_at "r"
    refine E9 (v:= .ref b) (by have z':=V0 (k:=Sum.inr x.1) W5.at_.ties;rw[hb] at z';exact z') ?_
    walk_at "r"
    refine⟨x.1,b,x.2,rfl,sb,by have:x.1.length≤24:=l1;omega,by omega,by omega,by omega,?_⟩
    refine⟨b8 (by rw[List.length_map,List.length_map,List.length_take];omega),hN' _ _ ⟨s5,?_⟩⟩
    rw[t7 hxi,List.map_append,List.map_append];rfl
   ·rintro out H5 ⟨s5,rfl⟩
    refine⟨⟨_,SqL.of (s5 _ _ f4),by rw[List.length_map,List.length_map];exact Nat.le_refl _⟩,fun D5 hD5=>⟨b8 (by rw[List.length_map,List.length_map,List.length_take];omega),?_⟩⟩
    rw[List.take_of_length_le (Nat.le_refl _)]
    obtain⟨H6,e6,f6,m6,_⟩:=b7 (o:= .lst ((ts.map bO).map V.str)) hD5
    show bz K _ _ (n0 H5 D5 _) _
    rw[e6]
    have m36:=m4.trans (s5.trans m6)
    refine cg (m36 _ _ f3) f6 (b8 (by simp only[List.length_map];omega)) (fun l7 n7=>?_)
    obtain⟨H7,e7,f7,m7,_⟩:=b7 (o:= .lst _) n7
    rw[e7]
    walk_at "r"
    refine⟨l7,ps.map lj++ts.map bO,rfl,SqL.of (by rw[f7,List.map_append]),by simp only[List.length_append,List.length_map];omega,fun y hy=>?_,?_⟩
    ·rcases List.mem_append.mp hy with h|h
     ·obtain⟨x,hx,rfl⟩:=List.mem_map.mp h
      have z:=U2 (bp hG (pp.mem_iff.mp hx))
      exact Nat.le_trans z (by omega)
     ·obtain⟨x,hx,rfl⟩:=List.mem_map.mp h
      have z:=U2 (Y7 hG hW.ends (pt.mem_iff.mp hx))
      exact Nat.le_trans z (by omega)
    ·rw[←gG]
     exact k H7 ps ts (m1.trans (s2.trans (m3.trans (m36.trans m7)))) ⟨pp,pt,b1,b4⟩
theorem xQ {n k:Str}(h1:n.length≤24)(h2:k.length≤8):(n++(":":Str)++k).length≤1000:=by rw[G4];simp only[d7,d6];omega
theorem dX {f:Addr}{fd:FuncData}(T:Txt K mg)(F:Fun K "_law_shown" "_law_shown" D4 f fd):FnOk P w K mg base x6 1 f fd ["_law_web"] (S5 K):=by
 refine F.ok sc__law_shown (fun vs H Q E h=>?_) (fun cdv A outer s H vs Q E hr h=>?_)
 ·obtain⟨a,p,q,kvs,W,rfl,_⟩:=h
  rfl
 ·obtain⟨a,p,q,kvs,W,rfl,hW,hG,k⟩:=h
  have hWl:=hW.len
  rw[L9] at hWl
  have hN:=sc__law_shown.nd
  have hu:=x8 hr
  refine⟨_,QSs.r (z7 (p0 (i:=1) hN rfl (by walk_at "l") (cv j0))
   (z7 (dn PassesOwn.never rfl (P9 K (qB (N1 K rfl) T.b_sorted Boot.«sorted» (g0 (u4 (u9 K hu) (qV 0) d0 (fun _ _=>rfl)) j0))) (P0 (i:=2) hN rfl (by walk_at "l"))
    (B8 (yj (qM PySem.F.plainAttrs_list PySem.F.slot_list_append PySem.F.type_list_append M7 K (qV 1) (g0 (q8 (q9 K) (q8 (q9 K) (qV 2) A5) (u4 (u9 K hu) (u4 (u9 K hu) (qV 0) d0 (fun _ _=>rfl)) (qV 2) (fun _ _=>rfl))) j0)))))
   (z7 (dn PassesOwn.never rfl (P9 K (qB (N1 K rfl) T.b_sorted Boot.«sorted» (g0 (u4 (u9 K hu) (qV 0) d0 (fun _ _=>rfl)) j0))) (P0 (i:=2) hN rfl (by walk_at "l"))
    (z7 (lO (u4 (u9 K hu) (u4 (u9 K hu) (qV 0) d0 (fun _ _=>rfl)) (qV 2) (fun _ _=>rfl)) (se K rfl (gs (P0 (i:=3) hN rfl (by walk_at "l")) (gs (P0 (i:=4) hN rfl (by walk_at "l")) (gs (P0 (i:=5) hN rfl (by walk_at "l")) rO)))))
   (B8 (yj (qM PySem.F.plainAttrs_list PySem.F.slot_list_append PySem.F.type_list_append M7 K (qV 1) (g0 (q8 (q9 K) (q8 (q9 K) (q8 (q9 K) (q8 (q9 K) (q8 (q9 K) (q8 (q9 K) (q8 (q9 K) (qV 2) A5) (qV 3)) A5) (qV 4)) A5) (qV 5)) A5) j0))))))
   (z7 (aO (z6 (aV K hr) (qV 1) (cv j0) (j8 _)) (B8 (x5 A5)) aL)
   (B8 (x5 (qM PySem.F.plainAttrs_str PySem.F.slot_str_join PySem.F.type_str_join (D3 K) K A5 (g0 (qV 1) j0)))))))),?_⟩
  walk_at "r"
  refine⟨b8 (by simp),fun L nL=>?_⟩
  obtain⟨H0,e0,f0,m0,_⟩:=b7 (o:= .lst _) nL
  rw[e0]
  have W0:=hW.same m0
  walk_at "r"
  refine b5 W0.at_.tup (b6 (j:=0) rfl) ?_
  walk_at "r"
  refine x9 (ss:=W.pts.map (·.1)) W0.at_.pts (by rw[P5,A3]) (by rw[List.length_map];omega) (fun s1 a1 b1 l1 n1=>?_)
  obtain⟨ps,rfl,pp⟩:=ie a1
  obtain⟨H1,e1,f1,m1,_⟩:=b7 (o:= .lst _) n1
  rw[e1]
  have W1:=W0.same m1
  have hpl:=pp.length_eq
  have f01:=m1 _ _ f0
  have nL1:l1≠L:=fun z=>by rw[z,f0] at n1;cases n1
  refine o3 (SqL.of f1) ?_
  refine O7 (n:=ps.length) (fun i σ H'=>Same H H'∧H' l1=some (.lst ((ps.map (·.1)).map V.str))∧H' L=some (.lst (((ps.take i).map lj).map V.str))∧∃v2,σ=[some (.ref a),some (.ref L),v2,none,none,none]) ⟨m0.trans m1,f1,f01,none,rfl⟩ (fun i σ H' hi hp=>⟨_,.str (ps[i].1),SqL.of hp.2.1,by rw[List.getElem?_map,List.getElem?_map,List.getElem?_eq_getElem hi];rfl⟩) ?_ ?_
  ·rintro _ i v σ H2' H2 hi ⟨s2,g2,fL,v2,rfl⟩ y
   obtain⟨rfl,hx⟩:=Itl.get y (SqL.of g2)
   rw[List.getElem?_map,List.getElem?_map] at hx
   have hxi:=List.getElem?_eq_getElem hi
   generalize ps[i]=x at hxi
   rw[hxi] at hx
   cases hx
   have hxm:x∈W.pts:=pp.mem_iff.mp (List.mem_of_getElem? hxi)
   have gx:=bp hG hxm
   have l1:x.1.length≤24:=A2 gx.nm
   have l2:=C4 (gx.pt _ rfl)
   have W2:=hW.same s2
   walk_at "r"
   refine⟨.inl ⟨rfl,_,SqL.of fL⟩,?_⟩
   walk_at "r"
   refine i7 (i:=x.1) (b8 (by rw[G4,d6];omega)) ?_
   walk_at "r"
   refine b5 W2.at_.tup (b6 (j:=0) rfl) ?_
   walk_at "r"
   refine E9 (v:= .str x.2) (by have z':=V0 (k:=Sum.inr x.1) W2.at_.pts;rw[Y9 (O5 hW.nd) hxm] at z';exact z') ?_
   refine i7 (b8 (by have:=xQ l1 l2;rw[d7] at this;exact this)) ?_
   walk_at "r"
   refine⟨L,_,_,rfl,rfl,fL,Nat.lt_of_le_of_lt (show _≤100 by rw[List.length_map,List.length_map,List.length_take];omega) (by decide),?_⟩
   walk_at "r"
   refine⟨bY s2 nL,by rw[b9 nL1];exact g2,?_,_,rfl⟩
   rw[d9,t7 hxi,List.map_append,List.map_append];rfl
  ·rintro σ H2 ⟨s2,g2,fL,v2,rfl⟩
   rw[List.take_of_length_le (Nat.le_refl _)] at fL
   refine⟨⟨_,SqL.of g2,by rw[List.length_map,List.length_map];exact Nat.le_refl _⟩,?_⟩
   have W2:=hW.same s2
   walk_at "r"
   refine b5 W2.at_.tup (b6 (j:=1) rfl) ?_
   walk_at "r"
   refine x9 (ss:=W.ts.map (·.1)) W2.at_.ties (by rw[W2.at_.ts.keys,A3]) (by rw[List.length_map];omega) (fun s4 a4 b4 l4 n4=>?_)
   obtain⟨ts,rfl,pt⟩:=kl a4
   obtain⟨H4,e4,f4,m4,_⟩:=b7 (o:= .lst _) n4
   rw[e4]
   have htl:=pt.length_eq
   have fL4:=m4 _ _ fL
   have nL4:l4≠L:=Ne.symm (d8 fL n4)
   refine o3 (SqL.of f4) ?_
   refine O7 (n:=ts.length) (fun i σ H'=>Same H H'∧H' l4=some (.lst ((ts.map (·.1)).map V.str))∧H' L=some (.lst ((ps.map lj++(ts.take i).map bO).map V.str))∧∃v2 v3 v4 v5,σ=[some (.ref a),some (.ref L),v2,v3,v4,v5]) ⟨s2.trans m4,f4,by rw[fL4];simp,_,_,_,_,rfl⟩ (fun i σ H' hi hp=>⟨_,.str (ts[i].1),SqL.of hp.2.1,by rw[List.getElem?_map,List.getElem?_map,List.getElem?_eq_getElem hi];rfl⟩) ?_ ?_
   ·rintro _ i v σ H5' H5 hi ⟨s5,g5,fL5,v2,v3,v4,v5,rfl⟩ y
    obtain⟨rfl,hx⟩:=Itl.get y (SqL.of g5)
    rw[List.getElem?_map,List.getElem?_map] at hx
    have hxi:=List.getElem?_eq_getElem hi
    generalize ts[i]=x at hxi
    rw[hxi] at hx
    cases hx
    have hxm:x∈W.ts:=pt.mem_iff.mp (List.mem_of_getElem? hxi)
    have gx:=Y7 hG hW.ends hxm
    have W5:=hW.same s5
    obtain⟨b,hb,sb⟩:=fP W5.at_.ts (aF hW.nd) hxm
    obtain⟨xn,xk,xa,xb⟩:=x
    have l1:xn.length≤24:=A2 gx.nm
    have l2:=gx.ti _ rfl
    have l3:xk.length≤8:=C4 l2.1
    have l4:xa.length≤24:=A2 l2.2.1
    have l5:xb.length≤24:=A2 l2.2.2
    walk_at "r"
    refine b5 W5.at_.tup (b6 (j:=1) rfl) ?_
    walk_at "r"
    refine E9 (v:= .ref b) (by have z':=V0 (k:=Sum.inr xn) W5.at_.ties;rw[hb] at z';exact z') ?_
    refine Z4 sb rfl ?_
    rw[show aw (xn,xk,xa,xb).2=[V.str xk,.str xa,.str xb] from rfl]
    walk_at "r"
    refine⟨.inl ⟨rfl,_,SqL.of fL5⟩,?_⟩
    walk_at "r"
    refine i7 (i:=xn) (b8 (by rw[G4];simp only[d7,d6];omega)) ?_
    walk_at "r"
    refine i7 (b8 (by rw[G4];simp only[d7,d6];omega)) ?_
    walk_at "r"
    refine i7 (b8 (by rw[G4,U4];simp only[d7,d6];omega)) ?_
    walk_at "r"
    refine i7 (b8 (by rw[G4,U4];simp only[d7,d6];omega)) ?_
    walk_at "r"
    refine i7 (b8 (by rw[G4,U4,aA];simp only[d7,d6];omega)) ?_
    walk_at "r"
    refine i7 (b8 (by rw[G4,U4,aA];simp only[d7,d6];omega)) ?_
    walk_at "r"
    refine i7 (b8 (by rw[G4,U4,aA,dF];simp only[d7,d6];omega)) ?_
    walk_at "r"
    refine⟨L,_,_,rfl,rfl,fL5,Nat.lt_of_le_of_lt (show _≤100 by simp only[List.length_map,List.length_take,List.length_append];omega) (by decide),?_⟩
    walk_at "r"
    refine⟨bY s5 nL,by rw[b9 nL4];exact g5,?_,_,_,_,_,rfl⟩
    rw[d9,t7 hxi]
    simp only[List.map_append,List.append_assoc];rfl
   ·rintro σ H5 ⟨s5,g5,fL5,v2,v3,v4,v5,rfl⟩
    rw[List.take_of_length_le (Nat.le_refl _)] at fL5
    refine⟨⟨_,SqL.of g5,by rw[List.length_map,List.length_map];exact Nat.le_refl _⟩,?_⟩
    walk_at "r"
    refine⟨b8 (by simp),fun l6 n6=>?_⟩
    obtain⟨H6,e6,f6,m6,_⟩:=b7 (o:= .lst _) n6
    rw[e6]
    have fL6:=m6 _ _ fL5
    have kk:=k H6 ps ts (s5.trans m6) ⟨pp,pt,b1,b4⟩
    unfold K0 at kk
    rw[gG] at kk
    refine gB (ow (SqL.of fL6) (SqL.of f6) (dN _) rfl ?_)
    walk_at "r"
    have hwl:(ps.map lj++ts.map bO).length≤1000:=by simp only[List.length_append,List.length_map];omega
    have hyl:∀y∈ps.map lj++ts.map bO,y.length≤1000:=fun y hy=>by
     rcases List.mem_append.mp hy with h|h
     ·obtain⟨x,hx,rfl⟩:=List.mem_map.mp h
      have z:=U2 (bp hG (pp.mem_iff.mp hx))
      exact Nat.le_trans z (by omega)
     ·obtain⟨x,hx,rfl⟩:=List.mem_map.mp h
      have z:=U2 (Y7 hG hW.ends (pt.mem_iff.mp hx))
      exact Nat.le_trans z (by omega)
    generalize ps.map lj++ts.map bO=ws at kk fL6 hwl hyl⊢
    cases ws with
    |nil=>
     refine(show Q0 (List.map V.str []) []=true from rfl)▸?_
     rw[if_pos rfl]
     walk_at "r"
     exact kk
    |cons x r=>
     rw[if_neg (by simp [Q0])]
     walk_at "r"
     refine⟨rfl,?_⟩
     walk_at "r"
     exact⟨_,L,x::r,rfl,rfl,SqL.of fL6,by decide+kernel,hwl,hyl,kk⟩
def ItAt (K:PySem.W.Frag)(H:Hp)(v:V)(x:L0):Prop:=∃a,v= .ref a∧match x.2 with
 | .inl k=>SqT K H a [.str x.1,.str k]
 | .inr t=>∃b,SqT K H a [.str x.1,.ref b]∧SqT K H b (aw t)
theorem ItAt.mono {K:PySem.W.Frag}{H H':Hp}{v:V}{x:L0}(h:ItAt K H v x)(s:Same H H'):ItAt K H' v x:=by
 obtain⟨a,e,h⟩:=h
 obtain⟨n,k|t⟩:=x
 ·exact⟨a,e,s.tup h⟩
 ·obtain⟨b,h1,h2⟩:=h
  exact⟨a,e,b,s.tup h1,s.tup h2⟩
def S4 (K:PySem.W.Frag):Sp:=fun vs H Q _=>∃x:L0,vs=[.str (w4 x)]∧P7 x∧∀v H',Same H H'→ItAt K H' v x→Q v H'
theorem pQ {n k:Str}(h:u6 n=true):PySem.Txt.partition (lj (n,k)) ":"=(n,(":":Str),k):=by
 show PySem.Txt.partition (n++":"++k) ":"=_
 rw[G4]
 exact cD 58 n k (M0 (K5 h) yN)
theorem nN (n k a b:Str):bO (n,k,a,b)=n++":"++(k++"("++(a++","++b++")")):=by
 show n++":"++k++"("++a++","++b++")"=_
 simp only[Str.append_assoc]
theorem pO {n k a b:Str}(h:u6 n=true):PySem.Txt.partition (bO (n,k,a,b)) ":"=(n,(":":Str),k++"("++(a++","++b++")")):=by
 rw[nN,G4]
 exact cD 58 n _ (M0 (K5 h) yN)
theorem qe {k a b:Str}(h:A0 k=true):PySem.Txt.partition (k++"("++(a++","++b++")")) "("=(k,("(":Str),a++","++b++")"):=by
 rw[U4]
 exact cD 40 k _ (M0 (aq h) yI)
theorem qt {a b:Str}(h:u6 a=true):PySem.Txt.partition (a++","++b) ","=(a,(",":Str),b):=by
 rw[aA]
 exact cD 44 a b (M0 (K5 h) yW)
theorem sG {k:Str}(h:A0 k=true):PySem.Txt.partition k "("=(k,Str.empty,Str.empty):=by
 rw[U4]
 exact pS 40 k (M0 (aq h) yI)
theorem uX (x:Str):PySem.Txt.endswith (x++")") ")"=true:=by rw[dF];exact lW 41 x
theorem sI (x:Str):PySem.Txt.slice (x++")") none (some (-1))=x:=by rw[dF];exact qq 41 x
theorem cx {c:Str}{i:Nat}(h:c=⟨#[i]⟩):c.length=1:=by rw[h];rfl
theorem tY {c:Str}{i:Nat}(h:c=⟨#[i]⟩):1≤c.length:=by rw[h];exact Nat.le_refl 1
theorem qO {x:Str}{n:Nat}(h:x.length≤n)(hn:n≤1000):x.length≤100000:=by omega
theorem eh {f:Addr}{fd:FuncData}(T:Txt K mg)(F:Fun K "thing_read" "thing_read" D1 f fd):FnOk P w K mg base (gc P w) 1 f fd ["text"] (S4 K):=by
 refine F.okE sc_thing_read (fun vs H Q E h=>?_) (fun cdv A outer s H vs Q E hr h=>?_)
 ·obtain⟨x,rfl,_⟩:=h
  rfl
 ·obtain⟨x,rfl,hG,q⟩:=h
  have hN:=sc_thing_read.nd
  have hu:=x8 hr
  refine⟨_,QSs.r (z7 (p0 (i:=1) hN rfl (by walk_at "l") (qM PySem.F.plainAttrs_str PySem.F.slot_str_partition PySem.F.type_str_partition K1 K (qV 0) (g0 A5 j0)))
   (z7 (p0 (i:=2) hN rfl (by walk_at "l") (qM PySem.F.plainAttrs_str PySem.F.slot_str_partition PySem.F.type_str_partition K1 K (u4 (u9 K hu) (qV 1) d0 (fun _ _=>rfl)) (g0 A5 j0)))
   (z7 (aO (z6 (aV K hr) (u4 (u9 K hu) (qV 2) d0 (fun _ _=>rfl)) A5 (j8 _)) (B8 (x5 (cm (g0 (u4 (u9 K hu) (qV 1) d0 (fun _ _=>rfl)) (g0 (u4 (u9 K hu) (qV 2) d0 (fun _ _=>rfl)) j0))))) aL)
   (z7 (aO (E8 (A8 K (qM PySem.F.plainAttrs_str PySem.F.slot_str_endswith PySem.F.type_str_endswith bM K (u4 (u9 K hu) (qV 2) d0 (fun _ _=>rfl)) (g0 A5 j0)))) (B8 (Z2 Q2 T.r_NoText rfl (g0 A5 j0))) aL)
   (z7 (p0 (i:=3) hN rfl (by walk_at "l") (qM PySem.F.plainAttrs_str PySem.F.slot_str_partition PySem.F.type_str_partition K1 K (mw (lp K) (u4 (u9 K hu) (qV 2) d0 (fun _ _=>rfl)) pN (ir (zb sk d0))) (g0 A5 j0)))
   (B8 (x5 (cm (g0 (u4 (u9 K hu) (qV 1) d0 (fun _ _=>rfl)) (g0 (cm (g0 (u4 (u9 K hu) (qV 2) d0 (fun _ _=>rfl)) (g0 (u4 (u9 K hu) (qV 3) d0 (fun _ _=>rfl)) (g0 (u4 (u9 K hu) (qV 3) d0 (fun _ _=>rfl)) j0)))) j0)))))))))),?_⟩
  have hwl:=U2 hG
  walk_at "r"
  refine⟨rfl,?_⟩
  walk_at "r"
  refine⟨_,_,rfl,rfl,cx G4,qO hwl (by omega),fun p1 n1=>?_⟩
  obtain⟨nm,kd|tt⟩:=x
  ·have h1:u6 nm=true:=hG.nm
   have h2:A0 kd=true:=hG.pt kd rfl
   have hk8:=C4 h2
   rw[show w4 (nm,Sum.inl kd)=lj (nm,kd) from rfl,pQ h1]
   obtain⟨H1,e1,f1,m1,_⟩:=b7 (o:= .tup _) n1
   rw[e1]
   walk_at "r"
   refine b5 (SqT.of f1) (b6 (j:=2) rfl) ?_
   refine⟨rfl,?_⟩
   walk_at "r"
   refine⟨_,_,rfl,rfl,cx U4,qO hk8 (by omega),fun p2 n2=>?_⟩
   rw[sG h2]
   obtain⟨H2,e2,f2,m2,_⟩:=b7 (o:= .tup _) n2
   rw[e2]
   walk_at "r"
   refine b5 (SqT.of f2) (b6 (j:=1) rfl) ?_
   walk_at "r"
   rw[show decide (Str.empty=Str.ofString "")=true by decide+kernel]
   walk_at "r"
   refine b5 (SqT.of (m2 _ _ f1)) (b6 (j:=0) rfl) ?_
   walk_at "r"
   refine b5 (SqT.of f2) (b6 (j:=0) rfl) ?_
   walk_at "r"
   refine⟨b8 (by simp),fun p3 n3=>?_⟩
   obtain⟨H3,e3,f3,m3,_⟩:=b7 (o:= .tup _) n3
   rw[e3]
   exact q _ H3 (m1.trans (m2.trans m3)) ⟨p3,rfl,SqT.of f3⟩
  ·obtain⟨kd,xa,xb⟩:=tt
   have h1:u6 nm=true:=hG.nm
   have h2:A0 kd=true:=(hG.ti _ rfl).1
   have h3:u6 xa=true:=(hG.ti _ rfl).2.1
   have h4:u6 xb=true:=(hG.ti _ rfl).2.2
   have l2:=C4 h2
   have l3:=A2 h3
   have l4:=A2 h4
   rw[show w4 (nm,Sum.inr (kd,xa,xb))=bO (nm,kd,xa,xb) from rfl,pO h1]
   obtain⟨H1,e1,f1,m1,_⟩:=b7 (o:= .tup _) n1
   rw[e1]
   walk_at "r"
   refine b5 (SqT.of f1) (b6 (j:=2) rfl) ?_
   refine⟨rfl,?_⟩
   walk_at "r"
   refine⟨_,_,rfl,rfl,cx U4,qO (n:=100) (by rw[U4,aA,dF];simp only[d7,d6];omega) (by omega),fun p2 n2=>?_⟩
   rw[qe h2]
   obtain⟨H2,e2,f2,m2,_⟩:=b7 (o:= .tup _) n2
   rw[e2]
   walk_at "r"
   refine b5 (SqT.of f2) (b6 (j:=1) rfl) ?_
   walk_at "r"
   rw[show decide (Str.ofString "("=Str.ofString "")=false by decide+kernel]
   walk_at "r"
   refine b5 (SqT.of f2) (b6 (j:=2) rfl) ?_
   refine⟨rfl,?_⟩
   walk_at "r"
   refine⟨_,_,rfl,rfl,?_⟩
   rw[uX]
   walk_at "r"
   refine b5 (SqT.of f2) (b6 (j:=2) rfl) ?_
   walk_at "r"
   refine T5 (b8 (by rw[aA,dF];simp only[d7,d6];omega)) ?_
   rw[sI]
   refine⟨rfl,?_⟩
   walk_at "r"
   refine⟨_,_,rfl,rfl,cx aA,qO (n:=100) (by rw[aA];simp only[d7,d6];omega) (by omega),fun p4 n4=>?_⟩
   rw[qt h3]
   obtain⟨H4,e4,f4,m4,_⟩:=b7 (o:= .tup _) n4
   rw[e4]
   walk_at "r"
   refine b5 (SqT.of (m4 _ _ (m2 _ _ f1))) (b6 (j:=0) rfl) ?_
   walk_at "r"
   refine b5 (SqT.of (m4 _ _ f2)) (b6 (j:=0) rfl) ?_
   walk_at "r"
   refine b5 (SqT.of f4) (b6 (j:=0) rfl) ?_
   walk_at "r"
   refine b5 (SqT.of f4) (b6 (j:=2) rfl) ?_
   walk_at "r"
   refine⟨b8 (by simp),fun p5 n5=>?_⟩
   obtain⟨H5,e5,f5,m5,_⟩:=b7 (o:= .tup _) n5
   rw[e5]
   walk_at "r"
   refine⟨b8 (by simp),fun p6 n6=>?_⟩
   obtain⟨H6,e6,f6,m6,_⟩:=b7 (o:= .tup _) n6
   rw[e6]
   exact q _ H6 (m1.trans (m2.trans (m4.trans (m5.trans m6)))) ⟨p6,rfl,p5,SqT.of f6,SqT.of (m6 _ _ f5)⟩
def N8 (K:PySem.W.Frag):Sp:=fun vs H Q _=>∃xs:List L0,vs=[.str (M6 (xs.map w4))]∧(∀x∈xs,P7 x)∧xs.length≤24∧∀(l:Addr) (H':Hp) (vs':List V),Same H H'→H' l=some (.lst vs')→Paired (ItAt K H') vs' xs→Q (.ref l) H'
theorem lV {xs:List L0}(h:∀x∈xs,P7 x)(hl:xs.length≤24):(M6 (xs.map w4)).length≤100000:=by
 cases xs with
 |nil=>decide+kernel
 |cons x r=>
  show(Str.join " " ((x::r).map w4)).length≤100000
  rw[me]
  have z:=eV (B:=100) 32 (ws:=(x::r).map w4) fun y hy=>by
   obtain⟨w,hw,rfl⟩:=List.mem_map.mp hy
   exact U2 (h w hw)
  rw[List.length_map] at z
  have z2:(x::r).length*(100+1)≤24*101:=Nat.mul_le_mul_right _ hl
  omega
theorem qA {x:L0}{r:List L0}(h:∀y∈x::r,P7 y):PySem.Txt.split (M6 ((x::r).map w4)) " "=(x::r).map w4:=by
 show PySem.Txt.split (Str.join " " ((x::r).map w4)) " "=_
 rw[me]
 exact jx 32 (by simp) fun y hy=>by
  obtain⟨w,hw,rfl⟩:=List.mem_map.mp hy
  exact mf (h w hw)
theorem dA {f:Addr}{fd:FuncData}(T:Txt K mg)(X1:A7 P w K mg base (gc P w) 1 "thing_read" ["text"] [] (S4 K))(F:Fun K "things_read" "things_read" B7 f fd):FnOk P w K mg base (gc P w) 2 f fd ["text"] (N8 K):=by
 refine F.okE sc_things_read (fun vs H Q E h=>?_) (fun cdv A outer s H vs Q E hr h=>?_)
 ·obtain⟨xs,rfl,_⟩:=h
  rfl
 ·obtain⟨xs,rfl,hG,hl,q⟩:=h
  have hjl:=lV hG hl
  have hN:=sc_things_read.nd
  have hu:=x8 hr
  refine⟨_,QSs.r (z7 (aO (E8 (A8 K (qB (Q4 K P w) T.b_isinstance Boot.«isinstance» (g0 (qV 0) (g0 (kx "str" T.b_str Boot.«str») j0))))) (B8 (Z2 Q2 T.r_NoText rfl (g0 A5 j0))) aL)
   (z7 (aO (z6 (aV K hr) (qV 0) (lR T.c_NOTHING) (j8 _)) (B8 (x5 (cv j0))) aL)
   (B8 (x5 (C2 (own:=["part"]) (js:=[]) (by kernel_rfl) rfl (P9 K (qM PySem.F.plainAttrs_str PySem.F.slot_str_split PySem.F.type_str_split R9 K (qV 0) (g0 A5 j0))) (fun _ _ _ _=>(P0 (i:=0) (show List.Nodup (["part"]:List Str) by decide+kernel) rfl (by walk_at "l"))) (fun _ _ _ _=>O2) (fun _ _ _ _=>(qC X1 (hr.mono (by decide)) ia (g0 (qV 0) j0)))))))),?_⟩
  walk_at "r"
  refine M3 (M5 (t:="str") rfl (by simp) ?_)
  rw[show Y3 "str" "str"=true from rfl]
  walk_at "r"
  cases xs with
  |nil=>
   rw[show decide (M6 (([]:List L0).map w4)=ai)=true from decide_eq_true rfl]
   walk_at "r"
   refine⟨b8 (by simp),fun p1 n1=>?_⟩
   obtain⟨H1,e1,f1,m1,_⟩:=b7 (o:= .lst _) n1
   rw[e1]
   exact q p1 H1 [] m1 f1 .nil
  |cons x r=>
   rw[show decide (M6 ((x::r).map w4)=ai)=false from decide_eq_false (jw (x:=x) (r:=r))]
   walk_at "r"
   refine⟨rfl,?_⟩
   walk_at "r"
   refine⟨_,_,rfl,rfl,tY me,hjl,fun p1 n1=>?_⟩
   rw[qA hG]
   obtain⟨H1,e1,f1,m1,_⟩:=b7 (o:= .lst _) n1
   rw[e1]
   generalize hxs:x::r=xs at f1 hG hl q⊢
   refine o3 (SqL.of f1) ?_
   refine j4 (n:=xs.length) (fun i out H'=>Same H1 H'∧Paired (ItAt K H') out (xs.take i)) ⟨Same.refl _,.nil⟩ (fun i out H' hi hp=>⟨_,.str (w4 xs[i]),SqL.of (hp.1 _ _ f1),by rw[List.getElem?_map,List.getElem?_map,List.getElem?_eq_getElem hi];rfl⟩) ?_ ?_
   ·rintro N i v out H2 H3 hi ⟨s2,pr⟩ y hN'
    obtain⟨rfl,hx⟩:=Itl.get y (SqL.of (s2 _ _ f1))
    rw[List.getElem?_map,List.getElem?_map] at hx
    have hxi:=List.getElem?_eq_getElem hi
    generalize xs[i]=x at hxi
    rw[hxi] at hx
    cases hx
    walk_at "r"
    refine⟨rfl,?_⟩
    walk_at "r"
    refine⟨x,rfl,hG x (List.mem_of_getElem? hxi),fun v3 H3 m3 a3=>?_⟩
    have hol:=Paired.length pr
    rw[List.length_take] at hol
    refine⟨b8 (by omega),hN' _ _ ⟨s2.trans m3,?_⟩⟩
    rw[t7 hxi]
    exact r9 (Paired.imp' (fun _ _ z=>z.mono m3) pr) a3
   ·rintro out H2 ⟨s2,pr⟩
    have hol:=Paired.length pr
    rw[List.length_take] at hol
    refine⟨⟨_,SqL.of (s2 _ _ f1),by rw[List.length_map,List.length_map];exact Nat.le_refl _⟩,fun D hD=>⟨b8 (by omega),?_⟩⟩
    rw[List.take_of_length_le (Nat.le_refl _)] at pr
    obtain⟨H3,e3,f3,m3,_⟩:=b7 (H:=H2) (o:= .lst out) hD
    show Q (.ref D) (n0 H2 D _)
    rw[e3]
    exact q D H3 out (m1.trans (s2.trans m3)) f3 (Paired.imp' (fun _ _ z=>z.mono m3) pr)
def V7 (x:L0):Option (Str×Str):=match x.2 with
 | .inl k=>some (x.1,k)
 | .inr _=>none
def K6 (x:L0):Option (Str×J0):=match x.2 with
 | .inl _=>none
 | .inr t=>some (x.1,t)
theorem fJ {α β:Type}:∀l:List α,l.filterMap (fun _=>(none:Option β))=[]
 |[]=>rfl
 |x::r=>fJ r
theorem mq (W:E4):(items W).filterMap V7=W.pts:=by
 unfold items
 rw[List.filterMap_append,List.filterMap_map,List.filterMap_map]
 have e1:(V7∘oV)=some:=rfl
 have e2:(V7∘dG)=fun _=>none:=rfl
 rw[e1,e2,List.filterMap_some,fJ,List.append_nil]
theorem oj (W:E4):(items W).filterMap K6=W.ts:=by
 unfold items
 rw[List.filterMap_append,List.filterMap_map,List.filterMap_map]
 have e1:(K6∘oV)=fun _=>none:=rfl
 have e2:(K6∘dG)=some:=rfl
 rw[e1,e2,List.filterMap_some,fJ,List.nil_append]
theorem bJ:∀xs:List L0,(xs.filterMap V7).length+(xs.filterMap K6).length=xs.length
 |[]=>rfl
 |(n,.inl k)::r=>by
  have ih:=bJ r
  rw[List.filterMap_cons_some (show V7 (n,.inl k)=some (n,k) from rfl),List.filterMap_cons_none (show K6 (n,.inl k)=none from rfl)]
  simp only[List.length_cons];omega
 |(n,.inr t)::r=>by
  have ih:=bJ r
  rw[List.filterMap_cons_none (show V7 (n,.inr t)=none from rfl),List.filterMap_cons_some (show K6 (n,.inr t)=some (n,t) from rfl)]
  simp only[List.length_cons];omega
theorem di {W:E4}(h:bh W)(he:∀x∈W.ts,x.2.2.1∈W.pts.map (·.1)∧x.2.2.2∈W.pts.map (·.1)):∀x∈items W,P7 x:=fun x hx=>by
 rcases List.mem_append.mp hx with z|z
 ·obtain⟨y,hy,rfl⟩:=List.mem_map.mp z
  exact bp h hy
 ·obtain⟨y,hy,rfl⟩:=List.mem_map.mp z
  exact Y7 h he hy
def Z7 (K:PySem.W.Frag):Sp:=fun vs H Q _=>∃(xs:List L0) (W:E4),vs=[.str (M6 (xs.map w4))]∧xs.Perm (items W)∧bh W∧(i6 W).Nodup∧(i6 W).length≤24∧(∀x∈W.ts,x.2.2.1∈W.pts.map (·.1)∧x.2.2.2∈W.pts.map (·.1))∧wG K H Q W
theorem cy {α β:Type}{f:α→Option β}{l:List α}{i:Nat}{x:α}(h:l[i]?=some x):(l.take (i+1)).filterMap f=(l.take i).filterMap f++[x].filterMap f:=by rw[t7 h,List.filterMap_append]
theorem gX {f:Addr}{fd:FuncData}(T:Txt K mg)(S3:A7 P w K mg base (gc P w) 2 "things_read" ["text"] [] (N8 K))(T4:A7 P w K mg base x6 4 "is_web" ["thing"] [] (ao K))(dE:A7 P w K mg base x6 2 "copied" ["web"] [] (bR K))(F:Fun K "web_read" "web_read" L5 f fd):FnOk P w K mg base (gc P w) 5 f fd ["text"] (Z7 K):=by
 refine F.okE sc_web_read (fun vs H Q E h=>?_) (fun cdv A outer s H vs Q E hr h=>?_)
 ·obtain⟨xs,W,rfl,_⟩:=h
  rfl
 ·obtain⟨xs,W,rfl,pm,hG,hnd,hlen,hends,k⟩:=h
  have hgi:∀x∈xs,P7 x:=fun x hx=>di hG hends x (pm.mem_iff.mp hx)
  have pm1:(xs.filterMap V7).Perm W.pts:=by have z:=pm.filterMap V7;rw[mq] at z;exact z
  have pm2:(xs.filterMap K6).Perm W.ts:=by have z:=pm.filterMap K6;rw[oj] at z;exact z
  have hli:=bJ xs
  have hl2:=L9 W
  have q1:=pm1.length_eq
  have q2:=pm2.length_eq
  have hN:=sc_web_read.nd
  have hu:=x8 hr
  refine⟨_,QSs.r (z7 (p0 (i:=1) hN rfl (by walk_at "l") (qC S3 (hr.mono (by decide)) ia (g0 (qV 0) j0)))
   (z7 (p0 (i:=2) hN rfl (by walk_at "l") (nC (bV K rfl) T.b_dict Boot.«dict» (g0 (C2 (own:=["thing"]) (js:=[]) (by kernel_rfl) rfl (P9 K (qV 1)) (fun _ _ _ _=>(P0 (i:=0) (show List.Nodup (["thing"]:List Str) by decide+kernel) rfl (by walk_at "l"))) (fun _ _ _ _=>(tO (A8 K (qB (Q4 K P w) T.b_isinstance Boot.«isinstance» (g0 (u4 (u9 K hu) (qV 0) d0 (fun _ _=>rfl)) (g0 (kx "str" T.b_str Boot.«str») j0)))))) (fun _ _ _ _=>(qV 0))) j0)))
   (z7 (p0 (i:=3) hN rfl (by walk_at "l") (nC (bV K rfl) T.b_dict Boot.«dict» (g0 (C2 (own:=["thing"]) (js:=[]) (by kernel_rfl) rfl (P9 K (qV 1)) (fun _ _ _ _=>(P0 (i:=0) (show List.Nodup (["thing"]:List Str) by decide+kernel) rfl (by walk_at "l"))) (fun _ _ _ _=>(tO (A8 K (qB (Q4 K P w) T.b_isinstance Boot.«isinstance» (g0 (u4 (u9 K hu) (qV 0) d0 (fun _ _=>rfl)) (g0 (kx "tuple" T.b_tuple Boot.«tuple») j0)))))) (fun _ _ _ _=>(qV 0))) j0)))
   (z7 (aO (z6 (T7 K hr) (q8 (q9 K) (qB (E6 K P w) T.b_len Boot.«len» (g0 (qV 2) j0)) (qB (E6 K P w) T.b_len Boot.«len» (g0 (qV 3) j0))) (qB (E6 K P w) T.b_len Boot.«len» (g0 (qV 1) j0)) (j8 _)) (B8 (Z2 Q2 T.r_NoText rfl (g0 A5 j0))) aL)
   (z7 (aO (iW (W9 (z6 cZ (qB (E6 K P w) T.b_len Boot.«len» (g0 (qV 2) j0)) (lR T.c_MOST_POINTS) (j8 _)) (U8 (z6 cZ (qB (E6 K P w) T.b_len Boot.«len» (g0 (qV 3) j0)) (lR T.c_MOST_TIES) (j8 _))))) (B8 (Z2 Q2 T.r_NoText rfl (g0 A5 j0))) aL)
   (z7 (aO (E8 (A8 K (qC T4 (hr.mono (by decide)) j1 (g0 (cm (g0 (qV 2) (g0 (qV 3) j0))) j0)))) (B8 (Z2 Q2 T.r_NoText rfl (g0 A5 j0))) aL)
   (B8 (x5 (qC dE (hr.mono (by decide)) j1 (g0 (cm (g0 (qV 2) (g0 (qV 3) j0))) j0)))))))))),?_⟩
  walk_at "r"
  refine⟨xs,rfl,hgi,by omega,fun l H1 vs m1 f1 pr1=>?_⟩
  have hvl:=Paired.length pr1
  walk_at "r"
  refine o3 (SqL.of f1) ?_
  refine j4 (n:=xs.length) (fun i out H'=>Same H1 H'∧Paired (PrV K H') out (C0 ((xs.take i).filterMap V7))) ⟨Same.refl _,.nil⟩ (fun i out H' hi hp=>⟨_,vs[i],SqL.of (hp.1 _ _ f1),List.getElem?_eq_getElem (by omega)⟩) ?_ ?_
  ·rintro N i v out H2 H3 hi ⟨s2,pr⟩ y hN'
   obtain⟨rfl,hx⟩:=Itl.get y (SqL.of (s2 _ _ f1))
   obtain⟨x,hxi,ax⟩:=z8 pr1 hx
   obtain⟨a,rfl,ay⟩:=ax.mono s2
   have hol:=Paired.length pr
   have hfl:=List.length_filterMap_le V7 (xs.take i)
   rw[A1] at hol
   rw[List.length_take] at hfl
   walk_at "r"
   refine⟨rfl,?_⟩
   walk_at "r"
   obtain⟨n,kd|t⟩:=x
   ·have ax':SqT K H3 a [.str n,.str kd]:=ay
    refine b5 ax' (b6 (j:=1) rfl) ?_
    walk_at "r"
    refine M3 (M5 (t:="str") rfl (by simp) ?_)
    rw[show Y3 "str" "str"=true from rfl]
    walk_at "r"
    refine⟨b8 (by omega),hN' _ _ ⟨s2,?_⟩⟩
    rw[cy hxi]
    unfold C0 at pr⊢
    rw[List.map_append]
    exact r9 pr ⟨a,rfl,ax'⟩
   ·obtain⟨b,ax',bx⟩:=ay
    refine b5 ax' (b6 (j:=1) rfl) ?_
    walk_at "r"
    refine M3 (M5 (t:="tuple") (.inr (.inl ⟨rfl,_,bx⟩)) (by simp) ?_)
    rw[show Y3 "tuple" "str"=false from rfl]
    walk_at "r"
    refine hN' _ _ ⟨s2,?_⟩
    rw[cy hxi,show [(n,(Sum.inr t:Sum Str J0))].filterMap V7=[] from rfl,List.append_nil]
    exact pr
  ·rintro out H2 ⟨s2,pr⟩
   have hol:=Paired.length pr
   have hfl:=List.length_filterMap_le V7 (xs.take xs.length)
   rw[A1] at hol
   rw[List.length_take] at hfl
   refine⟨⟨_,SqL.of (s2 _ _ f1),by omega⟩,fun D hD=>⟨b8 (by omega),?_⟩⟩
   rw[List.take_of_length_le (Nat.le_refl _)] at pr
   obtain⟨H3,e3,f3,m3,_⟩:=b7 (H:=H2) (o:= .lst out) hD
   show jk _ (n0 H2 D _) _
   rw[e3]
   walk_at "r"
   refine aP (SqL.of f3) (Paired.imp' (fun _ _ z=>PrV.mono m3.le z) pr) (b8 (by rw[A1];omega)) (fun dp np=>?_)
   obtain⟨H4,e4,f4,m4,_⟩:=b7 (o:= .dK _) np
   rw[e4]
   have nd1:((xs.filterMap V7).map (·.1)).Nodup:=((pm1.map _).nodup_iff).mpr (O5 hnd)
   have nd2:((xs.filterMap K6).map (·.1)).Nodup:=((pm2.map _).nodup_iff).mpr (aF hnd)
   rw[cT (jZ nd1)] at f4
   have s14:=s2.trans (m3.trans m4)
   have f14:=s14 _ _ f1
   have pr4:=Paired.imp' (fun _ _ z=>ItAt.mono z s14) pr1
   walk_at "r"
   refine o3 (SqL.of f14) ?_
   refine j4 (n:=xs.length) (fun i out H'=>Same H4 H'∧∃kvs,Paired (PrV K H') out kvs∧TiesIs K H' kvs ((xs.take i).filterMap K6)) ⟨Same.refl _,[],.nil,.nil⟩ (fun i out H' hi hp=>⟨_,vs[i],SqL.of (hp.1 _ _ f14),List.getElem?_eq_getElem (by omega)⟩) ?_ ?_
   ·rintro N i v out H5 H6 hi ⟨s5,kvs,pr,ti⟩ y hN'
    obtain⟨rfl,hx⟩:=Itl.get y (SqL.of (s5 _ _ f14))
    obtain⟨x,hxi,ax⟩:=z8 pr4 hx
    obtain⟨a,rfl,ay⟩:=ax.mono s5
    have hol:=Paired.length pr
    have hol2:=ti.length
    have hfl:=List.length_filterMap_le K6 (xs.take i)
    rw[List.length_take] at hfl
    walk_at "r"
    refine⟨rfl,?_⟩
    walk_at "r"
    obtain⟨n,kd|t⟩:=x
    ·have ax':SqT K H6 a [.str n,.str kd]:=ay
     refine b5 ax' (b6 (j:=1) rfl) ?_
     walk_at "r"
     refine M3 (M5 (t:="str") rfl (by simp) ?_)
     rw[show Y3 "str" "tuple"=false from rfl]
     walk_at "r"
     refine hN' _ _ ⟨s5,kvs,pr,?_⟩
     rw[cy hxi,show [(n,(Sum.inl kd:Sum Str J0))].filterMap K6=[] from rfl,List.append_nil]
     exact ti
    ·obtain⟨b,ax',bx⟩:=ay
     refine b5 ax' (b6 (j:=1) rfl) ?_
     walk_at "r"
     refine M3 (M5 (t:="tuple") (.inr (.inl ⟨rfl,_,bx⟩)) (by simp) ?_)
     rw[show Y3 "tuple" "tuple"=true from rfl]
     walk_at "r"
     refine⟨b8 (by omega),hN' _ _ ⟨s5,kvs++[(Sum.inr n,.ref b)],r9 (b:=((Sum.inr n:g7),V.ref b)) pr ⟨a,rfl,ax'⟩,?_⟩⟩
     rw[cy hxi]
     exact r9 ti ⟨rfl,b,rfl,bx⟩
   ·rintro out H5 ⟨s5,kvs,pr,ti⟩
    have hol:=Paired.length pr
    have hol2:=ti.length
    have hfl:=List.length_filterMap_le K6 (xs.take xs.length)
    rw[List.length_take] at hfl
    refine⟨⟨_,SqL.of (s5 _ _ f14),by omega⟩,fun D5 hD5=>⟨b8 (by omega),?_⟩⟩
    rw[List.take_of_length_le (Nat.le_refl _)] at ti
    obtain⟨H6,e6,f6,m6,_⟩:=b7 (H:=H5) (o:= .lst out) hD5
    show jk _ (n0 H5 D5 _) _
    rw[e6]
    walk_at "r"
    refine aP (SqL.of f6) (Paired.imp' (fun _ _ z=>PrV.mono m6.le z) pr) (b8 (by omega)) (fun dq nq=>?_)
    obtain⟨H7,e7,f7,m7,_⟩:=b7 (o:= .dK _) nq
    rw[e7]
    rw[cT (rq ti nd2)] at f7
    have s47:=s5.trans (m6.trans m7)
    have g4:=s47 _ _ f4
    have ti7:=ti.mono (m6.trans m7).le
    have hkl:=ti7.length
    have f17:=s47 _ _ f14
    walk_at "r"
    refine E7 (G9 (.inl g4) ?_)
    rw[A1]
    walk_at "r"
    refine E7 (G9 (.inl f7) ?_)
    walk_at "r"
    refine E7 (N5 (SqL.of f17) ?_)
    walk_at "r"
    rw[if_neg (by simp;omega)]
    walk_at "r"
    refine E7 (G9 (.inl g4) ?_)
    rw[A1]
    walk_at "r"
    rw[if_neg (by simp;omega)]
    walk_at "r"
    refine E7 (G9 (.inl f7) ?_)
    walk_at "r"
    rw[if_neg (by simp;omega)]
    walk_at "r"
    refine⟨b8 (by simp),fun l8 n8=>?_⟩
    obtain⟨H8,e8,f8,m8,_⟩:=b7 (o:= .tup _) n8
    rw[e8]
    have hpq:dp≠dq:=d8 ((s5.trans m6) _ _ f4) nq
    have hnn:(i6 ⟨xs.filterMap V7,xs.filterMap K6⟩).Perm (i6 W):=(pm1.map _).append (pm2.map _)
    have mem1:∀n,n∈W.pts.map (·.1)→n∈(xs.filterMap V7).map (·.1):=fun n hn=>(pm1.map _).mem_iff.mpr hn
    have WI:WebIs 24 K H8 l8 dp dq kvs ⟨xs.filterMap V7,xs.filterMap K6⟩:=⟨⟨SqT.of f8,.inl (m8 _ _ g4),.inl (m8 _ _ f7),ti7.mono m8.le⟩,m8 _ _ g4,m8 _ _ f7,hpq,hnn.nodup_iff.mpr hnd,by rw[hnn.length_eq];exact hlen,fun x hx=>⟨mem1 _ (hends x (pm2.mem_iff.mp hx)).1,mem1 _ (hends x (pm2.mem_iff.mp hx)).2⟩,fun x hx=>Nat.le_trans (A2 (hG.nm x (hnn.mem_iff.mp hx))) (by omega)⟩
    have GI:bh ⟨xs.filterMap V7,xs.filterMap K6⟩:=⟨fun x hx=>hG.nm x (hnn.mem_iff.mp hx),fun x hx=>hG.kd x (pm1.mem_iff.mp hx),fun x hx=>hG.tk x (pm2.mem_iff.mp hx)⟩
    walk_at "r"
    refine⟨l8,dp,dq,kvs,_,rfl,WI,GI,fun H9 m9=>?_⟩
    walk_at "r"
    have m49:=s47.trans (m8.trans m9)
    refine⟨b8 (by simp),fun l10 n10=>?_⟩
    obtain⟨H10,e10,f10,m10,_⟩:=b7 (o:= .tup _) n10
    rw[e10]
    have WJ:=WI.at_.mono (m9.trans m10).le
    walk_at "r"
    refine⟨l10,dp,dq,kvs,⟨xs.filterMap V7,xs.filterMap K6⟩,rfl,⟨SqT.of f10,WJ.pts,WJ.ties,WJ.ts⟩,nd1,nd2,by show(xs.filterMap V7).length≤60;omega,by show(xs.filterMap K6).length≤60;omega,?_⟩
    have sAll:Same H H10:=m1.trans (s14.trans (m49.trans m10))
    exact fun a' p' q' kv' W' H11 s11 h1 h2 h3 h4 h5 h6 h7 h8=>k a' p' q' kv' W' H11 (sAll.trans s11) h1 h2 h3 h4 (sAll.free h5) (sAll.free h6) (h7.trans pm1) (h8.trans pm2)
theorem bC {α:Type}:∀{a b:List (Str×α)},a.map (·.1)=b.map (·.1)→a.Perm b→(b.map (·.1)).Nodup→a=b
 |[],[],_,_,_=>rfl
 |x::r,y::t,h,p,nd=>by
  have h':=List.cons.inj (show x.1::r.map (·.1)=y.1::t.map (·.1) from h)
  have hm:x∈y::t:=p.mem_iff.mp List.mem_cons_self
  have e:x=y:=Prod.ext h'.1 (C5 (n:=y.1) nd (by rw[←h'.1];exact hm) List.mem_cons_self)
  subst e
  rw[bC h'.2 (List.Perm.cons_inv p) (List.nodup_cons.mp (show(x.1::t.map (·.1)).Nodup from nd)).2]
theorem oG {a b:List (Str×Str)}(h1:sortedS (a.map (·.1))=true)(h2:sortedS (b.map (·.1))=true)(p:a.Perm b)(nd:(b.map (·.1)).Nodup):a=b:=bC (bZ h1 h2 (((p.map _).nodup_iff).mpr nd) (p.map _)) p nd
theorem qw {a b:List (Str×J0)}(h1:sortedS (a.map (·.1))=true)(h2:sortedS (b.map (·.1))=true)(p:a.Perm b)(nd:(b.map (·.1)).Nodup):a=b:=bC (bZ h1 h2 (((p.map _).nodup_iff).mpr nd) (p.map _)) p nd
theorem mi {x:Str}(h:A0 x=true):u6 x=true:=by
 have h':C1 x kSL 8=true:=h
 unfold C1 at h'
 simp only[Bool.and_eq_true,decide_eq_true_eq] at h'
 unfold u6
 rw[Bool.and_eq_true]
 have ha:∀c∈x.cps.toList,c∈kSL.cps.toList:=fun c hc=>of_decide_eq_true (List.all_eq_true.mp (show A9 x kSL=true from h'.2) c hc)
 constructor
 ·unfold C1
  rw[decide_eq_true h'.1.1,decide_eq_true (show(x.length:Int)≤24 by omega),Bool.true_and,Bool.true_and]
  exact List.all_eq_true.mpr fun c hc=>decide_eq_true (nu _ (ha c hc))
 ·unfold nz
  refine decide_eq_true (ha _ ?_)
  have hl:=fo x
  cases e:x.cps.toList with
  |nil=>rw[e] at hl;simp at hl;omega
  |cons c r=>exact List.mem_cons_self
theorem bf {W:E4}{m:Nat}(h1:∀n∈i6 W,A0 n=true)(h2:∀x∈W.pts,A0 x.2=true)(h3:∀x∈W.ts,A0 x.2.1=true)(l1:W.pts.length≤m)(l2:W.ts.length≤m):PieceW m W:=
 ⟨⟨fun n hn=>mi (h1 n hn),h2,h3⟩,h1,l1,l2⟩
theorem jn {n kd:Str}{PL:List (Str×Str)}(h:n∉PL.map (·.1)):P8 (C0 PL) (Sum.inr n:g7) (.str kd)=C0 (PL++[(n,kd)]):=by
 rw[cP _ (aG (by rw[P5,←A3];exact fun m=>h (fD m)))]
 unfold C0;rw[List.map_append];rfl
theorem oh {H:Hp}{l:Addr}{n:Str}{t:J0}{kL:List (g7×V)}{TL:List (Str×J0)}(w:TiesIs K H kL TL)(h:n∉TL.map (·.1))(hl:SqT K H l (aw t)):TiesIs K H (P8 kL (Sum.inr n:g7) (.ref l)) (TL++[(n,t)]):=by
 rw[cP _ (aG (by rw[w.keys,←A3];exact fun m=>h (fD m)))]
 exact r9 w ⟨rfl,l,rfl,hl⟩
theorem gz {H:Hp}{a d:Addr}{k1:List V}{u:HO}{xs:List V}(h:H d=some (.lst k1))(s:SqT K H a xs):SqT K (n0 H d u) a xs:=by
 rcases s with s|s
 ·refine .inl ?_
  by_cases z:a=d
  ·subst z
   rcases s with s|⟨_,s⟩<;>(rw[h] at s;cases s)
  ·unfold Rd
   rw[b9 z];exact s
 ·exact .inr s
theorem lJ {H:Hp}{d:Addr}{k1:List V}{u:HO}{kvs:List (g7×V)}{ts:List (Str×J0)}(h:H d=some (.lst k1))(w:TiesIs K H kvs ts):TiesIs K (n0 H d u) kvs ts:=
 Paired.imp' (fun _ _ ⟨e,a,ea,s⟩=>⟨e,a,ea,gz h s⟩) w
theorem ky {H:Hp}{lo:Addr}{xs:List V}{u:HO}{b:Sd}(h:H lo=some (.lst xs))(s:SdIs K H b):SdIs K (n0 H lo u) b:=by
 have hp:b.p≠lo:=fun z=>by have:=s.hp;rw[z,h] at this;cases this
 have hq:b.q≠lo:=fun z=>by have:=s.hq;rw[z,h] at this;cases this
 have e1:n0 H lo u b.p=some (.dK (C0 b.W.pts)):=by rw[b9 hp];exact s.hp
 have e2:n0 H lo u b.q=some (.dK b.kvs):=by rw[b9 hq];exact s.hq
 exact⟨⟨gz h s.at_.tup,.inl e1,.inl e2,lJ h s.at_.ts⟩,e1,e2,s.ne,s.nd,s.len,s.ends,s.nl⟩
theorem EqN.of0 {H:Hp}{x y:V}{b:Bool}(h:EqN K H 0 x y b):∀n,EqN K H n x y b
 |0=>h
 |n+1=> .inl (EqN.of0 h n)
theorem cS {H:Hp}{A C:Sd}{n:Nat}(h:SdIs K H A)(h':SdIs K H C)(p1:A.W.pts.Perm C.W.pts)(p2:A.W.ts.Perm C.W.ts)(hp:A.p≠C.p)(hq:A.q≠C.q):EqN K H (n+1) (.ref A.a) (.ref C.a) true:=by
 by_cases e:A.a=C.a
 ·exact EqN.of0 (.inr ⟨A.a,C.a,rfl,rfl,.inl ⟨e,rfl⟩⟩) _
 ·refine .inr ⟨A.a,C.a,[.ref A.p,.ref A.q],[.ref C.p,.ref C.q],[true,true],rfl,rfl,e,.inl ⟨h.at_.tup,h'.at_.tup⟩,rfl,rfl,fun j x y b hx hy hb=>?_,rfl⟩
  match j,hx,hy,hb with
  |0,hx,hy,hb=>
   cases hx;cases hy;cases hb
   exact EqN.of0 (.inr ⟨A.p,C.p,rfl,rfl,qQ hp h.at_.pts h'.at_.pts p1 (O5 h'.nd)⟩) _
  |1,hx,hy,hb=>
   cases hx;cases hy;cases hb
   exact EqN.of0 (.inr ⟨A.q,C.q,rfl,rfl,oD hq h.at_.ties h'.at_.ties h.at_.ts h'.at_.ts p2 (aF h'.nd)⟩) _
  |j+2,hx,_,_=>cases hx
theorem bo {W W':E4}(p1:W'.pts.Perm W.pts)(p2:W'.ts.Perm W.ts):(i6 W').Perm (i6 W):=(p1.map _).append (p2.map _)
theorem PieceW.perm {m:Nat}{W W':E4}(h:PieceW m W)(p1:W'.pts.Perm W.pts)(p2:W'.ts.Perm W.ts):PieceW m W':=
 bf (fun n hn=>h.kds n ((bo p1 p2).mem_iff.mp hn)) (fun x hx=>h.good.kd x (p1.mem_iff.mp hx)) (fun x hx=>h.good.tk x (p2.mem_iff.mp hx)) (by rw[p1.length_eq];exact h.l1) (by rw[p2.length_eq];exact h.l2)
theorem fz:∀{a b:List Str},a.Pairwise rE→b.Pairwise rE→(∀x,x∈a↔x∈b)→a=b
 |[],[],_,_,_=>rfl
 |[],y::t,_,_,h=>absurd ((h y).mpr List.mem_cons_self) (by simp)
 |x::r,[],_,_,h=>absurd ((h x).mp List.mem_cons_self) (by simp)
 |x::r,y::t,h1,h2,h=>by
  have h1':=List.pairwise_cons.mp h1
  have h2':=List.pairwise_cons.mp h2
  have irr:∀z:Str,¬rE z z:=fun z=>List.lt_irrefl _
  have e:x=y:=Classical.byContradiction fun ne=>by
   rcases List.mem_cons.mp ((h x).mp List.mem_cons_self) with z|z
   ·exact ne z
   ·rcases List.mem_cons.mp ((h y).mpr List.mem_cons_self) with z'|z'
    ·exact ne z'.symm
    ·have q1:y.cps.toList<x.cps.toList:=h2'.1 x z
     have q2:x.cps.toList<y.cps.toList:=h1'.1 y z'
     exact List.lt_asymm q1 q2
  subst e
  rw[fz h1'.2 h2'.2 fun z=>⟨fun hz=>?_,fun hz=>?_⟩]
  ·rcases List.mem_cons.mp ((h z).mp (List.mem_cons_of_mem _ hz)) with e|e
   ·exact absurd (h1'.1 z hz) (by rw[e];exact irr _)
   ·exact e
  ·rcases List.mem_cons.mp ((h z).mpr (List.mem_cons_of_mem _ hz)) with e|e
   ·exact absurd (h2'.1 z hz) (by rw[e];exact irr _)
   ·exact e
theorem Ordr.r1 {W:E4}{s1 s2:List Str}(h:Ordr W s1 s2)(nd:(i6 W).Nodup):s1.Pairwise rE:=Z9 (aU h.o1 (h.p1.nodup_iff.mpr (O5 nd)))
theorem Ordr.r2 {W:E4}{s1 s2:List Str}(h:Ordr W s1 s2)(nd:(i6 W).Nodup):s2.Pairwise rE:=Z9 (aU h.o2 (h.p2.nodup_iff.mpr (aF nd)))
theorem Ordr.uniq {W W':E4}{s1 s2 t1 t2:List Str}(h:Ordr W s1 s2)(h':Ordr W' t1 t2)(p1:W'.pts.Perm W.pts)(p2:W'.ts.Perm W.ts)(nd:(i6 W).Nodup):t1=s1∧t2=s2:=by
 have nd':(i6 W').Nodup:=(bo p1 p2).nodup_iff.mpr nd
 exact⟨fz (h'.r1 nd') (h.r1 nd) fun x=>by rw[h'.p1.mem_iff,h.p1.mem_iff,(p1.map _).mem_iff],fz (h'.r2 nd') (h.r2 nd) fun x=>by rw[h'.p2.mem_iff,h.p2.mem_iff,(p2.map _).mem_iff]⟩
theorem j5 {t u:TS}{nx:L2.St→Hp→Prop}{rt:V→Hp→Prop}{bk ct:L2.St→Hp→Prop}{σ:L2.St}{H:Hp}(h:∀nx':L2.St→Hp→Prop,(∀σ H,u ⟨nx,rt,bk,ct⟩ σ H→nx' σ H)→t ⟨nx',rt,bk,ct⟩ σ H):og t u ⟨nx,rt,bk,ct⟩ σ H:=h _ fun _ _ z=>z
theorem gj {H H':Hp}{d:Addr}{o:Obj}{kvs:List (g7×V)}(s:Same H H'):Same (B9 d o kvs H) (B9 d o kvs H'):=fun b u e=>by
 unfold B9 at*
 by_cases z:b=d
 ·rw[z,d9] at e⊢;exact e
 ·rw[b9 z] at e⊢;exact s _ _ e
theorem Z6 {H:Hp}{d b:Addr}{o:Obj}{kvs:List (g7×V)}(h:b≠d):B9 d o kvs H b=H b:=b9 h
theorem yL {x:Str}{s m t i:Nat}(h:StrLaws.At x ⟨#[s,m,t]⟩ x.length i):x.cps.toList[i]?=some s∧x.cps.toList[i+1]?=some m:=by
 have h2:=h.2
 rw[StrLaws.subAt_eq] at h2
 have e:(x.cps.toList.drop i).take 3=[s,m,t]:=eq_of_beq h2
 have z0:=congrArg (fun l:List Nat=>l[0]?) e
 have z1:=congrArg (fun l:List Nat=>l[1]?) e
 simp only[List.getElem?_take_of_lt (show 0<3 by omega),List.getElem?_take_of_lt (show 1<3 by omega),List.getElem?_drop] at z0 z1
 exact⟨z0,z1⟩
theorem tM {x:Str}{s m t i:Nat}{r:List Nat}(h:x.cps.toList.drop i=s::m::t::r):StrLaws.At x ⟨#[s,m,t]⟩ x.length i:=by
 refine⟨?_,?_⟩
 ·have z:=congrArg List.length h
  rw[List.length_drop,aK] at z
  show i+3≤x.length
  simp only[List.length_cons] at z
  omega
 ·rw[StrLaws.subAt_eq]
  show((x.cps.toList.drop i).take 3==[s,m,t])=true
  rw[h]
  exact beq_self_eq_true _
theorem eM (s m t:Nat)(x y:Str)(r:List Str):(Str.join ⟨#[s,m,t]⟩ (x::y::r)).cps.toList=x.cps.toList++s::m::t::(Str.join ⟨#[s,m,t]⟩ (y::r)).cps.toList:=by
 show((x++(⟨#[s,m,t]⟩:Str))++Str.join ⟨#[s,m,t]⟩ (y::r)).cps.toList=_
 rw[A6,A6,List.append_assoc];rfl
theorem nQ {x:Str}{s m t:Nat}(hsm:s≠m):∀{ws:List Str} {cuts:List Nat} {a f:Nat},ws≠[]→(∀w∈ws,m∉w.cps.toList)→x.cps.toList.drop a=(Str.join ⟨#[s,m,t]⟩ ws).cps.toList→StrLaws.ChainG x ⟨#[s,m,t]⟩ x.length a cuts f→(∀k,f≤k→¬StrLaws.At x ⟨#[s,m,t]⟩ x.length k)→StrLaws.partsFrom x 3 a cuts=ws
 |[],_,_,_,h,_,_,_,_=>absurd rfl h
 |[w],[],a,f,_,hf,hd,hG,hn=>by
  show [Builtin.Str.strSub x a x.length]=[w]
  have hd':x.cps.toList.drop a=w.cps.toList:=hd
  rw[aR (x:=Builtin.Str.strSub x a x.length) (y:=w) (by
   rw[StrLaws.strSub_toList,hd']
   refine List.take_of_length_le ?_
   have z:=congrArg List.length hd'
   rw[List.length_drop,aK] at z
   omega)]
 |[w],c::r,a,f,_,hf,hd,hG,hn=>by
  have hd':x.cps.toList.drop a=w.cps.toList:=hd
  have h1:=(yL hG.2.1).2
  have h2:=hG.1
  have z:(x.cps.toList.drop a)[c+1 -a]?=some m:=by rw[List.getElem?_drop,show a+(c+1 -a)=c+1 by omega];exact h1
  rw[hd'] at z
  exact absurd (List.mem_of_getElem? z) (hf w List.mem_cons_self)
 |w::w'::r',cuts,a,f,_,hf,hd,hG,hn=>by
  rw[eM] at hd
  have hA0:x.cps.toList.drop (a+w.cps.toList.length)=s::m::t::(Str.join ⟨#[s,m,t]⟩ (w'::r')).cps.toList:=by
   rw[←List.drop_drop,hd]
   exact List.drop_left
  have hA:=tM hA0
  have noB:∀k,a≤k→k<a+w.cps.toList.length→¬StrLaws.At x ⟨#[s,m,t]⟩ x.length k:=fun k h1 h2 h3=>by
   have z1:=(yL h3).2
   have z:(x.cps.toList.drop a)[k+1 -a]?=some m:=by rw[List.getElem?_drop,show a+(k+1 -a)=k+1 by omega];exact z1
   rw[hd] at z
   by_cases hj:k+1 -a<w.cps.toList.length
   ·rw[List.getElem?_append_left hj] at z
    exact hf w List.mem_cons_self (List.mem_of_getElem? z)
   ·have ej:k+1 -a=w.cps.toList.length:=by omega
    rw[List.getElem?_append_right (by omega),ej,Nat.sub_self] at z
    cases z
    exact hsm rfl
  cases cuts with
  |nil=>
   have ef:f=a:=hG
   exact absurd hA (hn _ (by omega))
  |cons c r=>
   obtain⟨g1,g2,g3,g4⟩:=hG
   have ec:c=a+w.cps.toList.length:=by
    by_cases l1:c<a+w.cps.toList.length
    ·exact absurd g2 (noB c g1 l1)
    ·by_cases l2:a+w.cps.toList.length<c
     ·exact absurd hA (g3 _ (by omega) l2)
     ·omega
   subst ec
   show Builtin.Str.strSub x a (a+w.cps.toList.length)::StrLaws.partsFrom x 3 (a+w.cps.toList.length+3) r=w::w'::r'
   have e1:Builtin.Str.strSub x a (a+w.cps.toList.length)=w:=aR (by
    rw[StrLaws.strSub_toList,hd,Nat.add_sub_cancel_left]
    exact List.take_left)
   have e2:x.cps.toList.drop (a+w.cps.toList.length+3)=(Str.join ⟨#[s,m,t]⟩ (w'::r')).cps.toList:=by
    rw[←List.drop_drop,hA0];rfl
   rw[e1,nQ hsm (by simp) (fun v hv=>hf v (List.mem_cons_of_mem _ hv)) e2 g4 hn]
theorem nY {s m t:Nat}(hsm:s≠m)(hk:Builtin.Str.strKind ⟨#[s,m,t]⟩=1){ws:List Str}(h:ws≠[])(hf:∀w∈ws,m∉w.cps.toList):PySem.Txt.split (Str.join ⟨#[s,m,t]⟩ ws) ⟨#[s,m,t]⟩=ws:=by
 generalize hx:Str.join ⟨#[s,m,t]⟩ ws=x
 obtain⟨f,hG,hn⟩:=StrLaws.occ_tight x ⟨#[s,m,t]⟩ (by show 1≤3;omega)
 have key:=nQ (x:=x) hsm h hf (by rw[hx];rfl) hG hn
 have one:∀(e:Builtin.Str.occurrences x ⟨#[s,m,t]⟩ 0 x.length (x.length+1)=[]),[x]=ws:=fun e=>by
  rw[e] at key
  rw[←key]
  show [x]=[Builtin.Str.strSub x 0 x.length]
  rw[StrLaws.sub_whole]
 unfold PySem.Txt.split
 split
 ·rename_i hc
  refine one ?_
  rw[Bool.or_eq_true,decide_eq_true_eq,decide_eq_true_eq] at hc
  have h1:1≤Builtin.Str.strKind x:=by
   unfold Builtin.Str.strKind
   split
   ·exact Nat.le_refl 1
   ·split<;>omega
  cases ho:Builtin.Str.occurrences x ⟨#[s,m,t]⟩ 0 x.length (x.length+1) with
  |nil=>rfl
  |cons c r=>
   rw[ho] at hG
   have z:c+3≤x.length:=hG.2.1.1
   rcases hc with hc|hc
   ·have hc':x.length<3:=hc
    omega
   ·omega
 ·split
  ·rename_i he
   exact one (List.isEmpty_iff.mp he)
  ·rw[StrLaws.partsBetween_eq]
   exact key
theorem mj:(" > ":Str)=⟨#[32,62,32]⟩:=by decide+kernel
theorem pX:(" ! ":Str)=⟨#[32,33,32]⟩:=by decide+kernel
theorem jj:("=":Str)=⟨#[61]⟩:=by decide+kernel
theorem qb {x:L0}{d:Nat}(h:P7 x)(h1:d∉kNS.cps.toList)(h2:d∉kSL.cps.toList)(h3:d≠58∧d≠40∧d≠44∧d≠41):d∉(w4 x).cps.toList:=by
 obtain⟨n,k|t⟩:=x
 ·show d∉(n++":"++k:Str).cps.toList
  rw[G4,A6,A6,bF]
  have q1:=M0 (K5 h.nm) h1
  have q2:=M0 (aq (h.pt k rfl)) h2
  simp only[List.mem_append,List.mem_singleton,not_or]
  exact⟨⟨q1,h3.1⟩,q2⟩
 ·obtain⟨k,a,b⟩:=t
  show d∉(n++":"++k++"("++a++","++b++")":Str).cps.toList
  rw[G4,U4,aA,dF]
  have q1:=M0 (K5 h.nm) h1
  have q2:=M0 (aq (h.ti _ rfl).1) h2
  have q3:=M0 (K5 (h.ti _ rfl).2.1) h1
  have q4:=M0 (K5 (h.ti _ rfl).2.2) h1
  simp only[A6,bF,List.mem_append,List.mem_singleton,not_or]
  exact⟨⟨⟨⟨⟨⟨⟨q1,h3.1⟩,q2⟩,h3.2.1⟩,q3⟩,h3.2.2.1⟩,q4⟩,h3.2.2.2⟩
theorem gp (c:Nat){d:Nat}:∀{ws:List Str},d∈(Str.join ⟨#[c]⟩ ws).cps.toList→d=c∨∃w∈ws,d∈w.cps.toList
 |[],h=>absurd h (by show d∉([]:List Nat);simp)
 |[x],h=> .inr ⟨x,List.mem_cons_self,h⟩
 |x::y::r,h=>by
  rw[T6] at h
  rcases List.mem_append.mp h with h|h
  ·exact .inr ⟨x,List.mem_cons_self,h⟩
  ·rcases List.mem_cons.mp h with h|h
   ·exact .inl h
   ·rcases gp c h with h|⟨w,hw,h⟩
    ·exact .inl h
    ·exact .inr ⟨w,List.mem_cons_of_mem _ hw,h⟩
theorem gi {xs:List L0}{d:Nat}(h:∀x∈xs,P7 x)(h1:d∉kNS.cps.toList)(h2:d∉kSL.cps.toList)(h3:d≠58∧d≠40∧d≠44∧d≠41)(h4:d≠32∧d≠45):d∉(M6 (xs.map w4)).cps.toList:=by
 cases xs with
 |nil=>
  show d∉("-":Str).cps.toList
  rw[show("-":Str).cps.toList=[45] by decide+kernel]
  exact fun z=>h4.2 (List.mem_singleton.mp z)
 |cons x r=>
  show d∉(Str.join " " ((x::r).map w4)).cps.toList
  rw[me]
  intro z
  rcases gp 32 z with e|⟨w,hw,e⟩
  ·exact h4.1 e
  ·obtain⟨y,hy,rfl⟩:=List.mem_map.mp hw
   exact qb (h y hy) h1 h2 h3 e
theorem n62:62∉kNS.cps.toList∧62∉kSL.cps.toList:=by decide+kernel
theorem n33:33∉kNS.cps.toList∧33∉kSL.cps.toList:=by decide+kernel
def bW (tl tr:Str)(tb:List Str):Str:=Str.join " ! " ((tl++" > "++tr)::tb)
theorem gy (tl tr:Str)(tb:List Str):bW tl tr tb=Str.join " > " [tl,Str.join " ! " (tr::tb)]:=by
 cases tb with
 |nil=>rfl
 |cons y r=>
  show(tl++" > "++tr)++" ! "++Str.join " ! " (y::r)=tl++" > "++(tr++" ! "++Str.join " ! " (y::r))
  simp only[Str.append_assoc]
def ShT (W:E4)(t:Str):Prop:=∃ps ts,jS W ps ts∧t=K0 ps ts
structure PcW (W:E4):Prop where
 pc:PieceW 4 W
 nd:(i6 W).Nodup
 ends:∀x∈W.ts,x.2.2.1∈W.pts.map (·.1)∧x.2.2.2∈W.pts.map (·.1)
theorem ShT.uniq {W:E4}{t t':Str}(nd:(i6 W).Nodup)(h:ShT W t)(h':ShT W t'):t=t':=by
 obtain⟨ps,ts,o6,rfl⟩:=h
 obtain⟨ps',ts',o7,rfl⟩:=h'
 rw[oG o6.o1 o7.o1 (o6.p1.trans o7.p1.symm) (((o7.p1.map _).nodup_iff).mpr (O5 nd)),qw o6.o2 o7.o2 (o6.p2.trans o7.p2.symm) (((o7.p2.map _).nodup_iff).mpr (aF nd))]
theorem rl {x:L0}(h:P7 x)(hn:x.1.length≤8)(ht:∀t,x.2= .inr t→t.2.1.length≤8∧t.2.2.length≤8):(w4 x).length≤36:=by
 obtain⟨n,k|t⟩:=x
 ·show(n++":"++k:Str).length≤36
  have l1:n.length≤8:=hn
  have l2:=C4 (h.pt k rfl)
  rw[G4,d7,d7,d6];omega
 ·obtain⟨k,a,b⟩:=t
  show(n++":"++k++"("++a++","++b++")":Str).length≤36
  have l1:n.length≤8:=hn
  have l2:k.length≤8:=C4 (h.ti _ rfl).1
  have l3:a.length≤8:=(ht _ rfl).1
  have l4:b.length≤8:=(ht _ rfl).2
  rw[G4,U4,aA,dF]
  simp only[d7,d6];omega
theorem mM {xs:List L0}(hl:xs.length≤8)(h:∀x∈xs,(w4 x).length≤36):(M6 (xs.map w4)).length≤400:=by
 cases xs with
 |nil=>decide+kernel
 |cons x r=>
  show(Str.join " " ((x::r).map w4)).length≤400
  rw[me]
  have z:=eV (B:=36) 32 (ws:=(x::r).map w4) fun y hy=>by
   obtain⟨w,hw,rfl⟩:=List.mem_map.mp hy
   exact h w hw
  rw[List.length_map] at z
  have z2:(x::r).length*(36+1)≤8*37:=Nat.mul_le_mul_right _ hl
  omega
structure yg (W:E4) (t:Str) (xs:List L0):Prop where
 is:t=M6 (xs.map w4)
 pm:xs.Perm (items W)
 good:∀x∈xs,P7 x
 len:t.length≤400
 n62:62∉t.cps.toList
 n33:33∉t.cps.toList
theorem ShT.txt {W:E4}{t:Str}(h:ShT W t)(p:PcW W):∃xs,yg W t xs:=by
 obtain⟨ps,ts,o,rfl⟩:=h
 have pm:=lX o
 have good:∀x∈ps.map oV++ts.map dG,P7 x:=fun x hx=>di p.pc.good p.ends x (pm.mem_iff.mp hx)
 refine⟨ps.map oV++ts.map dG,rfl,pm,good,?_,gi good n62.1 n62.2 (by omega) (by omega),gi good n33.1 n33.2 (by omega) (by omega)⟩
 have hl:(ps.map oV++ts.map dG).length≤8:=by
  rw[pm.length_eq]
  unfold items
  rw[List.length_append,List.length_map,List.length_map]
  have:=p.pc.l1
  have:=p.pc.l2
  omega
 have h36:∀x∈ps.map oV++ts.map dG,(w4 x).length≤36:=fun x hx=>by
  refine rl (good x hx) ?_ fun t e=>?_
  ·have hx':=pm.mem_iff.mp hx
   unfold items at hx'
   rcases List.mem_append.mp hx' with z|z
   ·obtain⟨y,hy,rfl⟩:=List.mem_map.mp z
    exact C4 (p.pc.kds _ (List.mem_append_left _ (List.mem_map.mpr ⟨y,hy,rfl⟩)))
   ·obtain⟨y,hy,rfl⟩:=List.mem_map.mp z
    exact C4 (p.pc.kds _ (List.mem_append_right _ (List.mem_map.mpr ⟨y,hy,rfl⟩)))
  ·have hx':=pm.mem_iff.mp hx
   unfold items at hx'
   rcases List.mem_append.mp hx' with z|z
   ·obtain⟨y,hy,rfl⟩:=List.mem_map.mp z
    cases e
   ·obtain⟨y,hy,rfl⟩:=List.mem_map.mp z
    cases e
    have q:=p.ends y hy
    exact⟨C4 (p.pc.kds _ (List.mem_append_left _ q.1)),C4 (p.pc.kds _ (List.mem_append_left _ q.2))⟩
 exact mM hl h36
theorem eO {s m t d:Nat}(h0:d≠s∧d≠m∧d≠t):∀{ws:List Str},(∀w∈ws,d∉w.cps.toList)→d∉(Str.join ⟨#[s,m,t]⟩ ws).cps.toList
 |[],_,h=>absurd h (by show d∉([]:List Nat);simp)
 |[x],hf,h=>hf x List.mem_cons_self h
 |x::y::r,hf,h=>by
  rw[eM] at h
  rcases List.mem_append.mp h with h|h
  ·exact hf x List.mem_cons_self h
  ·rcases List.mem_cons.mp h with h|h
   ·exact h0.1 h
   rcases List.mem_cons.mp h with h|h
   ·exact h0.2.1 h
   rcases List.mem_cons.mp h with h|h
   ·exact h0.2.2 h
   exact eO h0 (fun w hw=>hf w (List.mem_cons_of_mem _ hw)) h
theorem hV {B s m t:Nat}:∀{ws:List Str},(∀y∈ws,y.length≤B)→(Str.join ⟨#[s,m,t]⟩ ws).length≤ws.length*(B+3)
 |[],_=>Nat.zero_le _
 |[x],h=>by
  show x.length≤1*(B+3)
  have:=h x List.mem_cons_self
  omega
 |x::y::r,h=>by
  show((x++(⟨#[s,m,t]⟩:Str))++Str.join ⟨#[s,m,t]⟩ (y::r)).length≤(r.length+1+1)*(B+3)
  have ih:(Str.join ⟨#[s,m,t]⟩ (y::r)).length≤(r.length+1)*(B+3):=hV (ws:=y::r) fun z hz=>h z (List.mem_cons_of_mem _ hz)
  have:=h x List.mem_cons_self
  rw[d7,d7,show(⟨#[s,m,t]⟩:Str).length=3 from rfl]
  rw[Nat.succ_mul (r.length+1)]
  omega
theorem WebIs.to {n m:Nat}{H:Hp}{a p q:Addr}{kvs:List (g7×V)}{W:E4}(h:WebIs n K H a p q kvs W)(l:(i6 W).length≤m):WebIs m K H a p q kvs W:=⟨h.at_,h.hp,h.hq,h.ne,h.nd,l,h.ends,h.nl⟩
theorem PcW.len {W:E4}(h:PcW W):(i6 W).length≤8:=by
 rw[L9]
 have:=h.pc.l1
 have:=h.pc.l2
 omega
structure oo (L R:Sd) (bs:List Sd):Prop where
 l:PcW L.W
 r:PcW R.W
 b:∀b∈bs,PcW b.W
 len:bs.length≤3
structure Cp (H:Hp) (A B:Sd):Prop where
 p:H A.p=none
 q:H A.q=none
 m1:A.W.pts.Perm B.W.pts
 m2:A.W.ts.Perm B.W.ts
theorem vc {tb:List Str}{bs:List Sd}(h:Paired (fun t b=>ShT b.W t) tb bs)(hp:∀b∈bs,PcW b.W):∀t∈tb,t.length≤400∧62∉t.cps.toList∧33∉t.cps.toList:=fun t ht=>by
 obtain⟨j,hj⟩:=List.getElem?_of_mem ht
 obtain⟨b,hb,z⟩:=z8 h hj
 obtain⟨xs,X⟩:=z.txt (hp b (List.mem_of_getElem? hb))
 exact⟨X.len,X.n62,X.n33⟩
def R8 (K:PySem.W.Frag):Sp:=fun vs H Q _=>∃(r bl:Addr) (L R:Sd) (bs:List Sd),vs=[.ref r]∧RuleIs K H r bl L R bs∧oo L R bs∧∀(H':Hp) (tl tr:Str) (tb:List Str),Same H H'→ShT L.W tl→ShT R.W tr→Paired (fun t b=>ShT b.W t) tb bs→Q (.str (bW tl tr tb)) H'
theorem dU {f:Addr}{fd:FuncData}(T:Txt K mg)(M4:A7 P w K mg base x6 2 "web_shown" ["web"] [] (Y0 K))(F:Fun K "rule_shown" "rule_shown" D7 f fd):FnOk P w K mg base x6 3 f fd ["rule"] (R8 K):=by
 refine F.ok sc_rule_shown (fun vs H Q E h=>?_) (fun cdv A outer s H vs Q E hr h=>?_)
 ·obtain⟨r,bl,L,R,bs,rfl,_⟩:=h
  rfl
 ·obtain⟨r,bl,L,R,bs,rfl,hR,hP,k⟩:=h
  have hbl:=hP.len
  have hN:=sc_rule_shown.nd
  have hu:=x8 hr
  refine⟨_,QSs.r (z7 (p0 (i:=1) hN rfl (by walk_at "l") (q8 (q9 K) (q8 (q9 K) (qC M4 (hr.mono (by decide)) j1 (g0 (u4 (u9 K hu) (qV 0) d0 (fun _ _=>rfl)) j0)) A5) (qC M4 (hr.mono (by decide)) j1 (g0 (u4 (u9 K hu) (qV 0) d0 (fun _ _=>rfl)) j0))))
   (B8 (x5 (qM PySem.F.plainAttrs_str PySem.F.slot_str_join PySem.F.type_str_join (D3 K) K A5 (g0 (q8 (q9 K) (cv (g0 (qV 1) j0)) (C2 (own:=["bar"]) (js:=[]) (by kernel_rfl) rfl (P9 K (u4 (u9 K hu) (qV 0) d0 (fun _ _=>rfl))) (fun _ _ _ _=>(P0 (i:=0) (show List.Nodup (["bar"]:List Str) by decide+kernel) rfl (by walk_at "l"))) (fun _ _ _ _=>O2) (fun _ _ _ _=>(qC M4 (hr.mono (by decide)) j1 (g0 (qV 0) j0))))) j0))))),?_⟩
  walk_at "r"
  refine b5 hR.tup (b6 (j:=0) rfl) ?_
  walk_at "r"
  refine⟨L.a,L.p,L.q,L.kvs,L.W,rfl,hR.l.to (Nat.le_trans hP.l.len (by omega)),hP.l.pc.good,fun H1 pl tl m1 o1=>?_⟩
  have sl:ShT L.W (K0 pl tl):=⟨_,_,o1,rfl⟩
  obtain⟨_,X⟩:=sl.txt hP.l
  have hl1:=X.len
  generalize K0 pl tl=tL at sl X hl1⊢
  walk_at "r"
  refine i7 (i:=tL) (b8 (by rw[mj,show(⟨#[32,62,32]⟩:Str).length=3 from rfl];omega)) ?_
  walk_at "r"
  refine b5 (m1.tup hR.tup) (b6 (j:=1) rfl) ?_
  walk_at "r"
  refine⟨R.a,R.p,R.q,R.kvs,R.W,rfl,(hR.r.same m1).to (Nat.le_trans hP.r.len (by omega)),hP.r.pc.good,fun H2 pr tr m2 o2=>?_⟩
  have sr:ShT R.W (K0 pr tr):=⟨_,_,o2,rfl⟩
  obtain⟨_,Y⟩:=sr.txt hP.r
  have hl2:=Y.len
  generalize K0 pr tr=tR at sr Y hl2⊢
  have hg:(tL++(" > ":Str)).length=tL.length+3:=by rw[mj,d7];rfl
  refine i7 (j:=tR) (b8 (by omega)) ?_
  have hS:(tL++(" > ":Str)++tR).length≤1000:=by rw[d7];omega
  walk_at "r"
  refine⟨rfl,?_⟩
  walk_at "r"
  refine⟨b8 (by simp),fun l3 n3=>?_⟩
  obtain⟨H3,e3,f3,m3,_⟩:=b7 (o:= .lst _) n3
  rw[e3]
  have R3:=hR.same (m1.trans (m2.trans m3))
  walk_at "r"
  refine b5 R3.tup (b6 (j:=2) rfl) ?_
  walk_at "r"
  refine o3 R3.bl ?_
  refine j4 (n:=bs.length) (fun i out H'=>Same H3 H'∧∃tb:List Str,out=tb.map V.str∧Paired (fun t b=>ShT b.W t) tb (bs.take i)) ⟨Same.refl _,[],rfl,.nil⟩ (fun i out H' hi hp=>⟨_,.ref (bs[i]).a,hp.1.seq R3.bl,by rw[List.getElem?_map,List.getElem?_eq_getElem hi];rfl⟩) ?_ ?_
  ·rintro N i v out H4' H4 hi ⟨s4,tb,rfl,pb⟩ y hN'
   obtain⟨rfl,hx⟩:=Itl.get y (s4.seq R3.bl)
   rw[List.getElem?_map,List.getElem?_eq_getElem hi] at hx
   cases hx
   have hb:=List.getElem_mem hi
   have hpl:=Paired.length pb
   rw[List.length_take] at hpl
   walk_at "r"
   refine⟨rfl,?_⟩
   walk_at "r"
   refine⟨_,_,_,_,_,rfl,((R3.bars _ hb).same s4).to (Nat.le_trans (hP.b _ hb).len (by omega)),(hP.b _ hb).pc.good,fun H5 ps ts m5 o5=>?_⟩
   refine⟨b8 (by rw[List.length_map];omega),hN' _ _ ⟨s4.trans m5,tb++[K0 ps ts],by rw[List.map_append];rfl,?_⟩⟩
   rw[t7 (List.getElem?_eq_getElem hi)]
   exact r9 pb ⟨_,_,o5,rfl⟩
  ·rintro out H4 ⟨s4,tb,rfl,pb⟩
   rw[List.take_of_length_le (Nat.le_refl _)] at pb
   have hpl:=Paired.length pb
   refine⟨⟨_,s4.seq R3.bl,by rw[List.length_map];exact Nat.le_refl _⟩,fun D hD=>⟨b8 (by rw[List.length_map];omega),?_⟩⟩
   obtain⟨H5,e5,f5,m5,_⟩:=b7 (H:=H4) (o:= .lst (tb.map V.str)) hD
   change bz K _ _ (n0 H4 D _) _
   rw[e5]
   refine cg (m5 _ _ (s4 _ _ f3)) f5 (b8 (by simp only[List.length_map,List.length_cons,List.length_nil];omega)) (fun l6 n6=>?_)
   obtain⟨H6,e6,f6,m6,_⟩:=b7 (o:= .lst _) n6
   rw[e6]
   walk_at "r"
   refine⟨_,l6,(tL++" > "++tR)::tb,rfl,rfl,SqL.of f6,by decide+kernel,by rw[List.length_cons];omega,fun y hy=>?_,?_⟩
   ·rcases List.mem_cons.mp hy with rfl|hy
    ·exact hS
    ·exact Nat.le_trans (vc pb hP.b y hy).1 (by omega)
   ·exact k H6 tL tR tb (m1.trans (m2.trans (m3.trans (s4.trans (m5.trans m6))))) sl sr pb
def yD (ms:List (Str×Str))(W:E4):Prop:=∀n∈i6 W,TxtAt (C0 ms) n∧n.length≤8∧(kY (C0 ms) n).length≤24
def iB (ms:List (Str×Str))(n:Str):Str:=n++"="++kY (C0 ms) n
theorem jH {ms:List (Str×Str)}{W:E4}{n:Str}(h:yD ms W)(hn:n∈i6 W):(iB ms n).length≤33:=by
 have z:=h n hn
 unfold iB
 rw[jj,d7,d7,d6]
 omega
def O6 (K:PySem.W.Frag):Sp:=fun vs H Q _=>∃(L:Sd) (d:Addr) (ms:List (Str×Str)),vs=[.ref L.a,.ref d]∧SdIs K H L∧H d=some (.dK (C0 ms))∧yD ms L.W∧(i6 L.W).length≤8∧∀(s1 s2:List Str) (H':Hp),Same H H'→Ordr L.W s1 s2→Q (.str (M6 ((s1++s2).map (iB ms)))) H'
theorem dm {f:Addr}{fd:FuncData}(T:Txt K mg)(U6:A7 P w K mg base x6 1 "joined" ["texts"] [] (ar K))(J6:A7 P w K mg base x6 1 "things" ["web"] [] (U9 K))(F:Fun K "match_shown" "match_shown" B1 f fd):FnOk P w K mg base x6 2 f fd ["piece","match"] (O6 K):=by
 refine F.ok sc_match_shown (fun vs H Q E h=>?_) (fun cdv A outer s H vs Q E hr h=>?_)
 ·obtain⟨L,d,ms,rfl,_⟩:=h
  rfl
 ·obtain⟨L,d,ms,rfl,hL,hd,hM,h8,k⟩:=h
  have hN:=sc_match_shown.nd
  have hu:=x8 hr
  refine⟨_,QSs.r (B8 (x5 (qC U6 (hr.mono (by decide)) j1 (g0 (C2 (own:=["name"]) (js:=[1]) (by kernel_rfl) rfl (P9 K (qC J6 (hr.mono (by decide)) j1 (g0 (qV 0) j0))) (fun _ _ _ _=>(P0 (i:=0) (show List.Nodup (["name","match"]:List Str) by decide+kernel) rfl (by walk_at "l"))) (fun _ _ _ _=>O2) (fun _ _ _ _=>(q8 (q9 K) (q8 (q9 K) (qV 0) A5) (u4 (u9 K hu) (qV 1) (qV 0) (fun _ _=>rfl))))) j0)))),?_⟩
  walk_at "r"
  refine⟨L.a,L.p,L.q,L.kvs,L.W,rfl,hL.at_,by omega,fun l H1 s1 s2 n1 m1 f1 o1=>?_⟩
  have hsl:=o1.len
  have hsm:∀n∈s1++s2,n∈i6 L.W:=fun n hn=>o1.mem.mp hn
  have kk:∀H',Same H H'→Q (.str (M6 ((s1++s2).map (iB ms)))) H':=fun H' m=>k s1 s2 H' m o1
  generalize s1++s2=ss at f1 hsl hsm kk
  walk_at "r"
  refine o3 (SqL.of f1) ?_
  refine j4 (n:=ss.length) (fun i out H'=>H'=H1∧out=((ss.take i).map (iB ms)).map V.str) ⟨rfl,rfl⟩ (fun i out H' hi hp=>⟨ss.map V.str,.str (ss[i]),SqL.of (by rw[hp.1];exact f1),by rw[List.getElem?_map,List.getElem?_eq_getElem hi];rfl⟩) ?_ ?_
  ·rintro N i v out H2 H3 hi ⟨rfl,rfl⟩ y hN'
   obtain⟨rfl,hx⟩:=Itl.get y (SqL.of f1)
   rw[List.getElem?_map,List.getElem?_eq_getElem hi] at hx
   cases hx
   have hn:=hsm _ (List.getElem_mem hi)
   have hxi:=List.getElem?_eq_getElem hi
   generalize ss[i]=x at hn hxi⊢
   have z:=hM x hn
   walk_at "r"
   refine⟨rfl,?_⟩
   walk_at "r"
   refine i7 (i:=x) (b8 (by rw[jj,d6];omega)) ?_
   walk_at "r"
   refine yy (.inl (m1 _ _ hd)) z.1 ?_
   refine i7 (b8 (by rw[jj,d7,d6];omega)) ?_
   refine⟨b8 (by rw[List.length_map,List.length_map,List.length_take];omega),hN' _ _ ⟨rfl,?_⟩⟩
   rw[t7 hxi,List.map_append,List.map_append];rfl
  ·rintro out H2 ⟨rfl,rfl⟩
   refine⟨⟨_,SqL.of f1,by rw[List.length_map];exact Nat.le_refl _⟩,fun D hD=>⟨b8 (by rw[List.length_map,List.length_map,List.length_take];omega),?_⟩⟩
   rw[List.take_of_length_le (Nat.le_refl _)]
   obtain⟨H3,e3,f3,m3,_⟩:=b7 (H:=H2) (o:= .lst ((ss.map (iB ms)).map V.str)) hD
   show jk _ (n0 H2 D _) _
   rw[e3]
   walk_at "r"
   refine⟨D,ss.map (iB ms),rfl,SqL.of f3,by rw[List.length_map];omega,fun y hy=>?_,kk _ (m1.trans m3)⟩
   obtain⟨n,hn,rfl⟩:=List.mem_map.mp hy
   exact Nat.le_trans (jH hM (hsm n hn)) (by omega)
theorem wJ (x:V)(xs:List V):S9 (x::xs) (some 1) none=xs:=by
 unfold S9
 rw[show(some (1:Int))=some ((1:Nat):Int) from rfl,HT.sIx_nat,HT.sIx_none,show min 1 (x::xs).length=1 by rw[List.length_cons];omega]
 simp
theorem vB (x y:V)(xs:List V):S9 (x::y::xs) (some 2) none=xs:=by
 unfold S9
 rw[show(some (2:Int))=some ((2:Nat):Int) from rfl,HT.sIx_nat,HT.sIx_none,show min 2 (x::y::xs).length=2 by rw[List.length_cons,List.length_cons];omega]
 simp
theorem RuleOk.perm {L R L' R':Sd}{bs bs':List Sd}{H:Hp}(h:RuleOk L.W R.W bs)(cl:Cp H L' L)(cr:Cp H R' R)(cb:Paired (Cp H) bs' bs):RuleOk L'.W R'.W bs':=by
 refine⟨h.l.perm cl.m1 cl.m2,h.r.perm cr.m1 cr.m2,fun n h1 h2=>?_,by rw[Paired.length cb];exact h.len,fun b hb=>?_⟩
 ·have z:=h.ag n ((bo cl.m1 cl.m2).mem_iff.mp h1) ((bo cr.m1 cr.m2).mem_iff.mp h2)
  exact⟨fun k=>by rw[cl.m1.mem_iff,cr.m1.mem_iff];exact z.p k,fun t=>by rw[cl.m2.mem_iff,cr.m2.mem_iff];exact z.t t⟩
 ·obtain⟨j,hj⟩:=List.getElem?_of_mem hb
  obtain⟨c,hc,z⟩:=z8 cb hj
  have q:=h.bars c (List.mem_of_getElem? hc)
  exact⟨q.1.perm z.m1 z.m2,fun x hx=>z.m1.mem_iff.mpr (q.2.1 x (cl.m1.mem_iff.mp hx)),fun x hx=>z.m2.mem_iff.mpr (q.2.2 x (cl.m2.mem_iff.mp hx))⟩
def X3 (K:PySem.W.Frag):Sp:=fun vs H Q _=>∃(L R:Sd) (bs:List Sd) (tl tr:Str) (tb:List Str),vs=[.str (bW tl tr tb)]∧oo L R bs∧RuleOk L.W R.W bs∧ShT L.W tl∧ShT R.W tr∧Paired (fun t b=>ShT b.W t) tb bs∧∀(r bl:Addr) (L' R':Sd) (bs':List Sd) (H':Hp),Same H H'→RuleIs K H' r bl L' R' bs'→H bl=none→Cp H L' L→Cp H R' R→Paired (Cp H) bs' bs→Q (.ref r) H'
theorem Cp.up {H H':Hp}{A B:Sd}(h:Cp H' A B)(s:Same H H'):Cp H A B:=⟨s.free h.p,s.free h.q,h.m1,h.m2⟩
theorem kg {H:Hp}{a p q:Addr}{kvs:List (g7×V)}{W W':E4}(h:PcW W)(w:WebAt K H a p q kvs W')(hp:H p=some (.dK (C0 W'.pts)))(hq:H q=some (.dK kvs))(ne:p≠q)(p1:W'.pts.Perm W.pts)(p2:W'.ts.Perm W.ts):SdIs K H ⟨a,p,q,kvs,W'⟩:=
 WebIs.perm w hp hq ne p1 p2 h.nd (Nat.le_trans h.len (by omega)) h.ends fun x hx=>Nat.le_trans (C4 (h.pc.kds x hx)) (by omega)
theorem fX {f:Addr}{fd:FuncData}(T:Txt K mg)(X2:A7 P w K mg base (gc P w) 5 "web_read" ["text"] [] (Z7 K))(bK:A7 P w K mg base x6 6 "is_rule" ["thing"] [] (aJ K))(F:Fun K "rule_read" "rule_read" G5 f fd):FnOk P w K mg base (gc P w) 7 f fd ["text"] (X3 K):=by
 refine F.okE sc_rule_read (fun vs H Q E h=>?_) (fun cdv A outer s H vs Q E hr h=>?_)
 ·obtain⟨L,R,bs,tl,tr,tb,rfl,_⟩:=h
  rfl
 ·obtain⟨L,R,bs,tl,tr,tb,rfl,hP,hO,hl,hsr,hb,k⟩:=h
  obtain⟨xl,X⟩:=hl.txt hP.l
  obtain⟨xr,Y⟩:=hsr.txt hP.r
  have hT:=vc hb hP.b
  have hbl:=hP.len
  have hpl:=Paired.length hb
  have fr:∀w∈tr::tb,w.length≤400∧62∉w.cps.toList∧33∉w.cps.toList:=fun w hw=>by
   rcases List.mem_cons.mp hw with rfl|hw
   ·exact⟨Y.len,Y.n62,Y.n33⟩
   ·exact hT w hw
  have sp1:PySem.Txt.split (bW tl tr tb) " > "=[tl,Str.join " ! " (tr::tb)]:=by
   rw[gy,mj]
   refine nY (by decide) (by decide+kernel) (by simp) fun w hw=>?_
   rcases List.mem_cons.mp hw with rfl|hw
   ·exact X.n62
   ·rw[List.mem_singleton.mp hw,pX]
    exact eO (by omega) fun w hw=>(fr w hw).2.1
  have sp2:PySem.Txt.split (Str.join " ! " (tr::tb)) " ! "=tr::tb:=by
   rw[pX]
   exact nY (by decide) (by decide+kernel) (by simp) fun w hw=>(fr w hw).2.2
  have hj:(Str.join " ! " (tr::tb)).length≤2000:=by
   rw[pX]
   have z:=hV (B:=400) (s:=32) (m:=33) (t:=32) (ws:=tr::tb) fun y hy=>(fr y hy).1
   have z2:(tr::tb).length*(400+3)≤4*403:=Nat.mul_le_mul_right _ (by rw[List.length_cons];omega)
   omega
  have hlen:(bW tl tr tb).length≤100000:=by
   rw[gy]
   show(tl++" > "++Str.join " ! " (tr::tb)).length≤100000
   have:=X.len
   rw[d7,d7,mj,show(⟨#[32,62,32]⟩:Str).length=3 from rfl]
   omega
  generalize bW tl tr tb=tx at sp1 hlen⊢
  generalize Str.join " ! " (tr::tb)=tj at sp1 sp2 hj
  have hN:=sc_rule_read.nd
  have hu:=x8 hr
  refine⟨_,QSs.r (z7 (aO (E8 (A8 K (qB (Q4 K P w) T.b_isinstance Boot.«isinstance» (g0 (qV 0) (g0 (kx "str" T.b_str Boot.«str») j0))))) (B8 (Z2 Q2 T.r_NoText rfl (g0 A5 j0))) aL)
   (z7 (p0 (i:=1) hN rfl (by walk_at "l") (qM PySem.F.plainAttrs_str PySem.F.slot_str_split PySem.F.type_str_split R9 K (qV 0) (g0 A5 j0)))
   (z7 (aO (z6 (T7 K hr) (qB (E6 K P w) T.b_len Boot.«len» (g0 (qV 1) j0)) d0 (j8 _)) (B8 (Z2 Q2 T.r_NoText rfl (g0 A5 j0))) aL)
   (z7 (cK (i:=2) hN rfl (by walk_at "l") (own:=["part"]) (js:=[]) (by kernel_rfl) rfl (P9 K (qM PySem.F.plainAttrs_str PySem.F.slot_str_split PySem.F.type_str_split R9 K (u4 (u9 K hu) (qV 1) d0 (fun _ _=>rfl)) (g0 A5 j0))) (fun _ _ _ _=>(P0 (i:=0) (show List.Nodup (["part"]:List Str) by decide+kernel) rfl (by walk_at "l"))) (fun _ _ _ _=>O2) (fun _ _ _ _=>(qC X2 (hr.mono (by decide)) ia (g0 (qV 0) j0))))
   (z7 (p0 (i:=3) hN rfl (by walk_at "l") (cm (g0 (qC X2 (hr.mono (by decide)) ia (g0 (u4 (u9 K hu) (qV 1) d0 (fun _ _=>rfl)) j0)) (g0 (u4 (u9 K hu) (qV 2) d0 (fun _ _=>rfl)) (g0 (mw (lp K) (qV 2) (ir d0) pN) j0)))))
   (z7 (aO (E8 (A8 K (qC bK (hr.mono (by decide)) j1 (g0 (qV 3) j0)))) (B8 (Z2 Q2 T.r_NoText rfl (g0 A5 j0))) aL)
   (B8 (x5 (qV 3))))))))),?_⟩
  walk_at "r"
  refine M3 (M5 (t:="str") rfl (by simp) ?_)
  rw[show Y3 "str" "str"=true from rfl]
  walk_at "r"
  refine⟨rfl,?_⟩
  walk_at "r"
  refine⟨_,_,rfl,rfl,by rw[mj];show 1≤3;omega,hlen,fun p1 n1=>?_⟩
  rw[sp1]
  obtain⟨H1,e1,f1,m1,_⟩:=b7 (o:= .lst _) n1
  rw[e1]
  walk_at "r"
  refine E7 (N5 (SqL.of f1) ?_)
  walk_at "r"
  rw[if_neg (by simp)]
  walk_at "r"
  refine C3 (SqL.of f1) (b6 (j:=1) rfl) ?_
  walk_at "r"
  refine⟨rfl,?_⟩
  walk_at "r"
  refine⟨_,_,rfl,rfl,by rw[pX];show 1≤3;omega,by omega,fun p2 n2=>?_⟩
  rw[sp2]
  obtain⟨H2,e2,f2,m2,_⟩:=b7 (o:= .lst _) n2
  rw[e2]
  have hb2:Paired (fun t b=>ShT b.W t) (tr::tb) (R::bs):= .cons hsr hb
  have hPb:∀b∈R::bs,PcW b.W:=fun b hb=>by
   rcases List.mem_cons.mp hb with rfl|hb
   ·exact hP.r
   ·exact hP.b b hb
  have hl2:=Paired.length hb2
  refine o3 (SqL.of f2) ?_
  refine j4 (n:=(tr::tb).length) (fun i out H'=>Same H2 H'∧∃ss:List Sd,out=(ss.map fun s=>V.ref s.a)∧(∀s∈ss,SdIs K H' s)∧Paired (Cp H2) ss ((R::bs).take i)) ⟨Same.refl _,[],rfl,(fun _ h=>nomatch h),.nil⟩ (fun i out H' hi hp=>⟨_,.str ((tr::tb)[i]),SqL.of (hp.1 _ _ f2),by rw[List.getElem?_map,List.getElem?_eq_getElem hi];rfl⟩) ?_ ?_
  ·rintro N i v out H3' H3 hi ⟨s3,ss,rfl,hss,pb⟩ y hN'
   obtain⟨rfl,hx⟩:=Itl.get y (SqL.of (s3 _ _ f2))
   rw[List.getElem?_map,List.getElem?_eq_getElem hi] at hx
   cases hx
   obtain⟨b,hb',z⟩:=z8 hb2 (List.getElem?_eq_getElem hi)
   have hbp:=hPb b (List.mem_of_getElem? hb')
   obtain⟨xs,Z⟩:=z.txt hbp
   have hsl:=Paired.length pb
   rw[List.length_take] at hsl
   rw[List.length_cons] at hl2
   walk_at "r"
   refine⟨rfl,?_⟩
   walk_at "r"
   refine⟨xs,b.W,by rw[Z.is];rfl,Z.pm,hbp.pc.good,hbp.nd,Nat.le_trans hbp.len (by omega),hbp.ends,?_⟩
   intro ta tp tq tk WT H4 s4 hT4 ftp ftq ntpq ntp ntq pm1 pm2
   refine⟨b8 (by rw[List.length_map];rw[List.length_cons] at hi;omega),hN' _ _ ⟨s3.trans s4,ss++[⟨ta,tp,tq,tk,WT⟩],by rw[List.map_append];rfl,fun s hs=>?_,?_⟩⟩
   ·rcases List.mem_append.mp hs with h|h
    ·exact(hss s h).same s4
    ·rw[List.mem_singleton.mp h]
     exact kg hbp hT4 ftp ftq ntpq pm1 pm2
   ·rw[t7 hb']
    exact r9 pb ⟨s3.free ntp,s3.free ntq,pm1,pm2⟩
  ·rintro out H3 ⟨s3,ss,rfl,hss,pb⟩
   rw[List.take_of_length_le (by rw[hl2];exact Nat.le_refl _)] at pb
   have hsl:=Paired.length pb
   rw[List.length_cons] at hsl
   refine⟨⟨_,SqL.of (s3 _ _ f2),by rw[List.length_map];exact Nat.le_refl _⟩,fun D hD=>⟨b8 (by rw[List.length_map];omega),?_⟩⟩
   obtain⟨H4,e4,f4,m4,_⟩:=b7 (H:=H3) (o:= .lst (ss.map fun s=>V.ref s.a)) hD
   show Z8 _ _ _ (n0 H3 D _) _
   rw[e4]
   have m24:=s3.trans m4
   have f14:=m24 _ _ (m2 _ _ f1)
   walk_at "r"
   refine C3 (SqL.of f14) (b6 (j:=0) rfl) ?_
   walk_at "r"
   refine⟨xl,L.W,by rw[X.is];rfl,X.pm,hP.l.pc.good,hP.l.nd,Nat.le_trans hP.l.len (by omega),hP.l.ends,?_⟩
   intro ta tp tq tk WT H5 s5 hT5 ftp ftq ntpq ntp ntq pm1 pm2
   have SL:=kg (K:=K) hP.l hT5 ftp ftq ntpq pm1 pm2
   obtain⟨RR,bs',rfl⟩:∃RR bs',ss=RR::bs':=by
    cases ss with
    |nil=>simp at hsl
    |cons a r=>exact⟨a,r,rfl⟩
   have cR:Cp H2 RR R:=by cases pb;assumption
   have cB:Paired (Cp H2) bs' bs:=by cases pb;assumption
   have f45:=s5 _ _ f4
   walk_at "r"
   refine C3 (SqL.of f45) (b6 (j:=0) rfl) ?_
   walk_at "r"
   refine U7 (SqL.of f45) (fun p6 n6=>?_)
   rw[show S9 ((RR::bs').map fun s=>V.ref s.a) (some 1) none=bs'.map fun s=>V.ref s.a from wJ _ _]
   obtain⟨H6,e6,f6,m6,_⟩:=b7 (o:= .lst _) n6
   rw[e6]
   walk_at "r"
   refine⟨b8 (by simp),fun p7 n7=>?_⟩
   obtain⟨H7,e7,f7,m7,_⟩:=b7 (o:= .tup _) n7
   rw[e7]
   have m57:=m6.trans m7
   have m47:=s5.trans m57
   have m02:=m1.trans m2
   have RI:RuleIs K H7 p7 p6 ⟨ta,tp,tq,tk,WT⟩ RR bs':=⟨SqT.of f7,SL.same m57,(hss _ List.mem_cons_self).same (m4.trans m47),SqL.of (m7 _ _ f6),fun b hb=>(hss _ (List.mem_cons_of_mem _ hb)).same (m4.trans m47)⟩
   have cL:Cp H ⟨ta,tp,tq,tk,WT⟩ L:=⟨(m02.trans m24).free ntp,(m02.trans m24).free ntq,pm1,pm2⟩
   have cR':=cR.up m02
   have cB':Paired (Cp H) bs' bs:=Paired.imp' (fun _ _ z=>Cp.up z m02) cB
   walk_at "r"
   refine⟨p7,p6,_,_,_,rfl,RI,hO.perm cL cR' cB',fun H8 m8=>?_⟩
   walk_at "r"
   exact k p7 p6 _ _ _ H8 (m02.trans (m24.trans (m47.trans m8))) (RI.same m8) ((m02.trans (m24.trans s5)).free n6) cL cR' cB'
def ft (b:Str)(at_ d:Int)(k:Nat):Str:=Txt.slice b none (some at_)++(⟨#[Q1 ((0+(k:Int)+d) % 26)]⟩:Str)++Txt.slice b (some at_) none
theorem rA (b:Str)(at_ d:Int):ft b at_ d=dg b at_ (d*4):=by
 funext k
 unfold ft dg
 rw[Int.mul_ediv_cancel _ (by decide)]
theorem nk (b:Str)(at_ d:Int)(k:Nat)(h0:0≤at_)(h1:at_≤b.length)(hb:b.length≤7)(ha:A9 b kSL=true):A0 (ft b at_ d k)=true:=by
 have e:(ft b at_ d k).cps.toList=b.cps.toList.take at_.toNat++[Q1 ((0+(k:Int)+d) % 26)]++b.cps.toList.drop at_.toNat:=by
  unfold ft
  rw[A6,A6,pE b at_ h0 h1,fe b at_ h0 h1]
 have hm:=P4 ((0+(k:Int)+d) % 26) (by omega) (by omega)
 have hbl:b.cps.toList.length=b.length:=aK b
 have hl:(ft b at_ d k).length=b.length+1:=by
  have z:=congrArg List.length e
  rw[List.length_append,List.length_append,List.length_take,List.length_drop,List.length_singleton] at z
  have z2:=aK (ft b at_ d k)
  omega
 refine U0 (by omega) (by omega) (List.all_eq_true.mpr fun x hx=>?_)
 rw[e] at hx
 refine decide_eq_true ?_
 rcases List.mem_append.mp hx with hx|hx
 ·rcases List.mem_append.mp hx with hx|hx
  ·exact G6 ha (List.mem_of_mem_take hx)
  ·rw[List.mem_singleton.mp hx];exact hm
 ·exact G6 ha (List.mem_of_mem_drop hx)
def S6 (K:PySem.W.Frag):Sp:=fun vs H Q _=>∃c n:Int,vs=[.int c,.int n]∧0≤n∧n≤26∧uH H Q fun ss=>ss.length=n.toNat∧ss.Nodup∧∀s∈ss,A0 s=true
theorem dP {f:Addr}{fd:FuncData}(T:Txt K mg)(h9:A7 P w K mg base x6 1 "_law_mixed" ["_law_cell","_law_k"] [] (B0 K))(F:Fun K "_law_words" "_law_words" C7 f fd):FnOk P w K mg base x6 2 f fd ["_law_cell","_law_many"] (S6 K):=by
 refine F.ok sc__law_words (fun vs H Q E h=>?_) (fun cdv A outer s H vs Q E hr h=>?_)
 ·obtain⟨c,n,rfl,_⟩:=h
  rfl
 ·obtain⟨c,n,rfl,h0,h1,k⟩:=h
  have hN:=sc__law_words.nd
  have hu:=x8 hr
  refine⟨_,QSs.r (z7 (p0 (i:=2) hN rfl (by walk_at "l") A5)
   (z7 (p0 (i:=3) hN rfl (by walk_at "l") A5)
   (z7 (dn PassesOwn.never rfl (gE T.b_range (g0 (q8 j9 (qV 0) d0) j0)) (P0 (i:=4) hN rfl (by walk_at "l"))
    (B8 (p0 (i:=3) hN rfl (by walk_at "l") (q8 (q9 K) (qV 3) (u4 (u9 K hu) (qV 2) (q8 j9 (qC h9 (hr.mono (by decide)) j1 (g0 (q8 E1 (qV 0) d0) (g0 (qV 4) j0))) d0) (fun _ _=>rfl))))))
   (z7 (p0 (i:=5) hN rfl (by walk_at "l") (q8 j9 (qC h9 (hr.mono (by decide)) j1 (g0 (qV 0) (g0 d0 j0))) (q8 (q9 K) (qB (E6 K P w) T.b_len Boot.«len» (g0 (qV 3) j0)) d0)))
   (B8 (x5 (C2 (own:=["_law_k"]) (js:=[3,2,5,0]) (by kernel_rfl) rfl (gE T.b_range (g0 (qV 1) j0)) (fun _ _ _ _=>(P0 (i:=0) (show List.Nodup (["_law_k","_law_base","_law_letters","_law_at","_law_cell"]:List Str) by decide+kernel) rfl (by walk_at "l"))) (fun _ _ _ _=>O2) (fun _ _ _ _=>(q8 (q9 K) (q8 (q9 K) (mw (lp K) (qV 1) pN (ir (qV 3))) (u4 (u9 K hu) (qV 2) (q8 j9 (q8 (q9 K) (qV 0) (q8 E1 (qV 4) d0)) d0) (fun _ _=>rfl))) (mw (lp K) (qV 1) (ir (qV 3)) pN)))))))))),?_⟩
  walk_at "r"
  refine Q8 (by omega) (by omega) ?_
  refine O7 (n:=(c % 8).toNat) (fun i σ H'=>H'=H∧∃(b:Str) (v:Option V),σ=[some (.int c),some (.int n),some (.str kSL),some (.str b),v,none]∧b.length=i∧A9 b kSL=true) ⟨rfl,_,none,rfl,rfl,rfl⟩ (fun i σ H' hi _=>by exact hi) ?_ ?_
  ·rintro _ i v σ H1 H2 hi ⟨rfl,b,v',rfl,hb,hba⟩ ⟨rfl,rfl⟩
   walk_at "r"
   refine⟨_,_,rfl,by omega,by omega,fun m hm=>?_⟩
   walk_at "r"
   refine K2 L4 (aN (m % 26) (by omega) (by omega)) ?_
   refine i7 (j:=⟨#[Q1 (m % 26)]⟩) (b8 (by rw[d6];omega)) ?_
   walk_at "r"
   exact⟨rfl,_,_,rfl,by rw[d7,d6];omega,by rw[T3,hba,B2 (P4 _ (by omega) (by omega))];rfl⟩
  ·rintro σ H1 ⟨rfl,b,v',rfl,hb,hba⟩
   refine⟨Nat.le_refl _,?_⟩
   walk_at "r"
   refine⟨_,_,rfl,by omega,by omega,fun m hm=>?_⟩
   walk_at "r"
   refine E7 (ak (b8 (by omega)) ?_)
   walk_at "r"
   have q0:=Int.emod_nonneg m (show(b.length:Int)+1≠0 by omega)
   have q1:=Int.emod_lt_of_pos m (show(0:Int)<(b.length:Int)+1 by omega)
   generalize m % ((b.length:Int)+1)=at_ at q0 q1⊢
   refine Q8 h0 (by omega) ?_
   refine j4 (n:=n.toNat) (fun i out H'=>H'=H1∧out=(List.range i).map fun k=>V.str (ft b at_ (c/8) k)) ⟨rfl,rfl⟩ (fun i out H' hi _=>by exact hi) ?_ ?_
   ·rintro N i v out H2 H3 hi ⟨rfl,rfl⟩ ⟨rfl,rfl⟩ hN'
    walk_at "r"
    refine⟨rfl,?_⟩
    walk_at "r"
    refine T5 (b8 (by omega)) ?_
    walk_at "r"
    have hc3:=aN ((0+(i:Int)+c/8) % 26) (by omega) (by omega)
    refine K2 L4 hc3 ?_
    have g1:=Txt.slice_le b Option.none (some at_)
    have g2:=Txt.slice_le b (some at_) Option.none
    refine i7 (j:=⟨#[Q1 ((0+(i:Int)+c/8) % 26)]⟩) (b8 (by rw[d6];omega)) ?_
    walk_at "r"
    refine T5 (b8 (by omega)) ?_
    refine i7 (b8 (by rw[d7,d6];omega)) ?_
    refine⟨b8 (by rw[List.length_map,List.length_range];omega),hN' _ _ ⟨rfl,?_⟩⟩
    rw[List.range_succ,List.map_append];rfl
   ·rintro out H2 ⟨rfl,rfl⟩
    refine⟨Nat.le_refl _,fun D hD=>⟨b8 (by rw[List.length_map,List.length_range];omega),?_⟩⟩
    obtain⟨H5,e5,f5,m5,_⟩:=b7 (o:= .lst _) hD
    refine k D _ ((List.range n.toNat).map (ft b at_ (c/8))) hD ?_ ?_ ⟨by rw[List.length_map,List.length_range],by rw[rA];exact jO _ _ _ _ (by omega),fun s hs=>?_⟩
    ·show Same _ (n0 _ D _)
     rw[e5];exact m5
    ·show n0 _ D _ D=_
     rw[d9,List.map_map];rfl
    ·obtain⟨i,_,rfl⟩:=List.mem_map.mp hs
     exact nk b _ _ i q0 (by omega) (by omega) hba
theorem fc {ws:List Str}(nd:ws.Nodup){i j:Nat}{n:Str}(h1:ws[i]?=some n)(h2:ws[j]?=some n):i=j:=by
 obtain⟨hi,e1⟩:=List.getElem?_eq_some_iff.mp h1
 obtain⟨hj,e2⟩:=List.getElem?_eq_some_iff.mp h2
 have z:=List.pairwise_iff_getElem.mp nd
 rcases Nat.lt_trichotomy i j with h|h|h
 ·exact absurd (e1.trans e2.symm) (z i j hi hj h)
 ·exact h
 ·exact absurd (e2.trans e1.symm) (z j i hj hi h)
def Wi (ws:List Str)(o i:Nat)(n:Str):Prop:=∃j,j<i∧ws[2*j+o]?=some n
theorem Wi.up {ws:List Str}{o i:Nat}{n:Str}(h:Wi ws o i n):Wi ws o (i+1) n:=let ⟨j,a,b⟩:=h;⟨j,Nat.lt_succ_of_lt a,b⟩
theorem Wi.mem {ws:List Str}{o i:Nat}{n:Str}(h:Wi ws o i n):n∈ws:=let ⟨_,_,b⟩:=h;List.mem_of_getElem? b
structure P1 (ws:List Str) (W:E4) (i:Nat) (a:List (Str×Str)):Prop where
 nm:∀x∈a,Wi ws 0 i x.1
 kd:∀x∈a,A0 x.2=true
 len:(W.pts++a).length≤4
 nd:((W.pts++a).map (·.1)++W.ts.map (·.1)).Nodup
structure P2 (ws:List Str) (W:E4) (pts:List (Str×Str)) (i:Nat) (b:List (Str×J0)):Prop where
 nm:∀x∈b,Wi ws 1 i x.1
 kd:∀x∈b,A0 x.2.1=true
 ends:∀x∈b,x.2.2.1∈pts.map (·.1)∧x.2.2.2∈pts.map (·.1)
 len:(W.ts++b).length≤4
 nd:(pts.map (·.1)++(W.ts++b).map (·.1)).Nodup
theorem P1.up {ws:List Str}{W:E4}{i:Nat}{a:List (Str×Str)}(h:P1 ws W i a):P1 ws W (i+1) a:=⟨fun x hx=>(h.nm x hx).up,h.kd,h.len,h.nd⟩
theorem P2.up {ws:List Str}{W:E4}{pts:List (Str×Str)}{i:Nat}{b:List (Str×J0)}(h:P2 ws W pts i b):P2 ws W pts (i+1) b:=⟨fun x hx=>(h.nm x hx).up,h.kd,h.ends,h.len,h.nd⟩
theorem G0 {α:Type}{l:List (Str×α)}{n:Str}(h:n∈l.map (·.1)):∃y,(n,y)∈l:=by
 obtain⟨⟨n',y⟩,h1,h2⟩:=List.mem_map.mp h
 cases h2
 exact⟨y,h1⟩
theorem P1.fresh {ws:List Str}{W:E4}{i:Nat}{a:List (Str×Str)}{n:Str}(h:P1 ws W i a)(nd:ws.Nodup)(nw:∀n∈i6 W,n∉ws)(hn:ws[2*i+0]?=some n):n∉(W.pts++a).map (·.1)++W.ts.map (·.1):=fun m=>by
 have hw:=List.mem_of_getElem? hn
 rcases List.mem_append.mp m with m|m
 ·rw[List.map_append] at m
  rcases List.mem_append.mp m with m|m
  ·exact nw n (List.mem_append_left _ m) hw
  ·obtain⟨y,hy⟩:=G0 m
   obtain⟨j,hj,e⟩:=h.nm _ hy
   have:=fc nd hn e
   omega
 ·exact nw n (List.mem_append_right _ m) hw
theorem P1.add {ws:List Str}{W:E4}{i:Nat}{a:List (Str×Str)}{n kd:Str}(h:P1 ws W i a)(nd:ws.Nodup)(nw:∀n∈i6 W,n∉ws)(hn:ws[2*i+0]?=some n)(hk:A0 kd=true)(hl:(W.pts++a).length<4):P1 ws W (i+1) (a++[(n,kd)]):=by
 refine⟨fun x hx=>?_,fun x hx=>?_,?_,?_⟩
 ·rcases List.mem_append.mp hx with z|z
  ·exact(h.nm x z).up
  ·rw[List.mem_singleton.mp z];exact⟨i,Nat.lt_succ_self _,hn⟩
 ·rcases List.mem_append.mp hx with z|z
  ·exact h.kd x z
  ·rw[List.mem_singleton.mp z];exact hk
 ·rw[←List.append_assoc,List.length_append,List.length_singleton];omega
 ·rw[←List.append_assoc]
  exact um h.nd (h.fresh nd nw hn)
theorem P1.fresh2 {ws:List Str}{W:E4}{j i:Nat}{a:List (Str×Str)}{b:List (Str×J0)}{n:Str}(h1:P1 ws W j a)(h:P2 ws W (W.pts++a) i b)(nd:ws.Nodup)(nw:∀n∈i6 W,n∉ws)(hn:ws[2*i+1]?=some n):n∉(W.pts++a).map (·.1)++(W.ts++b).map (·.1):=fun m=>by
 have hw:=List.mem_of_getElem? hn
 rcases List.mem_append.mp m with m|m
 ·rw[List.map_append] at m
  rcases List.mem_append.mp m with m|m
  ·exact nw n (List.mem_append_left _ m) hw
  ·obtain⟨y,hy⟩:=G0 m
   obtain⟨j,hj,e⟩:=h1.nm _ hy
   have:=fc nd hn e
   omega
 ·rw[List.map_append] at m
  rcases List.mem_append.mp m with m|m
  ·exact nw n (List.mem_append_right _ m) hw
  ·obtain⟨y,hy⟩:=G0 m
   obtain⟨j,hj,e⟩:=h.nm _ hy
   have:=fc nd hn e
   omega
theorem P2.add {ws:List Str}{W:E4}{j i:Nat}{a:List (Str×Str)}{b:List (Str×J0)}{n kd o1 o2:Str}(h:P2 ws W (W.pts++a) i b)(h1:P1 ws W j a)(nd:ws.Nodup)(nw:∀n∈i6 W,n∉ws)(hn:ws[2*i+1]?=some n)(hk:A0 kd=true)(q1:o1∈(W.pts++a).map (·.1))(q2:o2∈(W.pts++a).map (·.1))(hl:(W.ts++b).length<4):P2 ws W (W.pts++a) (i+1) (b++[(n,(kd,o1,o2))]):=by
 refine⟨fun x hx=>?_,fun x hx=>?_,fun x hx=>?_,?_,?_⟩
 ·rcases List.mem_append.mp hx with z|z
  ·exact(h.nm x z).up
  ·rw[List.mem_singleton.mp z];exact⟨i,Nat.lt_succ_self _,hn⟩
 ·rcases List.mem_append.mp hx with z|z
  ·exact h.kd x z
  ·rw[List.mem_singleton.mp z];exact hk
 ·rcases List.mem_append.mp hx with z|z
  ·exact h.ends x z
  ·rw[List.mem_singleton.mp z];exact⟨q1,q2⟩
 ·rw[←List.append_assoc,List.length_append,List.length_singleton];omega
 ·rw[←List.append_assoc]
  exact uQ h.nd (h1.fresh2 h nd nw hn)
structure Ext (ws:List Str) (W W':E4):Prop where
 pc:PcW W'
 ps:∃a,W'.pts=W.pts++a∧∀x∈a,x.1∈ws
 ts:∃b,W'.ts=W.ts++b∧∀x∈b,x.1∈ws
theorem uf {ws:List Str}{W:E4}{i j:Nat}{a:List (Str×Str)}{b:List (Str×J0)}(h0:PcW W)(h1:P1 ws W i a)(h2:P2 ws W (W.pts++a) j b)(hk:∀s∈ws,A0 s=true):Ext ws W ⟨W.pts++a,W.ts++b⟩:=by
 refine⟨⟨bf (fun n hn=>?_) (fun x hx=>?_) (fun x hx=>?_) h1.len h2.len,h2.nd,fun x hx=>?_⟩,⟨a,rfl,fun x hx=>(h1.nm x hx).mem⟩,⟨b,rfl,fun x hx=>(h2.nm x hx).mem⟩⟩
 ·rcases List.mem_append.mp (show n∈(W.pts++a).map (·.1)++(W.ts++b).map (·.1) from hn) with m|m
  ·rw[List.map_append] at m
   rcases List.mem_append.mp m with m|m
   ·exact h0.pc.kds n (List.mem_append_left _ m)
   ·obtain⟨y,hy⟩:=G0 m
    exact hk n (h1.nm _ hy).mem
  ·rw[List.map_append] at m
   rcases List.mem_append.mp m with m|m
   ·exact h0.pc.kds n (List.mem_append_right _ m)
   ·obtain⟨y,hy⟩:=G0 m
    exact hk n (h2.nm _ hy).mem
 ·rcases List.mem_append.mp (show x∈W.pts++a from hx) with m|m
  ·exact h0.pc.good.kd x m
  ·exact h1.kd x m
 ·rcases List.mem_append.mp (show x∈W.ts++b from hx) with m|m
  ·exact h0.pc.good.tk x m
  ·exact h2.kd x m
 ·rcases List.mem_append.mp (show x∈W.ts++b from hx) with m|m
  ·have z:=h0.ends x m
   show x.2.2.1∈(W.pts++a).map (·.1)∧x.2.2.2∈(W.pts++a).map (·.1)
   rw[List.map_append]
   exact⟨List.mem_append_left _ z.1,List.mem_append_left _ z.2⟩
  ·exact h2.ends x m
theorem rP {ws:List Str}(h:4≤ws.length)(i:Nat)(hi:i<4):∃w,ws[i]?=some w∧∀j:Int,j=(i:Int)→fv (ws.map V.str) j=some (.str w):=
 ⟨ws[i],List.getElem?_eq_getElem (by omega),fun j hj=>by rw[hj];exact b6 (j:=i) (by rw[List.getElem?_map,List.getElem?_eq_getElem (by omega)];rfl)⟩
def S1 (K:PySem.W.Frag):Sp:=fun vs H Q _=>∃(dp dq lw lk:Addr) (kvs:List (g7×V)) (W:E4) (ws ks:List Str) (c:Int),vs=[.ref dp,.ref dq,.ref lw,.ref lk,.int c]∧H dp=some (.dK (C0 W.pts))∧H dq=some (.dK kvs)∧TiesIs K H kvs W.ts∧PcW W∧(∀n∈i6 W,n∉ws)∧SqL K H lw (ws.map V.str)∧4≤ws.length∧ws.Nodup∧(∀s∈ws,A0 s=true)∧SqL K H lk (ks.map V.str)∧ks.length=3∧(∀s∈ks,A0 s=true)∧∀(s:Sd) (H':Hp),Same H H'→SdIs K H' s→Ext ws W s.W→Q (.ref s.a) H'
theorem dQ {f:Addr}{fd:FuncData}(T:Txt K mg)(h9:A7 P w K mg base x6 1 "_law_mixed" ["_law_cell","_law_k"] [] (B0 K))(F:Fun K "_law_piece" "_law_piece" E2 f fd):FnOk P w K mg base x6 2 f fd ["_law_points","_law_ties","_law_words_here","_law_kinds_here","_law_cell"] (S1 K):=by
 refine F.ok sc__law_piece (fun vs H Q E h=>?_) (fun cdv A outer s H vs Q E hr h=>?_)
 ·obtain⟨dp,dq,lw,lk,kvs,W,ws,ks,c,rfl,_⟩:=h
  rfl
 ·obtain⟨dp,dq,lw,lk,kvs,W,ws,ks,c,rfl,hdp,hdq,hti,hPc,hnew,hW,hwl,hwn,hwk,hK,hkl,hkk,k⟩:=h
  have hl1:=hPc.pc.l1
  have hl2:=hPc.pc.l2
  have hN:=sc__law_piece.nd
  have hu:=x8 hr
  refine⟨_,QSs.r (z7 (p0 (i:=0) hN rfl (by walk_at "l") (nC (bV K rfl) T.b_dict Boot.«dict» (g0 (qV 0) j0)))
   (z7 (p0 (i:=1) hN rfl (by walk_at "l") (nC (bV K rfl) T.b_dict Boot.«dict» (g0 (qV 1) j0)))
   (z7 (dn PassesOwn.never rfl (gE T.b_range (g0 (q8 j9 (qV 4) d0) j0)) (P0 (i:=5) hN rfl (by walk_at "l"))
    (B8 (aO (z6 iO (qB (E6 K P w) T.b_len Boot.«len» (g0 (qV 0) j0)) d0 (j8 _)) (B8 (lO (u4 (u9 K hu) (qV 3) (q8 j9 (qC h9 (hr.mono (by decide)) j1 (g0 (qV 4) (g0 (qV 5) j0))) d0) (fun _ _=>rfl)) (vN (qV 0) (u4 (u9 K hu) (qV 2) (q8 G1 d0 (qV 5)) (fun _ _=>rfl)) (T8 P w hu)))) aL)))
   (z7 (p0 (i:=6) hN rfl (by walk_at "l") (nC (jy K rfl) T.b_list Boot.«list» (g0 (qV 0) j0)))
   (z7 (dn PassesOwn.never rfl (gE T.b_range (g0 (q8 j9 (q8 E1 (qV 4) d0) d0) j0)) (P0 (i:=5) hN rfl (by walk_at "l"))
    (B8 (aO (iW (oX (z6 (T7 K hr) (qV 6) (cv j0) (j8 _)) (mX (z6 iO (qB (E6 K P w) T.b_len Boot.«len» (g0 (qV 1) j0)) d0 (j8 _))))) (z7 (p0 (i:=7) hN rfl (by walk_at "l") (u4 (u9 K hu) (qV 6) (q8 j9 (qC h9 (hr.mono (by decide)) j1 (g0 (qV 4) (g0 (q8 (q9 K) d0 (qV 5)) j0))) (qB (E6 K P w) T.b_len Boot.«len» (g0 (qV 6) j0))) (fun _ _=>rfl)))
   (z7 (p0 (i:=8) hN rfl (by walk_at "l") (u4 (u9 K hu) (qV 6) (q8 j9 (qC h9 (hr.mono (by decide)) j1 (g0 (qV 4) (g0 (q8 (q9 K) d0 (qV 5)) j0))) (qB (E6 K P w) T.b_len Boot.«len» (g0 (qV 6) j0))) (fun _ _=>rfl)))
   (B8 (lO (cm (g0 (u4 (u9 K hu) (qV 3) (q8 j9 (qC h9 (hr.mono (by decide)) j1 (g0 (qV 4) (g0 (q8 (q9 K) d0 (qV 5)) j0))) d0) (fun _ _=>rfl)) (g0 (qV 7) (g0 (qV 8) j0)))) (vN (qV 1) (u4 (u9 K hu) (qV 2) (q8 (q9 K) (q8 G1 d0 (qV 5)) d0) (fun _ _=>rfl)) (T8 P w hu)))))) aL)))
   (B8 (x5 (cm (g0 (qV 0) (g0 (qV 1) j0)))))))))),?_⟩
  refine j5 fun nx1 hx=>?_
  walk_at "e"
  refine O1 (.inl hdp) (fun p np=>?_)
  obtain⟨H1,e1,f1,m1,_⟩:=b7 (o:= .dK _) np
  rw[e1]
  walk_at "e"
  refine hx [some (.ref p),some (.ref dq),some (.ref lw),some (.ref lk),some (.int c),none,none,none,none] _ ?_
  clear hx
  refine j5 fun nx2 hx=>?_
  walk_at "e"
  refine O1 (.inl (m1 _ _ hdq)) (fun q nq=>?_)
  obtain⟨H2,e2,f2,m2,_⟩:=b7 (o:= .dK _) nq
  rw[e2]
  have hpq:p≠q:=d8 f1 nq
  have nq0:H q=none:=m1.free nq
  have m12:=m1.trans m2
  walk_at "e"
  refine hx [some (.ref p),some (.ref q),some (.ref lw),some (.ref lk),some (.int c),none,none,none,none] _ ?_
  clear hx
  refine j5 fun nx3 hx=>?_
  walk_at "e"
  refine Q8 (by omega) (by omega) ?_
  have nd0:((W.pts++([]:List (Str×Str))).map (·.1)++W.ts.map (·.1)).Nodup:=by rw[List.append_nil];exact hPc.nd
  refine O7 (n:=(c % 3).toNat) (fun i σ H'=>∃(a:List (Str×Str)) (v:Option V),σ=[some (.ref p),some (.ref q),some (.ref lw),some (.ref lk),some (.int c),v,none,none,none]∧Same H H'∧H' p=some (.dK (C0 (W.pts++a)))∧H' q=some (.dK kvs)∧P1 ws W i a) ⟨[],none,rfl,m12,by rw[List.append_nil];exact m2 _ _ f1,f2,(fun _ h=>nomatch h),(fun _ h=>nomatch h),by rw[List.append_nil];exact hl1,nd0⟩ (fun i σ H' hi _=>by exact hi) ?_ ?_
  ·rintro _ i v σ H3' H3 hi ⟨a,v',rfl,s3,g3,t3,h3⟩ ⟨rfl,rfl⟩
   obtain⟨n,hn,hna⟩:=rP hwl (2*i+0) (by omega)
   have hal:=h3.len
   walk_at "e"
   refine E7 (G9 (.inl g3) ?_)
   rw[A1]
   walk_at "e"
   refine bj (fun c1=>?_) (fun c1=>?_)
   ·walk_at "e"
    refine⟨_,_,rfl,by omega,by omega,fun m hm=>?_⟩
    walk_at "e"
    obtain⟨kd,hkd,hkm⟩:=bw (ss:=ks) (i:=m % 3) (by omega) (by omega)
    refine C3 (s3.seq hK) hkd ?_
    walk_at "e"
    refine C3 (s3.seq hW) (hna _ (by omega)) ?_
    walk_at "e"
    refine gq (V1 (k:=Sum.inr n) g3 (b8 (by rw[A1];omega)) ?_)
    have fr:=h3.fresh hwn hnew hn
    rw[jn (n:=n) (PL:=W.pts++a) fun z=>fr (List.mem_append_left _ z)]
    walk_at "e"
    refine⟨a++[(n,kd)],_,rfl,bY s3 np,by rw[d9,List.append_assoc],by rw[b9 hpq.symm];exact t3,h3.add hwn hnew hn (hkk _ hkm) (by omega)⟩
   ·walk_at "e"
    exact⟨a,_,rfl,s3,g3,t3,h3.up⟩
  ·rintro σ H3 ⟨a,v',rfl,s3,g3,t3,h3⟩
   refine⟨by exact Nat.le_refl _,?_⟩
   walk_at "e"
   refine hx [some (.ref p),some (.ref q),some (.ref lw),some (.ref lk),some (.int c),v',none,none,none] _ ?_
   clear hx
   refine j5 fun nx4 hx=>?_
   have hal:=h3.len
   generalize hpts:W.pts++a=pts at g3 hal
   walk_at "e"
   refine iK (aI (.inl g3) (fun l4 n4=>?_))
   obtain⟨H4,e4,f4,m4,_⟩:=b7 (o:= .lst _) n4
   rw[e4]
   have f4':H4 l4=some (.lst ((pts.map (·.1)).map V.str)):=by rw[f4];unfold C0;rw[List.map_map,List.map_map];rfl
   have s4:=s3.trans m4
   have g4:=m4 _ _ g3
   have t4:=m4 _ _ t3
   walk_at "e"
   refine hx [some (.ref p),some (.ref q),some (.ref lw),some (.ref lk),some (.int c),v',some (.ref l4),none,none] _ ?_
   clear hx
   refine j5 fun nx5 hx=>?_
   walk_at "e"
   refine Q8 (by omega) (by omega) ?_
   refine O7 (n:=(c/3 % 3).toNat) (fun i σ H'=>∃(b:List (Str×J0)) (ks1:List (g7×V)) (v1 v2 v3:Option V),σ=[some (.ref p),some (.ref q),some (.ref lw),some (.ref lk),some (.int c),v1,some (.ref l4),v2,v3]∧Same H H'∧H' p=some (.dK (C0 pts))∧H' q=some (.dK ks1)∧H' l4=some (.lst ((pts.map (·.1)).map V.str))∧TiesIs K H' ks1 (W.ts++b)∧P2 ws W pts i b) ⟨[],kvs,_,_,_,rfl,s4,g4,t4,f4',by rw[List.append_nil];exact hti.mono s4.le,(fun _ h=>nomatch h),(fun _ h=>nomatch h),(fun _ h=>nomatch h),by rw[List.append_nil];exact hl2,by rw[List.append_nil,←hpts];exact h3.nd⟩ (fun i σ H' hi _=>by exact hi) ?_ ?_
   ·rintro _ i v σ H5' H5 hi ⟨b,ks1,v1,v2,v3,rfl,s5,g5,t5,f5,w5,h5⟩ ⟨rfl,rfl⟩
    obtain⟨n,hn,hna⟩:=rP hwl (2*i+1) (by omega)
    have hbl:=h5.len
    have hkl1:=w5.length
    walk_at "e"
    refine⟨b8 (by simp),fun l6 n6=>?_⟩
    obtain⟨H6,e6,f6,m6,_⟩:=b7 (o:= .lst []) n6
    rw[e6]
    have s6:=s5.trans m6
    have g6:=m6 _ _ g5
    have t6:=m6 _ _ t5
    have f6':=m6 _ _ f5
    have w6:=w5.mono m6.le
    refine sY (ij (SqL.of f6') (SqL.of f6) (dN _) rfl ?_)
    have hem:Q0 ((pts.map (·.1)).map V.str) []=decide (pts=[]):=by cases pts<;>rfl
    rw[hem]
    walk_at "e"
    refine ox (fun c2=>?_) (fun c2=>?_)
    ·have hpos:0<pts.length:=by
      cases pts with
      |nil=>exact absurd rfl c2
      |cons _ _=>simp
     walk_at "e"
     refine E7 (G9 (.inl t6) ?_)
     rw[hkl1]
     walk_at "e"
     refine bj (fun c3=>?_) (fun c3=>?_)
     ·walk_at "r"
      refine⟨_,_,rfl,by omega,by omega,fun m hm=>?_⟩
      walk_at "r"
      refine E7 (N5 (SqL.of f6') ?_)
      rw[List.length_map,List.length_map]
      walk_at "r"
      obtain⟨o1,ho1,hm1⟩:=bw (ss:=pts.map (·.1)) (i:=m % (pts.length:Int)) (Int.emod_nonneg _ (by omega)) (by rw[List.length_map];exact Int.emod_lt_of_pos _ (by omega))
      refine C3 (SqL.of f6') ho1 ?_
      walk_at "r"
      refine⟨_,_,rfl,by omega,by omega,fun m' hm'=>?_⟩
      walk_at "r"
      refine E7 (N5 (SqL.of f6') ?_)
      rw[List.length_map,List.length_map]
      walk_at "r"
      obtain⟨o2,ho2,hm2⟩:=bw (ss:=pts.map (·.1)) (i:=m' % (pts.length:Int)) (Int.emod_nonneg _ (by omega)) (by rw[List.length_map];exact Int.emod_lt_of_pos _ (by omega))
      refine C3 (SqL.of f6') ho2 ?_
      walk_at "r"
      refine⟨_,_,rfl,by omega,by omega,fun m3 hm3=>?_⟩
      walk_at "r"
      obtain⟨kd,hkd,hkm⟩:=bw (ss:=ks) (i:=m3 % 3) (by omega) (by omega)
      refine C3 (s6.seq hK) hkd ?_
      walk_at "r"
      refine⟨b8 (by simp),fun l9 n9=>?_⟩
      obtain⟨H9,e9,f9,m9,_⟩:=b7 (o:= .tup _) n9
      rw[e9]
      have s9:=s6.trans m9
      have g9:=m9 _ _ g6
      have t9:=m9 _ _ t6
      have f9':=m9 _ _ f6'
      have w9:=w6.mono m9.le
      walk_at "r"
      refine C3 (s9.seq hW) (hna _ (by omega)) ?_
      walk_at "r"
      refine gq (V1 (k:=Sum.inr n) t9 (b8 (by omega)) ?_)
      have h5':P2 ws W (W.pts++a) i b:=by rw[hpts];exact h5
      have fr:=h3.fresh2 h5' hwn hnew hn
      have hm1':o1∈(W.pts++a).map (·.1):=by rw[hpts];exact hm1
      have hm2':o2∈(W.pts++a).map (·.1):=by rw[hpts];exact hm2
      have hadd:=h5'.add h3 hwn hnew hn (hkk _ hkm) hm1' hm2' (by omega)
      rw[hpts] at hadd
      have wt:TiesIs K H9 (P8 ks1 (Sum.inr n:g7) (.ref l9)) (W.ts++(b++[(n,(kd,o1,o2))])):=by
       rw[←List.append_assoc]
       exact oh w9 (fun z=>fr (List.mem_append_right _ z)) (SqT.of f9)
      have nl4:l4≠q:=fun z=>by rw[z,t9] at f9';cases f9'
      walk_at "r"
      exact⟨b++[(n,(kd,o1,o2))],_,_,_,_,rfl,bY s9 nq0,by rw[b9 hpq];exact g9,d9,by rw[b9 nl4];exact f9',gW t9 wt,hadd⟩
     ·walk_at "r"
      exact⟨b,ks1,_,_,_,rfl,s6,g6,t6,f6',w6,h5.up⟩
    ·walk_at "r"
     exact⟨b,ks1,_,_,_,rfl,s6,g6,t6,f6',w6,h5.up⟩
   ·rintro σ H5 ⟨b,ks1,v1,v2,v3,rfl,s5,g5,t5,f5,w5,h5⟩
    refine⟨by exact Nat.le_refl _,?_⟩
    walk_at "e"
    refine hx [some (.ref p),some (.ref q),some (.ref lw),some (.ref lk),some (.int c),v1,some (.ref l4),v2,v3] _ ?_
    clear hx
    walk_at "e"
    refine⟨b8 (by simp),fun l9 n9=>?_⟩
    obtain⟨H9,e9,f9,m9,_⟩:=b7 (o:= .tup _) n9
    rw[e9]
    rw[←hpts] at h5 g5
    have hE:=uf hPc h3 h5 hwk
    refine k ⟨l9,p,q,ks1,⟨W.pts++a,W.ts++b⟩⟩ H9 (s5.trans m9) ⟨⟨SqT.of f9,.inl (m9 _ _ g5),.inl (m9 _ _ t5),w5.mono m9.le⟩,m9 _ _ g5,m9 _ _ t5,hpq,hE.pc.nd,Nat.le_trans hE.pc.len (by omega),hE.pc.ends,fun x hx=>Nat.le_trans (C4 (hE.pc.pc.kds x hx)) (by omega)⟩ hE
theorem rZ {ws:List Str}(hl:ws.length=24)(a b:Nat)(h1:a+4≤b)(h2:a+4≤24):∃m,4≤m∧∀x y:Int,x=(a:Int)→y=(b:Int)→S9 (ws.map V.str) (some x) (some y)=((ws.drop a).take m).map V.str:=by
 refine⟨min b 24 -min a 24,by omega,fun x y hx hy=>?_⟩
 rw[hx,hy]
 unfold S9
 rw[HT.sIx_nat,HT.sIx_nat,←List.map_drop,←List.map_take,List.length_map,hl,show min a 24=a by omega]
theorem wa {ws:List Str}(hl:ws.length=24):S9 (ws.map V.str) none (some 6)=(ws.take 6).map V.str:=by
 have e:(some (6:Int))=some ((6:Nat):Int):=rfl
 rw[e]
 unfold S9
 rw[HT.sIx_nat,HT.sIx_none,←List.map_drop,←List.map_take,List.length_map,hl]
 rfl
theorem qX {ws:List Str}(nd:ws.Nodup){n:Str}{a m:Nat}(ha:6≤a)(h1:n∈ws.take 6):n∉(ws.drop a).take m:=fun h2=>by
 obtain⟨i,hi⟩:=List.getElem?_of_mem h1
 obtain⟨j,hj⟩:=List.getElem?_of_mem h2
 have hi6:i<6:=by
  have:=(List.getElem?_eq_some_iff.mp hi).1
  rw[List.length_take] at this
  omega
 have hjm:j<m:=by
  have:=(List.getElem?_eq_some_iff.mp hj).1
  rw[List.length_take] at this
  omega
 rw[List.getElem?_take_of_lt hi6] at hi
 rw[List.getElem?_take_of_lt hjm,List.getElem?_drop] at hj
 have:=fc nd hi hj
 omega
theorem jM {ws:List Str}(hl:ws.length=24){a m:Nat}(h:4≤m)(ha:a+4≤24):4≤((ws.drop a).take m).length:=by
 rw[List.length_take,List.length_drop];omega
theorem pf {ws:List Str}(nd:ws.Nodup){a m:Nat}:((ws.drop a).take m).Nodup:=nd.sublist ((List.take_sublist _ _).trans (List.drop_sublist _ _))
theorem jU {ws:List Str}{a m:Nat}{n:Str}(h:n∈(ws.drop a).take m):n∈ws:=List.mem_of_mem_drop (List.mem_of_mem_take h)
theorem vh:PcW ⟨[],[]⟩:=⟨bf (fun _ h=>nomatch h) (fun _ h=>nomatch h) (fun _ h=>nomatch h) (Nat.zero_le _) (Nat.zero_le _),List.nodup_nil,fun _ h=>nomatch h⟩
theorem sv {W:E4}{pts:List (Str×Str)}{ts:List (Str×J0)}(h:PcW W)(h1:pts.Sublist W.pts)(h2:ts.Sublist W.ts)(he:∀x∈ts,x.2.2.1∈pts.map (·.1)∧x.2.2.2∈pts.map (·.1)):PcW ⟨pts,ts⟩:=by
 have hs:(i6 ⟨pts,ts⟩).Sublist (i6 W):=(h1.map _).append (h2.map _)
 exact⟨bf (fun n hn=>h.pc.kds n (hs.subset hn)) (fun x hx=>h.pc.good.kd x (h1.subset hx)) (fun x hx=>h.pc.good.tk x (h2.subset hx)) (Nat.le_trans h1.length_le h.pc.l1) (Nat.le_trans h2.length_le h.pc.l2),h.nd.sublist hs,he⟩
theorem Ext.names {ws:List Str}{W:E4}(h:Ext ws ⟨[],[]⟩ W):∀n∈i6 W,n∈ws:=fun n hn=>by
 obtain⟨a,ea,ha⟩:=h.ps
 obtain⟨b,eb,hb⟩:=h.ts
 rw[List.nil_append] at ea eb
 rcases List.mem_append.mp hn with m|m
 ·obtain⟨y,hy⟩:=G0 m
  rw[ea] at hy
  exact ha _ hy
 ·obtain⟨y,hy⟩:=G0 m
  rw[eb] at hy
  exact hb _ hy
theorem ng {vs:List Str}{L R:E4}{pts:List (Str×Str)}{ts:List (Str×J0)}(hL:PcW L)(h1:pts.Sublist L.pts)(h2:ts.Sublist L.ts)(hE:Ext vs ⟨pts,ts⟩ R)(hv:∀n∈i6 L,n∉vs){n:Str}(hn:n∈i6 L)(hr:n∈i6 R):ko n L R:=by
 obtain⟨a,ea,ha⟩:=hE.ps
 obtain⟨b,eb,hb⟩:=hE.ts
 have ndp:=O5 hL.nd
 have ndt:=aF hL.nd
 have dis:=(List.nodup_append.mp (show(L.pts.map (·.1)++L.ts.map (·.1)).Nodup from hL.nd)).2.2
 have hin:n∈pts.map (·.1)∨n∈ts.map (·.1):=by
  rcases List.mem_append.mp hr with m|m
  ·rw[ea,List.map_append] at m
   rcases List.mem_append.mp m with m|m
   ·exact .inl m
   ·obtain⟨y,hy⟩:=G0 m
    exact absurd (ha _ hy) (hv n hn)
  ·rw[eb,List.map_append] at m
   rcases List.mem_append.mp m with m|m
   ·exact .inr m
   ·obtain⟨y,hy⟩:=G0 m
    exact absurd (hb _ hy) (hv n hn)
 refine⟨fun k=>⟨fun z=>?_,fun z=>?_⟩,fun t=>⟨fun z=>?_,fun z=>?_⟩⟩
 ·rw[ea]
  refine List.mem_append_left _ ?_
  rcases hin with m|m
  ·obtain⟨y,hy⟩:=G0 m
   rw[C5 ndp z (h1.subset hy)];exact hy
  ·exact absurd rfl (dis n (List.mem_map.mpr ⟨_,z,rfl⟩) n ((h2.map _).subset m))
 ·rw[ea] at z
  rcases List.mem_append.mp z with z|z
  ·exact h1.subset z
  ·exact absurd (ha _ z) (hv n hn)
 ·rw[eb]
  refine List.mem_append_left _ ?_
  rcases hin with m|m
  ·exact absurd rfl (dis n ((h1.map _).subset m) n (List.mem_map.mpr ⟨_,z,rfl⟩))
  ·obtain⟨y,hy⟩:=G0 m
   rw[C5 ndt z (h2.subset hy)];exact hy
 ·rw[eb] at z
  rcases List.mem_append.mp z with z|z
  ·exact h2.subset z
  ·exact absurd (hb _ z) (hv n hn)
theorem gQ {α:Type}{l r:List α}{i:Nat}{x:α}(h:l.Sublist (r.take i))(hx:r[i]?=some x):(l++[x]).Sublist (r.take (i+1)):=by
 rw[List.take_succ,hx]
 exact h.append (List.Sublist.refl _)
theorem gY {α:Type}{l r:List α}{i:Nat}(h:l.Sublist (r.take i)):l.Sublist (r.take (i+1)):=h.trans (List.take_sublist_take_left (Nat.le_succ i))
theorem kD {α:Type}{l r:List (Str×α)}{i:Nat}{x:Str×α}(nd:(r.map (·.1)).Nodup)(h:l.Sublist (r.take i))(hx:r[i]?=some x):x.1∉l.map (·.1):=fun m=>by
 have m2:=(h.map (·.1)).subset m
 have z:((r.take (i+1)).map (·.1)).Nodup:=nd.sublist ((List.take_sublist _ _).map _)
 rw[List.take_succ,hx,List.map_append] at z
 exact(List.nodup_append.mp z).2.2 x.1 m2 x.1 (by simp) rfl
theorem ke {pts:List (Str×Str)}{n:Str}(h:(r6 (C0 pts) (Sum.inr n:g7)).isSome=true):n∈pts.map (·.1):=by rw[X4] at h;exact of_decide_eq_true h
def X5 (K:PySem.W.Frag):Sp:=fun vs H Q _=>∃(c:Int) (lk:Addr) (ks:List Str),vs=[.int c,.ref lk,.int 3]∧SqL K H lk (ks.map V.str)∧ks.length=3∧(∀s∈ks,A0 s=true)∧∀(r bl:Addr) (L R:Sd) (bs:List Sd) (H':Hp),Same H H'→RuleIs K H' r bl L R bs→H' bl=some (.lst (bs.map fun s=>V.ref s.a))→oo L R bs→RuleOk L.W R.W bs→Q (.ref r) H'
theorem fY {f:Addr}{fd:FuncData}(T:Txt K mg)(X8:A7 P w K mg base x6 2 "_law_words" ["_law_cell","_law_many"] [] (S6 K))(J3:A7 P w K mg base x6 2 "_law_piece" ["_law_points","_law_ties","_law_words_here","_law_kinds_here","_law_cell"] [] (S1 K))(h9:A7 P w K mg base x6 1 "_law_mixed" ["_law_cell","_law_k"] [] (B0 K))(F:Fun K "_law_rule" "_law_rule" I0 f fd):FnOk P w K mg base x6 3 f fd ["_law_cell","_law_kinds_here","_law_most"] (X5 K):=by
 refine F.ok sc__law_rule (fun vs H Q E h=>?_) (fun cdv A outer s H vs Q E hr h=>?_)
 ·obtain⟨c,lk,ks,rfl,_⟩:=h
  rfl
 ·obtain⟨c,lk,ks,rfl,hK,hkl,hkk,k⟩:=h
  have hN:=sc__law_rule.nd
  have hu:=x8 hr
  refine⟨_,QSs.r (z7 (p0 (i:=3) hN rfl (by walk_at "l") (qC X8 (hr.mono (by decide)) j1 (g0 (qV 0) (g0 d0 j0))))
   (z7 (p0 (i:=4) hN rfl (by walk_at "l") (qC J3 (hr.mono (by decide)) j1 (g0 wz (g0 wz (g0 (mw (lp K) (qV 3) pN (ir d0)) (g0 (qV 1) (g0 (q8 j9 (q8 E1 (qV 0) d0) d0) j0)))))))
   (z7 (p0 (i:=5) hN rfl (by walk_at "l") wz)
   (z7 (p0 (i:=6) hN rfl (by walk_at "l") wz)
   (z7 (dn PassesOwn.never rfl (gw K T.b_enumerate (g0 (u4 (u9 K hu) (qV 4) d0 (fun _ _=>rfl)) j0)) (se K rfl (gs (P0 (i:=7) hN rfl (by walk_at "l")) (gs (P0 (i:=8) hN rfl (by walk_at "l")) rO)))
    (B8 (aO (z6 cZ (q8 j9 (qC h9 (hr.mono (by decide)) j1 (g0 (qV 0) (g0 (q8 (q9 K) d0 (qV 7)) j0))) d0) d0 (j8 _)) (B8 (lO (u4 (u9 K hu) (u4 (u9 K hu) (qV 4) d0 (fun _ _=>rfl)) (qV 8) (fun _ _=>rfl)) (vN (qV 5) (qV 8) (T8 P w hu)))) aL)))
   (z7 (dn PassesOwn.never rfl (gw K T.b_enumerate (g0 (u4 (u9 K hu) (qV 4) d0 (fun _ _=>rfl)) j0)) (se K rfl (gs (P0 (i:=7) hN rfl (by walk_at "l")) (gs (P0 (i:=8) hN rfl (by walk_at "l")) rO)))
    (B8 (aO (iW (oX (z6 (kIn K hu) (u4 (u9 K hu) (u4 (u9 K hu) (u4 (u9 K hu) (qV 4) d0 (fun _ _=>rfl)) (qV 8) (fun _ _=>rfl)) d0 (fun _ _=>rfl)) (qV 5) (by rfl)) (oX (z6 (kIn K hu) (u4 (u9 K hu) (u4 (u9 K hu) (u4 (u9 K hu) (qV 4) d0 (fun _ _=>rfl)) (qV 8) (fun _ _=>rfl)) d0 (fun _ _=>rfl)) (qV 5) (by rfl)) (mX (z6 (aV K hr) (q8 j9 (qC h9 (hr.mono (by decide)) j1 (g0 (qV 0) (g0 (q8 (q9 K) d0 (qV 7)) j0))) d0) d0 (j8 _)))))) (B8 (lO (u4 (u9 K hu) (u4 (u9 K hu) (qV 4) d0 (fun _ _=>rfl)) (qV 8) (fun _ _=>rfl)) (vN (qV 6) (qV 8) (T8 P w hu)))) aL)))
   (z7 (p0 (i:=9) hN rfl (by walk_at "l") (qC J3 (hr.mono (by decide)) j1 (g0 (qV 5) (g0 (qV 6) (g0 (mw (lp K) (qV 3) (ir d0) (ir d0)) (g0 (qV 1) (g0 (q8 j9 (qC h9 (hr.mono (by decide)) j1 (g0 (qV 0) (g0 d0 j0))) d0) j0)))))))
   (z7 (p0 (i:=10) hN rfl (by walk_at "l") (cv j0))
   (z7 (dn PassesOwn.never rfl (gE T.b_range (g0 (q8 j9 (qC h9 (hr.mono (by decide)) j1 (g0 (qV 0) (g0 d0 j0))) (q8 (q9 K) (qV 2) d0)) j0)) (P0 (i:=7) hN rfl (by walk_at "l"))
    (z7 (p0 (i:=11) hN rfl (by walk_at "l") (mw (lp K) (qV 3) (ir (q8 (q9 K) d0 (q8 G1 d0 (qV 7)))) (ir (q8 (q9 K) d0 (q8 G1 d0 (qV 7))))))
   (B8 (yj (qM PySem.F.plainAttrs_list PySem.F.slot_list_append PySem.F.type_list_append M7 K (qV 10) (g0 (qC J3 (hr.mono (by decide)) j1 (g0 (u4 (u9 K hu) (qV 4) d0 (fun _ _=>rfl)) (g0 (u4 (u9 K hu) (qV 4) d0 (fun _ _=>rfl)) (g0 (qV 11) (g0 (qV 1) (g0 (q8 j9 (qC h9 (hr.mono (by decide)) j1 (g0 (qV 0) (g0 (q8 (q9 K) d0 (qV 7)) j0))) d0) j0)))))) j0))))))
   (B8 (x5 (cm (g0 (qV 4) (g0 (qV 9) (g0 (qV 10) j0))))))))))))))),?_⟩
  refine j5 fun nx1 hx=>?_
  walk_at "e"
  refine⟨c,24,rfl,by omega,by omega,fun lw H1 ws _ m1 f1 hw=>?_⟩
  obtain⟨hwl,hwn,hwk⟩:=hw
  have hwl:ws.length=24:=hwl
  walk_at "e"
  refine hx [some (.int c),some (.ref lk),some (.int 3),some (.ref lw),none,none,none,none,none,none,none,none] _ ?_
  clear hx
  refine j5 fun nx2 hx=>?_
  walk_at "e"
  intro d1 n1
  obtain⟨H2,e2,f2,m2,_⟩:=b7 (o:= .dK []) n1
  rw[e2]
  walk_at "e"
  intro d2 n2
  obtain⟨H3,e3,f3,m3,_⟩:=b7 (o:= .dK []) n2
  rw[e3]
  walk_at "e"
  refine U7 (SqL.of (m3 _ _ (m2 _ _ f1))) (fun l4 n4=>?_)
  rw[wa hwl]
  obtain⟨H4,e4,f4,m4,_⟩:=b7 (o:= .lst _) n4
  rw[e4]
  have m14:=m2.trans (m3.trans m4)
  walk_at "e"
  refine⟨d1,d2,l4,lk,[],⟨[],[]⟩,ws.take 6,ks,_,rfl,m4 _ _ (m3 _ _ f2),m4 _ _ f3,.nil,vh,(fun _ h=>nomatch h),SqL.of f4,by rw[List.length_take];omega,hwn.sublist (List.take_sublist _ _),fun s hs=>hwk s (List.mem_of_mem_take hs),(m1.trans m14).seq hK,hkl,hkk,fun L H5 m5 hL hLE=>?_⟩
  have m05:=m1.trans (m14.trans m5)
  have hPL:=hLE.pc
  have hLn:=hLE.names
  have hll:=hPL.len
  rw[L9] at hll
  have hLdis:∀{a m:Nat},6≤a→∀n∈i6 L.W,n∉(ws.drop a).take m:=fun ha n hn=>qX hwn ha (hLn n hn)
  have fw5:H5 lw=some (.lst (ws.map V.str)):=(m14.trans m5) _ _ f1
  walk_at "e"
  refine hx [some (.int c),some (.ref lk),some (.int 3),some (.ref lw),some (.ref L.a),none,none,none,none,none,none,none] _ ?_
  clear hx
  refine j5 fun nx3 hx=>?_
  walk_at "e"
  intro dp np
  obtain⟨H6,e6,f6,m6,_⟩:=b7 (o:= .dK []) np
  rw[e6]
  walk_at "e"
  refine hx [some (.int c),some (.ref lk),some (.int 3),some (.ref lw),some (.ref L.a),some (.ref dp),none,none,none,none,none,none] _ ?_
  clear hx
  refine j5 fun nx4 hx=>?_
  walk_at "e"
  intro dq nq
  obtain⟨H7,e7,f7,m7,_⟩:=b7 (o:= .dK []) nq
  rw[e7]
  walk_at "e"
  refine hx [some (.int c),some (.ref lk),some (.int 3),some (.ref lw),some (.ref L.a),some (.ref dp),some (.ref dq),none,none,none,none,none] _ ?_
  clear hx
  have m67:=m6.trans m7
  have nq5:H5 dq=none:=m6.free nq
  have hpq:dp≠dq:=d8 f6 nq
  have L7:=hL.same m67
  have plp:dp≠L.p:=fun z=>by rw[z,hL.hp] at np;cases np
  have qlp:dq≠L.p:=fun z=>by rw[z,hL.hp] at nq5;cases nq5
  have plq:dp≠L.q:=fun z=>by rw[z,hL.hq] at np;cases np
  have qlq:dq≠L.q:=fun z=>by rw[z,hL.hq] at nq5;cases nq5
  have ndp:=O5 hPL.nd
  have ndt:=aF hPL.nd
  refine j5 fun nx5 hx=>?_
  walk_at "e"
  refine b5 L7.at_.tup (b6 (j:=0) rfl) ?_
  walk_at "e"
  refine⟨_,rfl,.inr ⟨L.p,_,rfl,.inl ⟨L7.hp,fun nd1 ob1=>?_⟩⟩⟩
  have nB1:B9 L.p ob1 (C0 L.W.pts) H5 dp=none:=by rw[Z6 plp];exact np
  have nB2:B9 L.p ob1 (C0 L.W.pts) H5 dq=none:=by rw[Z6 qlp];exact nq5
  refine O7 (n:=(C0 L.W.pts).length) (fun i σ H'=>∃(pts:List (Str×Str)) (v7 v8:Option V),σ=[some (.int c),some (.ref lk),some (.int 3),some (.ref lw),some (.ref L.a),some (.ref dp),some (.ref dq),v7,v8,none,none,none]∧Same (B9 L.p ob1 (C0 L.W.pts) H5) H'∧H' dp=some (.dK (C0 pts))∧H' dq=some (.dK [])∧pts.Sublist (L.W.pts.take i)) ⟨[],none,none,rfl,gj m67,by rw[Z6 plp];exact m7 _ _ f6,by rw[Z6 qlp];exact f7,List.nil_sublist _⟩ (fun i σ H' hi hp=>?_) ?_ ?_
  ·obtain⟨_,_,_,_,s,_⟩:=hp
   exact⟨s _ _ d9,hi⟩
  ·rintro _ i v σ H8 H9 hi ⟨pts,v7,v8,rfl,s8,g8,t8,sb⟩ ⟨t,kv,hkv,nt,rfl,rfl⟩
   obtain⟨x,hx2,rfl⟩:=fg hkv
   obtain⟨HA,eA,fA,mA,_⟩:=b7 (o:= .tup _) nt
   rw[eA]
   rw[A1] at hi
   have sA:=s8.trans mA
   have gA:=mA _ _ g8
   have tA:=mA _ _ t8
   have WA:=hL.at_.mono ((dJ (o:=ob1) hL.hp).trans sA.le)
   have hxm:x∈L.W.pts:=List.mem_of_getElem? hx2
   have hpl:=sb.length_le
   rw[List.length_take] at hpl
   refine Z4 (SqT.of fA) rfl ?_
   walk_at "e"
   refine⟨_,_,rfl,by omega,by omega,fun m hm=>?_⟩
   walk_at "e"
   refine bj (fun h1=>?_) (fun h1=>?_)
   ·walk_at "e"
    refine b5 WA.tup (b6 (j:=0) rfl) ?_
    walk_at "e"
    refine E9 (v:= .str x.2) (by have z':=V0 (k:=Sum.inr x.1) WA.pts;rw[Y9 ndp hxm] at z';exact z') ?_
    walk_at "e"
    refine gq (V1 (k:=Sum.inr x.1) gA (b8 (by rw[A1];omega)) ?_)
    rw[jn (kD ndp sb hx2)]
    walk_at "e"
    exact⟨pts++[x],_,_,rfl,bY sA nB1,d9,by rw[b9 hpq.symm];exact tA,gQ sb hx2⟩
   ·walk_at "e"
    exact⟨pts,_,_,rfl,sA,gA,tA,gY sb⟩
  rintro σ H8 ⟨pts,v7,v8,rfl,s8,g8,t8,sb⟩
  rw[List.take_of_length_le (by rw[A1];exact Nat.le_refl _)] at sb
  refine⟨⟨s8 _ _ d9,rfl⟩,?_⟩
  have sT:Same H5 (thaw L.p H8):=s8.thaw hL.hp
  have gT:(thaw L.p H8) dp=some (.dK (C0 pts)):=by rw[N0 plp];exact g8
  have tT:(thaw L.p H8) dq=some (.dK []):=by rw[N0 qlp];exact t8
  generalize thaw L.p H8=HT at sT gT tT⊢
  have LT:=hL.same sT
  walk_at "e"
  refine hx [some (.int c),some (.ref lk),some (.int 3),some (.ref lw),some (.ref L.a),some (.ref dp),some (.ref dq),v7,v8,none,none,none] _ ?_
  clear hx
  refine j5 fun nx6 hx=>?_
  walk_at "e"
  refine b5 LT.at_.tup (b6 (j:=1) rfl) ?_
  walk_at "e"
  refine⟨_,rfl,.inr ⟨L.q,_,rfl,.inl ⟨LT.hq,fun nd2 ob2=>?_⟩⟩⟩
  have nC1:B9 L.q ob2 L.kvs H5 dp=none:=by rw[Z6 plq];exact np
  have nC2:B9 L.q ob2 L.kvs H5 dq=none:=by rw[Z6 qlq];exact nq5
  have hkvl:=hL.at_.ts.length
  refine O7 (n:=L.kvs.length) (fun i σ H'=>∃(ks1:List (g7×V)) (ts1:List (Str×J0)) (v7 v8:Option V),σ=[some (.int c),some (.ref lk),some (.int 3),some (.ref lw),some (.ref L.a),some (.ref dp),some (.ref dq),v7,v8,none,none,none]∧Same (B9 L.q ob2 L.kvs H5) H'∧H' dp=some (.dK (C0 pts))∧H' dq=some (.dK ks1)∧TiesIs K H' ks1 ts1∧ts1.Sublist (L.W.ts.take i)∧∀x∈ts1,x.2.2.1∈pts.map (·.1)∧x.2.2.2∈pts.map (·.1)) ⟨[],[],_,_,rfl,gj sT,by rw[Z6 plq];exact gT,by rw[Z6 qlq];exact tT,.nil,List.nil_sublist _,fun _ h=>nomatch h⟩ (fun i σ H' hi hp=>?_) ?_ ?_
  ·obtain⟨_,_,_,_,_,s,_⟩:=hp
   exact⟨s _ _ d9,hi⟩
  ·rintro _ i v σ H9 H9' hi ⟨ks1,ts1,w7,w8,rfl,s9,g9,t9,w9,sb9,en9⟩ ⟨t,kv,hkv,nt,rfl,rfl⟩
   obtain⟨HA,eA,fA,mA,_⟩:=b7 (o:= .tup _) nt
   rw[eA]
   have sA:=s9.trans mA
   have gA:=mA _ _ g9
   have tA:=mA _ _ t9
   have wA:=w9.mono mA.le
   have WA:=hL.at_.mono ((dJ (o:=ob2) hL.hq).trans sA.le)
   obtain⟨x,hx2,ex,b,eb,sb2⟩:=WA.ts.get hkv
   obtain⟨kk,kvv⟩:=kv
   have ex':kk=Sum.inr x.1:=ex
   have eb':kvv= .ref b:=eb
   subst ex' eb'
   have hv:DGet HA L.q (kV (Sum.inr x.1)) (some (.ref b)):=by
    have z':=V0 (k:=Sum.inr x.1) WA.ties
    rw[ba (kv:=(Sum.inr x.1,.ref b)) nd2 (List.mem_of_getElem? hkv)] at z';exact z'
   have hpl:=sb9.length_le
   rw[List.length_take] at hpl
   have hk1:=wA.length
   have skip:∀{v7 v8:Option V},∃(ks1:List (g7×V)) (ts1:List (Str×J0)) (u7 u8:Option V),[some (.int c),some (.ref lk),some (.int 3),some (.ref lw),some (.ref L.a),some (.ref dp),some (.ref dq),v7,v8,none,none,none]=[some (.int c),some (.ref lk),some (.int 3),some (.ref lw),some (.ref L.a),some (.ref dp),some (.ref dq),u7,u8,none,none,none]∧Same (B9 L.q ob2 L.kvs H5) HA∧HA dp=some (.dK (C0 pts))∧HA dq=some (.dK ks1)∧TiesIs K HA ks1 ts1∧ts1.Sublist (L.W.ts.take (i+1))∧∀x∈ts1,x.2.2.1∈pts.map (·.1)∧x.2.2.2∈pts.map (·.1):=fun{v7 v8}=>⟨ks1,ts1,v7,v8,rfl,sA,gA,tA,wA,gY sb9,en9⟩
   refine Z4 (SqT.of fA) rfl ?_
   walk_at "e"
   refine b5 WA.tup (b6 (j:=1) rfl) ?_
   walk_at "e"
   refine E9 (v:= .ref b) hv ?_
   walk_at "e"
   refine b5 sb2 (b6 (j:=1) rfl) ?_
   walk_at "e"
   refine Z0 (V0 (k:=Sum.inr x.2.2.1) (.inl gA)) ?_
   walk_at "e"
   refine iE (fun h1=>?_) (fun h1=>?_)
   ·walk_at "e"
    refine b5 WA.tup (b6 (j:=1) rfl) ?_
    walk_at "e"
    refine E9 (v:= .ref b) hv ?_
    walk_at "e"
    refine b5 sb2 (b6 (j:=2) rfl) ?_
    walk_at "e"
    refine Z0 (V0 (k:=Sum.inr x.2.2.2) (.inl gA)) ?_
    walk_at "e"
    refine iE (fun h2=>?_) (fun h2=>?_)
    ·walk_at "e"
     refine⟨_,_,rfl,by omega,by omega,fun m hm=>?_⟩
     walk_at "e"
     refine bj (fun h3=>?_) (fun h3=>?_)
     ·walk_at "e"
      refine b5 WA.tup (b6 (j:=1) rfl) ?_
      walk_at "e"
      refine E9 (v:= .ref b) hv ?_
      walk_at "e"
      refine gq (V1 (k:=Sum.inr x.1) tA (b8 (by omega)) ?_)
      walk_at "e"
      refine⟨_,ts1++[x],_,_,rfl,bY sA nC2,by rw[b9 hpq];exact gA,d9,gW tA (oh (n:=x.1) (t:=x.2) wA (kD ndt sb9 hx2) sb2),gQ sb9 hx2,fun y hy=>?_⟩
      rcases List.mem_append.mp hy with z|z
      ·exact en9 y z
      ·rw[List.mem_singleton.mp z]
       exact⟨ke h1,ke h2⟩
     ·walk_at "e"
      exact skip
    ·walk_at "e"
     exact skip
   ·walk_at "e"
    exact skip
  rintro σ H9 ⟨ks1,ts1,w7,w8,rfl,s9,g9,t9,w9,sb9,en9⟩
  rw[List.take_of_length_le (by rw[hkvl];exact Nat.le_refl _)] at sb9
  refine⟨⟨s9 _ _ d9,rfl⟩,?_⟩
  have sU:Same H5 (thaw L.q H9):=s9.thaw hL.hq
  have gU:(thaw L.q H9) dp=some (.dK (C0 pts)):=by rw[N0 plq];exact g9
  have tU:(thaw L.q H9) dq=some (.dK ks1):=by rw[N0 qlq];exact t9
  have wU:TiesIs K (thaw L.q H9) ks1 ts1:=w9.mono qi
  generalize thaw L.q H9=HU at sU gU tU wU⊢
  have hPk:=sv hPL sb sb9 en9
  walk_at "e"
  refine hx [some (.int c),some (.ref lk),some (.int 3),some (.ref lw),some (.ref L.a),some (.ref dp),some (.ref dq),w7,w8,none,none,none] _ ?_
  clear hx
  refine j5 fun nx7 hx=>?_
  obtain⟨m6,hm6,cut6⟩:=rZ hwl 6 12 (by omega) (by omega)
  walk_at "e"
  refine U7 (SqL.of (sU _ _ fw5)) (fun lA nA=>?_)
  rw[cut6 6 12 rfl rfl]
  obtain⟨HA,eA,fA,mA,_⟩:=b7 (o:= .lst _) nA
  rw[eA]
  walk_at "e"
  refine⟨_,_,rfl,by omega,by omega,fun mm hmm=>?_⟩
  walk_at "e"
  have nsub:(i6 ⟨pts,ts1⟩).Sublist (i6 L.W):=(sb.map _).append (sb9.map _)
  refine⟨dp,dq,lA,lk,ks1,⟨pts,ts1⟩,(ws.drop 6).take m6,ks,_,rfl,mA _ _ gU,mA _ _ tU,wU.mono mA.le,hPk,fun n hn=>hLdis (Nat.le_refl 6) n (nsub.subset hn),SqL.of fA,jM hwl hm6 (by omega),pf hwn,fun s hs=>hwk s (jU hs),(m05.trans (sU.trans mA)).seq hK,hkl,hkk,fun R HB mB hR hRE=>?_⟩
  have s5B:=sU.trans (mA.trans mB)
  walk_at "e"
  refine hx [some (.int c),some (.ref lk),some (.int 3),some (.ref lw),some (.ref L.a),some (.ref dp),some (.ref dq),w7,w8,some (.ref R.a),none,none] _ ?_
  clear hx
  have hAg:∀n∈i6 L.W,n∈i6 R.W→ko n L.W R.W:=fun n hn hr=>ng hPL sb sb9 hRE (hLdis (Nat.le_refl 6)) hn hr
  clear gU tU wU g9 t9 w9 s9 gT tT s8 g8 t8
  refine j5 fun nx8 hx=>?_
  walk_at "e"
  refine⟨b8 (by simp),fun lb nb=>?_⟩
  obtain⟨HC,eC,fC,mC,_⟩:=b7 (o:= .lst []) nb
  rw[eC]
  walk_at "e"
  refine hx [some (.int c),some (.ref lk),some (.int 3),some (.ref lw),some (.ref L.a),some (.ref dp),some (.ref dq),w7,w8,some (.ref R.a),some (.ref lb),none] _ ?_
  clear hx
  refine j5 fun nx9 hx=>?_
  walk_at "e"
  refine⟨_,_,rfl,by omega,by omega,fun mb hmb=>?_⟩
  walk_at "e"
  refine Q8 (by omega) (by omega) ?_
  refine O7 (n:=(mb % (3+1)).toNat) (fun i σ H'=>∃(bs:List Sd) (u7 u8 u11:Option V),σ=[some (.int c),some (.ref lk),some (.int 3),some (.ref lw),some (.ref L.a),some (.ref dp),some (.ref dq),u7,u8,some (.ref R.a),some (.ref lb),u11]∧Same HB H'∧H' lb=some (.lst (bs.map fun s=>V.ref s.a))∧bs.length=i∧∀b∈bs,SdIs K H' b∧∃vs,Ext vs L.W b.W) ⟨[],_,_,_,rfl,mC,fC,rfl,fun _ h=>nomatch h⟩ (fun i σ H' hi _=>by exact hi) ?_ ?_
  ·rintro _ i v σ HD HD' hi ⟨bs,u7,u8,u11,rfl,sD,gD,lD,hbs⟩ ⟨rfl,rfl⟩
   have hi3:i<3:=by omega
   obtain⟨mk,hmk,cutk⟩:=rZ hwl (12+4*i) (18+4*i) (by omega) (by omega)
   have s5D:=s5B.trans sD
   have LD:=hL.same s5D
   walk_at "r"
   refine U7 (SqL.of (s5D _ _ fw5)) (fun lE nE=>?_)
   rw[cutk _ _ (by omega) (by omega)]
   obtain⟨HE,eE,fE,mE,_⟩:=b7 (o:= .lst _) nE
   rw[eE]
   have LE:=LD.same mE
   walk_at "r"
   refine⟨.inl ⟨rfl,_,SqL.of (mE _ _ gD)⟩,?_⟩
   walk_at "r"
   refine b5 LE.at_.tup (b6 (j:=0) rfl) ?_
   walk_at "r"
   refine b5 LE.at_.tup (b6 (j:=1) rfl) ?_
   walk_at "r"
   refine⟨_,_,rfl,by omega,by omega,fun m4 hm4=>?_⟩
   walk_at "r"
   refine⟨L.p,L.q,lE,lk,L.kvs,L.W,(ws.drop (12+4*i)).take mk,ks,_,rfl,LE.hp,LE.hq,LE.at_.ts,hPL,hLdis (by omega),SqL.of fE,jM hwl hmk (by omega),pf hwn,fun s hs=>hwk s (jU hs),(m05.trans (s5D.trans mE)).seq hK,hkl,hkk,fun b HF mF hB hBE=>?_⟩
   have sDF:=mE.trans mF
   walk_at "r"
   refine⟨lb,_,_,rfl,rfl,sDF _ _ gD,lS (by rw[List.length_map];omega),?_⟩
   walk_at "r"
   refine⟨bs++[b],_,_,_,rfl,bY (sD.trans sDF) nb,by rw[d9,List.map_append];rfl,by rw[List.length_append,List.length_singleton];omega,fun d hd=>?_⟩
   rcases List.mem_append.mp hd with z|z
   ·exact⟨ky (sDF _ _ gD) ((hbs d z).1.same sDF),(hbs d z).2⟩
   ·rw[List.mem_singleton.mp z];exact⟨ky (sDF _ _ gD) hB,_,hBE⟩
  rintro σ HD ⟨bs,u7,u8,u11,rfl,sD,gD,lD,hbs⟩
  refine⟨by exact Nat.le_refl _,?_⟩
  walk_at "e"
  refine hx [some (.int c),some (.ref lk),some (.int 3),some (.ref lw),some (.ref L.a),some (.ref dp),some (.ref dq),u7,u8,some (.ref R.a),some (.ref lb),u11] _ ?_
  clear hx
  walk_at "e"
  refine⟨b8 (by simp),fun lr nr=>?_⟩
  obtain⟨HE,eE,fE,mE,_⟩:=b7 (o:= .tup _) nr
  rw[eE]
  have sDE:=sD.trans mE
  refine k lr lb L R bs HE (m05.trans (s5B.trans sDE)) ⟨SqT.of fE,hL.same (s5B.trans sDE),hR.same sDE,SqL.of (mE _ _ gD),fun b hb=>(hbs b hb).1.same mE⟩ (mE _ _ gD) ⟨hPL,hRE.pc,fun b hb=>let ⟨_,z⟩:=(hbs b hb).2;z.pc,by omega⟩ ⟨hPL.pc,hRE.pc.pc,hAg,by omega,fun b hb=>?_⟩
  obtain⟨_,z⟩:=(hbs b hb).2
  obtain⟨a',ea,_⟩:=z.ps
  obtain⟨b',eb,_⟩:=z.ts
  refine⟨⟨z.pc.pc.good,z.pc.pc.kds,Nat.le_trans z.pc.pc.l1 (by omega),Nat.le_trans z.pc.pc.l2 (by omega)⟩,fun x hx=>?_,fun x hx=>?_⟩
  ·rw[ea];exact List.mem_append_left _ hx
  ·rw[eb];exact List.mem_append_left _ hx
structure Cw (H:Hp) (A B:Sd):Prop where
 p:H A.p=none
 q:H A.q=none
 w:A.W=B.W
theorem Cw.up {H H':Hp}{A B:Sd}(h:Cw H' A B)(s:Same H H'):Cw H A B:=⟨s.free h.p,s.free h.q,h.w⟩
def V6 (K:PySem.W.Frag):Sp:=fun vs H Q _=>∃(r bl:Addr) (L R:Sd) (bs:List Sd),vs=[.ref r]∧RuleIs K H r bl L R bs∧H bl=some (.lst (bs.map fun s=>V.ref s.a))∧bs.length≤3∧∀(l:Addr) (ss:List Sd) (H':Hp),Same H H'→H' l=some (.lst (ss.map fun s=>V.ref s.a))→(∀s∈ss,SdIs K H' s)→Paired (Cw H) ss (L::R::bs)→H l=none→Q (.ref l) H'
theorem fG {f:Addr}{fd:FuncData}(T:Txt K mg)(F:Fun K "_law_kept" "_law_kept" I9 f fd):FnOk P w K mg base x6 1 f fd ["_law_rule_here"] (V6 K):=by
 refine F.ok sc__law_kept (fun vs H Q E h=>?_) (fun cdv A outer s H vs Q E hr h=>?_)
 ·obtain⟨r,bl,L,R,bs,rfl,_⟩:=h
  rfl
 ·obtain⟨r,bl,L,R,bs,rfl,hR,hbl,hlen,k⟩:=h
  have hN:=sc__law_kept.nd
  have hu:=x8 hr
  refine⟨_,QSs.r (B8 (x5 (C2 (own:=["_law_web"]) (js:=[]) (by kernel_rfl) rfl (P9 K (q8 (q9 K) (cv (g0 (u4 (u9 K hu) (qV 0) d0 (fun _ _=>rfl)) (g0 (u4 (u9 K hu) (qV 0) d0 (fun _ _=>rfl)) j0))) (u4 (u9 K hu) (qV 0) d0 (fun _ _=>rfl)))) (fun _ _ _ _=>(P0 (i:=0) (show List.Nodup (["_law_web"]:List Str) by decide+kernel) rfl (by walk_at "l"))) (fun _ _ _ _=>O2) (fun _ _ _ _=>(cm (g0 (nC (bV K rfl) T.b_dict Boot.«dict» (g0 (u4 (u9 K hu) (qV 0) d0 (fun _ _=>rfl)) j0)) (g0 (nC (bV K rfl) T.b_dict Boot.«dict» (g0 (u4 (u9 K hu) (qV 0) d0 (fun _ _=>rfl)) j0)) j0))))))),?_⟩
  walk_at "r"
  refine b5 hR.tup (b6 (j:=0) rfl) ?_
  walk_at "r"
  refine b5 hR.tup (b6 (j:=1) rfl) ?_
  walk_at "r"
  refine⟨b8 (by simp),fun l1 n1=>?_⟩
  obtain⟨H1,e1,f1,m1,_⟩:=b7 (o:= .lst _) n1
  rw[e1]
  have R1:=hR.same m1
  walk_at "r"
  refine b5 R1.tup (b6 (j:=2) rfl) ?_
  refine cg f1 (m1 _ _ hbl) (b8 (by simp only[List.length_map,List.length_cons,List.length_nil];omega)) (fun l2 n2=>?_)
  obtain⟨H2,e2,f2,m2,_⟩:=b7 (o:= .lst _) n2
  rw[e2]
  have m12:=m1.trans m2
  have R2:=hR.same m12
  have hall:∀s∈L::R::bs,SdIs K H2 s:=fun s hs=>by
   rcases List.mem_cons.mp hs with rfl|hs
   ·exact R2.l
   rcases List.mem_cons.mp hs with rfl|hs
   ·exact R2.r
   ·exact R2.bars s hs
  have f2':H2 l2=some (.lst ((L::R::bs).map fun s=>V.ref s.a)):=f2
  have hl5:(L::R::bs).length≤5:=by simp only[List.length_cons];omega
  generalize L::R::bs=ws at hall f2' hl5 k
  refine o3 (SqL.of f2') ?_
  refine j4 (n:=ws.length) (fun i out H'=>Same H2 H'∧∃ss:List Sd,out=(ss.map fun s=>V.ref s.a)∧(∀s∈ss,SdIs K H' s)∧Paired (Cw H) ss (ws.take i)) ⟨Same.refl _,[],rfl,(fun _ h=>nomatch h),.nil⟩ (fun i out H' hi hp=>⟨_,.ref (ws[i]).a,SqL.of (hp.1 _ _ f2'),by rw[List.getElem?_map,List.getElem?_eq_getElem hi];rfl⟩) ?_ ?_
  ·rintro N i v out H3' H3 hi ⟨s3,ss,rfl,hss,pb⟩ y hN'
   obtain⟨rfl,hx⟩:=Itl.get y (SqL.of (s3 _ _ f2'))
   rw[List.getElem?_map,List.getElem?_eq_getElem hi] at hx
   cases hx
   have hb:=(hall _ (List.getElem_mem hi)).same s3
   have hbi:=List.getElem?_eq_getElem hi
   generalize ws[i]=b at hb hbi⊢
   have hsl:=Paired.length pb
   rw[List.length_take] at hsl
   walk_at "r"
   refine⟨rfl,?_⟩
   walk_at "r"
   refine b5 hb.at_.tup (b6 (j:=0) rfl) ?_
   walk_at "r"
   refine O1 hb.at_.pts (fun p' np'=>?_)
   obtain⟨H4,e4,f4,m4,_⟩:=b7 (o:= .dK _) np'
   rw[e4]
   have B4:=hb.same m4
   walk_at "r"
   refine b5 B4.at_.tup (b6 (j:=1) rfl) ?_
   walk_at "r"
   refine O1 B4.at_.ties (fun q' nq'=>?_)
   obtain⟨H5,e5,f5,m5,_⟩:=b7 (o:= .dK _) nq'
   rw[e5]
   walk_at "r"
   refine⟨b8 (by simp),fun hd nhd=>?_⟩
   obtain⟨H6,e6,f6,m6,_⟩:=b7 (o:= .tup _) nhd
   rw[e6]
   have B6:=B4.same (m5.trans m6)
   have hp6:=m6 _ _ (m5 _ _ f4)
   have hq6:=m6 _ _ f5
   have s36:=m4.trans (m5.trans m6)
   refine⟨b8 (by rw[List.length_map];omega),hN' _ _ ⟨s3.trans s36,ss++[⟨hd,p',q',b.kvs,b.W⟩],by rw[List.map_append];rfl,fun s hs=>?_,?_⟩⟩
   ·rcases List.mem_append.mp hs with z|z
    ·exact(hss s z).same s36
    ·rw[List.mem_singleton.mp z]
     exact⟨⟨SqT.of f6,.inl hp6,.inl hq6,B6.at_.ts⟩,hp6,hq6,d8 f4 nq',hb.nd,hb.len,hb.ends,hb.nl⟩
   ·rw[t7 hbi]
    exact r9 pb ⟨(m12.trans s3).free np',(m12.trans s3).free (m4.free nq'),rfl⟩
  ·rintro out H3 ⟨s3,ss,rfl,hss,pb⟩
   rw[List.take_of_length_le (Nat.le_refl _)] at pb
   have hsl:=Paired.length pb
   refine⟨⟨_,SqL.of (s3 _ _ f2'),by rw[List.length_map];exact Nat.le_refl _⟩,fun D hD=>⟨b8 (by rw[List.length_map];omega),?_⟩⟩
   obtain⟨H4,e4,f4,m4,_⟩:=b7 (H:=H3) (o:= .lst (ss.map fun s=>V.ref s.a)) hD
   refine k D ss _ ?_ ?_ (fun s hs=>?_) pb ((m12.trans s3).free hD)
   ·show Same H (n0 H3 D _)
    rw[e4];exact m12.trans (s3.trans m4)
   ·show n0 H3 D _ D=_
    exact d9
   ·show SdIs K (n0 H3 D _) s
    rw[e4];exact(hss s hs).same m4
def S2 (K:PySem.W.Frag):Sp:=fun vs H Q _=>∃(L:Sd) (c:Int),vs=[.ref L.a,.int c]∧SdIs K H L∧(i6 L.W).length≤8∧∀(d:Addr) (os:List Str) (H':Hp),Same H H'→H' d=some (.dK (C0 ((i6 L.W).zip os)))→os.length=(i6 L.W).length→(∀s∈os,u6 s=true)→Q (.ref d) H'
theorem dR {f:Addr}{fd:FuncData}(T:Txt K mg)(W7:A7 P w K mg base x6 2 "_law_names" ["_law_cell","_law_many"] [] (T1 K))(F:Fun K "_law_match" "_law_match" D9 f fd):FnOk P w K mg base x6 3 f fd ["_law_left","_law_cell"] (S2 K):=by
 refine F.ok sc__law_match (fun vs H Q E h=>?_) (fun cdv A outer s H vs Q E hr h=>?_)
 ·obtain⟨L,c,rfl,_⟩:=h
  rfl
 ·obtain⟨L,c,rfl,hL,h8,k⟩:=h
  have h8':=h8
  rw[L9] at h8'
  have hkl:=hL.at_.ts.length
  have hN:=sc__law_match.nd
  have hu:=x8 hr
  refine⟨_,QSs.r (z7 (p0 (i:=2) hN rfl (by walk_at "l") (q8 (q9 K) (nC (jy K rfl) T.b_list Boot.«list» (g0 (u4 (u9 K hu) (qV 0) d0 (fun _ _=>rfl)) j0)) (nC (jy K rfl) T.b_list Boot.«list» (g0 (u4 (u9 K hu) (qV 0) d0 (fun _ _=>rfl)) j0))))
   (z7 (p0 (i:=3) hN rfl (by walk_at "l") wz)
   (z7 (dn PassesOwn.never rfl (uJ K T.b_zip (g0 (qV 2) (g0 (qC W7 (hr.mono (by decide)) j1 (g0 (qV 1) (g0 (qB (E6 K P w) T.b_len Boot.«len» (g0 (qV 2) j0)) j0))) j0))) (se K rfl (gs (P0 (i:=4) hN rfl (by walk_at "l")) (gs (P0 (i:=5) hN rfl (by walk_at "l")) rO)))
    (B8 (lO (qV 5) (vN (qV 3) (qV 4) (T8 P w hu)))))
   (B8 (x5 (qV 3)))))),?_⟩
  refine j5 fun nx1 hx=>?_
  walk_at "e"
  refine b5 hL.at_.tup (b6 (j:=0) rfl) ?_
  walk_at "e"
  refine iK (aI hL.at_.pts (fun l1 n1=>?_))
  obtain⟨H1,e1,f1,m1,_⟩:=b7 (o:= .lst _) n1
  rw[e1]
  have L1:=hL.same m1
  walk_at "e"
  refine b5 L1.at_.tup (b6 (j:=1) rfl) ?_
  walk_at "e"
  refine iK (aI L1.at_.ties (fun l2 n2=>?_))
  obtain⟨H2,e2,f2,m2,_⟩:=b7 (o:= .lst _) n2
  rw[e2]
  refine cg (m2 _ _ f1) f2 (b8 (by rw[List.length_map,List.length_map,A1];omega)) (fun l3 n3=>?_)
  obtain⟨H3,e3,f3,m3,_⟩:=b7 (o:= .lst _) n3
  rw[e3]
  have f3':H3 l3=some (.lst ((i6 L.W).map V.str)):=by
   rw[f3]
   congr 2
   unfold i6
   rw[List.map_append]
   congr 1
   ·unfold C0
    rw[List.map_map,List.map_map];rfl
   ·have z:=L1.at_.ts.keys
    rw[show(L.kvs.map fun kv=>kV kv.1)=(L.kvs.map (·.1)).map kV by rw[List.map_map];rfl,z,List.map_map,List.map_map];rfl
  have m03:=m1.trans (m2.trans m3)
  walk_at "e"
  refine hx [some (.ref L.a),some (.int c),some (.ref l3),none,none,none] _ ?_
  clear hx
  refine j5 fun nx2 hx=>?_
  walk_at "e"
  intro d nd
  obtain⟨H4,e4,f4,m4,_⟩:=b7 (o:= .dK []) nd
  rw[e4]
  walk_at "e"
  refine hx [some (.ref L.a),some (.int c),some (.ref l3),some (.ref d),none,none] _ ?_
  clear hx
  refine j5 fun nx3 hx=>?_
  walk_at "e"
  refine E7 (N5 (SqL.of (m4 _ _ f3')) ?_)
  rw[List.length_map]
  walk_at "e"
  refine⟨c,_,rfl,by omega,by omega,fun lo H5 os n5 m5 f5 ho=>?_⟩
  obtain⟨hol,_,hon⟩:=ho
  have hol2:os.length=(i6 L.W).length:=by omega
  have f35:=m5 _ _ (m4 _ _ f3')
  walk_at "e"
  refine⟨l3,lo,_,_,rfl,SqL.of f35,SqL.of f5,?_⟩
  refine O7 (n:=(i6 L.W).length) (fun i σ H'=>∃v4 v5,σ=[some (.ref L.a),some (.int c),some (.ref l3),some (.ref d),v4,v5]∧Same H3 H'∧H' l3=some (.lst ((i6 L.W).map V.str))∧H' lo=some (.lst (os.map V.str))∧H' d=some (.dK (C0 (((i6 L.W).zip os).take i)))) ⟨_,_,rfl,m4.trans m5,f35,f5,m5 _ _ f4⟩ (fun i σ H' hi hp=>?_) ?_ ?_
  ·obtain⟨_,_,_,_,q1,q2,_⟩:=hp
   exact⟨_,_,.str ((i6 L.W)[i]),.str (os[i]'(by omega)),SqL.of q1,SqL.of q2,by rw[List.getElem?_map,List.getElem?_eq_getElem hi];rfl,by rw[List.getElem?_map,List.getElem?_eq_getElem (show i<os.length by omega)];rfl⟩
  ·rintro _ i v σ H10 H10' hi ⟨w6,w8,rfl,s10,q1,q2,f10⟩ ⟨t,x,y,hx2,hy,nt,rfl,rfl⟩
   have hx':=hx2 _ (SqL.of q1)
   have hy':=hy _ (SqL.of q2)
   rw[List.getElem?_map] at hx' hy'
   obtain⟨x0,ex,rfl⟩:=Option.map_eq_some_iff.mp hx'
   obtain⟨y0,ey,rfl⟩:=Option.map_eq_some_iff.mp hy'
   obtain⟨H11,e11,f11,m11,_⟩:=b7 (o:= .tup _) nt
   rw[e11]
   have hz:((i6 L.W).zip os)[i]?=some (x0,y0):=by rw[List.getElem?_zip_eq_some];exact⟨ex,ey⟩
   have hfst:((i6 L.W).zip os).map (·.1)=i6 L.W:=List.map_fst_zip (by omega)
   have ni:x0∉(((i6 L.W).zip os).take i).map (·.1):=fun mm=>by
    rw[List.map_take,hfst] at mm
    have z:((i6 L.W).take (i+1)).Nodup:=hL.nd.sublist (List.take_sublist _ _)
    rw[List.take_succ,ex] at z
    exact(List.nodup_append.mp z).2.2 x0 mm x0 (by simp) rfl
   refine Z4 (SqT.of f11) rfl ?_
   walk_at "e"
   refine gq (V1 (k:=Sum.inr x0) (m11 _ _ f10) (b8 (by rw[A1,List.length_take];omega)) ?_)
   have nld:l3≠d:=fun z=>by rw[z,f10] at q1;cases q1
   have nod:lo≠d:=fun z=>by rw[z,f10] at q2;cases q2
   walk_at "e"
   exact⟨_,_,rfl,bY (s10.trans m11) nd,by rw[b9 nld];exact m11 _ _ q1,by rw[b9 nod];exact m11 _ _ q2,by rw[d9,jn ni,t7 hz]⟩
  ·rintro σ H10 ⟨w6,w8,rfl,s10,q1,q2,f10⟩
   refine⟨⟨_,_,SqL.of q1,SqL.of q2,.inl (by rw[List.length_map];exact Nat.le_refl _)⟩,?_⟩
   walk_at "e"
   refine hx [some (.ref L.a),some (.int c),some (.ref l3),some (.ref d),w6,w8] _ ?_
   clear hx
   walk_at "e"
   rw[List.take_of_length_le (by rw[List.length_zip];omega)] at f10
   exact k d os H10 (m03.trans s10) f10 hol2 hon
theorem om (ns:List Int)(a b:Option Int):∃cs:List Int,S9 (ns.map V.int) a b=cs.map V.int∧cs.length≤ns.length:=by
 unfold S9
 rw[←List.map_drop,←List.map_take]
 exact⟨_,rfl,by rw[List.length_take,List.length_drop];omega⟩
structure Ck (A B:Sd):Prop where
 m1:A.W.pts.Perm B.W.pts
 m2:A.W.ts.Perm B.W.ts
 p:A.p≠B.p
 q:A.q≠B.q
theorem Cp.ck {H:Hp}{A B:Sd}(h:Cp H A B)(hB:SdIs K H B):Ck A B:=⟨h.m1,h.m2,(d8 hB.hp h.p).symm,(d8 hB.hq h.q).symm⟩
theorem df {α β:Type}{F G:α→β→Prop}:∀{a:List α} {b:List β},Paired F a b→(∀x∈a,∀y∈b,F x y→G x y)→Paired G a b
 |_,_,.nil,_=> .nil
 |_::_,_::_,.cons h t,f=> .cons (f _ List.mem_cons_self _ List.mem_cons_self h) (df t fun x hx y hy=>f x (List.mem_cons_of_mem _ hx) y (List.mem_cons_of_mem _ hy))
theorem dM {α β γ:Type}{F:α→γ→Prop}{G:β→γ→Prop}{R:α→β→Prop}:∀{a:List α} {b:List β} {c:List γ},Paired F a c→Paired G b c→(∀x,∀y∈b,∀z,F x z→G y z→R x y)→Paired R a b
 |_,_,_,.nil,.nil,_=> .nil
 |_::_,_::_,_::_,.cons h t,.cons h' t',f=> .cons (f _ _ List.mem_cons_self _ h h') (dM t t' fun x y hy z=>f x y (List.mem_cons_of_mem _ hy) z)
theorem km {H:Hp}{l l':Addr}{ss ss':List Sd}{n:Nat}(h:SqL K H l (ss.map fun s=>V.ref s.a))(h':SqL K H l' (ss'.map fun s=>V.ref s.a))(ha:∀s∈ss,SdIs K H s)(ha':∀s∈ss',SdIs K H s)(pr:Paired Ck ss ss'):
  (ss.map fun s=>V.ref s.a).length=(ss'.map fun s=>V.ref s.a).length∧(List.replicate ss.length true).length=(ss.map fun s=>V.ref s.a).length∧∀(j:Nat) (x y:V) (b:Bool),(ss.map fun s=>V.ref s.a)[j]?=some x→(ss'.map fun s=>V.ref s.a)[j]?=some y→(List.replicate ss.length true)[j]?=some b→EqN K H (n+1) x y b:=by
 have hl:=Paired.length pr
 refine⟨by rw[List.length_map,List.length_map,hl],by rw[List.length_replicate,List.length_map],fun j x y b h1 h2 h3=>?_⟩
 rw[List.getElem?_map] at h1 h2
 obtain⟨s,hs,rfl⟩:=Option.map_eq_some_iff.mp h1
 obtain⟨s',hs',rfl⟩:=Option.map_eq_some_iff.mp h2
 have e3:=(List.mem_replicate.mp (List.mem_of_getElem? h3)).2
 subst e3
 obtain⟨s'',hs'',z⟩:=z8 pr hs
 rw[hs'] at hs''
 cases hs''
 exact cS (ha _ (List.mem_of_getElem? hs)) (ha' _ (List.mem_of_getElem? hs')) z.m1 z.m2 z.p z.q
theorem rn {H:Hp}{l l':Addr}{ss ss':List Sd}(h:SqL K H l (ss.map fun s=>V.ref s.a))(h':SqL K H l' (ss'.map fun s=>V.ref s.a))(ha:∀s∈ss,SdIs K H s)(ha':∀s∈ss',SdIs K H s)(pr:Paired Ck ss ss'):xE K H (.ref l) (.ref l') (List.replicate ss.length true):=by
 obtain⟨q1,q2,q3⟩:=km (n:=7) h h' ha ha' pr
 exact⟨l,l',_,_,rfl,rfl,.inr ⟨h,h'⟩,q1,q2,q3⟩
theorem qE {H:Hp}{r bl r' bl':Addr}{L R L' R':Sd}{bs bs':List Sd}(h:RuleIs K H r bl L R bs)(h':RuleIs K H r' bl' L' R' bs')(cl:Ck L' L)(cr:Ck R' R)(cb:Paired Ck bs' bs)(nb:bl'≠bl):xE K H (.ref r') (.ref r) [true,true,true]:=by
 refine⟨r',r,_,_,rfl,rfl,.inl ⟨h'.tup,h.tup⟩,rfl,rfl,fun j x y b h1 h2 h3=>?_⟩
 match j,h1,h2,h3 with
 |0,h1,h2,h3=>cases h1;cases h2;cases h3;exact cS (n:=7) h'.l h.l cl.m1 cl.m2 cl.p cl.q
 |1,h1,h2,h3=>cases h1;cases h2;cases h3;exact cS (n:=7) h'.r h.r cr.m1 cr.m2 cr.p cr.q
 |2,h1,h2,h3=>
  cases h1;cases h2;cases h3
  obtain⟨q1,q2,q3⟩:=km (n:=6) h'.bl h.bl h'.bars h.bars cb
  exact .inr ⟨bl',bl,_,_,List.replicate bs'.length true,rfl,rfl,nb,.inr ⟨h'.bl,h.bl⟩,q1,q2,q3,by simp⟩
 |j+3,h1,_,_=>cases h1
theorem tS {W:E4}{os:List Str}(hW:PcW W)(hl:os.length=(i6 W).length)(hn:∀s∈os,u6 s=true):yD ((i6 W).zip os) W:=fun n hn'=>by
 have hfst:((i6 W).zip os).map (·.1)=i6 W:=List.map_fst_zip (by omega)
 have hm:n∈((i6 W).zip os).map (·.1):=by rw[hfst];exact hn'
 obtain⟨y,hy⟩:=G0 hm
 have hv:=Y9 (by rw[hfst];exact hW.nd) hy
 refine⟨⟨y,hv⟩,C4 (hW.pc.kds n hn'),?_⟩
 rw[jJ hv]
 exact A2 (hn y (List.of_mem_zip hy).2)
theorem qy {H:Hp}{Q:VK}{a b:Addr}{ms:List (Str×Str)}(ha:H a=some (.dK (C0 ms)))(hb:H b=some (.dK (C0 ms)))(nd:(ms.map (·.1)).Nodup)(q:Q (.bl false) H):eQ K (.ref a) (.ref b) H Q:=by
 refine sY (oE (r:=true) (.inl ha) (.inl hb) (fK fun kv hkv=>?_) ?_)
 ·obtain⟨x,hx,rfl⟩:=List.mem_map.mp hkv
  exact⟨.str x.2,Y9 nd hx,jN _⟩
 ·rw[show(!((C0 ms).length==(C0 ms).length&&true))=false by simp]
  exact q
theorem eF {W:E4}{t:Str}(h:ShT W t)(p:PcW W):t.length≤400:=let ⟨_,X⟩:=h.txt p;X.len
theorem mr {tb tb':List Str}{bs:List Sd}(h:Paired (fun t b=>ShT b.W t) tb bs)(h':Paired (fun t b=>ShT b.W t) tb' bs)(hp:∀b∈bs,PcW b.W):tb=tb':=by
 induction h generalizing tb' with
 |nil=>cases h';rfl
 |cons z _ ih=>
  cases h' with
  |cons z' t'=>
   rw[z.uniq (hp _ List.mem_cons_self).nd z',ih t' fun b hb=>hp b (List.mem_cons_of_mem _ hb)]
theorem kA {H:Hp}:∀{tb:List Str} {sb bs:List Sd},Paired (fun t b=>ShT b.W t) tb sb→Paired (Cw H) sb bs→Paired (fun t b=>ShT b.W t) tb bs
 |_,_,_,.nil,.nil=> .nil
 |_::_,_::_,_::_,.cons h t,.cons h' t'=> .cons (by rw[←h'.w];exact h) (kA t t')
theorem mL {ws:List Str}(h:ws≠[]):M6 ws=Str.join " " ws:=by
 cases ws with
 |nil=>exact absurd rfl h
 |cons _ _=>rfl
theorem uP {f:Addr}{fd:FuncData}(T:Txt K mg)(Y5:A7 P w K mg base x6 3 "_law_rule" ["_law_cell","_law_kinds_here","_law_most"] [] (X5 K))(Y1:A7 P w K mg base x6 1 "_law_kinds" ["_law_cell"] [] (S0 K))(Q5:A7 P w K mg base x6 1 "_law_kept" ["_law_rule_here"] [] (V6 K))(J2:A7 P w K mg base x6 1 "_law_shown" ["_law_web"] [] (S5 K))(X7:A7 P w K mg base x6 3 "rule_shown" ["rule"] [] (R8 K))(af:A7 P w K mg base (gc P w) 7 "rule_read" ["text"] [] (X3 K))(X9:A7 P w K mg base x6 3 "_law_match" ["_law_left","_law_cell"] [] (S2 K))(S7:A7 P w K mg base x6 2 "match_shown" ["piece","match"] [] (O6 K))(F:Fun K "law" "law" bq f fd):FnOk P w K mg base x6 8 f fd ["_law_script"] (fm K):=by
 refine F.ok sc_law (fun vs H Q E h=>?_) (fun cdv A outer s H vs Q E hr h=>?_)
 ·obtain⟨a,ns,rfl,_⟩:=h
  rfl
 ·obtain⟨a,ns,rfl,hA,hl,k⟩:=h
  have hN:=sc_law.nd
  have hu:=x8 hr
  refine⟨_,QSs.r (z7 (dn PassesOwn.never rfl (P9 K (q8 (q9 K) (cv (g0 d0 (g0 d0 j0))) (mw (lp K) (qV 0) pN (ir d0)))) (P0 (i:=1) hN rfl (by walk_at "l"))
    (z7 (p0 (i:=1) hN rfl (by walk_at "l") (q8 j9 (qV 1) (q8 uG d0 d0)))
   (z7 (p0 (i:=2) hN rfl (by walk_at "l") (qC Y5 (hr.mono (by decide)) j1 (g0 (qV 1) (g0 (qC Y1 (hr.mono (by decide)) j1 (g0 (q8 E1 (qV 1) d0) j0)) (g0 d0 j0)))))
   (z7 (p0 (i:=3) hN rfl (by walk_at "l") (qC Q5 (hr.mono (by decide)) j1 (g0 (qV 2) j0)))
   (z7 (p0 (i:=4) hN rfl (by walk_at "l") (qM PySem.F.plainAttrs_str PySem.F.slot_str_join PySem.F.type_str_join (D3 K) K A5 (g0 (cv (g0 (qC J2 (hr.mono (by decide)) j1 (g0 (u4 (u9 K hu) (qV 3) d0 (fun _ _=>rfl)) j0)) (g0 (qC J2 (hr.mono (by decide)) j1 (g0 (u4 (u9 K hu) (qV 3) d0 (fun _ _=>rfl)) j0)) j0))) j0)))
   (z7 (p0 (i:=4) hN rfl (by walk_at "l") (qM PySem.F.plainAttrs_str PySem.F.slot_str_join PySem.F.type_str_join (D3 K) K A5 (g0 (q8 (q9 K) (cv (g0 (qV 4) j0)) (C2 (own:=["_law_bar"]) (js:=[]) (by kernel_rfl) rfl (P9 K (mw (lp K) (qV 3) (ir d0) pN)) (fun _ _ _ _=>(P0 (i:=0) (show List.Nodup (["_law_bar"]:List Str) by decide+kernel) rfl (by walk_at "l"))) (fun _ _ _ _=>O2) (fun _ _ _ _=>(qC J2 (hr.mono (by decide)) j1 (g0 (qV 0) j0))))) j0)))
   (z7 (p0 (i:=5) hN rfl (by walk_at "l") (qC X7 (hr.mono (by decide)) j1 (g0 (qV 2) j0)))
   (z7 (aO (iW (W9 (E8 (A8 K (qB (Q4 K P w) T.b_isinstance Boot.«isinstance» (g0 (qV 5) (g0 (kx "str" T.b_str Boot.«str») j0))))) (W9 (z6 (T7 K hr) (qV 5) (qV 4) (j8 _)) (U8 (z6 (T7 K hr) (qC Q5 (hr.mono (by decide)) j1 (g0 (qV 2) j0)) (qV 3) (j8 _)))))) (B8 (x5 jA)) aL)
   (z7 (p0 (i:=6) hN rfl (by walk_at "l") (qC af (hr.mono (by decide)) ia (g0 (qV 4) j0)))
   (z7 (aO (iW (W9 (E8 (A8 K (qB (Q4 K P w) T.b_isinstance Boot.«isinstance» (g0 (qV 6) (g0 (kx "tuple" T.b_tuple Boot.«tuple») j0))))) (W9 (z6 (T7 K hr) (qB (E6 K P w) T.b_len Boot.«len» (g0 (qV 6) j0)) d0 (j8 _)) (W9 (E8 (A8 K (qB (Q4 K P w) T.b_isinstance Boot.«isinstance» (g0 (u4 (u9 K hu) (qV 6) d0 (fun _ _=>rfl)) (g0 (kx "list" T.b_list Boot.«list») j0))))) (U8 (z6 (T7 K hr) (qV 6) (qV 2) (j8 _))))))) (B8 (x5 jA)) aL)
   (z7 (p0 (i:=7) hN rfl (by walk_at "l") (qC X9 (hr.mono (by decide)) j1 (g0 (u4 (u9 K hu) (qV 2) d0 (fun _ _=>rfl)) (g0 (q8 E1 (qV 1) d0) j0))))
   (z7 (p0 (i:=3) hN rfl (by walk_at "l") (nC (bV K rfl) T.b_dict Boot.«dict» (g0 (qV 7) j0)))
   (z7 (cK (i:=8) hN rfl (by walk_at "l") (own:=["_law_name"]) (js:=[3]) (by kernel_rfl) rfl (P9 K (qB (N1 K rfl) T.b_sorted Boot.«sorted» (g0 (u4 (u9 K hu) (u4 (u9 K hu) (qV 2) d0 (fun _ _=>rfl)) d0 (fun _ _=>rfl)) j0))) (fun _ _ _ _=>(P0 (i:=0) (show List.Nodup (["_law_name","_law_held"]:List Str) by decide+kernel) rfl (by walk_at "l"))) (fun _ _ _ _=>O2) (fun _ _ _ _=>(q8 (q9 K) (q8 (q9 K) (qV 0) A5) (u4 (u9 K hu) (qV 1) (qV 0) (fun _ _=>rfl)))))
   (z7 (p0 (i:=8) hN rfl (by walk_at "l") (q8 (q9 K) (qV 8) (C2 (own:=["_law_name"]) (js:=[3]) (by kernel_rfl) rfl (P9 K (qB (N1 K rfl) T.b_sorted Boot.«sorted» (g0 (u4 (u9 K hu) (u4 (u9 K hu) (qV 2) d0 (fun _ _=>rfl)) d0 (fun _ _=>rfl)) j0))) (fun _ _ _ _=>(P0 (i:=0) (show List.Nodup (["_law_name","_law_held"]:List Str) by decide+kernel) rfl (by walk_at "l"))) (fun _ _ _ _=>O2) (fun _ _ _ _=>(q8 (q9 K) (q8 (q9 K) (qV 0) A5) (u4 (u9 K hu) (qV 1) (qV 0) (fun _ _=>rfl)))))))
   (z7 (p0 (i:=9) hN rfl (by walk_at "l") A5)
   (z7 (aO (z6 (T7 K hr) (qV 8) (cv j0) (j8 _)) (B8 (p0 (i:=9) hN rfl (by walk_at "l") (qM PySem.F.plainAttrs_str PySem.F.slot_str_join PySem.F.type_str_join (D3 K) K A5 (g0 (qV 8) j0)))) aL)
   (B8 (aO (iW (W9 (z6 (T7 K hr) (qC S7 (hr.mono (by decide)) j1 (g0 (u4 (u9 K hu) (qV 2) d0 (fun _ _=>rfl)) (g0 (qV 7) j0))) (qV 9) (j8 _)) (U8 (z6 (T7 K hr) (qV 7) (qV 3) (j8 _))))) (B8 (x5 jA)) aL))))))))))))))))))
   (B8 (x5 jA))),?_⟩
  refine j5 fun nx1 hx=>?_
  walk_at "e"
  refine⟨b8 (by simp),fun l1 n1=>?_⟩
  obtain⟨H1,e1,f1,m1,_⟩:=b7 (o:= .lst _) n1
  rw[e1]
  walk_at "e"
  refine U7 (m1.seq hA) (fun l2 n2=>?_)
  obtain⟨cs,hcs,hcl⟩:=om ns none (some 16)
  rw[hcs]
  obtain⟨H2,e2,f2,m2,_⟩:=b7 (o:= .lst _) n2
  rw[e2]
  refine cg (m2 _ _ f1) f2 (b8 (by simp only[List.length_map,List.length_cons,List.length_nil];omega)) (fun l3 n3=>?_)
  obtain⟨H3,e3,f3,m3,_⟩:=b7 (o:= .lst _) n3
  rw[e3]
  have f3':H3 l3=some (.lst (((0:Int)::7::cs).map V.int)):=f3
  generalize (0:Int)::7::cs=xs at f3'
  refine o3 (SqL.of f3') ?_
  refine O7 (n:=xs.length) (fun i σ H'=>Same H3 H'∧∃v1 v2 v3 v4 v5 v6 v7 v8 v9,σ=[some (.ref a),v1,v2,v3,v4,v5,v6,v7,v8,v9]) ⟨Same.refl _,_,_,_,_,_,_,_,_,_,rfl⟩ (fun i σ H' hi hp=>⟨_,.int (xs[i]),SqL.of (hp.1 _ _ f3'),by rw[List.getElem?_map,List.getElem?_eq_getElem hi];rfl⟩) ?_ ?_
  ·rintro bk i v σ H4' H4 hi ⟨s4,v1,v2,v3,v4,v5,v6,v7,v8,v9,rfl⟩ y
   obtain⟨rfl,hx2⟩:=Itl.get y (SqL.of (s4 _ _ f3'))
   rw[List.getElem?_map,List.getElem?_eq_getElem hi] at hx2
   cases hx2
   generalize xs[i]=c0
   clear hx
   walk_at "e"
   refine j5 fun nx1 hx=>?_
   walk_at "e"
   generalize c0 % 10 ^ Int.toNat 60=c
   refine hx [some (.ref a),some (.int c),v2,v3,v4,v5,v6,v7,v8,v9] _ ?_
   clear hx
   refine j5 fun nx2 hx=>?_
   walk_at "e"
   refine⟨_,rfl,fun lk H5 ks _ m5 f5 hk=>?_⟩
   walk_at "e"
   refine⟨c,lk,ks,rfl,SqL.of f5,hk.1,hk.2,fun r bl L R bs H6 m6 hR hbl hP hO=>?_⟩
   have s46:=m5.trans m6
   walk_at "e"
   refine hx [some (.ref a),some (.int c),some (.ref r),v3,v4,v5,v6,v7,v8,v9] _ ?_
   clear hx
   refine j5 fun nx3 hx=>?_
   walk_at "e"
   refine⟨r,bl,L,R,bs,rfl,hR,hbl,hP.len,fun lh ss H7 m7 f7 hss pb _=>?_⟩
   obtain⟨A,B,sb,rfl,cA,cB,pb'⟩:∃A B sb,ss=A::B::sb∧Cw H6 A L∧Cw H6 B R∧Paired (Cw H6) sb bs:=by
    cases pb with
    |cons z1 t1=>
     cases t1 with
     |cons z2 t2=>exact⟨_,_,_,rfl,z1,z2,t2⟩
   have R7:=hR.same m7
   walk_at "e"
   refine hx [some (.ref a),some (.int c),some (.ref r),some (.ref lh),v4,v5,v6,v7,v8,v9] _ ?_
   clear hx
   have pA:PcW A.W:=by rw[cA.w];exact hP.l
   have pB:PcW B.W:=by rw[cB.w];exact hP.r
   have hsbl:=Paired.length pb'
   have hbl3:=hP.len
   have psb:∀b∈sb,PcW b.W:=fun b hb=>by
    obtain⟨j,hj⟩:=List.getElem?_of_mem hb
    obtain⟨d,hd,z⟩:=z8 pb' hj
    rw[z.w];exact hP.b d (List.mem_of_getElem? hd)
   refine j5 fun nx4 hx=>?_
   walk_at "e"
   refine⟨rfl,?_⟩
   walk_at "e"
   refine C3 (SqL.of f7) (b6 (j:=0) rfl) ?_
   walk_at "e"
   refine⟨A.a,A.p,A.q,A.kvs,A.W,rfl,(hss A List.mem_cons_self).to (Nat.le_trans pA.len (by omega)),pA.pc.good,fun H8 psa tsa m8 o8=>?_⟩
   have sA:ShT A.W (K0 psa tsa):=⟨_,_,o8,rfl⟩
   have hA4:=eF sA pA
   generalize K0 psa tsa=tA at sA hA4⊢
   walk_at "e"
   refine C3 (SqL.of (m8 _ _ f7)) (b6 (j:=1) rfl) ?_
   walk_at "e"
   refine⟨B.a,B.p,B.q,B.kvs,B.W,rfl,((hss B (List.mem_cons_of_mem _ List.mem_cons_self)).same m8).to (Nat.le_trans pB.len (by omega)),pB.pc.good,fun H9 psb' tsb m9 o9=>?_⟩
   have sB:ShT B.W (K0 psb' tsb):=⟨_,_,o9,rfl⟩
   have hB4:=eF sB pB
   generalize K0 psb' tsb=tB at sB hB4⊢
   walk_at "e"
   refine⟨b8 (by simp),fun l10 n10=>?_⟩
   obtain⟨H10,e10,f10,m10,_⟩:=b7 (o:= .lst _) n10
   rw[e10]
   have s710:=m8.trans (m9.trans m10)
   walk_at "e"
   refine⟨_,l10,[tA,tB],rfl,rfl,SqL.of f10,by decide+kernel,by simp,fun y hy=>?_,?_⟩
   ·rcases List.mem_cons.mp hy with rfl|hy
    ·omega
    ·rw[List.mem_singleton.mp hy];omega
   walk_at "e"
   have hg:(tA++(" > ":Str)++tB).length≤1000:=by
    rw[d7,d7,mj,show(⟨#[32,62,32]⟩:Str).length=3 from rfl];omega
   refine hx [some (.ref a),some (.int c),some (.ref r),some (.ref lh),some (.str (tA++(" > ":Str)++tB)),v5,v6,v7,v8,v9] _ ?_
   clear hx
   refine j5 fun nx5 hx=>?_
   walk_at "e"
   refine⟨rfl,?_⟩
   walk_at "e"
   refine⟨b8 (by simp),fun l11 n11=>?_⟩
   obtain⟨H11,e11,f11,m11,_⟩:=b7 (o:= .lst _) n11
   rw[e11]
   have s711:=s710.trans m11
   walk_at "e"
   refine U7 (SqL.of (s711 _ _ f7)) (fun l12 n12=>?_)
   rw[show S9 ((A::B::sb).map fun s=>V.ref s.a) (some 2) none=sb.map fun s=>V.ref s.a from vB _ _ _]
   obtain⟨H12,e12,f12,m12,_⟩:=b7 (o:= .lst _) n12
   rw[e12]
   have s712:=s711.trans m12
   refine o3 (SqL.of f12) ?_
   refine j4 (n:=sb.length) (fun i out H'=>Same H12 H'∧∃tb:List Str,out=tb.map V.str∧Paired (fun t b=>ShT b.W t) tb (sb.take i)) ⟨Same.refl _,[],rfl,.nil⟩ (fun i out H' hi hp=>⟨_,.ref (sb[i]).a,SqL.of (hp.1 _ _ f12),by rw[List.getElem?_map,List.getElem?_eq_getElem hi];rfl⟩) ?_ ?_
   ·rintro N i v out H13' H13 hi ⟨s13,tb,rfl,pt⟩ y hN'
    obtain⟨rfl,hx2⟩:=Itl.get y (SqL.of (s13 _ _ f12))
    rw[List.getElem?_map,List.getElem?_eq_getElem hi] at hx2
    cases hx2
    have hb:=List.getElem_mem hi
    have hpl:=Paired.length pt
    rw[List.length_take] at hpl
    have hbs:=(hss _ (List.mem_cons_of_mem _ (List.mem_cons_of_mem _ hb))).same (s712.trans s13)
    walk_at "e"
    refine⟨rfl,?_⟩
    walk_at "e"
    refine⟨_,_,_,_,_,rfl,hbs.to (Nat.le_trans (psb _ hb).len (by omega)),(psb _ hb).pc.good,fun H14 ps ts m14 o14=>?_⟩
    refine⟨b8 (by rw[List.length_map];omega),hN' _ _ ⟨s13.trans m14,tb++[K0 ps ts],by rw[List.map_append];rfl,?_⟩⟩
    rw[t7 (List.getElem?_eq_getElem hi)]
    exact r9 pt ⟨_,_,o14,rfl⟩
   rintro out H13 ⟨s13,tb,rfl,pt⟩
   rw[List.take_of_length_le (Nat.le_refl _)] at pt
   have hptl:=Paired.length pt
   refine⟨⟨_,SqL.of (s13 _ _ f12),by rw[List.length_map];exact Nat.le_refl _⟩,fun D hD=>⟨b8 (by rw[List.length_map];omega),?_⟩⟩
   obtain⟨H14,e14,f14,m14,_⟩:=b7 (H:=H13) (o:= .lst (tb.map V.str)) hD
   change bz K _ _ (n0 H13 D _) _
   rw[e14]
   have s1114:=m12.trans (s13.trans m14)
   refine cg (s1114 _ _ f11) f14 (b8 (by simp only[List.length_map,List.length_cons,List.length_nil];omega)) (fun l15 n15=>?_)
   obtain⟨H15,e15,f15,m15,_⟩:=b7 (o:= .lst _) n15
   rw[e15]
   have s715:=s711.trans (s1114.trans m15)
   walk_at "e"
   refine⟨_,l15,(tA++" > "++tB)::tb,rfl,rfl,SqL.of f15,by decide+kernel,by rw[List.length_cons];omega,fun y hy=>?_,?_⟩
   ·rcases List.mem_cons.mp hy with rfl|hy
    ·exact hg
    ·exact Nat.le_trans (vc pt psb y hy).1 (by omega)
   walk_at "e"
   refine hx [some (.ref a),some (.int c),some (.ref r),some (.ref lh),some (.str (bW tA tB tb)),v5,v6,v7,v8,v9] _ ?_
   clear hx
   rw[cA.w] at sA
   rw[cB.w] at sB
   have pt':=kA pt pb'
   refine j5 fun nx6 hx=>?_
   walk_at "e"
   refine⟨r,bl,L,R,bs,rfl,R7.same s715,hP,fun H16 tl tr tb' m16 sl sr pr=>?_⟩
   rw[sl.uniq hP.l.nd sA,sr.uniq hP.r.nd sB,mr pr pt' hP.b]
   have s716:=s715.trans m16
   walk_at "e"
   generalize htx:bW tA tB tb=tx
   refine hx [some (.ref a),some (.int c),some (.ref r),some (.ref lh),some (.str tx),some (.str tx),v6,v7,v8,v9] _ ?_
   clear hx
   refine j5 fun nx7 hx=>?_
   walk_at "e"
   refine M3 (M5 (t:="str") rfl (by simp) ?_)
   rw[show Y3 "str" "str"=true from rfl]
   walk_at "e"
   rw[decide_eq_true rfl]
   walk_at "e"
   refine⟨r,bl,L,R,bs,rfl,R7.same s716,(m7.trans s716) _ _ hbl,hP.len,fun lh2 ss2 H17 m17 f17 hss2 pb2 _=>?_⟩
   have s717:=s716.trans m17
   have hss7:∀s∈A::B::sb,SdIs K H17 s:=fun s hs=>(hss s hs).same s717
   have pbb:Paired Ck ss2 (A::B::sb):=dM pb2 (Paired.cons cA (.cons cB pb')) fun x y hy z h1 h2=>by
    have hy16:=(hss y hy).same s716
    exact⟨by rw[h1.w,h2.w],by rw[h1.w,h2.w],(d8 hy16.hp h1.p).symm,(d8 hy16.hq h1.q).symm⟩
   walk_at "e"
   refine .inr ⟨_,rn (SqL.of f17) (SqL.of (s717 _ _ f7)) hss2 hss7 pbb,?_⟩
   rw[aj]
   walk_at "e"
   refine hx [some (.ref a),some (.int c),some (.ref r),some (.ref lh),some (.str tx),some (.str tx),v6,v7,v8,v9] _ ?_
   clear hx
   have R17:=R7.same s717
   refine j5 fun nx8 hx=>?_
   walk_at "e"
   refine⟨L,R,bs,tA,tB,tb,by rw[htx];rfl,hP,hO,sA,sB,pt',fun r' bl' L' R' bs' H18 m18 hR' nbl cl cr cb=>?_⟩
   walk_at "e"
   refine hx [some (.ref a),some (.int c),some (.ref r),some (.ref lh),some (.str tx),some (.str tx),some (.ref r'),v7,v8,v9] _ ?_
   clear hx
   have R18:=R17.same m18
   refine j5 fun nx9 hx=>?_
   walk_at "e"
   refine M3 (M5 (t:="tuple") (.inr (.inl ⟨rfl,_,hR'.tup⟩)) (by simp) ?_)
   rw[fB]
   walk_at "e"
   refine E7 (av hR'.tup ?_)
   walk_at "e"
   rw[show(!decide ((([V.ref L'.a,V.ref R'.a,V.ref bl']:List V).length:Int)=3))=false from rfl]
   walk_at "e"
   refine b5 hR'.tup (b6 (j:=2) rfl) ?_
   walk_at "e"
   refine M3 (M5 (t:="list") (.inl ⟨rfl,_,hR'.bl⟩) (by simp) ?_)
   rw[show Y3 "list" "list"=true from rfl]
   walk_at "e"
   walk_at "e"
   refine .inr ⟨[true,true,true],qE R18 hR' (cl.ck R17.l) (cr.ck R17.r) (df cb fun x hx y hy z=>z.ck (R17.bars y hy)) (fun z=>by have q:=(m7.trans s717) _ _ hbl;rw[←z,nbl] at q;cases q),?_⟩
   rw[show(!([true,true,true]:List Bool).all id)=false from rfl]
   walk_at "e"
   refine hx [some (.ref a),some (.int c),some (.ref r),some (.ref lh),some (.str tx),some (.str tx),some (.ref r'),v7,v8,v9] _ ?_
   clear hx
   refine j5 fun nx10 hx=>?_
   walk_at "e"
   refine b5 R18.tup (b6 (j:=0) rfl) ?_
   walk_at "e"
   refine⟨L,_,rfl,R18.l,hP.l.len,fun d os H19 m19 f19 hol hon=>?_⟩
   have mok:=tS hP.l hol hon
   have hfst:((i6 L.W).zip os).map (·.1)=i6 L.W:=List.map_fst_zip (by omega)
   generalize (i6 L.W).zip os=ms at f19 mok hfst
   have ndm:(ms.map (·.1)).Nodup:=by rw[hfst];exact hP.l.nd
   have h8:=hP.l.len
   have h8':=h8
   rw[L9] at h8'
   walk_at "e"
   refine hx [some (.ref a),some (.int c),some (.ref r),some (.ref lh),some (.str tx),some (.str tx),some (.ref r'),some (.ref d),v8,v9] _ ?_
   clear hx
   refine j5 fun nx11 hx=>?_
   walk_at "e"
   refine O1 (.inl f19) (fun d2 nd2=>?_)
   obtain⟨H20,e20,f20,m20,_⟩:=b7 (o:= .dK _) nd2
   rw[e20]
   have R20:=R18.same (m19.trans m20)
   walk_at "e"
   refine hx [some (.ref a),some (.int c),some (.ref r),some (.ref d2),some (.str tx),some (.str tx),some (.ref r'),some (.ref d),v8,v9] _ ?_
   clear hx
   refine j5 fun nx12 hx=>?_
   walk_at "e"
   refine b5 R20.tup (b6 (j:=0) rfl) ?_
   walk_at "e"
   refine b5 R20.l.at_.tup (b6 (j:=0) rfl) ?_
   walk_at "e"
   refine x9 (ss:=L.W.pts.map (·.1)) R20.l.at_.pts (by rw[P5,A3]) (by rw[List.length_map];omega) (fun s1 a1 b1 l21 n21=>?_)
   obtain⟨H21,e21,f21,m21,_⟩:=b7 (o:= .lst _) n21
   rw[e21]
   have g1:=a1.length_eq
   rw[List.length_map] at g1
   refine o3 (SqL.of f21) ?_
   refine j4 (n:=s1.length) (fun i out H'=>H'=H21∧out=((s1.take i).map (iB ms)).map V.str) ⟨rfl,rfl⟩ (fun i out H' hi hp=>⟨s1.map V.str,.str (s1[i]),SqL.of (by rw[hp.1];exact f21),by rw[List.getElem?_map,List.getElem?_eq_getElem hi];rfl⟩) ?_ ?_
   ·rintro N i v out H22 H22' hi ⟨rfl,rfl⟩ y hN'
    obtain⟨rfl,hx2⟩:=Itl.get y (SqL.of f21)
    rw[List.getElem?_map,List.getElem?_eq_getElem hi] at hx2
    cases hx2
    have hn:s1[i]∈i6 L.W:=List.mem_append_left _ (a1.mem_iff.mp (List.getElem_mem hi))
    have hxi:=List.getElem?_eq_getElem hi
    generalize s1[i]=x at hn hxi⊢
    have z:=mok x hn
    walk_at "e"
    refine⟨rfl,?_⟩
    walk_at "e"
    refine i7 (i:=x) (b8 (by rw[jj,d6];omega)) ?_
    walk_at "e"
    refine yy (.inl (m21 _ _ f20)) z.1 ?_
    refine i7 (b8 (by rw[jj,d7,d6];omega)) ?_
    refine⟨b8 (by rw[List.length_map,List.length_map,List.length_take];omega),hN' _ _ ⟨rfl,?_⟩⟩
    rw[t7 hxi,List.map_append,List.map_append];rfl
   rintro out H22 ⟨rfl,rfl⟩
   refine⟨⟨_,SqL.of f21,by rw[List.length_map];exact Nat.le_refl _⟩,fun D hD=>⟨b8 (by rw[List.length_map,List.length_map,List.length_take];omega),?_⟩⟩
   rw[List.take_of_length_le (Nat.le_refl _)]
   obtain⟨H23,e23,f23,m23,_⟩:=b7 (H:=H22) (o:= .lst ((s1.map (iB ms)).map V.str)) hD
   change Z8 _ _ _ (n0 H22 D _) _
   rw[e23]
   walk_at "e"
   refine hx [some (.ref a),some (.int c),some (.ref r),some (.ref d2),some (.str tx),some (.str tx),some (.ref r'),some (.ref d),some (.ref D),v9] _ ?_
   clear hx
   have s2023:=m21.trans m23
   have R23:=R20.same s2023
   refine j5 fun nx13 hx=>?_
   walk_at "e"
   refine b5 R23.tup (b6 (j:=0) rfl) ?_
   walk_at "e"
   refine b5 R23.l.at_.tup (b6 (j:=1) rfl) ?_
   walk_at "e"
   refine x9 (ss:=L.W.ts.map (·.1)) R23.l.at_.ties (by rw[R23.l.at_.ts.keys,A3]) (by rw[List.length_map];omega) (fun s2 a2 b2 l24 n24=>?_)
   obtain⟨H24,e24,f24,m24,_⟩:=b7 (o:= .lst _) n24
   rw[e24]
   have g2:=a2.length_eq
   rw[List.length_map] at g2
   refine o3 (SqL.of f24) ?_
   refine j4 (n:=s2.length) (fun i out H'=>H'=H24∧out=((s2.take i).map (iB ms)).map V.str) ⟨rfl,rfl⟩ (fun i out H' hi hp=>⟨s2.map V.str,.str (s2[i]),SqL.of (by rw[hp.1];exact f24),by rw[List.getElem?_map,List.getElem?_eq_getElem hi];rfl⟩) ?_ ?_
   ·rintro N i v out H25 H25' hi ⟨rfl,rfl⟩ y hN'
    obtain⟨rfl,hx2⟩:=Itl.get y (SqL.of f24)
    rw[List.getElem?_map,List.getElem?_eq_getElem hi] at hx2
    cases hx2
    have hn:s2[i]∈i6 L.W:=List.mem_append_right _ (a2.mem_iff.mp (List.getElem_mem hi))
    have hxi:=List.getElem?_eq_getElem hi
    generalize s2[i]=x at hn hxi⊢
    have z:=mok x hn
    walk_at "e"
    refine⟨rfl,?_⟩
    walk_at "e"
    refine i7 (i:=x) (b8 (by rw[jj,d6];omega)) ?_
    walk_at "e"
    refine yy (.inl ((s2023.trans m24) _ _ f20)) z.1 ?_
    refine i7 (b8 (by rw[jj,d7,d6];omega)) ?_
    refine⟨b8 (by rw[List.length_map,List.length_map,List.length_take];omega),hN' _ _ ⟨rfl,?_⟩⟩
    rw[t7 hxi,List.map_append,List.map_append];rfl
   rintro out H25 ⟨rfl,rfl⟩
   refine⟨⟨_,SqL.of f24,by rw[List.length_map];exact Nat.le_refl _⟩,fun D2 hD2=>⟨b8 (by rw[List.length_map,List.length_map,List.length_take];omega),?_⟩⟩
   rw[List.take_of_length_le (Nat.le_refl _)]
   obtain⟨H26,e26,f26,m26,_⟩:=b7 (H:=H25) (o:= .lst ((s2.map (iB ms)).map V.str)) hD2
   change bz K _ _ (n0 H25 D2 _) _
   rw[e26]
   have s2326:=m24.trans m26
   refine cg (s2326 _ _ f23) f26 (b8 (by simp only[List.length_map];omega)) (fun l27 n27=>?_)
   rw[←List.map_append,←List.map_append]
   obtain⟨H27,e27,f27,m27,_⟩:=b7 (o:= .lst _) n27
   rw[e27]
   have s2027:=s2023.trans (s2326.trans m27)
   have oW:Ordr L.W s1 s2:=⟨a1,a2,b1,b2⟩
   have owl:=oW.len
   have owm:∀n∈s1++s2,n∈i6 L.W:=fun n hn=>oW.mem.mp hn
   generalize hs12:s1++s2=s12 at f27 owl owm
   walk_at "e"
   refine hx [some (.ref a),some (.int c),some (.ref r),some (.ref d2),some (.str tx),some (.str tx),some (.ref r'),some (.ref d),some (.ref l27),v9] _ ?_
   clear hx
   refine j5 fun nx14 hx=>?_
   walk_at "e"
   refine hx [some (.ref a),some (.int c),some (.ref r),some (.ref d2),some (.str tx),some (.str tx),some (.ref r'),some (.ref d),some (.ref l27),some (.str ("-":Str))] _ ?_
   clear hx
   refine rS (fun σ H'=>Same H27 H'∧σ=[some (.ref a),some (.int c),some (.ref r),some (.ref d2),some (.str tx),some (.str tx),some (.ref r'),some (.ref d),some (.ref l27),some (.str (M6 (s12.map (iB ms))))]) ?_ ?_
   ·rintro σ H28 ⟨m28,rfl⟩
    have R28:=R20.same (s2027.trans m28)
    have q19:=(m20.trans (s2027.trans m28)) _ _ f19
    have q20:=(s2027.trans m28) _ _ f20
    walk_at "e"
    refine b5 R28.tup (b6 (j:=0) rfl) ?_
    walk_at "e"
    refine⟨L,d,ms,rfl,R28.l,q19,mok,h8,fun t1 t2 H29 m29 ot=>?_⟩
    obtain⟨et1,et2⟩:=oW.uniq ot (List.Perm.refl _) (List.Perm.refl _) hP.l.nd
    rw[et1,et2,hs12]
    walk_at "e"
    rw[decide_eq_true rfl]
    walk_at "e"
    refine qy (m29 _ _ q19) (m29 _ _ q20) ndm ?_
    walk_at "e"
    exact⟨s4.trans (s46.trans (m7.trans (s717.trans (m18.trans (m19.trans (m20.trans (s2027.trans (m28.trans m29)))))))),_,_,_,_,_,_,_,_,_,rfl⟩
   ·intro nx hn
    walk_at "e"
    refine⟨b8 (by simp),fun l28 n28=>?_⟩
    obtain⟨H28,e28,f28,m28,_⟩:=b7 (o:= .lst []) n28
    rw[e28]
    refine sY (ij (SqL.of (m28 _ _ f27)) (SqL.of f28) (dN _) rfl ?_)
    have hem:Q0 ((s12.map (iB ms)).map V.str) []=decide (s12.map (iB ms)=[]):=by cases s12<;>rfl
    rw[hem]
    walk_at "e"
    refine ox (fun c2=>?_) (fun c2=>?_)
    ·walk_at "e"
     refine⟨rfl,?_⟩
     walk_at "e"
     refine⟨_,l27,s12.map (iB ms),rfl,rfl,SqL.of (m28 _ _ f27),by decide+kernel,by rw[List.length_map];omega,fun y hy=>?_,?_⟩
     ·obtain⟨n,hn',rfl⟩:=List.mem_map.mp hy
      exact Nat.le_trans (jH mok (owm n hn')) (by omega)
     walk_at "e"
     refine hn _ _ ⟨m28,?_⟩
     rw[mL c2];rfl
    ·walk_at "e"
     refine hn _ _ ⟨m28,?_⟩
     rw[c2];rfl
  ·rintro σ H4 ⟨s4,v1,v2,v3,v4,v5,v6,v7,v8,v9,rfl⟩
   refine⟨⟨_,SqL.of (s4 _ _ f3'),by rw[List.length_map];exact Nat.le_refl _⟩,?_⟩
   walk_at "e"
   refine hx [some (.ref a),v1,v2,v3,v4,v5,v6,v7,v8,v9] _ ?_
   clear hx
   walk_at "e"
   exact k _
end
theorem all_mk {l:PySem.W.OpenLaw}{w:World}{K:PySem.W.Frag}{h:Heap}{mg:Str→Option Value}{fa f0 f1 f2 f3 f4 f5 f6 f7 f8 f9 f10 f11 f12 f13 f14 f15 f16 f17 f18 f19 f20 f21 f22 f23 f24 f25 f26 f27 f28 f29 f30 f31 f32:Addr}{od0 an0 od1 an1 od2 an2 od3 an3 od4 an4 od5 an5 od6 an6 od7 an7 od8 an8 od9 an9 od10 an10 od11 an11 od12 an12 od13 an13 od14 an14 od15 an15 od16 an16 od17 an17 od18 an18 od19 an19 od20 an20 od21 an21 od22 an22 od23 an23 od24 an24 od25 an25 od26 an26 od27 an27 od28 an28 od29 an29 od30 an30 od31 an31 od32 an32:Option Addr}{sl0 sl1 sl2 sl3 sl4 sl5 sl6 sl7 sl8 sl9 sl10 sl11 sl12 sl13 sl14 sl15 sl16 sl17 sl18 sl19 sl20 sl21 sl22 sl23 sl24 sl25 sl26 sl27 sl28 sl29 sl30 sl31 sl32:Array (Option Value)}{oc0 kV0 dc0 pm0 cd0 ct0 oc1 kV1 dc1 pm1 cd1 ct1 oc2 kV2 dc2 pm2 cd2 ct2 oc3 kV3 dc3 pm3 cd3 ct3 oc4 kV4 dc4 pm4 cd4 ct4 oc5 kV5 dc5 pm5 cd5 ct5 oc6 kV6 dc6 pm6 cd6 ct6 oc7 kV7 dc7 pm7 cd7 ct7 oc8 kV8 dc8 pm8 cd8 ct8 oc9 kV9 dc9 pm9 cd9 ct9 oc10 kV10 dc10 pm10 cd10 ct10 oc11 kV11 dc11 pm11 cd11 ct11 oc12 kV12 dc12 pm12 cd12 ct12 oc13 kV13 dc13 pm13 cd13 ct13 oc14 kV14 dc14 pm14 cd14 ct14 oc15 kV15 dc15 pm15 cd15 ct15 oc16 kV16 dc16 pm16 cd16 ct16 oc17 kV17 dc17 pm17 cd17 ct17 oc18 kV18 dc18 pm18 cd18 ct18 oc19 kV19 dc19 pm19 cd19 ct19 oc20 kV20 dc20 pm20 cd20 ct20 oc21 kV21 dc21 pm21 cd21 ct21 oc22 kV22 dc22 pm22 cd22 ct22 oc23 kV23 dc23 pm23 cd23 ct23 oc24 kV24 dc24 pm24 cd24 ct24 oc25 kV25 dc25 pm25 cd25 ct25 oc26 kV26 dc26 pm26 cd26 ct26 oc27 kV27 dc27 pm27 cd27 ct27 oc28 kV28 dc28 pm28 cd28 ct28 oc29 kV29 dc29 pm29 cd29 ct29 oc30 kV30 dc30 pm30 cd30 ct30 oc31 kV31 dc31 pm31 cd31 ct31 oc32 kV32 dc32 pm32 cd32 ct32:Value}{t_MOST_BARS t_MOST_IN_BAR t_MOST_IN_SIDE t_MOST_KIND_SIGNS t_MOST_NAME_SIGNS t_MOST_POINTS t_MOST_TIES t_NAME_SIGNS t_NOTHING t_SMALL_LETTERS:Tok}{C_NoText:Addr}(X:K.In h)(G:h.Ns mainGlobals mg)(hfa:mg "law"=some (.ref fa))
  (a0:PySem.W.nsIn K mainGlobals "is_text_of"=some (some (.ref f0))) (l0:K.lookup f0=some ⟨oc0,od0,.func (PySem.W.fnOf "is_text_of" "is_text_of" (i8 C9) (i4 C9) (b0 C9) .none kV0 dc0 pm0 an0 cd0 ct0),sl0⟩) (c0:PySem.W.codeIn K cd0 "is_text_of"=true) (k0:PySem.W.keepIn K (.ref f0)=true)
  (a1:PySem.W.nsIn K mainGlobals "is_name"=some (some (.ref f1))) (l1:K.lookup f1=some ⟨oc1,od1,.func (PySem.W.fnOf "is_name" "is_name" (i8 N4) (i4 N4) (b0 N4) .none kV1 dc1 pm1 an1 cd1 ct1),sl1⟩) (c1:PySem.W.codeIn K cd1 "is_name"=true) (k1:PySem.W.keepIn K (.ref f1)=true)
  (a2:PySem.W.nsIn K mainGlobals "is_kind"=some (some (.ref f2))) (l2:K.lookup f2=some ⟨oc2,od2,.func (PySem.W.fnOf "is_kind" "is_kind" (i8 N2) (i4 N2) (b0 N2) .none kV2 dc2 pm2 an2 cd2 ct2),sl2⟩) (c2:PySem.W.codeIn K cd2 "is_kind"=true) (k2:PySem.W.keepIn K (.ref f2)=true)
  (a3:PySem.W.nsIn K mainGlobals "is_tie"=some (some (.ref f3))) (l3:K.lookup f3=some ⟨oc3,od3,.func (PySem.W.fnOf "is_tie" "is_tie" (i8 U1) (i4 U1) (b0 U1) .none kV3 dc3 pm3 an3 cd3 ct3),sl3⟩) (c3:PySem.W.codeIn K cd3 "is_tie"=true) (k3:PySem.W.keepIn K (.ref f3)=true)
  (a4:PySem.W.nsIn K mainGlobals "is_web"=some (some (.ref f4))) (l4:K.lookup f4=some ⟨oc4,od4,.func (PySem.W.fnOf "is_web" "is_web" (i8 V2) (i4 V2) (b0 V2) .none kV4 dc4 pm4 an4 cd4 ct4),sl4⟩) (c4:PySem.W.codeIn K cd4 "is_web"=true) (k4:PySem.W.keepIn K (.ref f4)=true)
  (a5:PySem.W.nsIn K mainGlobals "in_order"=some (some (.ref f5))) (l5:K.lookup f5=some ⟨oc5,od5,.func (PySem.W.fnOf "in_order" "in_order" (i8 K9) (i4 K9) (b0 K9) .none kV5 dc5 pm5 an5 cd5 ct5),sl5⟩) (c5:PySem.W.codeIn K cd5 "in_order"=true) (k5:PySem.W.keepIn K (.ref f5)=true)
  (a6:PySem.W.nsIn K mainGlobals "copied"=some (some (.ref f6))) (l6:K.lookup f6=some ⟨oc6,od6,.func (PySem.W.fnOf "copied" "copied" (i8 U5) (i4 U5) (b0 U5) .none kV6 dc6 pm6 an6 cd6 ct6),sl6⟩) (c6:PySem.W.codeIn K cd6 "copied"=true) (k6:PySem.W.keepIn K (.ref f6)=true)
  (a7:PySem.W.nsIn K mainGlobals "things"=some (some (.ref f7))) (l7:K.lookup f7=some ⟨oc7,od7,.func (PySem.W.fnOf "things" "things" (i8 T9) (i4 T9) (b0 T9) .none kV7 dc7 pm7 an7 cd7 ct7),sl7⟩) (c7:PySem.W.codeIn K cd7 "things"=true) (k7:PySem.W.keepIn K (.ref f7)=true)
  (a8:PySem.W.nsIn K mainGlobals "is_part"=some (some (.ref f8))) (l8:K.lookup f8=some ⟨oc8,od8,.func (PySem.W.fnOf "is_part" "is_part" (i8 N6) (i4 N6) (b0 N6) .none kV8 dc8 pm8 an8 cd8 ct8),sl8⟩) (c8:PySem.W.codeIn K cd8 "is_part"=true) (k8:PySem.W.keepIn K (.ref f8)=true)
  (a9:PySem.W.nsIn K mainGlobals "is_piece"=some (some (.ref f9))) (l9:K.lookup f9=some ⟨oc9,od9,.func (PySem.W.fnOf "is_piece" "is_piece" (i8 K8) (i4 K8) (b0 K8) .none kV9 dc9 pm9 an9 cd9 ct9),sl9⟩) (c9:PySem.W.codeIn K cd9 "is_piece"=true) (k9:PySem.W.keepIn K (.ref f9)=true)
  (a10:PySem.W.nsIn K mainGlobals "is_same"=some (some (.ref f10))) (l10:K.lookup f10=some ⟨oc10,od10,.func (PySem.W.fnOf "is_same" "is_same" (i8 N7) (i4 N7) (b0 N7) .none kV10 dc10 pm10 an10 cd10 ct10),sl10⟩) (c10:PySem.W.codeIn K cd10 "is_same"=true) (k10:PySem.W.keepIn K (.ref f10)=true)
  (a11:PySem.W.nsIn K mainGlobals "both"=some (some (.ref f11))) (l11:K.lookup f11=some ⟨oc11,od11,.func (PySem.W.fnOf "both" "both" (i8 bD) (i4 bD) (b0 bD) .none kV11 dc11 pm11 an11 cd11 ct11),sl11⟩) (c11:PySem.W.codeIn K cd11 "both"=true) (k11:PySem.W.keepIn K (.ref f11)=true)
  (a12:PySem.W.nsIn K mainGlobals "is_rule"=some (some (.ref f12))) (l12:K.lookup f12=some ⟨oc12,od12,.func (PySem.W.fnOf "is_rule" "is_rule" (i8 N3) (i4 N3) (b0 N3) .none kV12 dc12 pm12 an12 cd12 ct12),sl12⟩) (c12:PySem.W.codeIn K cd12 "is_rule"=true) (k12:PySem.W.keepIn K (.ref f12)=true)
  (a13:PySem.W.nsIn K mainGlobals "joined"=some (some (.ref f13))) (l13:K.lookup f13=some ⟨oc13,od13,.func (PySem.W.fnOf "joined" "joined" (i8 V5) (i4 V5) (b0 V5) .none kV13 dc13 pm13 an13 cd13 ct13),sl13⟩) (c13:PySem.W.codeIn K cd13 "joined"=true) (k13:PySem.W.keepIn K (.ref f13)=true)
  (a14:PySem.W.nsIn K mainGlobals "point_shown"=some (some (.ref f14))) (l14:K.lookup f14=some ⟨oc14,od14,.func (PySem.W.fnOf "point_shown" "point_shown" (i8 B5) (i4 B5) (b0 B5) .none kV14 dc14 pm14 an14 cd14 ct14),sl14⟩) (c14:PySem.W.codeIn K cd14 "point_shown"=true) (k14:PySem.W.keepIn K (.ref f14)=true)
  (a15:PySem.W.nsIn K mainGlobals "tie_shown"=some (some (.ref f15))) (l15:K.lookup f15=some ⟨oc15,od15,.func (PySem.W.fnOf "tie_shown" "tie_shown" (i8 G8) (i4 G8) (b0 G8) .none kV15 dc15 pm15 an15 cd15 ct15),sl15⟩) (c15:PySem.W.codeIn K cd15 "tie_shown"=true) (k15:PySem.W.keepIn K (.ref f15)=true)
  (a16:PySem.W.nsIn K mainGlobals "web_shown"=some (some (.ref f16))) (l16:K.lookup f16=some ⟨oc16,od16,.func (PySem.W.fnOf "web_shown" "web_shown" (i8 G7) (i4 G7) (b0 G7) .none kV16 dc16 pm16 an16 cd16 ct16),sl16⟩) (c16:PySem.W.codeIn K cd16 "web_shown"=true) (k16:PySem.W.keepIn K (.ref f16)=true)
  (a17:PySem.W.nsIn K mainGlobals "rule_shown"=some (some (.ref f17))) (l17:K.lookup f17=some ⟨oc17,od17,.func (PySem.W.fnOf "rule_shown" "rule_shown" (i8 D7) (i4 D7) (b0 D7) .none kV17 dc17 pm17 an17 cd17 ct17),sl17⟩) (c17:PySem.W.codeIn K cd17 "rule_shown"=true) (k17:PySem.W.keepIn K (.ref f17)=true)
  (a18:PySem.W.nsIn K mainGlobals "match_shown"=some (some (.ref f18))) (l18:K.lookup f18=some ⟨oc18,od18,.func (PySem.W.fnOf "match_shown" "match_shown" (i8 B1) (i4 B1) (b0 B1) .none kV18 dc18 pm18 an18 cd18 ct18),sl18⟩) (c18:PySem.W.codeIn K cd18 "match_shown"=true) (k18:PySem.W.keepIn K (.ref f18)=true)
  (a19:PySem.W.nsIn K mainGlobals "thing_read"=some (some (.ref f19))) (l19:K.lookup f19=some ⟨oc19,od19,.func (PySem.W.fnOf "thing_read" "thing_read" (i8 D1) (i4 D1) (b0 D1) .none kV19 dc19 pm19 an19 cd19 ct19),sl19⟩) (c19:PySem.W.codeIn K cd19 "thing_read"=true) (k19:PySem.W.keepIn K (.ref f19)=true)
  (a20:PySem.W.nsIn K mainGlobals "things_read"=some (some (.ref f20))) (l20:K.lookup f20=some ⟨oc20,od20,.func (PySem.W.fnOf "things_read" "things_read" (i8 B7) (i4 B7) (b0 B7) .none kV20 dc20 pm20 an20 cd20 ct20),sl20⟩) (c20:PySem.W.codeIn K cd20 "things_read"=true) (k20:PySem.W.keepIn K (.ref f20)=true)
  (a21:PySem.W.nsIn K mainGlobals "web_read"=some (some (.ref f21))) (l21:K.lookup f21=some ⟨oc21,od21,.func (PySem.W.fnOf "web_read" "web_read" (i8 L5) (i4 L5) (b0 L5) .none kV21 dc21 pm21 an21 cd21 ct21),sl21⟩) (c21:PySem.W.codeIn K cd21 "web_read"=true) (k21:PySem.W.keepIn K (.ref f21)=true)
  (a22:PySem.W.nsIn K mainGlobals "rule_read"=some (some (.ref f22))) (l22:K.lookup f22=some ⟨oc22,od22,.func (PySem.W.fnOf "rule_read" "rule_read" (i8 G5) (i4 G5) (b0 G5) .none kV22 dc22 pm22 an22 cd22 ct22),sl22⟩) (c22:PySem.W.codeIn K cd22 "rule_read"=true) (k22:PySem.W.keepIn K (.ref f22)=true)
  (a23:PySem.W.nsIn K mainGlobals "_law_mixed"=some (some (.ref f23))) (l23:K.lookup f23=some ⟨oc23,od23,.func (PySem.W.fnOf "_law_mixed" "_law_mixed" (i8 E5) (i4 E5) (b0 E5) .none kV23 dc23 pm23 an23 cd23 ct23),sl23⟩) (c23:PySem.W.codeIn K cd23 "_law_mixed"=true) (k23:PySem.W.keepIn K (.ref f23)=true)
  (a24:PySem.W.nsIn K mainGlobals "_law_names"=some (some (.ref f24))) (l24:K.lookup f24=some ⟨oc24,od24,.func (PySem.W.fnOf "_law_names" "_law_names" (i8 E3) (i4 E3) (b0 E3) .none kV24 dc24 pm24 an24 cd24 ct24),sl24⟩) (c24:PySem.W.codeIn K cd24 "_law_names"=true) (k24:PySem.W.keepIn K (.ref f24)=true)
  (a25:PySem.W.nsIn K mainGlobals "_law_kinds"=some (some (.ref f25))) (l25:K.lookup f25=some ⟨oc25,od25,.func (PySem.W.fnOf "_law_kinds" "_law_kinds" (i8 C6) (i4 C6) (b0 C6) .none kV25 dc25 pm25 an25 cd25 ct25),sl25⟩) (c25:PySem.W.codeIn K cd25 "_law_kinds"=true) (k25:PySem.W.keepIn K (.ref f25)=true)
  (a26:PySem.W.nsIn K mainGlobals "_law_words"=some (some (.ref f26))) (l26:K.lookup f26=some ⟨oc26,od26,.func (PySem.W.fnOf "_law_words" "_law_words" (i8 C7) (i4 C7) (b0 C7) .none kV26 dc26 pm26 an26 cd26 ct26),sl26⟩) (c26:PySem.W.codeIn K cd26 "_law_words"=true) (k26:PySem.W.keepIn K (.ref f26)=true)
  (a27:PySem.W.nsIn K mainGlobals "_law_piece"=some (some (.ref f27))) (l27:K.lookup f27=some ⟨oc27,od27,.func (PySem.W.fnOf "_law_piece" "_law_piece" (i8 E2) (i4 E2) (b0 E2) .none kV27 dc27 pm27 an27 cd27 ct27),sl27⟩) (c27:PySem.W.codeIn K cd27 "_law_piece"=true) (k27:PySem.W.keepIn K (.ref f27)=true)
  (a28:PySem.W.nsIn K mainGlobals "_law_rule"=some (some (.ref f28))) (l28:K.lookup f28=some ⟨oc28,od28,.func (PySem.W.fnOf "_law_rule" "_law_rule" (i8 I0) (i4 I0) (b0 I0) .none kV28 dc28 pm28 an28 cd28 ct28),sl28⟩) (c28:PySem.W.codeIn K cd28 "_law_rule"=true) (k28:PySem.W.keepIn K (.ref f28)=true)
  (a29:PySem.W.nsIn K mainGlobals "_law_shown"=some (some (.ref f29))) (l29:K.lookup f29=some ⟨oc29,od29,.func (PySem.W.fnOf "_law_shown" "_law_shown" (i8 D4) (i4 D4) (b0 D4) .none kV29 dc29 pm29 an29 cd29 ct29),sl29⟩) (c29:PySem.W.codeIn K cd29 "_law_shown"=true) (k29:PySem.W.keepIn K (.ref f29)=true)
  (a30:PySem.W.nsIn K mainGlobals "_law_kept"=some (some (.ref f30))) (l30:K.lookup f30=some ⟨oc30,od30,.func (PySem.W.fnOf "_law_kept" "_law_kept" (i8 I9) (i4 I9) (b0 I9) .none kV30 dc30 pm30 an30 cd30 ct30),sl30⟩) (c30:PySem.W.codeIn K cd30 "_law_kept"=true) (k30:PySem.W.keepIn K (.ref f30)=true)
  (a31:PySem.W.nsIn K mainGlobals "_law_match"=some (some (.ref f31))) (l31:K.lookup f31=some ⟨oc31,od31,.func (PySem.W.fnOf "_law_match" "_law_match" (i8 D9) (i4 D9) (b0 D9) .none kV31 dc31 pm31 an31 cd31 ct31),sl31⟩) (c31:PySem.W.codeIn K cd31 "_law_match"=true) (k31:PySem.W.keepIn K (.ref f31)=true)
  (a32:PySem.W.nsIn K mainGlobals "law"=some (some (.ref f32))) (l32:K.lookup f32=some ⟨oc32,od32,.func (PySem.W.fnOf "law" "law" (i8 bq) (i4 bq) (b0 bq) .none kV32 dc32 pm32 an32 cd32 ct32),sl32⟩) (c32:PySem.W.codeIn K cd32 "law"=true) (vn:PySem.W.keepIn K (.ref f32)=true)
  (z_all:PySem.W.nsIn K mainGlobals "all"=some none)
  (z_dict:PySem.W.nsIn K mainGlobals "dict"=some none)
  (z_enumerate:PySem.W.nsIn K mainGlobals "enumerate"=some none)
  (z_isinstance:PySem.W.nsIn K mainGlobals "isinstance"=some none)
  (z_len:PySem.W.nsIn K mainGlobals "len"=some none)
  (z_list:PySem.W.nsIn K mainGlobals "list"=some none)
  (z_range:PySem.W.nsIn K mainGlobals "range"=some none)
  (z_sorted:PySem.W.nsIn K mainGlobals "sorted"=some none)
  (z_str:PySem.W.nsIn K mainGlobals "str"=some none)
  (z_tuple:PySem.W.nsIn K mainGlobals "tuple"=some none)
  (z_zip:PySem.W.nsIn K mainGlobals "zip"=some none)
  (v_MOST_BARS:PySem.W.nsIn K mainGlobals "MOST_BARS"=some (some (.int 3 t_MOST_BARS)))
  (v_MOST_IN_BAR:PySem.W.nsIn K mainGlobals "MOST_IN_BAR"=some (some (.int 6 t_MOST_IN_BAR)))
  (v_MOST_IN_SIDE:PySem.W.nsIn K mainGlobals "MOST_IN_SIDE"=some (some (.int 4 t_MOST_IN_SIDE)))
  (v_MOST_KIND_SIGNS:PySem.W.nsIn K mainGlobals "MOST_KIND_SIGNS"=some (some (.int 8 t_MOST_KIND_SIGNS)))
  (v_MOST_NAME_SIGNS:PySem.W.nsIn K mainGlobals "MOST_NAME_SIGNS"=some (some (.int 24 t_MOST_NAME_SIGNS)))
  (v_MOST_POINTS:PySem.W.nsIn K mainGlobals "MOST_POINTS"=some (some (.int 40 t_MOST_POINTS)))
  (v_MOST_TIES:PySem.W.nsIn K mainGlobals "MOST_TIES"=some (some (.int 60 t_MOST_TIES)))
  (v_NAME_SIGNS:PySem.W.nsIn K mainGlobals "NAME_SIGNS"=some (some (.str bc t_NAME_SIGNS)))
  (v_NOTHING:PySem.W.nsIn K mainGlobals "NOTHING"=some (some (.str ai t_NOTHING)))
  (v_SMALL_LETTERS:PySem.W.nsIn K mainGlobals "SMALL_LETTERS"=some (some (.str Y2 t_SMALL_LETTERS)))
  (n_NoText:PySem.W.nsIn K mainGlobals "NoText"=some (some (.ref C_NoText)))
  (xr_NoText:PySem.W.excIn K C_NoText yw "ValueError.__new__"=true)
  :
  ∃fd:FuncData,(∀(s:Shared) (v:Value),BindsTo s fd ⟨[v],[]⟩ [("_law_script",v)])∧∀base:Heap,K.In base→base.Ns mainGlobals mg→FnOk l.prog w K mg base x6 8 fa fd ["_law_script"] (fm K):=by
 have e:=hfa.symm.trans (PySem.W.mg_of X G a32)
 cases e
 have ec_NoText:cA K "NoText"=C_NoText:=by unfold cA;rw[n_NoText]
 have T:Txt K mg:=⟨by rw[ec_NoText];exact⟨PySem.W.mg_of X G n_NoText,xr_NoText⟩,PySem.W.mg_none_of X G z_all,PySem.W.mg_none_of X G z_dict,PySem.W.mg_none_of X G z_enumerate,PySem.W.mg_none_of X G z_isinstance,PySem.W.mg_none_of X G z_len,PySem.W.mg_none_of X G z_list,PySem.W.mg_none_of X G z_range,PySem.W.mg_none_of X G z_sorted,PySem.W.mg_none_of X G z_str,PySem.W.mg_none_of X G z_tuple,PySem.W.mg_none_of X G z_zip,⟨_,PySem.W.mg_of X G v_MOST_BARS,_,rfl⟩,⟨_,PySem.W.mg_of X G v_MOST_IN_BAR,_,rfl⟩,⟨_,PySem.W.mg_of X G v_MOST_IN_SIDE,_,rfl⟩,⟨_,PySem.W.mg_of X G v_MOST_KIND_SIGNS,_,rfl⟩,⟨_,PySem.W.mg_of X G v_MOST_NAME_SIGNS,_,rfl⟩,⟨_,PySem.W.mg_of X G v_MOST_POINTS,_,rfl⟩,⟨_,PySem.W.mg_of X G v_MOST_TIES,_,rfl⟩,⟨_,PySem.W.mg_of X G v_NAME_SIGNS,_,rfl⟩,⟨_,PySem.W.mg_of X G v_NOTHING,_,rfl⟩,⟨_,PySem.W.mg_of X G v_SMALL_LETTERS,_,rfl⟩⟩
 have F0:=j3 (st:=C9) l0 c0 k0
 have F1:=j3 (st:=N4) l1 c1 k1
 have F2:=j3 (st:=N2) l2 c2 k2
 have F3:=j3 (st:=U1) l3 c3 k3
 have F4:=j3 (st:=V2) l4 c4 k4
 have F5:=j3 (st:=K9) l5 c5 k5
 have F6:=j3 (st:=U5) l6 c6 k6
 have F7:=j3 (st:=T9) l7 c7 k7
 have F8:=j3 (st:=N6) l8 c8 k8
 have F9:=j3 (st:=K8) l9 c9 k9
 have F10:=j3 (st:=N7) l10 c10 k10
 have F11:=j3 (st:=bD) l11 c11 k11
 have F12:=j3 (st:=N3) l12 c12 k12
 have F13:=j3 (st:=V5) l13 c13 k13
 have F14:=j3 (st:=B5) l14 c14 k14
 have F15:=j3 (st:=G8) l15 c15 k15
 have F16:=j3 (st:=G7) l16 c16 k16
 have F17:=j3 (st:=D7) l17 c17 k17
 have F18:=j3 (st:=B1) l18 c18 k18
 have F19:=j3 (st:=D1) l19 c19 k19
 have F20:=j3 (st:=B7) l20 c20 k20
 have F21:=j3 (st:=L5) l21 c21 k21
 have F22:=j3 (st:=G5) l22 c22 k22
 have F23:=j3 (st:=E5) l23 c23 k23
 have F24:=j3 (st:=E3) l24 c24 k24
 have F25:=j3 (st:=C6) l25 c25 k25
 have F26:=j3 (st:=C7) l26 c26 k26
 have F27:=j3 (st:=E2) l27 c27 k27
 have F28:=j3 (st:=I0) l28 c28 k28
 have F29:=j3 (st:=D4) l29 c29 k29
 have F30:=j3 (st:=I9) l30 c30 k30
 have F31:=j3 (st:=D9) l31 c31 k31
 have F32:=j3 (st:=bq) l32 c32 vn
 refine⟨PySem.W.fnOf "law" "law" (i8 bq) (i4 bq) (b0 bq) .none kV32 dc32 pm32 an32 cd32 ct32,fun s v=> .of_eq rfl,fun base _ _=>?_⟩
 have C8:A7 l.prog w K mg base x6 1 "is_text_of" ["thing","signs","most"] [] (L8 K):=⟨f0,_,[],dY T F0,PySem.W.mg_of X G a0,k0,F0.binds (ps:=["thing","signs","most"]) fun _ _ _ _ _ _ us hl=>match us,hl with|[_,_,_],_=>rfl,.nil⟩
 have X0:A7 l.prog w K mg base x6 1 "in_order" ["named"] [] (aa K):=⟨f5,_,[],hJ T F5,PySem.W.mg_of X G a5,k5,F5.binds (ps:=["named"]) fun _ _ _ _ _ _ us hl=>match us,hl with|[_],_=>rfl,.nil⟩
 have J6:A7 l.prog w K mg base x6 1 "things" ["web"] [] (U9 K):=⟨f7,_,[],lH T F7,PySem.W.mg_of X G a7,k7,F7.binds (ps:=["web"]) fun _ _ _ _ _ _ us hl=>match us,hl with|[_],_=>rfl,.nil⟩
 have bH:A7 l.prog w K mg base x6 1 "is_part" ["web","other"] [] (aQ K):=⟨f8,_,[],iS T F8,PySem.W.mg_of X G a8,k8,F8.binds (ps:=["web","other"]) fun _ _ _ _ _ _ us hl=>match us,hl with|[_,_],_=>rfl,.nil⟩
 have bN:A7 l.prog w K mg base x6 1 "is_same" ["name","left","right"] [] (aH K):=⟨f10,_,[],iM T F10,PySem.W.mg_of X G a10,k10,F10.binds (ps:=["name","left","right"]) fun _ _ _ _ _ _ us hl=>match us,hl with|[_,_,_],_=>rfl,.nil⟩
 have U6:A7 l.prog w K mg base x6 1 "joined" ["texts"] [] (ar K):=⟨f13,_,[],la T F13,PySem.W.mg_of X G a13,k13,F13.binds (ps:=["texts"]) fun _ _ _ _ _ _ us hl=>match us,hl with|[_],_=>rfl,.nil⟩
 have S8:A7 l.prog w K mg base x6 1 "point_shown" ["name","kind"] [] (P6 K):=⟨f14,_,[],dI T F14,PySem.W.mg_of X G a14,k14,F14.binds (ps:=["name","kind"]) fun _ _ _ _ _ _ us hl=>match us,hl with|[_,_],_=>rfl,.nil⟩
 have Y6:A7 l.prog w K mg base x6 1 "tie_shown" ["name","tie"] [] (V8 K):=⟨f15,_,[],fV T F15,PySem.W.mg_of X G a15,k15,F15.binds (ps:=["name","tie"]) fun _ _ _ _ _ _ us hl=>match us,hl with|[_,_],_=>rfl,.nil⟩
 have X1:A7 l.prog w K mg base (gc l.prog w) 1 "thing_read" ["text"] [] (S4 K):=⟨f19,_,[],eh T F19,PySem.W.mg_of X G a19,k19,F19.binds (ps:=["text"]) fun _ _ _ _ _ _ us hl=>match us,hl with|[_],_=>rfl,.nil⟩
 have h9:A7 l.prog w K mg base x6 1 "_law_mixed" ["_law_cell","_law_k"] [] (B0 K):=⟨f23,_,[],dS T F23,PySem.W.mg_of X G a23,k23,F23.binds (ps:=["_law_cell","_law_k"]) fun _ _ _ _ _ _ us hl=>match us,hl with|[_,_],_=>rfl,.nil⟩
 have Y1:A7 l.prog w K mg base x6 1 "_law_kinds" ["_law_cell"] [] (S0 K):=⟨f25,_,[],dO T F25,PySem.W.mg_of X G a25,k25,F25.binds (ps:=["_law_cell"]) fun _ _ _ _ _ _ us hl=>match us,hl with|[_],_=>rfl,.nil⟩
 have J2:A7 l.prog w K mg base x6 1 "_law_shown" ["_law_web"] [] (S5 K):=⟨f29,_,[],dX T F29,PySem.W.mg_of X G a29,k29,F29.binds (ps:=["_law_web"]) fun _ _ _ _ _ _ us hl=>match us,hl with|[_],_=>rfl,.nil⟩
 have Q5:A7 l.prog w K mg base x6 1 "_law_kept" ["_law_rule_here"] [] (V6 K):=⟨f30,_,[],fG T F30,PySem.W.mg_of X G a30,k30,F30.binds (ps:=["_law_rule_here"]) fun _ _ _ _ _ _ us hl=>match us,hl with|[_],_=>rfl,.nil⟩
 have K7:A7 l.prog w K mg base x6 2 "is_name" ["thing"] [] (W6 K):=⟨f1,_,[],jv T C8 F1,PySem.W.mg_of X G a1,k1,F1.binds (ps:=["thing"]) fun _ _ _ _ _ _ us hl=>match us,hl with|[_],_=>rfl,.nil⟩
 have D0:A7 l.prog w K mg base x6 2 "is_kind" ["thing"] [] (O8 K):=⟨f2,_,[],jf T C8 F2,PySem.W.mg_of X G a2,k2,F2.binds (ps:=["thing"]) fun _ _ _ _ _ _ us hl=>match us,hl with|[_],_=>rfl,.nil⟩
 have dE:A7 l.prog w K mg base x6 2 "copied" ["web"] [] (bR K):=⟨f6,_,[],kR T X0 F6,PySem.W.mg_of X G a6,k6,F6.binds (ps:=["web"]) fun _ _ _ _ _ _ us hl=>match us,hl with|[_],_=>rfl,.nil⟩
 have jq:A7 l.prog w K mg base x6 2 "both" ["web","other"] [] (fI K):=⟨f11,_,[],pY T J6 F11,PySem.W.mg_of X G a11,k11,F11.binds (ps:=["web","other"]) fun _ _ _ _ _ _ us hl=>match us,hl with|[_,_],_=>rfl,.nil⟩
 have M4:A7 l.prog w K mg base x6 2 "web_shown" ["web"] [] (Y0 K):=⟨f16,_,[],eX T S8 U6 Y6 F16,PySem.W.mg_of X G a16,k16,F16.binds (ps:=["web"]) fun _ _ _ _ _ _ us hl=>match us,hl with|[_],_=>rfl,.nil⟩
 have S7:A7 l.prog w K mg base x6 2 "match_shown" ["piece","match"] [] (O6 K):=⟨f18,_,[],dm T U6 J6 F18,PySem.W.mg_of X G a18,k18,F18.binds (ps:=["piece","match"]) fun _ _ _ _ _ _ us hl=>match us,hl with|[_,_],_=>rfl,.nil⟩
 have S3:A7 l.prog w K mg base (gc l.prog w) 2 "things_read" ["text"] [] (N8 K):=⟨f20,_,[],dA T X1 F20,PySem.W.mg_of X G a20,k20,F20.binds (ps:=["text"]) fun _ _ _ _ _ _ us hl=>match us,hl with|[_],_=>rfl,.nil⟩
 have W7:A7 l.prog w K mg base x6 2 "_law_names" ["_law_cell","_law_many"] [] (T1 K):=⟨f24,_,[],dW T h9 F24,PySem.W.mg_of X G a24,k24,F24.binds (ps:=["_law_cell","_law_many"]) fun _ _ _ _ _ _ us hl=>match us,hl with|[_,_],_=>rfl,.nil⟩
 have X8:A7 l.prog w K mg base x6 2 "_law_words" ["_law_cell","_law_many"] [] (S6 K):=⟨f26,_,[],dP T h9 F26,PySem.W.mg_of X G a26,k26,F26.binds (ps:=["_law_cell","_law_many"]) fun _ _ _ _ _ _ us hl=>match us,hl with|[_,_],_=>rfl,.nil⟩
 have J3:A7 l.prog w K mg base x6 2 "_law_piece" ["_law_points","_law_ties","_law_words_here","_law_kinds_here","_law_cell"] [] (S1 K):=⟨f27,_,[],dQ T h9 F27,PySem.W.mg_of X G a27,k27,F27.binds (ps:=["_law_points","_law_ties","_law_words_here","_law_kinds_here","_law_cell"]) fun _ _ _ _ _ _ us hl=>match us,hl with|[_,_,_,_,_],_=>rfl,.nil⟩
 have dy:A7 l.prog w K mg base x6 3 "is_tie" ["thing","points"] [] (bP K):=⟨f3,_,[],mh T D0 K7 F3,PySem.W.mg_of X G a3,k3,F3.binds (ps:=["thing","points"]) fun _ _ _ _ _ _ us hl=>match us,hl with|[_,_],_=>rfl,.nil⟩
 have X7:A7 l.prog w K mg base x6 3 "rule_shown" ["rule"] [] (R8 K):=⟨f17,_,[],dU T M4 F17,PySem.W.mg_of X G a17,k17,F17.binds (ps:=["rule"]) fun _ _ _ _ _ _ us hl=>match us,hl with|[_],_=>rfl,.nil⟩
 have Y5:A7 l.prog w K mg base x6 3 "_law_rule" ["_law_cell","_law_kinds_here","_law_most"] [] (X5 K):=⟨f28,_,[],fY T X8 J3 h9 F28,PySem.W.mg_of X G a28,k28,F28.binds (ps:=["_law_cell","_law_kinds_here","_law_most"]) fun _ _ _ _ _ _ us hl=>match us,hl with|[_,_,_],_=>rfl,.nil⟩
 have X9:A7 l.prog w K mg base x6 3 "_law_match" ["_law_left","_law_cell"] [] (S2 K):=⟨f31,_,[],dR T W7 F31,PySem.W.mg_of X G a31,k31,F31.binds (ps:=["_law_left","_law_cell"]) fun _ _ _ _ _ _ us hl=>match us,hl with|[_,_],_=>rfl,.nil⟩
 have T4:A7 l.prog w K mg base x6 4 "is_web" ["thing"] [] (ao K):=⟨f4,_,[],lT T D0 K7 dy F4,PySem.W.mg_of X G a4,k4,F4.binds (ps:=["thing"]) fun _ _ _ _ _ _ us hl=>match us,hl with|[_],_=>rfl,.nil⟩
 have O0:A7 l.prog w K mg base x6 5 "is_piece" ["thing","most"] [] (Z3 K):=⟨f9,_,[],il T T4 D0 J6 F9,PySem.W.mg_of X G a9,k9,F9.binds (ps:=["thing","most"]) fun _ _ _ _ _ _ us hl=>match us,hl with|[_,_],_=>rfl,.nil⟩
 have X2:A7 l.prog w K mg base (gc l.prog w) 5 "web_read" ["text"] [] (Z7 K):=⟨f21,_,[],gX T S3 T4 dE F21,PySem.W.mg_of X G a21,k21,F21.binds (ps:=["text"]) fun _ _ _ _ _ _ us hl=>match us,hl with|[_],_=>rfl,.nil⟩
 have bK:A7 l.prog w K mg base x6 6 "is_rule" ["thing"] [] (aJ K):=⟨f12,_,[],jr T O0 bN jq bH F12,PySem.W.mg_of X G a12,k12,F12.binds (ps:=["thing"]) fun _ _ _ _ _ _ us hl=>match us,hl with|[_],_=>rfl,.nil⟩
 have af:A7 l.prog w K mg base (gc l.prog w) 7 "rule_read" ["text"] [] (X3 K):=⟨f22,_,[],fX T X2 bK F22,PySem.W.mg_of X G a22,k22,F22.binds (ps:=["text"]) fun _ _ _ _ _ _ us hl=>match us,hl with|[_],_=>rfl,.nil⟩
 exact uP T Y5 Y1 Q5 J2 X7 af X9 S7 F32
theorem walk {l:PySem.W.OpenLaw}{q:Program}{loose:List Str}{XP:(Str→Option Value)→Heap→Prop}{YP:World→Heap→Prop}{d:DefRec}{K:Params→PySem.W.Frag}(hn:l.most=some 63)(hdf:d.params.defaults=[])
  (hY:∀(w:World) (h:Heap),YP w h→(K w.params).In h)
  (F:∀(w:World) (mg:Str→Option Value) (fa:Addr) (h:Heap),(K w.params).In h→h.Ns mainGlobals mg→mg d.name=some (.ref fa)→
   ∃fd:FuncData,(∀(s:Shared) (u:Value),BindsTo s fd ⟨[u],[]⟩ [("_law_script",u)])∧∀base:Heap,(K w.params).In base→base.Ns mainGlobals mg→FnOk l.prog w (K w.params) mg base x6 8 fa fd ["_law_script"] (fm (K w.params))):
  PySem.W.WalkO q loose XP YP l.row.toRowW d [] (fun f vs=>PySem.call f vs):=
 L2.walk_of (n:=63) (k:=8) (x:="_law_script") (CX:=fun _=>x6) (sp:=fun w=>fm (K w.params)) hn (by decide) hdf ⟨rfl,by decide,by decide⟩ hY F (fun _ _ a ns hl _ hS=>⟨a,ns,rfl,hS,hl,fun _=>rfl⟩) fun _ _ _ _ _ z=>z
end K72
theorem PySem.W.Fast.tw1913324586331115549:True:=⟨⟩
theorem PySem.W.Fast.tw26335643877747768:True:=⟨⟩
theorem PySem.W.Fast.tw13897406616536241856:True:=⟨⟩
theorem PySem.W.Fast.tw3572832172610028463:True:=⟨⟩
theorem PySem.W.Fast.tw16019097101732922222:True:=⟨⟩
theorem PySem.W.Fast.tw3748280387084402706:True:=⟨⟩
theorem PySem.W.Fast.tw2822738923350899823:True:=⟨⟩
theorem PySem.W.Fast.tw13910229909046322272:True:=⟨⟩
theorem PySem.W.Fast.tw3382184569074180922:True:=⟨⟩
theorem PySem.W.Fast.tw14154266993495517427:True:=⟨⟩
theorem PySem.W.Fast.tw13688126039422482133:True:=⟨⟩
theorem PySem.W.Fast.tw15594687197005101174:True:=⟨⟩
theorem PySem.W.Fast.tw6391319116501661416:True:=⟨⟩
theorem PySem.W.Fast.tw7535094986591596365:True:=⟨⟩
theorem PySem.W.Fast.tw13505271846667222285:True:=⟨⟩
theorem PySem.W.Fast.tw15394432966925562984:True:=⟨⟩
theorem PySem.W.Fast.tw11544330267994024155:True:=⟨⟩
theorem PySem.W.Fast.tw6587340180236924665:True:=⟨⟩
theorem PySem.W.Fast.tw16189109642184085787:True:=⟨⟩
theorem PySem.W.Fast.tw2165780939474210304:True:=⟨⟩
theorem PySem.W.Fast.tw11684697452710577696:True:=⟨⟩
theorem PySem.W.Fast.tw3378134507343491326:True:=⟨⟩
theorem PySem.W.Fast.tw10545456088854269289:True:=⟨⟩
theorem PySem.W.Fast.tw17077286288621667921:True:=⟨⟩
theorem PySem.W.Fast.tw6529906742155769146:True:=⟨⟩
theorem PySem.W.Fast.tw3700935124365085506:True:=⟨⟩
theorem PySem.W.Fast.tw1521641390497882361:True:=⟨⟩
theorem PySem.W.Fast.tw8755277289460639527:True:=⟨⟩
theorem PySem.W.Fast.tw13905368817573104342:True:=⟨⟩
theorem PySem.W.Fast.tw3560051288876514671:True:=⟨⟩
theorem PySem.W.Fast.tw16644269262212088170:True:=⟨⟩
theorem PySem.W.Fast.tw13579785628069643619:True:=⟨⟩
theorem PySem.W.Fast.tw1406063661730215592:True:=⟨⟩
theorem PySem.W.Fast.tw2638030378723969627:True:=⟨⟩
theorem PySem.W.Fast.tw4467707517229965356:True:=⟨⟩
theorem PySem.W.Fast.tw1547295112621652886:True:=⟨⟩
theorem PySem.W.Fast.tw4920514874132364412:True:=⟨⟩
theorem PySem.W.Fast.tw3212930051184575475:True:=⟨⟩
theorem PySem.W.Fast.tw4872164604592957614:True:=⟨⟩
theorem PySem.W.Fast.tw12444109059422644266:True:=⟨⟩
theorem PySem.W.Fast.tw68983666267373993:True:=⟨⟩
theorem PySem.W.Fast.tw13299684839323177626:True:=⟨⟩
theorem PySem.W.Fast.tw5479019238336441980:True:=⟨⟩
theorem PySem.W.Fast.tw11457954830678606011:True:=⟨⟩
theorem PySem.W.Fast.tw12121865481167295884:True:=⟨⟩
theorem PySem.W.Fast.tw4405318360132333707:True:=⟨⟩
theorem PySem.W.Fast.tw6703559723681356495:True:=⟨⟩
theorem PySem.W.Fast.tw11762603529114915538:True:=⟨⟩
theorem PySem.W.Fast.tw5918223746932669191:True:=⟨⟩
theorem PySem.W.Fast.tw14084570912828060851:True:=⟨⟩
theorem PySem.W.Fast.tw1780560316344140200:True:=⟨⟩
theorem PySem.W.Fast.tw6796112850411347780:True:=⟨⟩
theorem PySem.W.Fast.tw9432541114662929427:True:=⟨⟩
theorem PySem.W.Fast.tw13122548174708169001:True:=⟨⟩
theorem PySem.W.Fast.tw10349370864250676204:True:=⟨⟩
theorem PySem.W.Fast.tw10311242555983183239:True:=⟨⟩
theorem PySem.W.Fast.tw13414418787383080990:True:=⟨⟩
theorem PySem.W.Fast.tw465591533420428609:True:=⟨⟩
theorem PySem.W.Fast.tw15207064568129730882:True:=⟨⟩
theorem PySem.W.Fast.tw16459750966168958299:True:=⟨⟩
theorem PySem.W.Fast.tw223921381592746152:True:=⟨⟩
theorem PySem.W.Fast.tw16726574646372847226:True:=⟨⟩
theorem PySem.W.Fast.tw3176744158888322381:True:=⟨⟩
theorem PySem.W.Fast.tw11977782195008048929:True:=⟨⟩
theorem PySem.W.Fast.tw16300453774624355137:True:=⟨⟩
theorem PySem.W.Fast.tw4679670755779246361:True:=⟨⟩
theorem PySem.W.Fast.tw16596399982742239104:True:=⟨⟩
theorem PySem.W.Fast.tw14257451923288637001:True:=⟨⟩
theorem PySem.W.Fast.tw16427787384581921032:True:=⟨⟩
theorem PySem.W.Fast.tw17307662186740898718:True:=⟨⟩
theorem PySem.W.Fast.tw5405022535056063906:True:=⟨⟩
theorem PySem.W.Fast.tw1552568331790786359:True:=⟨⟩
theorem PySem.W.Fast.tw7738170266599595080:True:=⟨⟩
theorem PySem.W.Fast.tw838933350264058864:True:=⟨⟩
theorem PySem.W.Fast.tw7980360676624747034:True:=⟨⟩
theorem PySem.W.Fast.tw13620125198005601382:True:=⟨⟩
theorem PySem.W.Fast.tw7617724112995229426:True:=⟨⟩
theorem PySem.W.Fast.tw15071937120851516122:True:=⟨⟩
theorem PySem.W.Fast.tw17433091323555983258:True:=⟨⟩
theorem PySem.W.Fast.tw4994859114092104168:True:=⟨⟩
theorem PySem.W.Fast.tw16932938249381062998:True:=⟨⟩
theorem PySem.W.Fast.tw11612409737390360511:True:=⟨⟩
theorem PySem.W.Fast.tw4078132610180347221:True:=⟨⟩
theorem PySem.W.Fast.tw11674397464036153630:True:=⟨⟩
theorem PySem.W.Fast.tw16127281697558312480:True:=⟨⟩
theorem PySem.W.Fast.tw12746750589856049137:True:=⟨⟩
theorem PySem.W.Fast.tw9088379563407567363:True:=⟨⟩
theorem PySem.W.Fast.tw11634484044354996288:True:=⟨⟩
theorem PySem.W.Fast.tw7524083465266622486:True:=⟨⟩
theorem PySem.W.Fast.tw1461373981676924182:True:=⟨⟩
theorem PySem.W.Fast.tw9556670903611987080:True:=⟨⟩
theorem PySem.W.Fast.tw5265552684991011921:True:=⟨⟩
theorem PySem.W.Fast.tw1360296275627896792:True:=⟨⟩
theorem PySem.W.Fast.tw4818781391507698988:True:=⟨⟩
theorem PySem.W.Fast.tw4693122523989735878:True:=⟨⟩
open PySem PySem.W PyProof.Rows
set_option maxRecDepth 100000 in
set_option maxHeartbeats 0 in
theorem PySem.Challenge.cw_gluework_k72_rules_written_holds : PySem.Challenge.rw_gluework_k72_rules_written.Holds := by
 w_on;o_law;k_head;(case hw=>w_witness2)
 k_fill
 refine K72.walk (l:=PySem.Challenge.rw_gluework_k72_rules_written) rfl rfl (fun w h Y=>PySem.W.kIn_of Y) ?F
 case F=>
  intro w mg fa h KX G hmg
  refine' K72.all_mk KX G hmg ?a0 ?l0 ?c0 ?k0 ?a1 ?l1 ?c1 ?k1 ?a2 ?l2 ?c2 ?k2 ?a3 ?l3 ?c3 ?k3 ?a4 ?l4 ?c4 ?k4 ?a5 ?l5 ?c5 ?k5 ?a6 ?l6 ?c6 ?k6 ?a7 ?l7 ?c7 ?k7 ?a8 ?l8 ?c8 ?k8 ?a9 ?l9 ?c9 ?k9 ?a10 ?l10 ?c10 ?k10 ?a11 ?l11 ?c11 ?k11 ?a12 ?l12 ?c12 ?k12 ?a13 ?l13 ?c13 ?k13 ?a14 ?l14 ?c14 ?k14 ?a15 ?l15 ?c15 ?k15 ?a16 ?l16 ?c16 ?k16 ?a17 ?l17 ?c17 ?k17 ?a18 ?l18 ?c18 ?k18 ?a19 ?l19 ?c19 ?k19 ?a20 ?l20 ?c20 ?k20 ?a21 ?l21 ?c21 ?k21 ?a22 ?l22 ?c22 ?k22 ?a23 ?l23 ?c23 ?k23 ?a24 ?l24 ?c24 ?k24 ?a25 ?l25 ?c25 ?k25 ?a26 ?l26 ?c26 ?k26 ?a27 ?l27 ?c27 ?k27 ?a28 ?l28 ?c28 ?k28 ?a29 ?l29 ?c29 ?k29 ?a30 ?l30 ?c30 ?k30 ?a31 ?l31 ?c31 ?k31 ?a32 ?l32 ?c32 ?vn ?z_all ?z_dict ?z_enumerate ?z_isinstance ?z_len ?z_list ?z_range ?z_sorted ?z_str ?z_tuple ?z_zip ?v_MOST_BARS ?v_MOST_IN_BAR ?v_MOST_IN_SIDE ?v_MOST_KIND_SIGNS ?v_MOST_NAME_SIGNS ?v_MOST_POINTS ?v_MOST_TIES ?v_NAME_SIGNS ?v_NOTHING ?v_SMALL_LETTERS ?n_NoText ?xr_NoText
  (case a0|l0|c0|k0|a1|l1|c1|k1|a2|l2|c2|k2|a3|l3|c3|k3|a4|l4|c4|k4|a5|l5|c5|k5|a6|l6|c6|k6|a7|l7|c7|k7|a8|l8|c8|k8|a9|l9|c9|k9|a10|l10|c10|k10|a11|l11|c11|k11|a12|l12|c12|k12|a13|l13|c13|k13|a14|l14|c14|k14|a15|l15|c15|k15|a16|l16|c16|k16|a17|l17|c17|k17|a18|l18|c18|k18|a19|l19|c19|k19|a20|l20|c20|k20|a21|l21|c21|k21|a22|l22|c22|k22|a23|l23|c23|k23|a24|l24|c24|k24|a25|l25|c25|k25|a26|l26|c26|k26|a27|l27|c27|k27|a28|l28|c28|k28|a29|l29|c29|k29|a30|l30|c30|k30|a31|l31|c31|k31|a32|l32|c32|vn|z_all|z_dict|z_enumerate|z_isinstance|z_len|z_list|z_range|z_sorted|z_str|z_tuple|z_zip|v_MOST_BARS|v_MOST_IN_BAR|v_MOST_IN_SIDE|v_MOST_KIND_SIGNS|v_MOST_NAME_SIGNS|v_MOST_POINTS|v_MOST_TIES|v_NAME_SIGNS|v_NOTHING|v_SMALL_LETTERS|n_NoText=>k_is)
  (case xr_NoText=>k_exc)
